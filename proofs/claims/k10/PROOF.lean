import PyProof.Rows.All
import Wide.All
import OpenK.AllK
import Wide.FinOn
import PySem.Challenge.RW_pegleap_k10_whole_a_row_or_a_paper
import Lean
import PyProof.EqAt
import PyProof.EqKinds
import PyProof.TupleCall
import KE.KIsAll
import PyProof.ExcAttrAll.ValueError
import OpenK.KDescr
import PyProof.NeKinds
import PySem.SetOps
import PyProof.ZipIter
import KE.KDictOf
import PyProof.AttrMissHeap
import PyProof.FactsAll.zip_1
import PyProof.DictRoadsH
import PyProof.TupleKey
import PyProof.EnumMake
import PyProof.ConsumeWalk
import PyProof.FactsAll.list_3
import PyProof.SumWalkG
import PyProof.WalkInts
import PyProof.SeqI3
import PyProof.DictUpdate
import PyProof.DictItems
import PyProof.Rows.TupDisplay
import PyProof.DictIter
import PyProof.DictWalks
import PyProof.Conv_int_bool
import KE.KLam
import KE.KSortKey
import Open.Pieces
set_option hygiene false
set_option compiler.extract_closed false
set_option Elab.async false
set_option linter.all false
set_option maxRecDepth 100000
set_option maxHeartbeats 4000000
def zu0(_:True:=by rfl):True:=trivial
def zu1(_:True:=by decide):True:=trivial
def zu2(_:True:=by k_is):True:=trivial
def zu3(_:True:=by intro _;rfl):True:=trivial
def zu4(_:True:=by first|exact .inl rfl|exact .inr rfl|assumption):True:=trivial
def zu5(_:True:=by with_unfolding_all rfl):True:=trivial
def zu6(_:True:=by decide +kernel):True:=trivial
def zu8(_:True:=by(repeat intro _);rfl):True:=trivial
def zu9(_:True:=by kernel_rfl):True:=trivial
def b5:=zu0._auto_1
def cT:=zu1._auto_1
def dc:=zu2._auto_1
def dF:=zu3._auto_1
def ef:=zu4._auto_1
def eu:=zu5._auto_1
def eF:=zu6._auto_1
def eK:=zu8._auto_1
def fh:=zu9._auto_1
noncomputable section
section
open PySem PySem.Spec PySem.W PyProof.Rows
abbrev bh6:=@if_pos
abbrev bh7:=@if_neg
abbrev bh8:=@decide_eq_true
abbrev bh9:=@decide_eq_false
abbrev bi0:=@beq_iff_eq
abbrev bi1:=@decide_eq_true_eq
abbrev bi2:=@of_decide_eq_true
abbrev bi3:=@beq_eq_false_iff_ne
abbrev bi4:=@if_false
abbrev bi5:=@if_true
abbrev bi6:=@or_false
abbrev bi7:=@beq_self_eq_true
abbrev bi8:=@absurd
abbrev bi9:=@bne_self_eq_false
abbrev bj0:=@of_decide_eq_false
abbrev bj1:=@eq_of_beq
end
open PySem.W (Frag)
open Option renaming some->ai,none->aj
open Bool renaming true->bT,false->b4
open PySem renaming Value->au,World->bL,Program->dz,Addr->av,Heap->aW,sizeLine->cH,sysModules->p7,entryOfKey->qQ,mainGlobals->dS,bootBuiltins->jR,Around->cy,Shared->ay,Scope->iP,wpAny->aC,Expr->bq,model->aE,starEach->bF,Stmt->aY,wpAny_mono->iw,wpAny_Name->DE,wpAny_loadName_local->MS,wpAny_truthy_bool->wM,wpAny_execs_nil->DG,wpAny_execs_cons->X0,assignEach->v9,wpAny_assign_Name->X3,wpAny_bind->ak,wpAny_holding->jb,wpAny_standAt->Am,wpAny_pure->aB,wpAny_newObj_type->kN,wpAny_rule->wN,wpAny_passesOwn->wO,wpAny_pyNext_list_item->X4,wpAny_pyNext_list_end->X5,wpAny_pyIter_list->MT,foldedSetIterable->oM,compareOp->i0,sizeLine_eq->gf,attributeBase->p8,wpAny_Tuple_spliced->MU,FuncData->gV,mem_of_lookup->wQ,wpAny_newFunctionEnv_cells->MV,wpAny_Call_Name_kw->tX,wpAny_field->mh,wpAny_callSpecial?_slot->p9,wpAny_call_entry->iy,wpAny_typeOf->wR,slot_list_getitem->MW,wpAny_Call_method_late->MX,codeAny_mono->tY,wpAny_setField->r9,wpAny_call->Bh,wpAny_attempt->pB,wpAny_newTuple->Gh,wpAny_newList->wU,wpAny_loadPart'->ku,wpAny_forIn_list->mw,richCompare_meets_room->MY,SetTable->iz,wpAny_setState_of->MZ,putSet_of->Bj,wpAny_of_eq->rf,wpAny_storeSet_of->N1,codeAny_builtin->mz,plainId_quiet->wV,wpAny_askSetting->Gi,entryFor_of_tree->N2,wpAny_pyIter_slot->Bk,wpAny_fieldsOf->tZ,firstArgMember->u0,wpAny_handled->Gj,wpAny_throw->Gk,wpAny_isInstance->rg,isSubtype_stop->Gm,wpAny_specialOf->pC,wpAny_seqItems->Gn,wpAny_comprehension_free->N3,wpAny_tupleItemsOf->Gp,isSubtype_tuple_tuple->N4,wpAny_pyIter_enum->N5,storedH_new->Gq,wpAny_dictEntries->kB,wpAny_letGo->Gr,size_of_entries->pD,DictEntry->pF,wpAny_dictEpoch->pG,wpAny_notOrdered_dict->Gs,wpAny_typeNameOfWhole_itemiter->Bl,wpAny_typeNameOf_itemiter->Bm,wpAny_isOneOf_itemiter->Gu,wpAny_setField_rec->wW,wpAny_typeNameOfWhole_keyiter->Bo,wpAny_typeNameOf_keyiter->Bp,wpAny_isOneOf_keyiter->N6,Params->eX
open PySem.Value renaming int->Gv,str->Tr,isInt_shape->an1,none->eL,ref->f7,type->pH
open PySem.W renaming instObj->vc,hideAll->An,hideAll_get->N7,of_hideAll->Jm,hideAll_none->X6,Frag->aF,findIn->wX,emptyDict->sA,keepIn->rj,cellsFrom_some->N8,fnOf->nI,callWith_K->N9,kas_item_eq->Gw,kia_one->u5
open PySem.Heap renaming lt_size->bZ,SameBut->iA,get?_push_of_some->bP,get?_push_size->eY,size_push->Ao,get?_update_other->Gx,get?_update_self->nJ,get?_update_ne->Gy,size_update->Na
open Nat renaming lt_of_lt_of_le->gO,lt_irrefl->sC,ne_of_lt->dM,le_trans->cz,le_of_lt->jc,ne_of_gt->DH,le_refl->b9,le_of_eq->Nb,lt_succ_self->Aq,zero_le->eS,le_of_not_lt->mC,le_succ->wY,not_lt_zero->jK,min_self->Nc,lt_of_le_of_lt->rm,le_add_right->wZ,le_of_lt_succ->Nd,lt_of_not_le->Nf,lt_of_succ_lt->u6,lt_of_le_of_ne->Ng,zero_add->mD,pos_of_ne_zero->Gz,add_zero->GA,add_sub_cancel->Bq,add_assoc->x6,not_lt->GB,pow_succ->Nh,mod_lt->rq,succ_pos->u7,div_eq_of_lt->Ni,lt_or_eq_of_le->Nj,lt_trichotomy->u9,min_eq_left->GC,lt_succ_of_lt->x8,eq_zero_or_pos->Nk,le_antisymm->Nl,sub_zero->Nm,lt_or_ge->Nn,min_eq_right->Np,add_comm->Nq,succ_mul->Nr
open List renaming range->cY,mem_filter->sD,mem_range->kO,filterMap_cons->Nt,mem_cons_self->vd,mem_cons_of_mem->pI,mem_cons->cK,mem_append->i6,mem_append_left->DJ,getElem?_eq_some_iff->eN,getElem?_set_self->iQ,getElem?_set_ne->i7,mem_filterMap->x9,mem_append_right->mW,length_cons->cS,lookup->qR,map_cons->bz,length_map->bw,append_nil->kC,nodup_cons->kX,of_mem_zip->GD,replicate->kE,length_take->kF,getElem?_append_right->kG,getElem?_replicate->nK,getElem?_append_left->mE,getElem?_map->d8,getElem?_take_of_lt->GF,take_sublist->Nu,mem_of_getElem?->iK,length_append->bX,length_replicate->GG,size_toArray->dP,length_drop->ua,length_singleton->xg,map_nil->nM,filterMap_cons_some->Nv,exists_cons_of_length_eq_add_one->uc,eq_nil_of_length_eq_zero->Nx,all_map->Ny,extract_eq_take_drop->gz,map_take->GH,map_drop->GI,pairwise_append->xh,append_assoc->fQ,pairwise_iff_getElem->rA,drop_eq_getElem_cons->ud,mem_iff_getElem->iZ,take_append_drop->nN,take_of_length_le->uf,drop_length->Br,mem_of_mem_drop->ug,mem_singleton->gC,not_mem_nil->j0,reverse_append->Nz,mem_reverse->uh,reverse_perm->GJ,pairwise_reverse->GK,mem_of_mem_take->pJ,take_length->xj,nil_append->dQ,getD_eq_getElem?_getD->nO,length_eq_zero_iff->pK,foldl_cons->NB,getElem?_take->GN,getElem?_drop->NC,map_append->j4,ext_getElem?->Bs,getElem?_eq_none->um,ext_getElem->ND,length_range->xm,map_toArray->GO,map_map->dY,map_congr_left->uo,append_inj->NF,cons_append->Bt,zip_cons_cons->NG,countP_cons->xo,pairwise_map->Bu,all_eq_true->dZ,getElem?_cons_succ->NH,getElem?_eq_getElem->cU,pairwise_lt_range->NI,getElem?_range->NJ,getElem_mem->nP,mem_map->aN,perm_middle->NK,nodup_iff_pairwise_ne->rB,getElem_map->uq,nodup_nil->GP,eraseIdx_eq_take_drop_succ->NL,isEmpty_nil->GQ,length_nil->nQ,take_succ->NN,take_succ_cons->NO,drop_succ_cons->NP,any_cons->pM,getElem?_eq_none_iff->nR,mapM_cons->GR,perm_ext_iff_of_nodup->Bv,lookup_cons->nS,getElem?_mapIdx->GS,flatMap_cons->rC,find?_cons->GU,zip_append->NQ,flatMap_append->pN,nodup_append->xq,range'_succ->NR,drop_of_length_le->GV,getElem_of_mem->NS,isEmpty_iff->GW,map_id->Bw,filter_cons_of_pos->NT,filter_cons_of_neg->NU,mem_flatMap->NV,pairwise_cons->xr,filter_sublist->kY,mem_erase_of_ne->NW,length_erase_of_mem->NX,length_pos_of_mem->NY,zipIdx_map_fst->NZ,length_filter_le->pO,filter_append->GX,foldl_append->O0,any_eq_true->pP,flatMap_singleton->O2,any_map->Bx,map_eq_nil_iff->O3
open Ne renaming symm->eW
open Option.some renaming inj->fJ
open PySem.Calls renaming Constant_str->X7,Name_function_global->O5,loadGlobal_builtin->X8,spliced_nil->By,spliced_cons->xu,call_len_list->O6,callWith_builtin->GY,evalArgs_plain->GZ
open Array renaming length_toList->dN,mem_toList_iff->Ar,getElem?_eq_some_iff->pQ,getElem_toList->O7,getD_eq_getD_getElem?->jm,perm_iff_toList_perm->O8,getElem?_toList->mF,toList_push->H8,toList_inj->BA,toList_zip->O9,getElem?_eq_none->rD,getElem?_eq_none_iff->Oa,getElem?_eq_getElem->xw,any_toList->BB,forIn_toList->xx,isEmpty_iff->Ob,size_push->Oc
open PyProof.Rows renaming assignInOrder_nil->X9,assignInOrder_cons->Od,callWith_type1->Oe,callWith_builtin1->Of,lt_int->Y4,slot_tuple_getitem->Hf,subscriptTail_builtinR->Og,SortSt->bJ,SortKind->iM,wpS_bind->aI,wpS_get->mG,wpS_pure->aP,wpS_modify->rE,wpS_forRange->j5,wpS_mono->kH,seqObj->cG,get?_update_seq->xy,listItems_at->Hg,listUpdate_at->rF,seqEpoch_at->xA,seqObj->fz,listUpdate_at->Hh,get?_update_seq->Hi,entry_proto_collect'->Y5,entry_list_iadd'->Y6,callWith_kw->Y7
open PyProof.Rows.IsTup renaming new->Oh
open Bool renaming false_ne_true->jd,and_eq_true->bI,and_true->ur,and_false->Hj,eq_false_iff->uu,not_true->j6,false_eq_true->d9,not_false->BC,or_eq_true->kZ,true_and->uv,not_eq_true->Oi,false_or->BD,eq_iff_iff->mH
open PySem.W.Looks renaming here->an2
open PySem.Within renaming cons->an3
open Option renaming isSome_iff_exists->Oj,getD_none->Ol,bind_eq_some_iff->l0,map_eq_some_iff->Hl,isNone_iff_eq_none->Om
open False renaming elim->nU
open Prod renaming ext->mJ
open PySem.Str renaming ofString->kI
open PySem.Heap.IsSliceOf renaming new->Y8
open PySem.Obj renaming mapSeq->dg,isFreed_of_fields->BE,data_mapFields->uw,cls_mapFields->Hq,isFreed_of_dict->Oo,data_mapDictKeys->BF
open Or renaming inl->gD,inr->iN
open PySem.Heap.UpToSlots renaming of_keeps->Y9
open Nat.succ renaming inj->fR
open List.Perm renaming append_left->Oq,eq_of_pairwise->BG
open PySem.Heap.SameBut renaming update->fB,refl->Ot
open StateT renaming run_pure->Ou
open List.cons renaming inj->Ov
open PySem.SetTable renaming insertAt->jo
open List.Pairwise renaming filterMap->Yb,map->rG,sublist->Yc
open PyProof.Rows.F renaming entry_set_update_loop->Ow,plain_set_update_loop->Hr
open PySem.Around renaming under_plainId->rH
open PySem.F renaming plain_set_new->Ox,called_set->pR,slot_set_iter->Oz,slot_tuple_hash->OA,slot_tuple_eq->BH,slot_dict_len->OB,slot_dict_update->OC,plainAttrs_dict->OD,slot_dict_items_iter->OE,slot_dict_itemiterator_next->xB,entry_dict_itemiterator_next->OF,args_dict_itemiterator_next_1->OG,slot_dict_itemiterator_iter->OH,slot_dict_iter->OI,slot_dict_keyiterator_next->xC,entry_dict_keyiterator_next->OJ,args_dict_keyiterator_next_1->OL,plainAttrs_list->OM,slot_list_append->ON,type_list_append->OO
open PySem.Code renaming quiet_builtin->Hs
open Int renaming toNat_natCast->kJ,eq_ofNat_of_zero_le->xD,mul_nonneg->OP,mul_le_mul->OQ,emod_nonneg->Ht,emod_lt_of_pos->Hu,mul_ediv_add_emod->OR,ediv_nonneg->OS,ediv_lt_of_lt_mul->OT,add_emod->BI
open Decidable renaming byContradiction->Hv
open ForInStep renaming yield->mK
open PySem.Builtin.Tuple renaming tupleHashOf->BJ
open PySem.Expr renaming Subscript->Hw
open PySem.Builtin.Dict renaming showsAll->xE
open Std.Legacy.Range renaming forIn_eq_forIn_range'->Yd
open PySem.Builtin.Dict_items renaming ownsTuple->xF
open Prod.mk renaming injEq->xG
def xH{p a b:Prop}{G:Prop}(h:p/\a/\b)(f:p->a->b->G):G:=f h.1 h.2.1 h.2.2
def aR{m:Sort _}{p a:m->Prop}{G:Prop}(h:∃a0,p a0/\a a0)(f:∀a0,p a0->a a0->G):G:=h.elim λa0 h=>f a0 h.1 h.2
def rJ{m b:Sort _}{p:m->b->Prop}{G:Prop}(h:∃a0 a,p a0 a)(f:∀a0 a,p a0 a->G):G:=h.elim λa0 h=>h.elim λa h=>f a0 a h
def Hx{p a b c:Prop}{G:Prop}(h:p/\a/\b/\c)(f:p->a->b->c->G):G:=f h.1 h.2.1 h.2.2.1 h.2.2.2
def cA{m:Sort _}{p a b:m->Prop}{G:Prop}(h:∃a0,p a0/\a a0/\b a0)(f:∀a0,p a0->a a0->b a0->G):G:=h.elim λa0 h=>f a0 h.1 h.2.1 h.2.2
def dW{m c:Sort _}{p b:m->c->Prop}{G:Prop}(h:∃a0 a,p a0 a/\b a0 a)(f:∀a0 a,p a0 a->b a0 a->G):G:=h.elim λa0 h=>h.elim λa h=>f a0 a h.1 h.2
def Tt{p a b c d:Prop}{G:Prop}(h:p/\a/\b/\c/\d)(f:p->a->b->c->d->G):G:=f h.1 h.2.1 h.2.2.1 h.2.2.2.1 h.2.2.2.2
def aN7{m:Sort _}{p a b c:m->Prop}{G:Prop}(h:∃a0,p a0/\a a0/\b a0/\c a0)(f:∀a0,p a0->a a0->b a0->c a0->G):G:=h.elim λa0 h=>f a0 h.1 h.2.1 h.2.2.1 h.2.2.2
def bC{m d:Sort _}{p b c:m->d->Prop}{G:Prop}(h:∃a0 a,p a0 a/\b a0 a/\c a0 a)(f:∀a0 a,p a0 a->b a0 a->c a0 a->G):G:=h.elim λa0 h=>h.elim λa h=>f a0 a h.1 h.2.1 h.2.2
def Tu{m d x:Sort _}{p c:m->d->x->Prop}{G:Prop}(h:∃a0 a b,p a0 a b/\c a0 a b)(f:∀a0 a b,p a0 a b->c a0 a b->G):G:=h.elim λa0 h=>h.elim λa h=>h.elim λb h=>f a0 a b h.1 h.2
def vL{p a b c d e:Prop}{G:Prop}(h:p/\a/\b/\c/\d/\e)(f:p->a->b->c->d->e->G):G:=f h.1 h.2.1 h.2.2.1 h.2.2.2.1 h.2.2.2.2.1 h.2.2.2.2.2
def Tv{m:Sort _}{p a b c d:m->Prop}{G:Prop}(h:∃a0,p a0/\a a0/\b a0/\c a0/\d a0)(f:∀a0,p a0->a a0->b a0->c a0->d a0->G):G:=h.elim λa0 h=>f a0 h.1 h.2.1 h.2.2.1 h.2.2.2.1 h.2.2.2.2
def ux{m e:Sort _}{p b c d:m->e->Prop}{G:Prop}(h:∃a0 a,p a0 a/\b a0 a/\c a0 a/\d a0 a)(f:∀a0 a,p a0 a->b a0 a->c a0 a->d a0 a->G):G:=h.elim λa0 h=>h.elim λa h=>f a0 a h.1 h.2.1 h.2.2.1 h.2.2.2
def Ye{m e x:Sort _}{p c d:m->e->x->Prop}{G:Prop}(h:∃a0 a b,p a0 a b/\c a0 a b/\d a0 a b)(f:∀a0 a b,p a0 a b->c a0 a b->d a0 a b->G):G:=h.elim λa0 h=>h.elim λa h=>h.elim λb h=>f a0 a b h.1 h.2.1 h.2.2
def aN8{m e x g:Sort _}{p d:m->e->x->g->Prop}{G:Prop}(h:∃a0 a b c,p a0 a b c/\d a0 a b c)(f:∀a0 a b c,p a0 a b c->d a0 a b c->G):G:=h.elim λa0 h=>h.elim λa h=>h.elim λb h=>h.elim λc h=>f a0 a b c h.1 h.2
def aN9{m g x i e:Sort _}{p:m->g->x->i->e->Prop}{G:Prop}(h:∃a0 a b c d,p a0 a b c d)(f:∀a0 a b c d,p a0 a b c d->G):G:=h.elim λa0 h=>h.elim λa h=>h.elim λb h=>h.elim λc h=>h.elim λd h=>f a0 a b c d h
def Hy{m g:Sort _}{p b c d e:m->g->Prop}{G:Prop}(h:∃a0 a,p a0 a/\b a0 a/\c a0 a/\d a0 a/\e a0 a)(f:∀a0 a,p a0 a->b a0 a->c a0 a->d a0 a->e a0 a->G):G:=h.elim λa0 h=>h.elim λa h=>f a0 a h.1 h.2.1 h.2.2.1 h.2.2.2.1 h.2.2.2.2
def Tw{m g x:Sort _}{p c d e:m->g->x->Prop}{G:Prop}(h:∃a0 a b,p a0 a b/\c a0 a b/\d a0 a b/\e a0 a b)(f:∀a0 a b,p a0 a b->c a0 a b->d a0 a b->e a0 a b->G):G:=h.elim λa0 h=>h.elim λa h=>h.elim λb h=>f a0 a b h.1 h.2.1 h.2.2.1 h.2.2.2
def aO0{m g x i:Sort _}{p d e:m->g->x->i->Prop}{G:Prop}(h:∃a0 a b c,p a0 a b c/\d a0 a b c/\e a0 a b c)(f:∀a0 a b c,p a0 a b c->d a0 a b c->e a0 a b c->G):G:=h.elim λa0 h=>h.elim λa h=>h.elim λb h=>h.elim λc h=>f a0 a b c h.1 h.2.1 h.2.2
def an4{m i:Sort _}{p b c d e g:m->i->Prop}{G:Prop}(h:∃a0 a,p a0 a/\b a0 a/\c a0 a/\d a0 a/\e a0 a/\g a0 a)(f:∀a0 a,p a0 a->b a0 a->c a0 a->d a0 a->e a0 a->g a0 a->G):G:=h.elim λa0 h=>h.elim λa h=>f a0 a h.1 h.2.1 h.2.2.1 h.2.2.2.1 h.2.2.2.2.1 h.2.2.2.2.2
def DK{m i x:Sort _}{p c d e g:m->i->x->Prop}{G:Prop}(h:∃a0 a b,p a0 a b/\c a0 a b/\d a0 a b/\e a0 a b/\g a0 a b)(f:∀a0 a b,p a0 a b->c a0 a b->d a0 a b->e a0 a b->g a0 a b->G):G:=h.elim λa0 h=>h.elim λa h=>h.elim λb h=>f a0 a b h.1 h.2.1 h.2.2.1 h.2.2.2.1 h.2.2.2.2
def an5{m i x j:Sort _}{p d e g:m->i->x->j->Prop}{G:Prop}(h:∃a0 a b c,p a0 a b c/\d a0 a b c/\e a0 a b c/\g a0 a b c)(f:∀a0 a b c,p a0 a b c->d a0 a b c->e a0 a b c->g a0 a b c->G):G:=h.elim λa0 h=>h.elim λa h=>h.elim λb h=>h.elim λc h=>f a0 a b c h.1 h.2.1 h.2.2.1 h.2.2.2
def aO1{m j x:Sort _}{p c d e g i:m->j->x->Prop}{G:Prop}(h:∃a0 a b,p a0 a b/\c a0 a b/\d a0 a b/\e a0 a b/\g a0 a b/\i a0 a b)(f:∀a0 a b,p a0 a b->c a0 a b->d a0 a b->e a0 a b->g a0 a b->i a0 a b->G):G:=h.elim λa0 h=>h.elim λa h=>h.elim λb h=>f a0 a b h.1 h.2.1 h.2.2.1 h.2.2.2.1 h.2.2.2.2.1 h.2.2.2.2.2
def Yg{m j x k:Sort _}{p d e g i:m->j->x->k->Prop}{G:Prop}(h:∃a0 a b c,p a0 a b c/\d a0 a b c/\e a0 a b c/\g a0 a b c/\i a0 a b c)(f:∀a0 a b c,p a0 a b c->d a0 a b c->e a0 a b c->g a0 a b c->i a0 a b c->G):G:=h.elim λa0 h=>h.elim λa h=>h.elim λb h=>h.elim λc h=>f a0 a b c h.1 h.2.1 h.2.2.1 h.2.2.2.1 h.2.2.2.2
def aO2{m k x l:Sort _}{p d e g i j:m->k->x->l->Prop}{G:Prop}(h:∃a0 a b c,p a0 a b c/\d a0 a b c/\e a0 a b c/\g a0 a b c/\i a0 a b c/\j a0 a b c)(f:∀a0 a b c,p a0 a b c->d a0 a b c->e a0 a b c->g a0 a b c->i a0 a b c->j a0 a b c->G):G:=h.elim λa0 h=>h.elim λa h=>h.elim λb h=>h.elim λc h=>f a0 a b c h.1 h.2.1 h.2.2.1 h.2.2.2.1 h.2.2.2.2.1 h.2.2.2.2.2
def Yh{t u x v k l m n o:Sort _}{p r s:t->u->x->v->k->l->m->n->o->Prop}{G:Prop}(h:∃a0 a b c d e g i j,p a0 a b c d e g i j/\r a0 a b c d e g i j/\s a0 a b c d e g i j)(f:∀a0 a b c d e g i j,p a0 a b c d e g i j->r a0 a b c d e g i j->s a0 a b c d e g i j->G):G:=h.elim λa0 h=>h.elim λa h=>h.elim λb h=>h.elim λc h=>h.elim λd h=>h.elim λe h=>h.elim λg h=>h.elim λi h=>h.elim λj h=>f a0 a b c d e g i j h.1 h.2.1 h.2.2
namespace L2
open PySem PySem.Spec PyProof.Rows
abbrev Key:=Sum Int Str
noncomputable def Xa:Key->au->Bool
 |.inl k,v=>Value.isInt k v
 |.inr x,v=>Value.isStrOf x v
noncomputable def aO3(w:bL):Key->Int
 |.inl k=>hashInt k
 |.inr x=>hashStr w x
theorem fK:∀{k:Key} {v:au},Xa k v=bT->(∃i t,k=Sum.inl i/\v=Gv i t)\/(∃x t,k=Sum.inr x/\v=Tr x t)
 |.inl i,v,h=>by
  obtain⟨t,e⟩:=an1 (k:=i) (v:=v) h;exact .inl ⟨i,t,rfl,e⟩
 |.inr x,v,h=>by
  obtain⟨t,e⟩:=Value.isStrOf_shape (x:=x) (v:=v) h;exact .inr ⟨x,t,rfl,e⟩
def Yi(a b:Int):decide ((Sum.inl a:Key)=Sum.inl b)=(a==b):=by
 by_cases e:a=b;subst e;simp;have h:¬ (Sum.inl a:Key)=Sum.inl b:=λq=>e (Sum.inl.inj q);rw[bh9 h];exact(bi3.mpr e).symm
def Yj(a b:Str):decide ((Sum.inr a:Key)=Sum.inr b)=decide (a=b):=by
 by_cases e:a=b;subst e;simp;have h:¬ (Sum.inr a:Key)=Sum.inr b:=λq=>e (Sum.inr.inj q);rw[bh9 h,bh9 e]
def Yk(a:Int)(b:Str):decide ((Sum.inl a:Key)=Sum.inr b)=b4:=bh9 (λq=>nomatch q)
def Yl(a:Str)(b:Int):decide ((Sum.inr a:Key)=Sum.inl b)=b4:=bh9 (λq=>nomatch q)
noncomputable def Jo(prog:dz)(w:bL):PySem.KeyKind prog w Key where
 is:=Xa
 hash:=aO3 w
 inj:=λv a b f hb=>by
  rcases fK f with⟨i,t,rfl,rfl⟩|⟨x,t,rfl,rfl⟩;rcases fK hb with⟨j,u,rfl,e⟩|⟨y,u,rfl,e⟩;injection e with c _;rw[c];exact nomatch e;rcases fK hb with⟨j,u,rfl,e⟩|⟨y,u,rfl,e⟩;exact nomatch e;injection e with c _;rw[c]
 byValue:=λk v h=>by
  rcases fK h with⟨i,t,rfl,rfl⟩|⟨x,t,rfl,rfl⟩ <;> rfl
 pyHash:=λd h=>by
  rcases fK d with⟨i,t,rfl,rfl⟩|⟨x,t,rfl,rfl⟩;exact wpAny_pyHash_int h;exact wpAny_pyHash_str h
 eqBool:=λg d h=>by
  rcases fK g with⟨i,t,rfl,rfl⟩|⟨x,t,rfl,rfl⟩;rcases fK d with⟨j,u,rfl,rfl⟩|⟨y,u,rfl,rfl⟩;rw[Yi]at h;exact wpAny_eqBool_int h;rw[Yk]at h;exact SeqAt.EqAt.int_str i t y u _ _ _ _ h;rcases fK d with⟨j,u,rfl,rfl⟩|⟨y,u,rfl,rfl⟩;rw[Yl]at h;exact SeqAt.EqAt.str_int x t j u _ _ _ _ h;rw[Yj]at h;exact wpAny_eqBool_str h
 «strs»:=λk x t v h=>by
  rcases fK h with⟨i,u,rfl,e⟩|⟨y,u,rfl,e⟩;exact nomatch e;injection e with c _;subst c;cases v <;> rfl
inductive V where
 |cR|bl (b:Bool)|int (i:Int)|str (x:Str)|byt (b:Array UInt8)|flt (b:UInt64)|ref (a:av)|ty (n:String)
 deriving DecidableEq
def RelV:V->au->Prop
 |.cR,u=>u=eL
 |.bl b,u=>u=Value.bool b
 |.int i,u=>∃t,u=Gv i t
 |.str x,u=>∃t,u=Tr x t
 |.byt b,u=>∃t,u=Value.bytes b t
 |.flt b,u=>∃t,u=Value.float b t
 |.ref a,u=>u=f7 a
 |.ty n,u=>u=pH n
abbrev Vals:List V->List au->Prop:=Paired RelV
theorem Vals.length(r:Vals xs us):xs.length=us.length:=Paired.length r
theorem Vals.get:∀{xs:List V} {a:List au} {i:Nat} {x:V},Vals xs a->xs[i]?=ai x->∃u,a[i]?=ai u/\RelV x u
 |_,_,_,_,.nil,e=>by simp at e
 |_,_,0,_,.cons r _,e=>by simp at e;subst e;exact⟨_,rfl,r⟩
 |_,_,i+1,x,.cons _ t,e=>by
  refine aR (Vals.get (i:=i) (x:=x) t (by simpa using e)) λu h b=>?_;exact⟨u,by simpa using h,b⟩
def Vals.append(h:Vals xs us)(s:Vals ys ws):Vals (xs++ys) (us++ws):=by
 induction h with
 |nil=>exact s
 |cons r t i=>exact .cons r i
theorem Vals.take:∀{xs:List V} {u:List au} (n:Nat),Vals xs u->Vals (xs.take n) (u.take n)
 |_,_,0,_=>.nil
 |_,_,_+1,.nil=>.nil
 |_,_,n+1,.cons r t=>.cons r (Vals.take n t)
theorem Vals.drop:∀{xs:List V} {u:List au} (n:Nat),Vals xs u->Vals (xs.drop n) (u.drop n)
 |_,_,0,r=>r
 |_,_,_+1,.nil=>.nil
 |_,_,n+1,.cons _ t=>Vals.drop n t
def Hz:Option V->Option au->Prop
 |some v,ai u=>RelV v u
 |none,aj=>True
 |_,_=>False
def KV{κ:Type}:List (κ×V)->List (κ×au)->Prop:=Paired λ(p:κ×V) (q:κ×au)=>p.1=q.1/\RelV p.2 q.2
noncomputable def kV:Key->V
 |.inl i=>.int i
 |.inr x=>.str x
inductive HO where
 |lst (xs:List V)
 |tup (xs:List V)
 |dK (DL:List (Key×V))|dT (DL:List (List Key×V))
 |set (S:Int->Bool) (n:Nat)
 |ins (C dx:av) (fs:List (Str×V))
 |own (x:av)
 |xd (fs:List (Str×V))
 |met (f x:av)
 |Ym (lo hi:Int)
 |DM (o:Obj) (u:HO)
 |DN (p:PySem.Pos) (q:Str)
 |ext (φ:aW->Prop)
abbrev Hp:=av->Option HO
noncomputable def upd(H:Hp)(a:av)(o:HO):Hp:=λb=>if b=a then ai o else H b
def bM:upd H a o a=ai o:=by unfold upd;rw[bh6 rfl]
def aS(h:b≠a):upd H a o b=H b:=by unfold upd;rw[bh7 h]
def bg{H:Hp}(h:H a=ai o)(h':H b=aj):a≠b:=by
 intro e;subst e;rw[h]at h';cases h'
section
variable (P:dz)(w:bL)
def gP(H:Hp)(h:aW)(a:av):HO->Prop
 |.lst b=>b.length<=cH/\∃(d:List au) (n:Nat),Vals b d/\h.get? a=ai {cls:=.type "list",data:=.seq d.toArray n}
 |.tup b=>b.length<=cH/\∃d:List au,Vals b d/\IsTup h a d.toArray
 |.dK e=>e.length<=cH/\(a==p7)=b4/\∃g,KV e g/\h.DictOf (Jo P w) a g
 |.dT e=>e.length<=cH/\(a==p7)=b4/\∃b:List (List Key×av×au),
   Paired (λ(p:List Key×V) (q:List Key×av×au)=>p.1=q.1/\H q.2.1=ai (.tup (p.1.map kV))/\RelV p.2 q.2.2) e b/\
   ∃o r A,h.get? a=ai o/\o.ExactDict/\o.data=.dict r A/\r.toList=b.map (qQ (tupleKind (Jo P w)))/\(b.map (·.1)).Nodup
 |.set S n=>h.SetOf (intKind P w) a S n
 |.ins C j i=>H j=ai (.own a)/\i.length<=1000/\j≠a/\h.get? a=ai (vc C j)/\
   ∃m,h.Ns1 j m/\(∀f,Hz (i.lookup f) (m f))/\PySem.Within m (i.map (·.1))
 |.own _=>∃o,h.get? a=ai o
 |.xd i=>∃m,h.Ns1 a m/\∀f,Hz (i.lookup f) (m f)
 |.Ym E F=>∃t u v,h.get? a=ai {cls:=.type "range",data:=.fields #[.int E t,.int F u,.int 1 v]}
 |.DM o u=>h.get? a=ai o/\gP H h a u
 |.DN p q=>∃k:Array au,h.get? a=ai {cls:=.none,data:=.fields k}/\TriplesOk k.toList/\(codeAmong p k.toList=aj\/∃c s g t,codeAmong p k.toList=ai (.ref c)/\H c=ai (.DM s (.own c))/\s.data=.fields g/\g[1]?=ai (.str q t))
 |.met f x=>h.get? a=ai (PySem.W.methodObj (.ref f) (.ref x))
 |.ext l=>l h/\(∃o,h.get? a=ai o)/\∀y z:aW,l y->(∀o,y.get? a=ai o->z.get? a=ai o)->l z
def sj(H:Hp)(h:aW):Prop:=∀a o,H a=ai o->gP P w H h a o
end
theorem gP.lt(x:gP P w H h a o):a<h.objs.size:=by
 cases o with
 |lst b=>obtain⟨_,_,_,_,e⟩:=x;exact bZ e
 |tup b=>obtain⟨_,_,_,p⟩:=x;exact p.lt
 |dK c=>obtain⟨_,_,_,_,o,_,_,e,_⟩:=x;exact bZ e
 |dT c=>obtain⟨_,_,_,_,o,_,_,e,_⟩:=x;exact bZ e
 |set S n=>obtain⟨o,_,_,_,e,_⟩:=x;exact bZ e
 |ins C g d=>obtain⟨_,_,_,e,_⟩:=x;exact bZ e
 |own y=>obtain⟨_,e⟩:=x;exact bZ e
 |xd d=>obtain⟨_,⟨_,_,_,e,_⟩,_⟩:=x;exact bZ e
 |Ym l i=>obtain⟨_,_,_,e⟩:=x;exact bZ e
 |DM j u=>obtain⟨e,_⟩:=x;exact bZ e
 |DN p q=>obtain⟨_,e,_⟩:=x;exact bZ e
 |met f y=>exact bZ (show h.get? a=ai _ from x)
 |ext k=>obtain⟨_,⟨_,e⟩,_⟩:=x;exact bZ e
def Paired.aO4{G:α->β->Prop}(h:Paired F c d)(f:∀a b,F a b->G a b):Paired G c d:=by
 induction h with
 |nil=>exact .nil
 |cons r t i=>exact .cons (f _ _ r) i
def gP.zI(x:gP P w H h a o)(k:∀b u,(b=a\/H b=ai (.own a))->h.get? b=ai u->h'.get? b=ai u)
  (E:∀b,H b=ai (.own a)->l b=ai (.own a)) (F:∀b xs,H b=ai (.tup xs)->l b=ai (.tup xs)) (I:∀b o u,H b=ai (.DM o u)->l b=ai (.DM o u)):gP P w l h' a o:=by
 induction o with
 |lst xs=>obtain⟨z,m,n,r,e⟩:=x;exact⟨z,m,n,r,k _ _ (.inl rfl) e⟩
 |tup xs=>obtain⟨z,m,r,g,e,c⟩:=x;exact⟨z,m,r,g,k _ _ (.inl rfl) e,c⟩
 |dK J=>obtain⟨z,y,s,r,g,i,j,e,c⟩:=x;exact⟨z,y,s,r,g,i,j,k _ _ (.inl rfl) e,c⟩
 |dT J=>obtain⟨z,y,xs,r,g,i,j,e,c⟩:=x;exact⟨z,y,xs,Paired.aO4 r λp q z=>⟨z.1,F _ _ z.2.1,z.2.2⟩,g,i,j,k _ _ (.inl rfl) e,c⟩
 |set S n=>obtain⟨g,i,j,t,e,c⟩:=x;exact⟨g,i,j,t,k _ _ (.inl rfl) e,c⟩
 |ins C U L=>obtain⟨d,z,M,e,A,⟨od,i,j,N,c⟩,r⟩:=x;exact⟨E _ d,z,M,k _ _ (.inl rfl) e,A,⟨od,i,j,k _ _ (.inr d) N,c⟩,r⟩
 |own y=>obtain⟨g,e⟩:=x;exact⟨g,k _ _ (.inl rfl) e⟩
 |xd L=>obtain⟨A,⟨od,i,j,e,c⟩,r⟩:=x;exact⟨A,⟨od,i,j,k _ _ (.inl rfl) e,c⟩,r⟩
 |Ym X Y=>obtain⟨t,u,v,e⟩:=x;exact⟨t,u,v,k _ _ (.inl rfl) e⟩
 |DM g u O=>obtain⟨e,q⟩:=x;exact⟨k _ _ (.inl rfl) e,O q⟩
 |DN p q=>obtain⟨Q,e,t,z⟩:=x;exact⟨Q,k a _ (.inl rfl) e,t,z.imp id λ⟨c,T,s,u,a,b,d⟩=>⟨c,T,s,u,a,I _ _ _ b,d⟩⟩
 |met f y=>have e:h.get? a=ai (PySem.W.methodObj (.ref f) (.ref y)):=x;show h'.get? a=ai (PySem.W.methodObj (.ref f) (.ref y));exact k a _ (.inl rfl) e
 |ext Z=>obtain⟨p,⟨o,e⟩,st⟩:=x;exact⟨st _ _ p λo q=>k _ _ (.inl rfl) q,⟨o,k _ _ (.inl rfl) e⟩,st⟩
theorem sj.lt(x:sj P w H h)(e:H a=ai o):a<h.objs.size:=(x a o e).lt
def sj.fresh(x:sj P w H h)(e:h.objs.size<=a):H a=aj:=by
 cases q:H a with
 |none=>rfl
 |some u=>exact bi8 (gO (x.lt q) e) (sC _)
def sj.kept(x:sj P w H h)(k:∀b u,h.get? b=ai u->h'.get? b=ai u):sj P w H h':=λa o e=>
 (x a o e).zI (λb u _ q=>k b u q) (λ_ q=>q) (λ_ _ q=>q) λ_ z _ q=>q
def sj.laid(x:sj P w H h)(k:∀b u,h.get? b=ai u->h'.get? b=ai u)(f:h.objs.size<=a)(new:gP P w (upd H a o) h' a o):sj P w (upd H a o) h':=λb u e=>by
 have d:=x.fresh f;by_cases hb:b=a;subst hb;rw[bM]at e;cases e;exact new;rw[aS hb]at e;exact(x b u e).zI (λc v _ q=>k c v q) (λc q=>by rw[aS (bg q d)];exact q) (λc g q=>by rw[aS (bg q d)];exact q) λc z g q=>by rw[aS (bg q d)];exact q
def Rd(H:Hp)(a:av)(u:HO):Prop:=H a=ai u\/∃o,H a=ai (.DM o u)
def Rd.of(h:H a=ai u):Rd H a u:=.inl h
def Rd.ok(r:Rd H a u)(x:sj P w H h):gP P w H h a u:=by
 rcases r with r|⟨o,r⟩;exact x a u r;obtain⟨_,q⟩:=x a _ r;exact q
def Mut:Option HO->Prop
 |some (.lst _)=>True
 |some (.dK _)=>True
 |some (.dT _)=>True
 |some (.set _ _)=>True
 |some (.ins _ _ _)=>True
 |some (.ext _)=>True
 |_=>False
def sj.write(ok:sj P w H h)(m:Mut (H x))(i:e=x\/H e=ai (.own x))(k:∀b u,b≠e->h.get? b=ai u->h'.get? b=ai u)(p:∃u,h'.get? e=ai u)
  (new:gP P w (upd H x j) h' x j):sj P w (upd H x j) h':=λb u q=>by
 have d:∀c y,H c=ai (.own y)->c≠x:=λc y r z=>by subst z;rw[r]at m;exact m
 have n:∀c o u,H c=ai (.DM o u)->c≠x:=λc o u r z=>by subst z;rw[r]at m;exact m
 have g:∀c a,H c=ai (.tup a)->c≠x:=λc a r z=>by subst z;rw[r]at m;exact m
 by_cases hb:b=x;subst hb;rw[bM]at q;cases q;exact new;rw[aS hb]at q;by_cases T:b=e;have l:H b=ai (.own x):=by rcases i with z|z;exact bi8 (T.trans z) hb;rw[T];exact z
 rw[q]at l;cases l;obtain⟨v,s⟩:=p;exact⟨v,by rw[T];exact s⟩;refine(ok b u q).zI (λc v f r=>k c v ?_ r) (λc r=>by rw[aS (d c b r)];exact r) (λc a r=>by rw[aS (g c a r)];exact r) λc t a r=>by rw[aS (n c t a r)];exact r
 rcases f with rfl|f;exact T;rintro rfl;rcases i with z|z;exact d c b f z;rw[f]at z;cases z;exact hb rfl
structure Un(fs ex:List av)(H H':Hp)(h h':aW):Prop where
 keep:∀b o,h.get? b=ai o->H b=aj->b∉fs->b∉ex->h'.get? b=ai o
 slot:∀b o,h.get? b=ai o->H b=aj->b∈fs->b∉ex->∃sl,h'.get? b=ai {o with slots:=sl}
 free:∀b o,h.get? b=ai o->H b=aj->b∉ex->H' b=aj
 there:∀b o,h.get? b=ai o->b∉ex->∃o',h'.get? b=ai o'
 pT:∀b xs,H b=ai (.tup xs)->H' b=ai (.tup xs)
 xK:∀b o u,H b=ai (.DM o u)->H' b=ai (.DM o u)
 xM:∀b p q,H b=ai (.DN p q)->H' b=ai (.DN p q)
def Un.any(u:Un fs ex H H1 h h1)(q:h.get? b=ai ob)(n:H b=aj)(a:b∉ex):∃s,h1.get? b=ai {ob with slots:=s}:=by
 by_cases hb:b∈fs;exact u.slot b ob q n hb a;exact⟨ob.slots,u.keep b ob q n hb a⟩
def Un.kept(k:∀b u,h.get? b=ai u->h'.get? b=ai u):Un fs ex H H h h':=
 ⟨λb o q _ _ _=>k b o q,λb o q _ _ _=>⟨o.slots,k b o q⟩,λ_ _ _ n _=>n,λb o q _=>⟨o,k b o q⟩,λ_ _ q=>q,λ_ _ _ q=>q,λ_ _ _ q=>q⟩
def Un.refl:Un fs ex H H h h:=Un.kept λ_ _ q=>q
def Un.laid(k:∀b u,h.get? b=ai u->h'.get? b=ai u)(d:h.objs.size<=a)(c:H a=aj):Un fs ex H (upd H a o) h h' where
 keep:=λb u q _ _ _=>k b u q
 slot:=λb u q _ _ _=>⟨u.slots,k b u q⟩
 free:=λb u q n _=>by rw[aS (dM (gO (bZ q) d))];exact n
 there:=λb u q _=>⟨u,k b u q⟩
 pT:=λb x q=>by rw[aS (bg q c)];exact q
 xK:=λb u x q=>by rw[aS (bg q c)];exact q
 xM:=λb p r q=>by rw[aS (bg q c)];exact q
def Un.write(m:Mut (H x))(d:e=x\/H e=ai (.own x))(k:∀b u,b≠e->h.get? b=ai u->h'.get? b=ai u)(f:∃u,h'.get? e=ai u):Un fs ex H (upd H x o) h h':=by
 have c:∀b,H b=aj->b≠x:=λb n z=>by subst z;rw[n]at m;exact m
 have hb:∀b,H b=aj->b≠e:=λb n z=>by subst z;rcases d with r|r;exact c b n r;rw[n]at r;cases r
 have a:∀b u,H b=ai u->¬ Mut (ai u)->b≠x:=λb u q g z=>by subst z;rw[q]at m;exact g m
 refine⟨λb u q n _ _=>k b u (hb b n) q,λb u q n _ _=>⟨u.slots,k b u (hb b n) q⟩,λb u q n _=>by rw[aS (c b n)];exact n,λb u q _=>?_,
  λb i q=>by rw[aS (a b _ q λz=>z)];exact q,λb u i q=>by rw[aS (a b _ q λz=>z)];exact q,λb p r q=>by rw[aS (a b _ q λz=>z)];exact q⟩
 by_cases T:b=e;subst T;exact f;exact⟨u,k b u T q⟩
noncomputable def trk(h:aW)(H:Hp):List av:=(cY h.objs.size).filter λa=>(H a).isSome
def DO(h:aW)(H:Hp):aW:=An h (trk h H)
def KJ(h:aW)(H:Hp):(DO h H).objs.size=h.objs.size:=PySem.W.hideAll_size _ _
def DQ{h:aW}(e:h.get? b=ai o)(n:H b=aj):(DO h H).get? b=ai o:=
 N7 _ e λa=>by
  have q:(H b).isSome=bT:=(sD.mp a).2;rw[n]at q;simp at q
def TH(e:(DO h H).get? b=ai o):h.get? b=ai o/\H b=aj:=by
 have a:h.get? b=ai o:=Jm (trk h H) e;refine⟨a,?_⟩;cases q:H b with
 |none=>rfl
 |some x=>have c:b∈trk h H:=sD.mpr ⟨kO.mpr (bZ a),by simp[q]⟩;have z:(DO h H).get? b=aj:=X6 (trk h H) c;rw[z]at e;cases e
structure Mod(K:aF)(mg:Str->Option au)(base:aW):Prop where
 kin:K.In base
 glob:base.Ns dS mg
 blt:∃mb,base.Ns builtinsNs mb/\∀x:Str,x≠ "__name__" ->mb x=jR x
 nolimit:base.NoLimit
structure Cx where
 prog:dz
 w:bL
 K:aF
 mg:Str->Option au
 base:aW
 A:cy
 N:List Str
 jq:ay
 OU:Hp
 env:Env
 outer:List Env
 stack:List Env
 ex:List av
 fn:Str->Bool
 calm:Bool
 pn:List (av×Obj)
 xe:au->ay->Prop
noncomputable def xN(l:List Env):List av:=l.filterMap (·.frame)
noncomputable abbrev Cx.fs(X:Cx):List av:=xN X.outer
def Vis(sc:iP)(x:Str):Prop:=sc.names.lookup x=ai .local\/sc.names.lookup x=ai .cell\/sc.names.lookup x=ai .free
def Loc(sc:iP)(x:Str):Prop:=sc.names.lookup x=ai .local\/sc.names.lookup x=ai .cell
def Look(env:Env)(h:aW)(m:Str->Option au)(x:Str)(u:au):Prop:=
 (env.kindOf x=ai .local/\m x=ai u)\/((env.kindOf x=ai .cell\/env.kindOf x=ai .free)/\∃c,env.cells.lookup x=ai c/\h.IsCell c (ai u))
structure Cx.Ok(X:Cx):Prop where
 mod:Mod X.K X.mg X.base
 kind:X.env.scope.kind=.function
 glob:X.env.globals=dS
 blt:X.env.builtins=builtinsNs
 above:X.jq.heap.objs.size<=X.env.locals
 inj:∀x y c,X.env.cells.lookup x=ai c->X.env.cells.lookup y=ai c->x=y
 has:∀x,(X.env.kindOf x=ai .cell\/X.env.kindOf x=ai .free)->∃c,X.env.cells.lookup x=ai c
 cab:∀x c,X.fn x=bT->X.env.cells.lookup x=ai c->X.jq.heap.objs.size<=c
 hd:X.calm=bT->X.A.handled=aj
 frames:X.A.frames=ai X.stack
 OV:X.stack=X.outer\/(X.stack=X.env::X.outer/\X.env.frame=ai X.env.locals)
 exf:∀b∈X.ex,b≠X.env.locals/\∀x c,X.env.cells.lookup x=ai c->c≠b
 bs:∀b o,X.base.get? b=ai o->X.jq.heap.get? b=ai o/\X.OU b=aj
 T7:X.base.objs.size<=X.jq.heap.objs.size
 KN:∀b o,X.base.get? b=ai o->b∉X.ex
 KP:∀b∈X.ex,b∉X.fs
 uy:X.jq.heap.FunFrames X.base X.outer
 Xb:∀b∈X.fs,X.OU b=aj
structure Inv(X:Cx)(ao:List (av×Obj))(σ:List (Option V))(H:Hp)(s:ay):Prop where
 ok:X.Ok
 os:s.os=X.jq.os
 bare:AllBare s.gens
 base:Un X.fs X.ex X.OU H X.jq.heap s.heap
 loc:∃m,s.heap.Ns X.env.locals m/\∀(i:Nat) (x:Str) (v:V),X.N[i]?=ai x->σ[i]?=ai (ai v)->Vis X.env.scope x->∃u,RelV v u/\Look X.env s.heap m x u
 cell:∀x c,X.env.cells.lookup x=ai c->∃v,s.heap.IsCell c v
 free:H X.env.locals=aj
 qS:∀x c,X.env.cells.lookup x=ai c->H c=aj
 pin:∀p∈X.pn++ao,s.heap.get? p.1=ai p.2/\H p.1=aj/\p.1≠X.env.locals/\p.1∉X.fs/\∀v,p.2.data≠.cell v
 fE:sj X.prog X.w H s.heap
 len:σ.length=X.N.length
section
variable {X:Cx}{s:ay}
def Cx.Ok.aO8(ok:X.Ok)(e:X.base.get? b=ai o):b∉X.fs:=λhb=>by
 have:=(ok.uy.mem hb).1;rw[e]at this;cases this
theorem Inv.bs(I:Inv X a σ H s):∀b o,X.base.get? b=ai o->s.heap.get? b=ai o/\H b=aj:=λb o e=>
 ⟨I.base.keep b o (I.ok.bs b o e).1 (I.ok.bs b o e).2 (I.ok.aO8 e) (I.ok.KN b o e),I.base.free b o (I.ok.bs b o e).1 (I.ok.bs b o e).2 (I.ok.KN b o e)⟩
def Inv.bk(I:Inv X a σ H s):∀b o,X.base.get? b=ai o->s.heap.get? b=ai o:=λb o e=>(I.bs b o e).1
theorem Inv.mod(I:Inv X a σ H s):Mod X.K X.mg X.base:=I.ok.mod
def Inv.BK(I:Inv X a σ H s):X.K.In s.heap:=I.ok.mod.kin.keeps I.bk
theorem Inv.nolimit(I:Inv X a σ H s):s.heap.NoLimit:=I.ok.mod.nolimit.keeps I.bk
theorem Inv.lt(I:Inv X a σ H s):X.env.locals<s.heap.objs.size:=let⟨_,hn,_⟩:=I.loc;hn.lt
def Inv.sz(I:Inv X a σ H s):X.jq.heap.objs.size<=s.heap.objs.size:=cz I.ok.above (jc I.lt)
def Inv.aO9(I:Inv X c σ H s)(h:s.heap.objs.size<=a):a∉X.fs:=λhb=>by
 obtain⟨_,o,b,_⟩:=I.ok.uy.mem hb;exact bi8 (gO (bZ b) (cz I.sz h)) (sC _)
def Inv.Yn(I:Inv X b σ H s):∀x c,X.env.cells.lookup x=ai c->c≠X.env.locals:=λx c e z=>by
 refine dW (I.cell x c e) λv o h hd=>?_;refine aR I.loc λm j _=>?_;obtain⟨d,f,g,a,T,_⟩:=j;rw[z,a]at h;cases h;rw[T]at hd;cases hd
theorem Inv.uy(I:Inv X k σ H s):s.heap.FunFrames X.base X.outer:=by
 have a:∀(l:List Env),(∀b∈xN l,b∈X.fs)->X.jq.heap.FunFrames X.base l->s.heap.FunFrames X.base l:=by
  intro l;induction l with
  |nil=>intro _ _;trivial
  |cons env r i=>intro d hl;refine xH hl λhk j hr=>?_;clear hl;obtain⟨L,o,h,f,g,hd⟩:=j;have c:L∈X.fs:=d L (by unfold xN;rw[Nt,h];exact vd);obtain⟨m,e⟩:=I.base.slot L o g (I.ok.Xb L c) c λz=>I.ok.KP L z c;exact⟨hk,⟨L,_,h,f,e,hd⟩,i (λb hb=>d b (by unfold xN;rw[Nt,h];exact pI _ hb)) hr⟩
 exact a X.outer (λ_ hb=>hb) I.ok.uy
theorem Inv.stack(I:Inv X b σ H s):s.heap.FunFrames X.base X.stack:=by
 rcases I.ok.OV with e|⟨e,h⟩;rw[e];exact I.uy;rw[e];refine aR I.loc λm a _=>?_;refine .cons (by rw[I.ok.kind];decide) h a ?_ I.uy;exact Heap.get?_none_of_le (cz I.ok.T7 I.ok.above)
def Inv.HA(I:Inv X a σ H s):∀b∈xN X.stack,b∈X.env.locals::X.fs:=λb hb=>by
 rcases I.ok.OV with e|⟨e,h⟩;rw[e]at hb;exact pI _ hb;rw[e]at hb;unfold xN at hb;rw[Nt,h]at hb;exact hb
def Inv.Jp(I:Inv X a σ H s):∀b∈xN X.stack,H b=aj:=λb hb=>by
 rcases cK.mp (I.HA b hb)with e|hb;rw[e];exact I.free;obtain⟨_,o,h,_⟩:=I.ok.uy.mem hb;exact I.base.free b o h (I.ok.Xb b hb) λz=>I.ok.KP b z hb
def Inv.step{t':Nat}{d':Drawn}{ch:List av}(I:Inv X O σ H s)
  (T:∀b∈ch,(b∈X.ex\/X.jq.heap.objs.size<=b)/\b≠X.env.locals/\(∀x c,X.env.cells.lookup x=ai c->c≠b)/\∀p∈X.pn++O,p.1≠b)
  (a:∀b o,b≠X.env.locals->b∉X.fs->b∉ch->s.heap.get? b=ai o->H b=aj->h'.get? b=ai o)
  (w:∀b o,b≠X.env.locals->b∈X.fs->b∉ch->s.heap.get? b=ai o->H b=aj->∃L,h'.get? b=ai {o with slots:=L}) (f:∀b o,b∉ch->s.heap.get? b=ai o->H b=aj->E b=aj)
  (y:∀b o,b∉ch->s.heap.get? b=ai o->∃F,h'.get? b=ai F)
  (pT:∀b xs,H b=ai (.tup xs)->E b=ai (.tup xs)) (Z:∀b o u,H b=ai (.DM o u)->E b=ai (.DM o u)) (xM:∀b p q,H b=ai (.DN p q)->E b=ai (.DN p q))
  (ns:∀m,s.heap.Ns X.env.locals m->h'.Ns X.env.locals m) (fE:sj X.prog X.w E h') (hg:AllBare g') :
  Inv X O σ E {s with heap:=h',gens:=g',drawn:=d',toks:=t'}:=by
 have J:∀b o,X.jq.heap.get? b=ai o->b≠X.env.locals:=λb o e=>dM (gO (bZ e) I.ok.above);have t:∀b o,X.jq.heap.get? b=ai o->b∉X.ex->b∉ch:=λb o e h hb=>by rcases(T b hb).1 with z|z;exact h z;exact bi8 (gO (bZ e) z) (sC _)
 have g:∀x c,X.env.cells.lookup x=ai c->∀v,s.heap.IsCell c v->h'.IsCell c v:=λx c e v P=>by refine aR P λo C hd=>?_;clear P;have j:c∉ch:=λz=>(T c z).2.2.1 x c e rfl;by_cases Q:c∈X.fs;obtain⟨L,q⟩:=w c o (I.Yn x c e) Q j C (I.qS x c e);exact⟨_,q,hd⟩;exact⟨o,a c o (I.Yn x c e) Q j C (I.qS x c e),hd⟩
 refine⟨I.ok,I.os,hg,⟨λb o e n hb h=>?_,λb o e n hb h=>?_,λb o e n h=>?_,λb o e h=>?_,λb xs e=>pT b xs (I.base.pT b xs e),λb o xs e=>Z b o xs (I.base.xK b o xs e),λb p q e=>xM b p q (I.base.xM b p q e)⟩,?_,λx c e=>?_,?_,λx c e=>?_,λp S=>?_,fE,I.len⟩;exact a b o (J b o e) hb (t b o e h) (I.base.keep b o e n hb h) (I.base.free b o e n h);obtain⟨L,A⟩:=I.base.slot b o e n hb h;obtain⟨M,N⟩:=w b _ (J b o e) hb (t b o e h) A (I.base.free b o e n h);exact⟨M,N⟩;obtain⟨F,A⟩:=I.base.there b o e h;exact f b F (t b o e h) A (I.base.free b o e n h);obtain⟨F,A⟩:=I.base.there b o e h;exact y b F (t b o e h) A;refine aR I.loc λm hn hl=>?_;refine⟨m,ns m hn,λi x v A N e3=>?_⟩;refine aR (hl i x v A N e3) λu r l=>?_;refine⟨u,r,?_⟩;rcases l with l|⟨k,c,e,z⟩;exact .inl l;exact .inr ⟨k,c,e,g x c e _ z⟩;obtain⟨v,z⟩:=I.cell x c e;exact⟨v,g x c e v z⟩;refine aR I.loc λm jh _=>?_;obtain⟨o,_,_,C,_⟩:=jh;exact f _ o (λz=>(T _ z).2.1 rfl) C I.free;refine dW (I.cell x c e) λv o C hd=>?_;exact f c o (λz=>(T c z).2.2.1 x c e rfl) C (I.qS x c e);refine Tt (I.pin p S) λe n U Y d=>?_;have j:p.1∉ch:=λz=>(T p.1 z).2.2.2 p S rfl;exact⟨a p.1 p.2 U Y j e n,f p.1 p.2 j e n,U,Y,d⟩
def Inv.un{t':Nat}(I:Inv X f σ H s)(u:Un X.fs [] H a s.heap h')(g:sj X.prog X.w a h'):Inv X f σ a {s with heap:=h',toks:=t'}:=by
 refine aR (id I.loc) λm j _=>?_;obtain⟨o,t,v,h,r⟩:=j;obtain⟨w,i⟩:=u.any h I.free (by simp);exact I.step (g':=s.gens) (d':=s.drawn) (ch:=[]) (λ_ z=>nomatch z) (λb o _ hb _ e n=>u.keep b o e n hb (by simp)) (λb o _ hb _ e n=>u.slot b o e n hb (by simp)) (λb o _ e n=>u.free b o e n (by simp)) (λb o _ e=>u.there b o e (by simp)) u.pT u.xK u.xM (λx c=>by
  refine Tu c λy k l d p=>?_;clear c;rw[h]at d;cases d;exact⟨_,k,l,i,p⟩) g I.bare
def Inv.call{t':Nat}{d':Drawn}(I:Inv X d σ H s)(u:Un (xN X.stack) ch H f s.heap h')(k:sj X.prog X.w f h')(l:AllBare g')
  (T:∀b∈ch,(b∈X.ex\/X.jq.heap.objs.size<=b)/\b≠X.env.locals/\(∀x c,X.env.cells.lookup x=ai c->c≠b)/\∀p∈X.pn++d,p.1≠b) :
  Inv X d σ f {s with heap:=h',gens:=g',drawn:=d',toks:=t'}:=by
 refine aR (id I.loc) λm t _=>?_;obtain⟨o,A,C,g,r⟩:=t;obtain⟨E,a⟩:=u.any g I.free λz=>(T _ z).2.1 rfl;exact I.step (ch:=ch) T (λb o a hb h e n=>u.keep b o e n (λz=>(cK.mp (I.HA b z)).elim a hb) h) (λb o _ _ h e n=>u.any e n h) (λb o h e n=>u.free b o e n h) (λb o h e=>u.there b o e h) u.pT u.xK u.xM (λF i=>by
  refine Tu i λJ v w j y=>?_;clear i;rw[g]at j;cases j;exact⟨_,v,w,a,y⟩) k l
def Inv.turned{t':Nat}{i:av}(I:Inv X d σ H s)(k:∀b o,b≠i->s.heap.get? b=ai o->h'.get? b=ai o)(j:H i=aj)(f:i≠X.env.locals)
  (h1:i∈X.ex\/X.jq.heap.objs.size<=i) (l:∀x c,X.env.cells.lookup x=ai c->c≠i) (t:∀p∈X.pn++d,p.1≠i):Inv X d σ H {s with heap:=h',toks:=t'}:=by
 have a:∀b u,H b=ai u->b≠i:=λb u e z=>by rw[z,j]at e;cases e
 refine I.step (g':=s.gens) (d':=s.drawn) (ch:=[i]) (λb hb=>?_) (λb o _ _ h e _=>k b o (λz=>h (by simp[z])) e) (λb o _ _ h e _=>⟨o.slots,k b o (λz=>h (by simp[z])) e⟩) (λ_ _ _ _ n=>n)
  (λb o h e=>⟨o,k b o (λz=>h (by simp[z])) e⟩) (λ_ _ e=>e) (λ_ _ _ e=>e) (λ_ _ _ e=>e) (λm g=>?_) (λb u e=>?_) I.bare
 have e:b=i:=by simpa using hb
 subst e;exact⟨h1,f,l,t⟩;refine Tu g λo w y A r=>?_;clear g;exact⟨o,w,y,k _ o (eW f) A,r⟩;refine(I.fE b u e).zI (λc v h q=>k c v ?_ q) (λ_ q=>q) (λ_ _ q=>q) λ_ C _ q=>q;rcases h with z|z;rw[z];exact a b u e;exact a c _ z
def Inv.tok(I:Inv X a σ H s)(t:Nat):Inv X a σ H {s with toks:=t}:=I.un (h':=s.heap) (t':=t) Un.refl I.fE
theorem Inv.kept(I:Inv X a σ H s)(k:∀b u,s.heap.get? b=ai u->h'.get? b=ai u):Inv X a σ H {s with heap:=h',toks:=t'}:=I.un (Un.kept k) (I.fE.kept k)
theorem Inv.laid(I:Inv X c σ H s)(k:∀b u,s.heap.get? b=ai u->h'.get? b=ai u)(h:s.heap.objs.size<=a)(new:gP X.prog X.w (upd H a o) h' a o) :
  Inv X c σ (upd H a o) {s with heap:=h',toks:=t'}:=I.un (Un.laid k h (I.fE.fresh h)) (I.fE.laid k h new)
theorem Inv.write(I:Inv X a σ H s)(m:Mut (H x))(h:e=x\/H e=ai (.own x))(k:∀b u,b≠e->s.heap.get? b=ai u->h'.get? b=ai u)(T:∃u,h'.get? e=ai u)
  (new:gP X.prog X.w (upd H x o) h' x o):Inv X a σ (upd H x o) {s with heap:=h',toks:=t'}:=I.un (Un.write m h k T) (I.fE.write m h k T new)
def Inv.sE(I:Inv X c σ H s)(h:∀p∈a,s.heap.get? p.1=ai p.2/\H p.1=aj/\p.1≠X.env.locals/\p.1∉X.fs/\∀v,p.2.data≠.cell v):Inv X a σ H s:=
 ⟨I.ok,I.os,I.bare,I.base,I.loc,I.cell,I.free,I.qS,λp b=>(i6.mp b).elim (λz=>I.pin p (DJ _ z)) (h p),I.fE,I.len⟩
def DT{N:List Str}(h:N.Nodup){i j:Nat}(a:N[i]?=ai x)(b:N[j]?=ai x):i=j:=by
 obtain⟨d,e⟩:=eN.mp a;obtain⟨f,c⟩:=eN.mp b;exact(List.getElem_inj h).mp (e.trans c.symm)
def As{Q:Unit->ay->Prop}(I:Inv X ao σ H s)(hN:X.N.Nodup)(N:X.N[i]?=ai x)(w:Loc X.env.scope x)(r:RelV v u)
  (h:∀s',Inv X ao (σ.set i (ai v)) H s'->(∃a,iA a s.heap s'.heap/\(a=X.env.locals\/X.env.cells.lookup x=ai a))->Q () s') (hf:autoParam (X.fn x=bT\/X.env.scope.names.lookup x=ai .local) ef):aC M A (storeName X.env x u) Q E s:=by
 refine aR (id I.loc) λm Y hl=>?_;have Z:(X.env.scope.kind == .class || (X.env.scope.kind == .module&&X.env.locals !=X.env.globals))=b4:=by rw[I.ok.kind];rfl
 have O:i<σ.length:=by rw[I.len];exact(eN.mp N).1
 have Yn:=I.Yn;have t:∀{a:av} {L:aW},(∃o,s.heap.get? a=ai o/\H a=aj)->iA a s.heap L->sj X.prog X.w H L:=λ{a L} ha f b ob e=>by refine aR ha λ_ _ Jq=>?_;clear ha;refine(I.fE b ob e).zI (λc S l q=>(f.2 c ?_).trans q) (λ_ q=>q) (λ_ _ q=>q) λ_ zo _ q=>q;rintro rfl;rcases l with rfl|l;rw[Jq]at e;cases e;rw[Jq]at l;cases l
 rcases w with hk|hk;refine wpAny_storeName_local hk Y (λL xO f=>?_) Z;refine Tu (id Y) λoL _ _ hoL _=>?_;refine h _ ⟨I.ok,I.os,I.bare,⟨λb o e n hb w=>?_,λb o e n hb w=>?_,I.base.free,λb o e w=>?_,I.base.pT,I.base.xK,I.base.xM⟩,⟨_,xO,λj y v' g C e3=>?_⟩,λy c e=>?_,I.free,I.qS,λp hp=>?_,t ⟨oL,hoL,I.free⟩ f,by simpa using I.len⟩ ⟨_,f,.inl rfl⟩;exact(f.2 b (dM (gO (bZ e) I.ok.above))).trans (I.base.keep b o e n hb w);obtain⟨sl,g⟩:=I.base.slot b o e n hb w;exact⟨sl,(f.2 b (dM (gO (bZ e) I.ok.above))).trans g⟩;obtain⟨o',g⟩:=I.base.there b o e w;exact⟨o',(f.2 b (dM (gO (bZ e) I.ok.above))).trans g⟩;by_cases F:j=i;subst F;rw[N]at g;cases g;rw[iQ O]at C;cases C;exact⟨u,r,.inl ⟨hk,by simp⟩⟩;rw[i7 (eW F)]at C;refine aR (hl j y v' g C e3) λu' r' q=>?_;refine⟨u',r',?_⟩;rcases q with⟨k,e⟩|⟨k,c,e,z⟩;refine .inl ⟨k,?_⟩;have:y≠x:=λe=>F (DT hN g (e▸N));simp[this,e];exact .inr ⟨k,c,e,z.sameBut f (Yn y c e)⟩;obtain⟨S,z⟩:=I.cell y c e;exact⟨S,z.sameBut f (Yn y c e)⟩;refine Tt (I.pin p hp) λe n T nf d=>?_;exact⟨(f.2 p.1 T).trans e,n,T,nf,d⟩;have J:X.fn x=bT:=by rcases hf with z|z;exact z;rw[z]at hk;cases hk
 obtain⟨c,l⟩:=I.ok.has x (.inl hk);obtain⟨S,z⟩:=I.cell x c l;refine wpAny_storeName_cell I.ok.kind hk l z (λL uz f=>?_);refine aR (id z) λoc Yo aP1=>?_;refine h {s with heap:=L} ⟨I.ok,I.os,I.bare,⟨λb o e n hb w=>?_,λb o e n hb w=>?_,I.base.free,λb o e w=>?_,I.base.pT,I.base.xK,I.base.xM⟩,⟨m,Y.sameBut f (eW (Yn x c l)),λj y v' g C e3=>?_⟩,λy U e=>?_,I.free,I.qS,λp hp=>?_,t ⟨oc,Yo,I.qS x c l⟩ f,by simpa using I.len⟩ ⟨c,f,.inr l⟩;exact(f.2 b (dM (gO (bZ e) (I.ok.cab x c J l)))).trans (I.base.keep b o e n hb w);obtain⟨sl,g⟩:=I.base.slot b o e n hb w;exact⟨sl,(f.2 b (dM (gO (bZ e) (I.ok.cab x c J l)))).trans g⟩;obtain⟨o',g⟩:=I.base.there b o e w;exact⟨o',(f.2 b (dM (gO (bZ e) (I.ok.cab x c J l)))).trans g⟩;by_cases F:j=i;subst F;rw[N]at g;cases g;rw[iQ O]at C;cases C;exact⟨u,r,.inr ⟨.inl hk,c,l,uz⟩⟩;rw[i7 (eW F)]at C;refine aR (hl j y v' g C e3) λu' r' q=>?_;refine⟨u',r',?_⟩;rcases q with q|⟨k,U,e,z'⟩;exact .inl q;refine .inr ⟨k,U,e,z'.sameBut f ?_⟩;rintro rfl;exact F (DT hN g (I.ok.inj _ _ _ e l▸N));by_cases P:U=c;subst P;exact⟨_,uz⟩;obtain⟨w2,z2⟩:=I.cell y U e;exact⟨w2,z2.sameBut f P⟩;refine Tt (I.pin p hp) λe n T nf d=>?_;refine⟨(f.2 p.1 ?_).trans e,n,T,nf,d⟩;intro q;rw[q,Yo]at e;have q':oc=p.2:=fJ e;exact d S (by rw[<- q'];exact aP1)
def sF{Q:Unit->ay->Prop}(I:Inv X a σ H s)(b:X.N.Nodup)(c:X.N[i]?=ai x)(d:Loc X.env.scope x)(r:RelV v u)
  (h:∀s',Inv X a (σ.set i (ai v)) H s'->Q () s') (e:autoParam (X.fn x=bT\/X.env.scope.names.lookup x=ai .local) ef):aC M A (storeName X.env x u) Q E s:=
 As I b c d r (λs' f _=>h s' f) e
def Inv.DU{s':ay}(I:Inv X a σ H s)(h:s'.os=s.os)(u:Un (xN X.stack) ch H d s.heap s'.heap)(f:sj X.prog X.w d s'.heap)(g:AllBare s'.gens)
  (T:∀b∈ch,(b∈X.ex\/X.jq.heap.objs.size<=b)/\b≠X.env.locals/\(∀x c,X.env.cells.lookup x=ai c->c≠b)/\∀p∈X.pn++a,p.1≠b):Inv X a σ d s':=by
 obtain⟨i,g',d',t',o⟩:=s';have e:o=s.os:=h;subst e;exact I.call (g':=g') (t':=t') (d':=d') u f g T
end
abbrev XK:=au->Option av->Hp->Prop
abbrev St:=List (Option V)
abbrev VK:=V->Hp->Prop
abbrev TE:=St->Hp->VK->Prop
abbrev TT:=St->Hp->(Bool->Hp->Prop)->Prop
abbrev TA:=St->Hp->(List V->Hp->Prop)->Prop
structure Ends where
 nx:St->Hp->Prop
 rt:VK
 bk:St->Hp->Prop:=λ_ _=>False
 ct:St->Hp->Prop:=λ_ _=>False
abbrev TS:=Ends->St->Hp->Prop
def EP(X:Cx)(a:List (av×Obj))(b:St)(Q:VK)(u:au)(s':ay):Prop:=∃v H,Inv X a b H s'/\RelV v u/\Q v H
def TP(X:Cx)(a:List (av×Obj))(c:St)(Q:Bool->Hp->Prop)(b:Bool)(s':ay):Prop:=∃H,Inv X a c H s'/\Q b H
def AP(X:Cx)(a:List (av×Obj))(b:St)(Q:List V->Hp->Prop)(u:List au)(s':ay):Prop:=∃v H,Inv X a b H s'/\Vals v u/\Q v H
def SP(X:Cx)(a:List (av×Obj))(D:Ends)(f:Flow)(s':ay):Prop:=
 match f with
 |.next=>∃c H,Inv X a c H s'/\D.nx c H
 |.brk=>∃c H,Inv X a c H s'/\D.bk c H
 |.cont=>∃c H,Inv X a c H s'/\D.ct c H
 |.ret u=>∃v c H,Inv X a c H s'/\RelV v u/\D.rt v H
def PE(X:Cx)(e:bq)(t:TE):Prop:=
 ∀(b:List (av×Obj)) (s:ay) (a:St) (H:Hp) (Q:VK),Inv X b a H s->t a H Q->aC (aE X.prog X.w) X.A (eval e X.env) (EP X b a Q) X.xe s
def PT(X:Cx)(e:bq)(t:TT):Prop:=
 ∀(b:List (av×Obj)) (s:ay) (a:St) (H:Hp) (Q:Bool->Hp->Prop),Inv X b a H s->t a H Q->aC (aE X.prog X.w) X.A (isTrue e X.env (eval e X.env)) (TP X b a Q) X.xe s
def PW(X:Cx)(e:bq)(t:TT):Prop:=
 ∀(w:Sem au) (b:List (av×Obj)) (s:ay) (a:St) (H:Hp) (Q:Bool->Hp->Prop),Inv X b a H s->t a H Q->aC (aE X.prog X.w) X.A (isTrue e X.env w) (TP X b a Q) X.xe s
def PW.pt(h:PW X e t):PT X e t:=h _
def PA(X:Cx)(es:List bq)(t:TA):Prop:=
 ∀(p:Pos) (b:List (av×Obj)) (s:ay) (a:St) (H:Hp) (Q:List V->Hp->Prop),Inv X b a H s->t a H Q->aC (aE X.prog X.w) X.A (spliced (backTo p (bF es X.env))) (AP X b a Q) X.xe s
def PS(X:Cx)(st:aY)(t:TS):Prop:=
 ∀(a:List (av×Obj)) (s:ay) (b:St) (H:Hp) (D:Ends),Inv X a b H s->t D b H->aC (aE X.prog X.w) X.A (exec st X.env) (SP X a D) X.xe s
def qL(X:Cx)(st:List aY)(t:TS):Prop:=
 ∀(a:List (av×Obj)) (s:ay) (b:St) (H:Hp) (D:Ends),Inv X a b H s->t D b H->aC (aE X.prog X.w) X.A (execs st X.env) (SP X a D) X.xe s
def ig{b:α->ay->Prop}(h:aC M A t Q E s)(c:∀a s,Q a s->b a s):aC M A t b E s:=iw h c λ_ _ x=>x
section
variable {X:Cx}
def rK(i:Nat):TE:=λa H Q=>∃v,a[i]?=ai (ai v)/\Q v H
def tC(v:V):TE:=λ_ H Q=>Q v H
def Yp(d:X.N[i]?=ai x)(f:Vis X.env.scope x)(hd:autoParam ((x==("__debug__" : Str))=b4) cT)(g:autoParam ((x==("__classdict__" : Str))=b4) cT):PE X (.Name x pos) (rK i):=by
 intro j s k H Q I h;obtain⟨v,e,h⟩:=h;obtain⟨m,n,hl⟩:=I.loc;obtain⟨u,r,l⟩:=hl i x v d e f;have fin:EP X j k Q u s:=⟨v,H,I,r,h⟩
 rcases l with⟨hk,o⟩|⟨hk,c,a,b⟩;exact DE (MS I.ok.kind hk n o fin) hd;rcases hk with hk|hk;exact DE (wpAny_loadName_cell I.ok.kind hk a b fin) hd;exact DE (wpAny_loadName_free I.ok.kind hk a b fin g) hd
def Yq{i j pos}:PE X (.Constant (.int i) j pos) (tC (.int i)):=λ_ _ _ H _ I h=>wpAny_Constant_int ⟨.int i,H,I.tok _,⟨_,rfl⟩,h⟩
def ao0{b j pos}:PE X (.Constant (.bool b) j pos) (tC (.bl b)):=λ_ _ _ H _ I h=>Constant_bool ⟨.bl b,H,I,rfl,h⟩
def HC{x j pos}:PE X (.Constant (.str x) j pos) (tC (.str x)):=λ_ _ _ H _ I h=>X7 ⟨.str x,H,I.tok _,⟨_,rfl⟩,h⟩
def Gl(X:Cx)(x:Str):Prop:=X.env.kindOf x=ai .globalImplicit
def sG{Q:au->ay->Prop}(I:Inv X c σ H s)(a:Gl X x)(b:X.mg x=ai u)(h:Q u s)
  (hd:autoParam ((x==("__debug__" : Str))=b4) cT):aC (aE X.prog X.w) X.A (eval (.Name x pos) X.env) Q E s:=
 O5 I.ok.kind a (Calls.loadGlobal_global (by rw[I.ok.glob];exact I.mod.glob.keeps I.bk) b h) hd
def uA{Q:au->ay->Prop}(I:Inv X g σ H s)(a:Gl X x)(b:X.mg x=aj)(c:jR x=ai u)(h:Q u s)
  (d:autoParam (x≠ "__name__") cT) (hd:autoParam ((x==("__debug__" : Str))=b4) cT):aC (aE X.prog X.w) X.A (eval (.Name x pos) X.env) Q E s:=by
 refine aR I.mod.blt λm e f=>?_;exact O5 I.ok.kind a (X8 (by rw[I.ok.glob];exact I.mod.glob.keeps I.bk) b (by rw[I.ok.blt];exact e.keeps I.bk) ((f x d).trans c) h) hd
def TJ(a:Gl X x)(b:X.mg x=ai u)(r:RelV v u)(hd:autoParam ((x==("__debug__" : Str))=b4) cT):PE X (.Name x pos) (tC v):=
 λ_ _ _ H _ I h=>sG I a b ⟨v,H,I,r,h⟩ hd
def TL(a:Gl X x)(b:X.mg x=aj)(c:jR x=ai u)(r:RelV v u)(d:autoParam (x≠ "__name__") cT)(hd:autoParam ((x==("__debug__" : Str))=b4) cT):PE X (.Name x pos) (tC v):=
 λ_ _ _ H _ I h=>uA I a b c ⟨v,H,I,r,h⟩ d hd
variable {a b:bq}{ta tb:TE}{pos:Pos}
def tB(t:TE):TT:=λd H Q=>t d H λx H1=>∃c,x=.bl c/\Q c H1
def Yr(h:PE X e t)(g:autoParam (∀w,isTrue e X.env w=(do let v <- w;standAt e.pos;holding [v] (truthy v))) dF):PT X e (tB t):=by
 intro i s j H Q I k;refine isTrue_plain (ig (h i s j H _ I k) λv n c=>?_) (g _);refine bC c λx H1 l r1 f=>?_;clear c;refine aR f λd m q=>?_;clear f;obtain rfl:=m;cases r1;exact wM ⟨H1,l,q⟩
variable {tA tB':TT}{rest:List bq}
def aP2(t u:TT):TT:=λd H Q=>t d H λc H1=>if c=bT then u d H1 Q else Q b4 H1
def tOr(t u:TT):TT:=λd H Q=>t d H λc H1=>if c=bT then Q bT H1 else u d H1 Q
def aP3(t:TT):TT:=λd H Q=>t d H λc H1=>Q (!c) H1
def pw_and1(d:PT X a tA):PW X (.BoolOp .And [a] pos) tA:=by
 intro w f s g H Q I h;refine isTrue_and (ig (d f s g H Q I h) λc i e=>?_);cases c with
 |true=>exact isTrue_and_nil e
 |false=>exact e
def pw_or1(d:PT X a tA):PW X (.BoolOp .Or [a] pos) tA:=by
 intro w f s g H Q I h;refine isTrue_or (ig (d f s g H Q I h) λc i e=>?_);cases c with
 |false=>exact isTrue_or_nil e
 |true=>exact e
def pw_and(i:PT X a tA)(hb:PW X (.BoolOp .And (b::rest) pos) tB'):PW X (.BoolOp .And (a::b::rest) pos) (aP2 tA tB'):=by
 intro w d s e H Q I h;refine isTrue_and (ig (i d s e H _ I h) λc j J=>?_);refine aR J λH1 f g=>?_;clear J;cases c with
 |true=>exact hb w d j e H1 Q f g
 |false=>exact⟨H1,f,g⟩
def pw_or(i:PT X a tA)(hb:PW X (.BoolOp .Or (b::rest) pos) tB'):PW X (.BoolOp .Or (a::b::rest) pos) (tOr tA tB'):=by
 intro w d s e H Q I h;refine isTrue_or (ig (i d s e H _ I h) λc j J=>?_);refine aR J λH1 f g=>?_;clear J;cases c with
 |true=>exact⟨H1,f,g⟩
 |false=>exact hb w d j e H1 Q f g
def Ys(d:PT X a tA):PT X (.UnaryOp .Not a pos) (aP3 tA):=by
 intro e s f H Q I h;exact isTrue_not (d e s f H (λc H1=>Q (!c) H1) I h)
def ao1(ta tb:TE):TE:=λd H Q=>ta d H λx H1=>∃c,x=.bl c/\if c=bT then tb d H1 Q else Q (.bl b4) H1
def Yt{op}(h:PE X a t):PE X (.BoolOp op [a] pos) t:=λc s d H Q I e=>BoolOp_one (h c s d H Q I e)
def Yu(i:PE X a ta)(hb:PE X (.BoolOp .And (b::rest) pos) tb):PE X (.BoolOp .And (a::b::rest) pos) (ao1 ta tb):=by
 intro e s f H Q I h;refine BoolOp_and (ig (i e s f H _ I h) λv j k=>?_);obtain⟨x,H1,g,r1,d⟩:=k;obtain⟨c,rfl,d⟩:=d;cases r1;refine wM ?_;cases c with
 |true=>exact hb e j f H1 Q g d
 |false=>exact⟨.bl b4,H1,g,rfl,d⟩
end
def k9(K:aF)(H:Hp)(a:av)(xs:List V):Prop:=
 Rd H a (.lst xs)\/
  ∃(o:Obj) (b:Array au) (n:Nat),K.lookup a=ai o/\o.cls=.type "list" /\o.dict=aj/\o.data=.seq b n/\b.size<=cH/\Vals xs b.toList
def lT(K:aF)(H:Hp)(a:av)(xs:List V):Prop:=
 Rd H a (.tup xs)\/
  ∃(o:Obj) (b:Array au) (n:Nat),K.lookup a=ai o/\o.cls=.type "tuple" /\o.data=.seq b n/\b.size<=cH/\Vals xs b.toList
noncomputable def aP4:au->Option V
 |.none=>ai .cR
 |.bool b=>ai (.bl b)
 |.int i _=>ai (.int i)
 |.str x _=>ai (.str x)
 |.bytes b _=>ai (.byt b)
 |.float b _=>ai (.flt b)
 |.ref a=>ai (.ref a)
 |.type n=>ai (.ty n)
 |_=>aj
def RelV.abs(r:RelV x u):aP4 u=ai x:=by
 cases x with
 |cR=>cases r;rfl
 |bl _=>cases r;rfl
 |int _=>obtain⟨t,rfl⟩:=r;rfl
 |str _=>obtain⟨t,rfl⟩:=r;rfl
 |byt _=>obtain⟨t,rfl⟩:=r;rfl
 |flt _=>obtain⟨t,rfl⟩:=r;rfl
 |ref _=>cases r;rfl
 |ty _=>cases r;rfl
def RelV.inj(r:RelV x u)(q:RelV y u):x=y:=fJ (r.abs.symm.trans q.abs)
theorem Vals.inj(h:Vals xs us)(h':Vals ys us):xs=ys:=by
 induction h generalizing ys with
 |nil=>cases h';rfl
 |cons r t i=>
  cases h' with
  |cons a b=>rw[r.inj a,i b]
def k9.of{K:aF}(h:H a=ai (.lst xs)):k9 K H a xs:=.inl (.inl h)
def lT.of{K:aF}(h:H a=ai (.tup xs)):lT K H a xs:=.inl (.inl h)
def Inv.list(I:Inv X f σ H s)(h:k9 X.K H a xs):∃b:List au,Vals xs b/\PlainL s.heap a b.toArray/\xs.length<=cH:=by
 rcases h with h|⟨o,b,n,hk,c,hd,d,g,r⟩;obtain⟨z,b,n,r,e⟩:=h.ok I.fE;exact⟨b,r,⟨_,n,e,rfl,rfl,rfl⟩,z⟩;refine⟨b.toList,r,⟨o,n,I.BK a o hk,c,hd,by simpa using d⟩,?_⟩;have e:=r.length;simp only[dN]at e;lia
def Inv.tuple(I:Inv X f σ H s)(h:lT X.K H a xs):∃b:List au,Vals xs b/\IsTup s.heap a b.toArray/\xs.length<=cH:=by
 rcases h with h|⟨o,b,n,hk,c,d,g,r⟩;obtain⟨z,b,r,p⟩:=h.ok I.fE;exact⟨b,r,p,z⟩;refine⟨b.toList,r,⟨o,I.BK a o hk,c,n,by simpa using d⟩,?_⟩;have e:=r.length;simp only[dN]at e;lia
def Inv.xQ(I:Inv X l σ H s)(h:k9 X.K H a xs)(h':k9 X.K H a ys):xs=ys:=by
 refine cA (I.list h) λg r b _=>?_;obtain⟨o,n,e,_,_,d⟩:=b;refine cA (I.list h') λi j b _=>?_;obtain⟨m,p,c,_,_,f⟩:=b;rw[e]at c;cases c;rw[d]at f;injection f with k _;have:g=i:=by simpa using congrArg Array.toList k
 subst this;exact r.inj j
def Inv.KQ(I:Inv X l σ H s)(h:lT X.K H a xs)(h':lT X.K H a ys):xs=ys:=by
 refine cA (I.tuple h) λg r b _=>?_;obtain⟨o,e,_,n,d⟩:=b;refine cA (I.tuple h') λi j b _=>?_;obtain⟨m,c,_,p,f⟩:=b;rw[e]at c;cases c;rw[d]at f;injection f with k _;have:g=i:=by simpa using congrArg Array.toList k
 subst this;exact r.inj j
noncomputable abbrev Cx.dJ(X:Cx)(E:au->ay->Prop):Cx:={X with xe:=E}
theorem Cx.Ok.dJ{X:Cx}(ok:X.Ok)(E:au->ay->Prop):(X.dJ E).Ok:=
 ⟨ok.mod,ok.kind,ok.glob,ok.blt,ok.above,ok.inj,ok.has,ok.cab,ok.hd,ok.frames,ok.OV,ok.exf,ok.bs,ok.T7,ok.KN,ok.KP,ok.uy,ok.Xb⟩
def Cx.Ok.iO{X:Cx}(ok:(X.dJ E).Ok):X.Ok:=
 ⟨ok.mod,ok.kind,ok.glob,ok.blt,ok.above,ok.inj,ok.has,ok.cab,ok.hd,ok.frames,ok.OV,ok.exf,ok.bs,ok.T7,ok.KN,ok.KP,ok.uy,ok.Xb⟩
theorem Inv.dJ(I:Inv X a σ H s)(E:au->ay->Prop):Inv (X.dJ E) a σ H s:=⟨I.ok.dJ E,I.os,I.bare,I.base,I.loc,I.cell,I.free,I.qS,I.pin,I.fE,I.len⟩
theorem Inv.iO(I:Inv (X.dJ E) a σ H s):Inv X a σ H s:=⟨I.ok.iO,I.os,I.bare,I.base,I.loc,I.cell,I.free,I.qS,I.pin,I.fE,I.len⟩
theorem SP.iO(h:SP (X.dJ E) a D f s'):SP X a D f s':=by
 cases f with
 |next=>obtain⟨c,H,I,q⟩:=h;exact⟨c,H,I.iO,q⟩
 |brk=>obtain⟨c,H,I,q⟩:=h;exact⟨c,H,I.iO,q⟩
 |cont=>obtain⟨c,H,I,q⟩:=h;exact⟨c,H,I.iO,q⟩
 |ret u=>obtain⟨v,c,H,I,r,q⟩:=h;exact⟨v,c,H,I.iO,r,q⟩
section
variable {X:Cx}{st:aY}{rest:List aY}{t u:TS}
def ao2:TS:=λD a H=>D.nx a H
def ao3(t u:TS):TS:=λD a H=>t {D with nx:=u D} a H
def TM:qL X [] ao2:=λ_ _ a H _ I h=>DG ⟨a,H,I,h⟩
def DV(h1:PS X st t)(b:qL X rest u):qL X (st::rest) (ao3 t u):=by
 intro a s c H D I h;refine X0 (ig (h1 a s c H {D with nx:=u D} I h) λf d q=>?_);cases f with
 |next=>obtain⟨e,g,i,q⟩:=q;exact b a d e g D i q
 |ret v=>exact q
 |brk=>exact q
 |cont=>exact q
def vZ(h1:PS X st t):qL X [st] t:=by
 intro a s b H D I h;refine X0 (ig (h1 a s b H D I h) λf c q=>?_);cases f with
 |next=>exact DG q
 |ret v=>exact q
 |brk=>exact q
 |cont=>exact q
def Inv.quiet(I:Inv X a σ H s):interactive X.env=b4:=by simp[interactive,I.ok.kind]
def Xc(b:TE):TS:=λD a H=>b a H λ_ H1=>D.nx a H1
def sH(f:PE X e g)(hs:autoParam (swapsWith e aj pos.line X.env=pure b4) b5):PS X (.Expr e pos) (Xc g):=by
 intro i s d H D I h;exact wpAny_Expr_any (ig (f i s d H _ I h) λv l Y=>Y.elim λx a=>a.elim λH1 b=>b.elim λj c=>c.elim λr1 k=>⟨d,H1,j,k⟩) I.quiet hs
def aP8(a:TE):TS:=λD b H=>a b H D.rt
def HF(g:PE X e i):PS X (.Return (ai e) pos) (aP8 i):=by
 intro j s f H D I h;exact wpAny_Return_some (ig (g j s f H _ I h) λv m a=>a.elim λx b=>b.elim λH1 c=>c.elim λk d=>d.elim λr1 l=>⟨x,f,H1,k,r1,l⟩)
def aQ3(c:TT)(t u:TS):TS:=λD a H=>c a H λb H1=>if b=bT then t D a H1 else u D a H1
def ao4(l:PT X c m)(n:qL X a t)(hb:qL X b u):PS X (.If c a b pos) (aQ3 m t u):=by
 intro f s g H D I h;refine wpAny_If (ig (l f s g H _ I h) λd i e=>?_);refine aR e λH1 j k=>?_;clear e;cases d with
 |true=>exact n f i g H1 D j k
 |false=>exact hb f i g H1 D j k
end
abbrev TG:=V->St->Hp->(St->Hp->Prop)->Prop
abbrev TGs:=List V->St->Hp->(St->Hp->Prop)->Prop
def PG(X:Cx)(a:bq)(t:TG):Prop:=
 ∀(b:List (av×Obj)) (s:ay) (c:St) (H:Hp) (v:V) (u:au) (Q:St->Hp->Prop),Inv X b c H s->RelV v u->t v c H Q->
  aC (aE X.prog X.w) X.A (assign a X.env u) (λ_ f=>∃d e,Inv X b d e f/\Q d e) X.xe s
def PGs(X:Cx)(e:List bq)(t:TGs):Prop:=
 ∀(a:List (av×Obj)) (s:ay) (b:St) (H:Hp) (v:List V) (u:List au) (Q:St->Hp->Prop),Inv X a b H s->Vals v u->t v b H Q->
  aC (aE X.prog X.w) X.A (assignInOrder ((v9 e X.env).map (·.2)) u) (λ_ f=>∃c d,Inv X a c d f/\Q c d) X.xe s
abbrev ao6:=V->V->V->Hp->(Hp->Prop)->Prop
def ao7(X:Cx)(t:ao6):Prop:=
 ∀(a:List (av×Obj)) (s:ay) (b:St) (H:Hp) (o i v:V) (c d u:au) (Q:Hp->Prop),Inv X a b H s->RelV o c->RelV i d->RelV v u->t o i v H Q->
  aC (aE X.prog X.w) X.A (setItem c d u) (λ_ f=>∃e,Inv X a b e f/\Q e) X.xe s
def xR(i:Nat):TG:=λv a H Q=>Q (a.set i (ai v)) H
def dX(a:X.N.Nodup)(b:X.N[i]?=ai x)(c:Loc X.env.scope x)(d:autoParam (X.fn x=bT\/X.env.scope.names.lookup x=ai .local) ef):PG X (.Name x pos) (xR i):=by
 intro f s g H v u Q I r h;exact X3 (sF I a b c r (λj e=>⟨_,H,e,h⟩) d)
def ao8:TGs:=λv a H Q=>v=[]/\Q a H
def OW(t:TG)(u:TGs):TGs:=λa b H Q=>∃v r,a=v::r/\t v b H λc d=>u r c d Q
def w5:PGs X [] ao8:=by
 intro b s a H v u Q I r h;obtain⟨e,h⟩:=h;subst e;cases r;exact X9 ⟨a,H,I,h⟩
def jS(h1:PG X e t)(c:PGs X es u)
  (hs:autoParam ((v9 (e::es) X.env).map (·.2)=assign e X.env::(v9 es X.env).map (·.2)) b5):PGs X (e::es) (OW t u):=by
 intro b s d H l m Q I r h;obtain⟨v,n,f,h⟩:=h;subst f;cases r with
 |cons r g=>rw[hs];refine Od (ig (h1 b s d H _ _ _ I r h) λ_ i a=>?_);refine dW a λO H1 j k=>?_;clear a;exact c b i O H1 _ _ Q j g k
def ap0(K:aF)(n:Nat)(t:TGs):TG:=λv b H Q=>∃a x,v=.ref a/\lT K H a x/\x.length=n/\t x b H Q
def BO(i:X.calm=bT)(h:PGs X es t)
  (j:autoParam ((v9 es X.env).length=n) b5) (l:autoParam ((v9 es X.env).findIdx? (·.1)=aj) b5):PG X (.Tuple es k pos) (ap0 X.K n t):=by
 intro d s f H v u Q I r c;obtain⟨a,x,m,p,hl,c⟩:=c;subst m;cases r;obtain⟨C,g,w,E⟩:=I.tuple p;refine assign_Tuple_tuple (I.ok.hd i) w (by simp[j,<- hl,g.length]) l λy z=>?_;have A:Inv X d f H {s with heap:=y}:=I.kept (t':=s.toks) λb o e=>z b o (dM (bZ e)) e;exact h d _ f H x _ Q A (by simpa using g) c
noncomputable def mO(to b:TE)(t:ao6):TG:=λv a H Q=>to a H λo H1=>b a H1 λi c=>t o i v c λd=>Q a d
def Yw(j:PE X o to)(k:PE X i l)(hs:ao7 X t)
  (m:autoParam (∀v,assign (.Subscript o i pos) X.env v=(do
   let a <- holding [v] (eval o X.env)
   let b <- holding [v,a] (eval i X.env)
   standAt pos
   holding [v,a,b] (setItem a b v)
   release [v,a,b] [])) dF):PG X (.Subscript o i pos) (mO to l t):=by
 intro g s f H v u Q I r h;rw[m];refine ak (jb (ig (j g s f H _ I h) λa n c=>?_));refine bC c λx H1 p r1 w=>?_;clear c;refine ak (jb (ig (k g n f H1 _ p w) λb z d=>?_));refine bC d λy A C r2 E=>?_;clear d;refine ak (Am (ak (jb (ig (hs g z f A x y v a b u _ C r1 r2 r E) λ_ M e=>?_))));refine aR e λF J L=>?_;clear e;exact wpAny_release ⟨f,F,J,L⟩
def ap4(t:TE)(g:TG):TS:=λD a H=>t a H λx H1=>g x a H1 D.nx
def OY(d:PE X e f)(i:PG X t g)(hs:autoParam (swapsWithSole [t] e pos.line X.env=pure b4) b5)(j:autoParam (swappedStores [t] e X.env=pure aj) b5)
  (h1:autoParam ((v9 [t] X.env).map (·.2)=[assign t X.env]) b5):PS X (.Assign [t] e pos) (ap4 f g):=by
 intro b s c H D I h;refine wpAny_Assign_stores (ig (d b s c H _ I h) λv k a=>?_) hs j;refine bC a λx H1 l r1 m=>?_;clear a;rw[h1];exact ig (i b k c H1 x v _ l r1 m) λ_ n q=>q
def HG(b:X.N.Nodup)(c:X.N[i]?=ai x)(d:Loc X.env.scope x)(f:PE X e t)(hs:autoParam (swapsWith e (ai (.Name x pos')) pos.line X.env=pure b4) b5)(g:autoParam (X.fn x=bT\/X.env.scope.names.lookup x=ai .local) ef) :
  PS X (.Assign [.Name x pos'] e pos) (ap4 t (xR i)):=by
 intro j s k H D I h;refine wpAny_Assign_Name (ig (f j s k H _ I h) λv o a=>?_) hs;refine bC a λy H1 l r1 m=>?_;clear a;exact sF l b c d r1 (λp n=>⟨_,H1,n,m⟩) g
def aQ4(i j:Nat)(t:TA):TS:=λD a H=>t a H λb H1=>∃v w,b=[v,w]/\D.nx ((a.set i (ai v)).set j (ai w)) H1
def Yx{kt k2 Y}(A:X.calm=bT)(k:X.N.Nodup)(C:X.N[i]?=ai x)(E:X.N[j]?=ai y)(F:i≠j)
  (l:X.env.scope.names.lookup x=ai .local) (m:X.env.scope.names.lookup y=ai .local) (J:PA X [a,b] L)
  (M:swappedStores [.Tuple [.Name x n,.Name y py] kt pt] (.Tuple [a,b] k2 Y) X.env=pure (ai [x,y]))
  (hs:autoParam (swapsWithSole [.Tuple [.Name x n,.Name y py] kt pt] (.Tuple [a,b] k2 Y) pos.line X.env=pure b4) b5) :
  PS X (.Assign [.Tuple [.Name x n,.Name y py] kt pt] (.Tuple [a,b] k2 Y) pos) (aQ4 i j L):=by
 intro r s t H D I h;rw[exec_Assign_arm];refine ak (Am ?_);rw[hs];refine ak (aB ?_);rw[bh7 (by decide)];refine ak (Tuple_ (ig (J _ r s t H _ I h) λN c f=>?_));refine bC f λvs H1 O r1 g=>?_;clear f;obtain⟨v,w,P,g⟩:=g;subst P;obtain⟨u,d,rfl,Q,S⟩:∃u d,N=[u,d]/\RelV v u/\RelV w d:=by
  cases r1 with
  |cons p q=>
   cases q with
   |cons T U=>cases U;exact⟨_,_,rfl,p,T⟩
 refine kN ?_ (by show 2<=cH;decide);have Z:Inv X r t H1 {c with heap:=c.heap.push {cls:=.type "tuple",data:=.seq [u,d].toArray}}:=O.kept (t':=c.toks) λb o e=>bP _ e;rw[M];refine ak (aB ?_);show aC (aE X.prog X.w) X.A (do rule "assign.swapped-stores";let items <- unpackItems (.ref c.heap.objs.size) 2 aj;assignInOrder [λv=>bindName X.env y v,λv=>bindName X.env x v] items.reverse;pure Flow.next) _ _ _;refine ak (wN (ak (unpackItems_tuple (items:=#[u,d]) (I.ok.hd A) (Oh c.heap _) λh' qT=>?_)));have I3:=Z.kept (h':=h') (t':=c.toks) λb o e=>qT b o (dM (bZ e)) e;show aC _ _ (assignInOrder [λv=>bindName X.env y v,λv=>bindName X.env x v] [d,u]>>=λ_=>pure Flow.next) _ _ _;refine ak (Od (wpAny_bindName (sF I3 k E (.inl m) S (λs2 I4=>?_) (.inr m))));refine Od (wpAny_bindName (sF I4 k C (.inl l) Q (λs3 z=>X9 (aB ?_)) (.inr l)));rw[List.set_comm _ _ (eW F)]at z;exact⟨_,H1,z,g⟩
def Yz(c:TT)(t:TS):TS:=λD a H=>∃W:Nat->St->Hp->Prop,(∃m,W m a H)/\∀m a H,W m a H->
 c a H λb H1=>if b=bT then ∃N:St->Hp->Prop,(∀d e,N d e->∃f,f<m/\W f d e)/\t {D with nx:=N,ct:=N,bk:=D.nx} a H1 else D.nx a H1
def P0(p:PassesOwn (aE X.prog X.w) X.A X.env X.xe)(A:PT X c C)(hb:qL X body E):PS X (.While c body [] pos) (Yz C E):=by
 intro j s F H D I h;refine aR h λW J t=>?_;clear h;obtain⟨L,M⟩:=J;refine wpAny_While (codeAny_whileLoop (λn P=>∃r u,Inv X j r u P/\W n r u) ?_ L ⟨F,H,I,M⟩);rintro n Q ⟨O,H1,S,T⟩;refine wO p (ig (A j Q O H1 _ S (t n O H1 T)) λb U d=>?_);refine aR d λx y i=>?_;clear d;cases b with
 |true=>
  obtain⟨N,z,i⟩:=i;rw[bh6 rfl];refine wO p (ig (hb j U O x _ y i) λf Y a=>?_);cases f with
  |next=>refine dW a λe g k l=>?_;clear a;refine aR (z e g l) λm o w=>?_;exact⟨m,o,e,g,k,w⟩
  |cont=>refine dW a λe g k l=>?_;clear a;refine aR (z e g l) λm o w=>?_;exact⟨m,o,e,g,k,w⟩
  |brk=>exact a
  |ret v=>exact a
 |false=>rw[bh7 jd];exact DG ⟨O,x,y,i⟩
structure It where
 go:Nat->Hp->Prop
 yld:Nat->Hp->V->Hp->Prop
 stop:Nat->Hp->Prop
def BP(X:Cx)(a:List (av×Obj))(H:Hp)(b:av):Prop:=
 H b=aj/\b≠X.env.locals/\b∉X.fs/\(b∈X.ex\/X.jq.heap.objs.size<=b)/\(∀x c,X.env.cells.lookup x=ai c->c≠b)/\∀p∈X.pn++a,p.1≠b
def Inv.KR(I:Inv X a σ H s)(hb:s.heap.objs.size<=b)(h:d b=aj):BP X a d b:=by
 refine⟨h,DH (gO I.lt hb),I.aO9 hb,.inr (cz I.sz hb),λx c e z=>?_,λp f z=>?_⟩;obtain⟨v,q⟩:=I.cell x c e;exact bi8 (gO q.lt (by rw[z];exact hb)) (sC _);exact bi8 (gO (bZ (I.pin p f).1) (by rw[z];exact hb)) (sC _)
structure Turn(P:dz)(w:bL)(K:aF)(tg:bq)(J:It)(fp:List av)(it:av)(tn:Nat->aW->Prop):Prop where
 mem:it∈fp
 obj:∀i h,tn i h->∀b∈fp,∃o,h.get? b=ai o/\∀v,o.data≠.cell v
 keep:∀i h h',tn i h->(∀b∈fp,∀o,h.get? b=ai o->h'.get? b=ai o)->tn i h'
 item:∀(X:Cx),X.prog=P->X.w=w->X.K=K->X.calm=bT->∀(i:Nat) (ao:List (av×Obj)) (s:ay) (σ:St) (H:Hp) (E:au->ay->Prop),Inv X ao σ H s->(∀b∈fp,BP X ao H b)->tn i s.heap->J.go i H->
  aC (aE P w) X.A (pyNext (.ref it)) (λr s1=>∃u,r=ai u/\
   aC (aE P w) X.A (letOwnedTupleGo tg (.ref it) u) (λ_ s2=>∃x H',Inv X ao σ H' s2/\RelV x u/\J.yld i H x H'/\tn (i+1) s2.heap/\∀b∈fp,H' b=aj) E s1) E s
 done:∀(X:Cx),X.prog=P->X.w=w->X.K=K->X.calm=bT->∀(i:Nat) (ao:List (av×Obj)) (s:ay) (σ:St) (H:Hp) (E:au->ay->Prop),Inv X ao σ H s->(∀b∈fp,BP X ao H b)->tn i s.heap->J.stop i H->
  aC (aE P w) X.A (pyNext (.ref it)) (λr s1=>r=aj/\Inv X ao σ H s1) E s
 self:∀(A:cy) (i:Nat) (s:ay) (Q:au->ay->Prop) (E:au->ay->Prop),tn i s.heap->Q (.ref it) s->aC (aE P w) A (pyIter (.ref it)) Q E s
abbrev TI:=St->Hp->(It->Hp->Prop)->Prop
def PIE(X:Cx)(a:List (av×Obj))(d:St)(e:bq)(R:It->Hp->Prop)(i:au)(s:ay):Prop:=
 ∃(c:av) (fp:List av) (t:Nat->aW->Prop) (J:It) (H:Hp),i=.ref c/\Inv X a d H s/\Turn X.prog X.w X.K e J fp c t/\t 0 s.heap/\(∀b∈fp,BP X a H b)/\R J H
def PI(X:Cx)(t iter:bq)(w:TI):Prop:=
 ∀(b:List (av×Obj)) (s:ay) (a:St) (H:Hp) (R:It->Hp->Prop),Inv X b a H s->w a H R->
  aC (aE X.prog X.w) X.A (eval iter X.env) (λv c=>aC (aE X.prog X.w) X.A (pyIter v) (PIE X b a t R) X.xe c) X.xe s
def Jt{s:ay}{Q:Unit->ay->Prop}(b:s.heap.get? it=ai o)(c:o.cls=.type n)(hd:o.data=.fields vs)
    (d:["enumerate","zip","dict_itemiterator","dict_reverseitemiterator","odict_iterator","itertools.zip_longest","itertools.pairwise"].contains n=b4) (a:Q () s):aC M A (letOwnedTupleGo t (.ref it) u) Q E s:=by
  unfold letOwnedTupleGo;cases t <;> first
    |exact aB a
    | (cases u <;> first
        |exact aB a
        | (refine ak (wpAny_load b ?_)
           rw[c,hd]
           show aC M A (if(["enumerate","zip","dict_itemiterator","dict_reverseitemiterator","odict_iterator","itertools.zip_longest","itertools.pairwise"].contains n&&vs[0]?==ai (rawInt _))=bT then _ else _) Q E s
           rw[bh7 (by intro h;rw[d,Bool.false_and]at h;cases h)]
           exact aB a))
def Itl(K:aF)(a:av):It:=
 ⟨λi H=>∃b x,k9 K H a b/\b[i]?=ai x,λi H x c=>c=H/\∀b,k9 K H a b->b[i]?=ai x,λi H=>∃b,k9 K H a b/\b.length<=i⟩
def Itt(K:aF)(a:av):It:=
 ⟨λi H=>∃b x,lT K H a b/\b[i]?=ai x,λi H x c=>c=H/\∀b,lT K H a b->b[i]?=ai x,λi H=>∃b,lT K H a b/\b.length<=i⟩
def Itr(lo:Int)(n:Nat):It:=⟨λi _=>i<n,λi H x a=>a=H/\x=.int (lo+i),λi _=>n<=i⟩
def KU{P:dz}{w:bL}{K:aF}{O:bq}(a f:av):Turn P w K O (Itl K a) [f] f (λi h=>h.IsListIter f a i) where
 mem:=by simp
 obj:=λi h st b hb=>by
  have e:b=f:=by simpa using hb
  subst e;refine cA st λo e c d=>?_;clear st;exact⟨o,e,λv z=>by rw[d]at z;cases z⟩
 keep:=λi h l st k=>st.at λo e=>k f (by simp) o e
 item:=by
  intro X r t y L i M s N H E I m st g;subst r t y;refine dW g λQ x n A=>?_;clear g;refine cA (I.list n) λS C p T=>?_;refine aR (C.get A) λu U Y=>?_;refine vL (m f (by simp)) λF f1 f2 f3 f4 J=>?_;refine X4 st p.isList (x:=u) (by simpa using U) λl j Z=>?_;have I1:Inv X M N H {s with heap:=l}:=I.turned (t':=s.toks) (λb o hb e=>(Z.2 b hb).trans e) F f1 f3 f4 J;refine cA (id j) λo e c d=>?_;exact⟨u,rfl,Jt (s:={s with heap:=l}) e c d (by decide) ⟨x,H,I1,Y,⟨rfl,λys hy=>by rw[I.xQ hy n];exact A⟩,j,λb hb=>(m b hb).1⟩⟩
 done:=by
  intro X r t y L i M s N H E I m st g;subst r t y;refine aR g λQ n A=>?_;clear g;refine cA (I.list n) λS C p T=>?_;refine vL (m f (by simp)) λF f1 f2 f3 f4 J=>?_;have hl:=C.length;exact X5 (I.ok.hd L) st p.isList (by simp;lia) λl eb=>⟨rfl,I.turned (t':=s.toks) (λb o hb e=>eb b o hb e) F f1 f3 f4 J⟩
 self:=λ_ _ _ _ _ st h=>wpAny_pyIter_listiter st h
def HH{P:dz}{w:bL}{K:aF}{Q:bq}(a f:av):Turn P w K Q (Itt K a) [f] f (λi h=>h.IsTupleIter f a i) where
 mem:=by simp
 obj:=λi h st b hb=>by
  have e:b=f:=by simpa using hb
  subst e;refine cA st λo e c d=>?_;clear st;exact⟨o,e,λv z=>by rw[d]at z;cases z⟩
 keep:=λi h l st k=>st.at λo e=>k f (by simp) o e
 item:=by
  intro X r t y M i N s O H E I m st g;subst r t y;refine dW g λS x n A=>?_;clear g;refine cA (I.tuple n) λC F p T=>?_;refine aR (F.get A) λu U Y=>?_;refine vL (m f (by simp)) λJ f1 f2 f3 f4 L=>?_;refine wpAny_pyNext_tuple_item st (show s.heap.IsTuple a C.toArray from p) (x:=u) (by simpa using U) λl j Z=>?_;have I1:Inv X N O H {s with heap:=l}:=I.turned (t':=s.toks) (λb o hb e=>(Z.2 b hb).trans e) J f1 f3 f4 L;refine cA (id j) λo e c d=>?_;exact⟨u,rfl,Jt (s:={s with heap:=l}) e c d (by decide) ⟨x,H,I1,Y,⟨rfl,λys hy=>by rw[I.KQ hy n];exact A⟩,j,λb hb=>(m b hb).1⟩⟩
 done:=by
  intro X r t y M i N s O H E I m st g;subst r t y;refine aR g λS n A=>?_;clear g;refine cA (I.tuple n) λC F p T=>?_;refine vL (m f (by simp)) λJ f1 f2 f3 f4 L=>?_;have hl:=F.length;exact wpAny_pyNext_tuple_end (I.ok.hd M) st (show s.heap.IsTuple a C.toArray from p) (by simp;lia) λl eb=>⟨rfl,I.turned (t':=s.toks) (λb o hb e=>eb b o hb e) J f1 f3 f4 L⟩
 self:=λ_ _ _ _ _ st h=>wpAny_pyIter_tupleiter st h
def HJ{P:dz}{w:bL}{K:aF}{A:bq}(a:av)(lo:Int)(n:Nat):Turn P w K A (Itr lo n) [a] a (λi h=>IsRangeIter h a (lo+(i:Nat)*1) ((n:Int)-(i:Nat)) 1) where
 mem:=by simp
 obj:=λi h st b hb=>by
  have e:b=a:=by simpa using hb
  subst e;exact⟨_,st,λv z=>by
   have C:Data.fields _=Data.cell v:=z;cases C⟩
 keep:=λi h d st k=>k a (by simp) _ st
 item:=by
  intro X g j l m i x s y H E I f st p;subst g j l;refine vL (f a (by simp)) λr f1 f2 f3 f4 u=>?_;have W:=Walks.range (prog:=X.prog) (w:=X.w) (I.ok.hd m) a lo 1 n;refine W.item i s _ _ p st λv d tk F c J=>?_;obtain⟨t,rfl⟩:=F;have L:Inv X x y H {s with heap:=d,toks:=tk}:=I.turned (λb o hb e=>J b o (by simpa using hb) e) r f1 f3 f4 u;refine⟨_,rfl,Jt (s:={s with heap:=d,toks:=tk}) (n:="range_iterator") c rfl rfl (by decide) ⟨.int (lo+i),H,L,⟨t,?_⟩,⟨rfl,rfl⟩,c,λb hb=>(f b hb).1⟩⟩;rw[Int.mul_one]
 done:=by
  intro X g j l m i x s y H E I f st p;subst g j l;refine vL (f a (by simp)) λr f1 f2 f3 f4 u=>?_;exact wpAny_pyNext_range_end (I.ok.hd m) st (by have:n<=i:=p;lia) λd M=>⟨rfl,I.turned (t':=s.toks) (λb o hb e=>M b o hb e) r f1 f3 f4 u⟩
 self:=λ_ _ _ _ _ st h=>wpAny_pyIter_rangeiter st h
def ap9(K:aF)(t:TE):TI:=λb H R=>t b H λx H1=>∃a,x=.ref a/\(∃c,k9 K H1 a c)/\R (Itl K a) H1
def aQ5(K:aF)(t:TE):TI:=λb H R=>t b H λx H1=>∃a,x=.ref a/\(∃c,lT K H1 a c)/\R (Itt K a) H1
def w6{l:bq}{t:TE}(hl:PE X l t):PI X n l (ap9 X.K t):=by
 intro i s j H R I h;refine ig (hl i s j H _ I h) λv d c=>?_;refine bC c λx H1 f r1 g=>?_;clear c;refine cA g λa e k q=>?_;clear g;obtain⟨r,m⟩:=k;subst e;cases r1;refine cA (f.list m) λu w p y=>?_;refine MT p.isList ?_;refine⟨d.heap.objs.size,[d.heap.objs.size],_,_,H1,rfl,f.kept (t':=d.toks) λb o e=>bP _ e,KU a _,⟨_,eY _ rfl,rfl,rfl⟩,λb hb=>?_,q⟩;have e:b=d.heap.objs.size:=by simpa using hb
 subst e;exact f.KR (b9 _) (f.fE.fresh (b9 _))
def YA{l:bq}{t:TE}(hl:PE X l t):PI X r l (aQ5 X.K t):=by
 intro i s j H R I h;refine ig (hl i s j H _ I h) λv c d=>?_;refine bC d λx H1 f r1 g=>?_;clear d;refine cA g λa e k q=>?_;clear g;obtain⟨u,m⟩:=k;subst e;cases r1;refine cA (f.tuple m) λn w p y=>?_;refine wpAny_pyIter_tuple (show c.heap.IsTuple a n.toArray from p) ?_;refine⟨c.heap.objs.size,[c.heap.objs.size],_,_,H1,rfl,f.kept (t':=c.toks) λb o e=>bP _ e,HH a _,⟨_,eY _ rfl,rfl,rfl⟩,λb hb=>?_,q⟩;have e:b=c.heap.objs.size:=by simpa using hb
 subst e;exact f.KR (b9 _) (f.fE.fresh (b9 _))
def P6{R:It->Hp->Prop}{lo h:Int}{tk:Nat}(I:Inv X c σ H s)(h1 : -(2 ^ 62)<=lo)(d:lo<2 ^ 62)(f : -(2 ^ 62)<=h)(g:h<2 ^ 62)
  (q:R (Itr lo (h-lo).toNat) H):aC (aE X.prog X.w) X.A (pyIter (.ref s.heap.objs.size)) (PIE X c σ k R) E {s with heap:=s.heap.push {cls:=.type "range",data:=.fields #[.int lo t,.int h u,.int 1 v]},toks:=tk}:=by
 refine wpAny_pyIter_range (IsRange.new ..) (small_one h1 d f g) ?_;have a:Inv X c σ H {s with heap:=s.heap.push {cls:=.type "range",data:=.fields #[.int lo t,.int h u,.int 1 v]},toks:=tk}:=I.kept λb o e=>bP _ e;refine⟨(s.heap.push {cls:=.type "range",data:=.fields #[.int lo t,.int h u,.int 1 v]}).objs.size,[(s.heap.push {cls:=.type "range",data:=.fields #[.int lo t,.int h u,.int 1 v]}).objs.size],_,_,H,rfl,
  a.kept (t':=tk) λb o e=>bP _ e,HJ _ lo (h-lo).toNat,?_,λb hb=>?_,q⟩
 have i:lo+((0:Nat):Int)*1=lo:=by simp
 have j:(((h-lo).toNat:Nat):Int)-((0:Nat):Int)=Builtin.Range.rangeSize lo h 1:=by rw[rangeSize_one];split <;> lia
 show IsRangeIter _ _ (lo+((0:Nat):Int)*1) ((((h-lo).toNat:Nat):Int)-((0:Nat):Int)) 1;rw[i,j];exact eY _ rfl;have e:b=(s.heap.push {cls:=.type "range",data:=.fields #[.int lo t,.int h u,.int 1 v]}).objs.size:=by simpa using hb
 subst e;exact a.KR (b9 _) (a.fE.fresh (b9 _))
def aq2(t:TA):TI:=λa H R=>t a H λv H1=>∃j:Int,v=[.int j]/\ -(2 ^ 62)<=j/\j<2 ^ 62/\R (Itr 0 j.toNat) H1
def KW{a:bq}{p:Pos}(d:Gl X "range")(f:X.mg "range"=aj)(g:PA X [a] i)(hs:autoParam (bF [a] X.env=[(b4,eval a X.env)]) b5):PI X u (.Call (.Name "range" p) [a] [] pos) (aq2 i):=by
 intro k s l H R I h;refine Call_ (uA I d f boot_range (Oe (ig (g pos k s l H _ I h) λv w b=>?_) hs rfl));refine bC b λx H1 m r1 c=>?_;clear b;obtain⟨j,e,c,n,q⟩:=c;subst e;cases r1 with
 |cons r o=>cases o;obtain⟨t,rfl⟩:=r;exact call_range_1 (P6 m (by lia) (by lia) c n (by simpa using q))
def aQ6(w:TI)(g:TG)(t:TS):TS:=λD a H=>w a H λJ H1=>∃W:Nat->Nat->St->Hp->Prop,(∃m,W 0 m a H1)/\∀i m a H,W i m a H->
 (J.stop i H/\D.nx a H)\/(J.go i H/\∃N:St->Hp->Prop,(∀c b,N c b->∃d,d<m/\W (i+1) d c b)/\∀x b,J.yld i H x b->g x a b λe f=>t {D with nx:=N,ct:=N,bk:=D.nx} e f)
noncomputable def xS(fp:List av)(h:aW):List (av×Obj):=fp.filterMap λb=>(h.get? b).map λo=>(b,o)
def nV{h:aW}(hb:b∈fp)(e:h.get? b=ai o):(b,o)∈xS fp h:=x9.mpr ⟨b,hb,by rw[e];rfl⟩
def KY(a:p∈xS fp h):p.1∈fp/\h.get? p.1=ai p.2:=by
 refine aR (x9.mp a) λb hb e=>?_;cases q:h.get? b with
 |none=>rw[q]at e;cases e
 |some o=>rw[q]at e;have c:(b,o)=p:=fJ e;subst c;exact⟨hb,q⟩
def Inv.pinned(I:Inv X a σ H s)(h:∀b∈fp,BP X a H b)(f:∀b∈fp,∃o,s.heap.get? b=ai o/\∀v,o.data≠.cell v):Inv X (a++xS fp s.heap) σ H s:=
 I.sE λp g=>(i6.mp g).elim (λz=>I.pin p (mW _ z)) λz=>by
  obtain⟨hb,e⟩:=KY z;refine Hx (h p.1 hb) λi f1 f2 _=>?_;refine aR (f p.1 hb) λo c d=>?_;rw[e]at c;cases c;exact⟨e,i,f1,f2,d⟩
def Inv.xT(I:Inv X (a++b) σ H s):Inv X a σ H s:=I.sE λp h=>I.pin p (mW _ (DJ _ h))
def xU(t:PassesOwn (aE X.prog X.w) X.A X.env X.xe)(hc:X.calm=bT)(hi:PI X tg iter wi)(hg:PG X tg g)(hb:qL X body tb)
  (hs:autoParam (∀x,oM iter X.env x=pure x) dF):PS X (.For tg iter body [] pos) (aQ6 wi g tb):=by
 intro p s σ H D I h;refine wpAny_For (ig (hi p s σ H _ I h) λv s1 h1=>ig h1 λitv s2 h2=>?_) hs;obtain⟨it,fp,tn,J,H2,e,I2,T,mP,f2,W,⟨m0,w0⟩,w⟩:=h2;subst e;have Y:∀{k:Hp},(∀b∈fp,k b=aj)->∀b∈fp,BP X p k b:=λhn b hb=>⟨hn b hb,(f2 b hb).2⟩
 refine codeAny_forLoop_any (λn s'=>∃i y k,Inv X p y k s'/\tn i s'.heap/\(∀b∈fp,k b=aj)/\W i n y k) ?_ m0 ⟨0,σ,H2,I2,mP,λb hb=>(f2 b hb).1,w0⟩;rintro n s3 ⟨i,z,Q,I3,w9,A,w3⟩;rcases w i n z Q w3 with⟨C,qn⟩|⟨go,N,hN,E⟩;refine wO t (ig (T.done X rfl rfl rfl hc i p s3 z Q X.xe I3 (Y A) w9 C) λr s4 S=>?_);obtain⟨hr,I4⟩:=S;subst hr;exact DG ⟨z,Q,I4,qn⟩;refine wO t (ig (T.item X rfl rfl rfl hc i p s3 z Q X.xe I3 (Y A) w9 go) λr s4 F=>?_);refine aR F λu hr h4=>?_;clear F;subst hr;refine wO t (ig h4 λ_ s5 L=>?_);refine Hy L λx H5 I5 r5 y5 U Z=>?_;clear L;have I5':=I5.pinned (Y Z) (T.obj _ _ U);refine wO t (ig (hg _ s5 z H5 x u _ I5' r5 (E x H5 y5)) λ_ s6 M=>?_);refine dW M λYC H6 I6 q6=>?_;clear M;refine wO t (ig (hb _ s6 YC H6 _ I6 q6) λf s7 l=>?_);have a:∀{P:St} {c:Hp},Inv X (p++xS fp s5.heap) P c s7->N P c->∃m,m<n/\∃i y k,Inv X p y k s7/\tn i s7.heap/\(∀b∈fp,k b=aj)/\W i m y k:=λ{P c} j O=>by refine aR (hN P c O) λm' hm w7=>?_;refine⟨m',hm,i+1,P,c,j.xT,T.keep _ _ _ U λb hb o e=>(j.pin (b,o) (mW _ (mW _ (nV hb e)))).1,λb hb=>?_,w7⟩;refine aR (T.obj _ _ U b hb) λo e d=>?_;exact(j.pin (b,o) (mW _ (mW _ (nV hb e)))).2.1
 cases f with
 |next=>obtain⟨P,c,j,O⟩:=l;exact a j O
 |cont=>obtain⟨P,c,j,O⟩:=l;exact a j O
 |brk=>obtain⟨P,c,j,l⟩:=l;exact⟨P,c,j.xT,l⟩
 |ret v=>obtain⟨x7,P,c,j,r7,l⟩:=l;exact⟨x7,P,c,j.xT,r7,l⟩
abbrev R2:=V->V->Hp->VK->Prop
def qx(X:Cx)(f:au->au->Sem au)(r:R2):Prop:=
 ∀(a:List (av×Obj)) (s:ay) (b:St) (H:Hp) (x y:V) (v u:au) (Q:VK),Inv X a b H s->RelV x v->RelV y u->r x y H Q->
  aC (aE X.prog X.w) X.A (f v u) (EP X a b Q) X.xe s
def UnR(X:Cx)(f:au->Sem au)(r:V->Hp->VK->Prop):Prop:=
 ∀(a:List (av×Obj)) (s:ay) (b:St) (H:Hp) (x:V) (v:au) (Q:VK),Inv X a b H s->RelV x v->r x H Q->
  aC (aE X.prog X.w) X.A (f v) (EP X a b Q) X.xe s
def mX(X:Cx)(f:au)(r:List V->Hp->VK->Prop):Prop:=
 ∀(a:List (av×Obj)) (s:ay) (b:St) (H:Hp) (x:List V) (u:List au) (Q:VK),Inv X a b H s->Vals x u->r x H Q->
  aC (aE X.prog X.w) X.A (call f u) (EP X a b Q) X.xe s
def tOp(r:R2)(t b:TE):TE:=λa H Q=>t a H λx H1=>b a H1 λy c=>r x y c Q
def tUn(r:V->Hp->VK->Prop)(t:TE):TE:=λa H Q=>t a H λx H1=>r x H1 Q
def rI(C:Int->Int->Prop)(g:Int->Int->V):R2:=λx y H Q=>∃i j,x=.int i/\y=.int j/\C i j/\Q (g i j) H
def Ju(g:Int->Int->V):R2:=λx y H Q=>∃i j,x=.int i/\y=.int j/\Q (g i j) H
def rU(g:Int->V):V->Hp->VK->Prop:=λx H Q=>∃i,x=.int i/\Q (g i) H
def YD(i:PE X a t)(hb:PE X b j){R:V->V->Hp->Prop}(I:Inv X g σ H s)
  (h:t σ H λx H1=>j σ H1 λy H2=>R x y H2) {f:au->au->Sem au}
  (k:∀v u e x y H2,Inv X g σ H2 e->RelV x v->RelV y u->R x y H2->aC (aE X.prog X.w) X.A (f v u) Q X.xe e) :
  aC (aE X.prog X.w) X.A (eval a X.env) (λv l=>aC (aE X.prog X.w) X.A (eval b X.env) (λu T=>aC (aE X.prog X.w) X.A (f v u) Q X.xe T) X.xe l) X.xe s:=by
 refine ig (i g s σ H _ I h) λv m c=>?_;refine bC c λx H1 n r1 o=>?_;clear c;refine ig (hb g m σ H1 _ n o) λu e d=>?_;refine bC d λy H2 p r2 r=>?_;clear d;exact k v u e x y H2 p r1 r2 r
def aq9(c:qx X (binaryOp op) r)(d:PE X a t)(hb:PE X b e):PE X (.BinOp a op b pos) (tOp r t e):=by
 intro f s g H Q I h;exact wpAny_BinOp (YD d hb I h λv u i x y j k l m q=>c f i g j x y v u Q k l m q)
def ar0(i:UnR X (unaryOp op) r)(j:PE X a t):PE X (.UnaryOp op a pos) (tUn r t):=by
 intro f s g H Q I h;exact UnaryOp_ (ig (j f s g H _ I h) λv k b=>b.elim λx c=>c.elim λH1 d=>d.elim λl e=>e.elim λr1 m=>i f k g H1 x v Q l r1 m)
def opI{f:au->au->Sem au}{C:Int->Int->Prop}{g:Int->Int->Int}
  (r:∀(i j:Int) (t u:Tok) (s:ay) (Q:au->ay->Prop) (E:au->ay->Prop),C i j->Q (.int (g i j) s.toks) {s with toks:=s.toks+1}->aC (aE X.prog X.w) X.A (f (.int i t) (.int j u)) Q E s) :
  qx X f (rI C λi j=>.int (g i j)):=by
 intro l s m H x y v u Q I a b h;refine ux h λi j c d e q=>?_;clear h;obtain rfl:=c;obtain rfl:=d;obtain⟨t,rfl⟩:=a;obtain⟨k,rfl⟩:=b;exact r i j t k s _ _ e ⟨.int (g i j),H,I.tok _,⟨_,rfl⟩,q⟩
def ar1{f:au->au->Sem au}{g:Int->Int->Int}
  (r:∀(i j:Int) (t u:Tok) (s:ay) (Q:au->ay->Prop) (E:au->ay->Prop),Q (.int (g i j) s.toks) {s with toks:=s.toks+1}->aC (aE X.prog X.w) X.A (f (.int i t) (.int j u)) Q E s) :
  qx X f (Ju λi j=>.int (g i j)):=by
 intro k s l H x y v u Q I a b h;refine bC h λi j c d q=>?_;clear h;obtain rfl:=c;obtain rfl:=d;obtain⟨t,rfl⟩:=a;obtain⟨e,rfl⟩:=b;exact r i j t e s _ _ ⟨.int (g i j),H,I.tok _,⟨_,rfl⟩,q⟩
def TQ{f:au->au->Sem au}{g:Int->Int->Bool}
  (r:∀(i j:Int) (t u:Tok) (s:ay) (Q:au->ay->Prop) (E:au->ay->Prop),Q (.bool (g i j)) s->aC (aE X.prog X.w) X.A (f (.int i t) (.int j u)) Q E s) :
  qx X f (Ju λi j=>.bl (g i j)):=by
 intro k s l H x y v u Q I a b h;refine bC h λi j c d q=>?_;clear h;obtain rfl:=c;obtain rfl:=d;obtain⟨t,rfl⟩:=a;obtain⟨e,rfl⟩:=b;exact r i j t e s _ _ ⟨.bl (g i j),H,I,rfl,q⟩
def ar2(i j:Int):Prop:=0<j/\j<1073741824
def TR(i j:Int):Prop:=(-(2 ^ 64)<i/\i<2 ^ 64)\/(-(2 ^ 64)<j/\j<2 ^ 64)
def TR.ok(h:TR i j):IntMulOk i j:=by
 rcases h with⟨a,b⟩|⟨a,b⟩;exact .of_left (intBits_le_64 a b);exact .of_right (intBits_le_64 a b)
def YE:qx X (binaryOp .Add) (Ju λi j=>.int (i+j)):=ar1 λ_ _ _ _ _ _ _ q=>add_int q
def YF:qx X (binaryOp .Sub) (Ju λi j=>.int (i-j)):=ar1 λ_ _ _ _ _ _ _ q=>sub_int q
def YG:qx X (binaryOp .Mult) (rI TR λi j=>.int (i*j)):=opI λ_ _ _ _ _ _ _ h q=>mul_int q h.ok
def TU:qx X (binaryOp .FloorDiv) (rI ar2 λi j=>.int (i / j)):=opI λi j _ _ _ _ _ h q=>by
 have a:(0:Int)<j:=h.1;have b:j<1073741824:=h.2;exact floordiv_int (by lia) (by rw[Int.fdiv_eq_ediv_of_nonneg i (by lia)];exact q) (.inl (PyProof.noPylong_small (by lia)))
def YH:qx X (binaryOp .Mod) (rI (λ_ j=>0<j) λi j=>.int (i % j)):=opI λi j _ _ _ _ _ h q=>by
 have a:(0:Int)<j:=h;exact mod_int' (by lia) (by rw[Int.fmod_eq_emod_of_nonneg i (by lia)];exact q)
def unI{f:au->Sem au}{g:Int->Int}
  (r:∀(i:Int) (t:Tok) (s:ay) (Q:au->ay->Prop) (E:au->ay->Prop),Q (.int (g i) s.toks) {s with toks:=s.toks+1}->aC (aE X.prog X.w) X.A (f (.int i t)) Q E s) :
  UnR X f (rU λi=>.int (g i)):=by
 intro b s c H x v Q I a h;refine aR h λi j q=>?_;clear h;obtain rfl:=j;obtain⟨t,rfl⟩:=a;exact r i t s _ _ ⟨.int (g i),H,I.tok _,⟨_,rfl⟩,q⟩
def YI:UnR X (unaryOp .USub) (rU λi=>.int (-i)):=unI λ_ _ _ _ _ q=>neg_int q
def ar3:qx X (i0 .Lt) (Ju λi j=>.bl (decide (i<j))):=TQ λ_ _ _ _ _ _ _ q=>lt_int q
def Au:qx X (i0 .LtE) (Ju λi j=>.bl (decide (i<=j))):=TQ λ_ _ _ _ _ _ _ q=>le_int q
def ar4:qx X (i0 .Gt) (Ju λi j=>.bl (decide (j<i))):=TQ λ_ _ _ _ _ _ _ q=>gt_int q
def ar5:qx X (i0 .GtE) (Ju λi j=>.bl (decide (j<=i))):=TQ λ_ _ _ _ _ _ _ q=>ge_int q
def pU(b:bq)(h:autoParam (op≠.In) cT)(a:autoParam (op≠.NotIn) cT):behindInMarks op b=b4:=by
 have e:(op==CmpOp.In)=b4:=by cases op <;> first|rfl|exact bi8 rfl h
 have c:(op==CmpOp.NotIn)=b4:=by cases op <;> first|rfl|exact bi8 rfl a
 cases b <;> simp[behindInMarks,e,c]
def TV(c:qx X (i0 op) r)(d:PE X a t)(hb:PE X b e)(f:behindInMarks op b=b4):PE X (.Compare a [op] [b] pos) (tOp r t e):=by
 intro g s i H Q I h;exact wpAny_Compare1 (YD d hb I h λv u j x y k l m n q=>c g j i k x y v u Q l m n q) f
def Xd(t:TE):TT:=λa H Q=>t a H λx b=>∃k,x=.bl k/\Q k b
def TX(J:qx X (i0 op) r)(L:PE X a M)(hb:PE X b N)(O:behindInMarks op b=b4):PT X (.Compare a [op] [b] pos) (Xd (tOp r M N)):=by
 intro d s f H Q I h;refine wpAny_isTrue_Compare1 (ig (L d s f H _ I h) λv P g=>g.elim λx i=>i.elim λH1 j=>j.elim λS l=>l.elim λr1 T=>ig (hb d P f H1 _ S T) λu U m=>m.elim λy n=>n.elim λY o=>o.elim λZ p=>p.elim λr2 q2=>
  ig (J d U f Y x y v u _ Z r1 r2 q2) λc s3 t=>t.elim λz w=>w.elim λH3 A=>A.elim λI3 C=>C.elim λr3 E=>E.elim λk F=>F.elim λe q3=>?_) O
 subst e;cases r3;exact wM ⟨H3,I3,q3⟩
def HL(r c:R2)(t d e:TE):TE:=λa H Q=>t a H λx H1=>d a H1 λy f=>r x y f λz b=>∃k,z=.bl k/\
 (if k=bT then e a b λw g=>c y w g Q else Q (.bl b4) b)
def P8(Y:qx X (i0 op) r)(Z:qx X (i0 P) r')(ha:PE X a ta)(hb:PE X b tb)(hc:PE X c tc)
  (hm:autoParam (lastMarks [op,P] [b,c]=b4) eu):PE X (.Compare a [op,P] [b,c] pos) (HL r r' ta tb tc):=by
 intro f s g H Q I h;refine Compare_chain (ig (ha f s g H _ I h) λv s1 i=>i.elim λx j=>j.elim λH1 l=>l.elim λI1 m=>m.elim λr1 q1=>chain_link (ig (hb f s1 g H1 _ I1 q1) λu s2 n=>n.elim λy o=>o.elim λH2 p=>p.elim λI2 t=>t.elim λr2 q2=>
  ig (Y f s2 g H2 x y v u _ I2 r1 r2 q2) λd s3 w=>w.elim λz A=>A.elim λS C=>C.elim λT E=>E.elim λr3 F=>F.elim λk J=>J.elim λe U=>?_)) hm
 subst e;cases r3;refine wM ?_;cases k with
 |false=>exact ite_ff ⟨.bl b4,S,T,rfl,U⟩
 |true=>exact ite_tt (chain_last (ig (hc f s3 g S _ T U) λw' s4 L=>L.elim λz' M=>M.elim λH4 N=>N.elim λI4 O=>O.elim λr4 q4=>Z f s4 g H4 y z' u w' Q I4 r2 r4 q4))
def Pa(Z:qx X (i0 op) r)(DR:qx X (i0 T) r')(ha:PE X a ta)(hb:PE X b tb)(hc:PE X c tc)
  (hm:autoParam (lastMarks [op,T] [b,c]=b4) eu):PT X (.Compare a [op,T] [b,c] pos) (Xd (HL r r' ta tb tc)):=by
 intro f s g H Q I h;refine isTrue_chain (ig (ha f s g H _ I h) λv s1 i=>i.elim λx j=>j.elim λH1 l=>l.elim λI1 m=>m.elim λr1 q1=>test_link (ig (hb f s1 g H1 _ I1 q1) λu s2 n=>n.elim λy o=>o.elim λH2 p=>p.elim λI2 t=>t.elim λr2 q2=>
  ig (Z f s2 g H2 x y v u _ I2 r1 r2 q2) λd s3 w=>w.elim λz A=>A.elim λU C=>C.elim λY E=>E.elim λr3 F=>F.elim λk J=>J.elim λe L=>?_)) hm
 subst e;cases r3;refine wM ?_;cases k with
 |false=>refine aR L λk' e' q'=>?_;clear L;cases e';exact ite_ff ⟨U,Y,q'⟩
 |true=>refine ite_tt (test_last (ig (hc f s3 g U _ Y L) λw' s4 M=>M.elim λz' N=>N.elim λH4 O=>O.elim λI4 P=>P.elim λr4 q4=>ig (DR f s4 g H4 y z' u w' _ I4 r2 r4 q4) λd' s5 S=>?_));obtain⟨z2,H5,I5,r5,k2,e2,q5⟩:=S;subst e2;cases r5;exact wM ⟨H5,I5,q5⟩
def HM:(cH:Nat)<2 ^ 63:=by rw[gf];decide
def vals1(r:Vals [x] us):∃u,us=[u]/\RelV x u:=by
 cases r with
 |cons r1 r2=>cases r2;exact⟨_,rfl,r1⟩
def vals2(r:Vals [x,y] us):∃u w,us=[u,w]/\RelV x u/\RelV y w:=by
 cases r with
 |cons r1 r2=>
  cases r2 with
  |cons a b=>cases b;exact⟨_,_,rfl,r1,a⟩
def Pb:mX X (.builtin "abs") (λxs H Q=>∃i,xs=[.int i]/\Q (.int (if i<0 then -i else i)) H):=by
 intro a s b H xs c Q I r h;refine aR h λi j q=>?_;clear h;obtain rfl:=j;obtain⟨u,rfl,t,rfl⟩:=vals1 r;exact call_abs_int λu tk=>⟨.int (if i<0 then -i else i),H,I.tok _,⟨_,rfl⟩,q⟩
structure KZ(h:aW)(x dx C:av)(mA:Str->Option au):Prop where
 obj:h.get? x=ai (vc C dx)
 ns:h.Ns1 dx mA
 ne:dx≠x
def L0{h:aW}(n:h.Ns1 d m):∃od,h.get? d=ai od/\∀name,PySem.W.lookIn name od=ai (m name):=by
 refine DK n λo b k c hd hk _ f=>?_;clear n;refine⟨o,c,λname=>?_⟩;have e:=f name;unfold nsFind findBy at e;rw[<- Array.find?_toList]at e;unfold PySem.W.lookIn;rw[hd];dsimp only;split;rename_i y q;rw[q]at e;exact congrArg ai e;rename_i q;rw[q]at e;have a:b.toList.any (·.refKey)=b4:=by rw[List.any_eq_false];intro y g;refine rJ (hk y (Ar.mp g)) λz t i=>?_;simp[DictEntry.refKey,i]
 have j:¬ b.toList.any (·.refKey)=bT:=by rw[a];exact jd
 rw[bh7 j];exact congrArg ai e
def KZ.look(I:KZ h x d C m):∃od,PySem.W.InstAt h x (vc C d) C (ai od)/\∀name,PySem.W.lookIn name od=ai (m name):=
 let⟨od,a,hl⟩:=L0 I.ns
 ⟨od,⟨I.obj,rfl,rfl,a⟩,hl⟩
section
variable {prog:dz}{w:bL}{A:cy}{E:au->ay->Prop}{s:ay}{K:aF}{x dx C f:av}{mA:Str->Option au}{name:Str}{v:au}
def get_map{Q:au->ay->Prop}(X:K.In s.heap)(I:KZ s.heap x dx C mA)(b:PySem.W.plainGet K C name=bT)(c:PySem.W.hasDictIn K C=bT)
  (d:wX K (.ref C) name=ai aj) (e:mA name=ai v) (a:PySem.W.handedIn v=bT) (h:Q v {s with toks:=s.toks+1}) :
  aC (aE prog w) A (getAttr (.ref x) name expr) Q E s:=by
 refine aR I.look λod J hl=>?_;exact PySem.W.get_value X J (PySem.W.plainGet_of b).1 (PySem.W.findObj_own c d rfl (by rw[hl,e])) a h
def TY{Q:Unit->ay->Prop}(X:K.In s.heap)(I:KZ s.heap x dx C mA)
  (hs:wX K (.ref C) "__setattr__"=ai (ai (.builtin "object.__setattr__"))) (g:PySem.W.plainOver K C=bT) (i:PySem.W.takerIn K C name=ai aj) (j:PySem.W.hasDictIn K C=bT)
  (k:PySem.Within mA ns) (hsz:ns.length<=cH)
  (h:∀h',KZ h' x dx C (λy=>if y=name then ai v else mA y)->iA dx s.heap h'->Q () {s with heap:=h',toks:=s.toks+2}) :
  aC (aE prog w) A (setAttr (.ref x) name v) Q E s:=by
 refine aR I.look λod J hl=>?_;refine PySem.W.set_plain X J hs (PySem.W.osa_open (s:={s with toks:=s.toks+1}) (r:=aj) X J g i λb=>?_);refine aR (PySem.W.any_some j) λp l T=>?_;have m:s.heap.get? x=ai ⟨.ref C,ai dx,.plain,#[]⟩:=I.obj;refine ak (aB (ak (ak (wpAny_loadPart m (ak (an2 (s:={s with toks:=s.toks+1}) (PySem.W.looks_clsIn X l) ?_))))));rw[T];refine aB (a:=ai dx) (ak (aB (ak ?_)));refine wpAny_nsSet1 (s:={s with toks:=s.toks+1}) I.ns λh' a Y=>?_;refine Ye (a.count (an3 name v k)) λr n o c d e=>?_;refine ak (wpAny_lookBehind c (by rw[d];exact pastItsLine_dict (cz e (by rw[cS];lia))) ?_);exact aB (h _ ⟨(Y.2 _ (eW I.ne)).trans I.obj,a,I.ne⟩ Y)
def Pc(X:K.In s.heap)(b:PySem.W.makesIn K C=bT)
  (c:wX K (.ref C) "__init__"=ai (ai (.ref f))) (e:PySem.W.typeIn K (.ref f)=ai (.type "function"))
  (h:codeAny (aE prog w) (A.under (.builtin "type.__call__" ⟨.ref C::vs,kw⟩)) (.call (.ref f) ⟨.ref (s.heap.objs.size+1)::vs,kw⟩) (PySem.W.InitBack (s.heap.objs.size+1) R)
   {s with heap:=(s.heap.push sA).push (vc C s.heap.objs.size)}) :
  codeAny (aE prog w) A (.call (.ref C) ⟨vs,kw⟩) R s:=by
 obtain⟨i,g,d,t,o⟩:=s;exact PySem.W.make_core (PySem.W.makes_of X b) (PySem.W.looks_findIn X c) (λa=>PySem.W.bind_fn X a e) (.inl rfl) h
end
noncomputable def pV(f:Str)(v:V):List (Str×V)->List (Str×V)
 |[]=>[(f,v)]
 |(g,x)::r=>if g=f then(g,v)::r else(g,x)::pV f v r
theorem ve(f g:Str)(v:V):∀a:List (Str×V),(pV f v a).lookup g=if g=f then ai v else a.lookup g
 |[]=>by
  show qR g [(f,v)]=_;by_cases h:g=f;have hb:(g==f)=bT:=bi0.mpr h;simp only[qR,hb,bh6 h];have hb:(g==f)=b4:=bi3.mpr h;simp only[qR,hb,bh7 h]
 |(k,x)::r=>by
  have i:=ve f g v r;rw[show pV f v ((k,x)::r)=(if k=f then(k,v)::r else(k,x)::pV f v r)from rfl];by_cases hk:k=f;rw[bh6 hk];by_cases h:g=k;have hb:(g==k)=bT:=bi0.mpr h;simp only[qR,hb,bh6 (h.trans hk)];have hb:(g==k)=b4:=bi3.mpr h;simp only[qR,hb,bh7 (λe:g=f=>h (e.trans hk.symm))];rw[bh7 hk];by_cases h:g=k;have hb:(g==k)=bT:=bi0.mpr h;simp only[qR,hb,bh7 (λe:g=f=>hk (h.symm.trans e))];have hb:(g==k)=b4:=bi3.mpr h;simp only[qR,hb];exact i
theorem uB(f:Str)(v:V):∀a:List (Str×V),f∈(pV f v a).map (·.1)/\∀g,g∈a.map (·.1)->g∈(pV f v a).map (·.1)
 |[]=>⟨by simp[pV],λg h=>by simp at h⟩
 |(k,x)::r=>by
  obtain⟨i,b⟩:=uB f v r;rw[show pV f v ((k,x)::r)=(if k=f then(k,v)::r else(k,x)::pV f v r)from rfl];by_cases hk:k=f;rw[bh6 hk];subst hk;exact⟨by simp,λg h=>by simpa using h⟩;rw[bh7 hk];refine⟨?_,λg h=>?_⟩;rw[bz];exact pI _ i;rw[bz]at h ⊢;rcases cK.mp h with e|e;exact cK.mpr (.inl e);exact pI _ (b g e)
theorem vf(f:Str)(v:V):∀a:List (Str×V),(pV f v a).length<=a.length+1
 |[]=>by simp[pV]
 |(k,x)::r=>by
  have i:=vf f v r;rw[show pV f v ((k,x)::r)=(if k=f then(k,v)::r else(k,x)::pV f v r)from rfl];by_cases hk:k=f;rw[bh6 hk,cS,cS];lia;rw[bh7 hk,cS,cS];lia
def Hz.some_of(r:Hz (ai v) o):∃u,o=ai u/\RelV v u:=by
 cases o with
 |none=>exact(show False from r).elim
 |some u=>exact⟨u,rfl,r⟩
def L1(r:RelV v u):PySem.W.handedIn u=bT:=by
 cases v with
 |cR=>cases(show u=eL from r);rfl
 |bl b=>cases(show u=Value.bool b from r);rfl
 |int i=>obtain⟨t,e⟩:=(show ∃t,u=Gv i t from r);cases e;rfl
 |str x=>obtain⟨t,e⟩:=(show ∃t,u=Tr x t from r);cases e;rfl
 |byt b=>obtain⟨t,e⟩:=(show ∃t,u=Value.bytes b t from r);cases e;rfl
 |flt b=>obtain⟨t,e⟩:=(show ∃t,u=Value.float b t from r);cases e;rfl
 |ref a=>cases(show u=f7 a from r);rfl
 |ty n=>cases(show u=pH n from r);rfl
def sI(c:sj P w H h)(e:H a=ai (.ins C b fs)):∃m,KZ h a b C m/\(∀f,Hz (fs.lookup f) (m f))/\PySem.Within m (fs.map (·.1))/\fs.length<=1000/\H b=ai (.own a):=by
 obtain⟨d,z,g,o,m,n,r,q⟩:=(show gP P w H h a (.ins C b fs)from c a _ e)
 exact⟨m,⟨o,n,g⟩,r,q,z,d⟩
structure MC(K:aF)(C:av):Prop where
 pg:PySem.W.plainGet K C Str.empty=bT
 hd:PySem.W.hasDictIn K C=bT
 po:PySem.W.plainOver K C=bT
 sa:wX K (.ref C) "__setattr__"=ai (ai (.builtin "object.__setattr__"))
def MC.get{K:aF}{C:av}(c:MC K C)(f:Str):PySem.W.plainGet K C f=bT:=c.pg
def kK(K:aF)(C:av)(f:Str):Prop:=wX K (.ref C) f=ai aj
def kK.as9{K:aF}{C:av}{f:Str}(n:kK K C f):PySem.W.takerIn K C f=ai aj:=by
 unfold PySem.W.takerIn;rw[show wX K (.ref C) f=ai aj from n];rfl
def HN{Q:au->ay->Prop}(I:Inv X g σ H s)(e:H a=ai (.ins C j fs))(c:MC X.K C)(n:kK X.K C f)(l:fs.lookup f=ai v)
  (h:∀u s',Inv X g σ H s'->RelV v u->Q u s'):aC (aE X.prog X.w) A (getAttr (.ref a) f b) Q E s:=by
 refine Tv (sI I.fE e) λm O r _ _ _=>?_;obtain⟨u,i,d⟩:=Hz.some_of (v:=v) (o:=m f) (by rw[<- l];exact r f);exact get_map I.BK O (c.get f) c.hd n i (L1 d) (h u _ (I.tok _) d)
def HP{Q:Unit->ay->Prop}(I:Inv X k σ H s)(e:H a=ai (.ins C d fs))(c:MC X.K C)(n:kK X.K C f)(hl:fs.length<1000)(l:RelV y u)
  (h:∀s',Inv X k σ (upd H a (.ins C d (pV f y fs))) s'->Q () s'):aC (aE X.prog X.w) A (setAttr (.ref a) f u) Q E s:=by
 refine Tv (sI I.fE e) λm O r w _ j=>?_;have p:(fs.map (·.1)).length<=cH:=by rw[bw,gf];lia
 refine TY I.BK O c.sa c.po n.as9 c.hd w p λt i v=>h _ ?_;have hd:∃o,t.get? d=ai o:=let⟨o,_,_,x,_⟩:=i.ns;⟨o,x⟩;refine I.write (x:=a) (e:=d) (by rw[e];exact True.intro) (.inr j) (λb q hb z=>(v.2 b hb).trans z) hd ?_;refine⟨by rw[aS O.ne];exact j,?_,O.ne,i.obj,_,i.ns,λg=>?_,λg F=>?_⟩;have:=vf f y fs;lia;show Hz ((pV f y fs).lookup g) (if g=f then ai u else m g);rw[ve];by_cases q:g=f;rw[bh6 q,bh6 q];exact l;rw[bh7 q,bh7 q];exact r g;by_cases q:g=f;rw[q];exact(uB f y fs).1;refine(uB f y fs).2 g (w g λz=>F ?_);show(if g=f then ai u else m g)=aj;rw[bh7 q];exact z
def Inv.made(I:Inv X c σ H s):Inv X c σ (upd (upd H s.heap.objs.size (.own (s.heap.objs.size+1))) (s.heap.objs.size+1) (.ins C s.heap.objs.size []))
  {s with heap:=(s.heap.push sA).push (vc C s.heap.objs.size)}:=by
 have a:(s.heap.push sA).get? s.heap.objs.size=ai sA:=eY s.heap rfl;have d:((s.heap.push sA).push (vc C s.heap.objs.size)).get? (s.heap.objs.size+1)=ai (vc C s.heap.objs.size):=by have:=eY (s.heap.push sA) (o:=vc C s.heap.objs.size) rfl;rwa [Ao]at this
 have f:(s.heap.push sA).Ns s.heap.objs.size (λ_=>aj):=⟨sA,#[],_,a,rfl,(λe h=>bi8 h (by simp)),λ_=>rfl⟩
 have g:=I.laid (a:=s.heap.objs.size) (o:=.own (s.heap.objs.size+1)) (h':=s.heap.push sA) (t':=s.toks) (λb u q=>bP _ q) (b9 _) ⟨_,a⟩;refine g.laid (a:=s.heap.objs.size+1) (o:=.ins C s.heap.objs.size []) (t':=s.toks) (λb u q=>bP _ q) (Nb (Ao _ _)) ?_;have n:s.heap.objs.size≠s.heap.objs.size+1:=dM (Aq _);refine⟨by rw[aS n,bM],eS _,n,d,λ_=>aj,(Heap.Ns1.of_empty f).at λo q=>bP _ q,λ_=>True.intro,λy i=>bi8 rfl i⟩
def TZ(hb:p8 e f env (eval e env)=eval e env)
  (h:aC (aE prog w) A (eval e env) (λo l=>aC (aE prog w) A (getAttr o f bT) Q E l) E s):aC (aE prog w) A (eval (.Attribute e f pos) env) Q E s:=
 Attribute_any_ h (by rw[arm_eval_Attribute,hb])
def aV1(K:aF)(t:TE)(f:Str):TE:=λc H Q=>t c H λx H1=>∃a C d b v,x=.ref a/\H1 a=ai (.ins C d b)/\MC K C/\kK K C f/\b.lookup f=ai v/\Q v H1
def at0(K:aF)(t g:TE)(f:Str):TS:=λD b H=>g b H λy H1=>t b H1 λx d=>∃a C e c,x=.ref a/\d a=ai (.ins C e c)/\MC K C/\kK K C f/\c.length<1000/\
 D.nx b (upd d a (.ins C e (pV f y c)))
def YK(d:PE X e t)(hb:p8 e f X.env (eval e X.env)=eval e X.env):PE X (.Attribute e f pos) (aV1 X.K t f):=by
 intro g s i H Q I h;refine TZ hb (ig (d g s i H _ I h) λu p b=>?_);obtain⟨x,H1,j,r,a,C,w,y,v,ex,k,c,n,l,q⟩:=b;subst ex;obtain rfl:u=f7 a:=r;exact HN j k c n l λz A m o=>⟨v,H1,m,o,q⟩
def YL(m:PE X o t)(p:PE X value r)(hs:swapsWith value (ai (.Attribute o f pos')) pos.line X.env=pure b4):PS X (.Assign [.Attribute o f pos'] value pos) (at0 X.K t r f):=by
 intro k s b H D I h;refine plainObj_wpAny_Assign_Attribute (ig (p k s b H _ I h) λu v d=>d.elim λy e=>e.elim λH1 g=>g.elim λw i=>i.elim λz q=>ig (m k v b H1 _ w q) λA N j=>?_) hs;obtain⟨x,O,E,F,a,C,P,Q,ex,J,c,n,l,L⟩:=j;subst ex;obtain rfl:A=f7 a:=F;exact HP E J c n l z λS M=>⟨b,_,M,L⟩
structure j7(k:Nat)(A:cy):Prop where
 hd:A.handled=aj
 dp:A.depth+3*k+5<recursionLimit
 un:A.units+16*k+200<cLine
def j7.mono(r:j7 k A)(h:j<=k):j7 j A:=⟨r.hd,by have:=r.dp;lia,by have:=r.un;lia⟩
theorem j7.deeper(r:j7 (k+1) A)(env:Env):j7 k (A.deeper env):=
 ⟨r.hd,by have:=r.dp;show A.depth+1+3*k+5<_;lia,by have:=r.un;show A.units+3+16*k+200<_;lia⟩
def HQ{A:cy}:(A.under (.builtin "type.__call__" ⟨.ref C::us,kw⟩)).depth=A.depth+1:=by
 first|rfl|simp[Around.under,Code.weight,Code.isCreation,Code.isGuard,Code.isCaller,Code.frames,Code.isFrame,guardIds]
def HR{A:cy}:(A.under (.builtin "type.__call__" ⟨.ref C::us,kw⟩)).units=A.units+1:=by
 first|rfl|simp[Around.under,Code.cUnits,Code.frames,Code.isFrame]
def j7.make(r:j7 (k+1) A)(C:av)(u:List au)(a:List (Str×au)):j7 k (A.under (.builtin "type.__call__" ⟨.ref C::u,a⟩)):=
 ⟨r.hd,by have:=r.dp;rw[HQ];lia,by have:=r.un;rw[HR];lia⟩
theorem j7.depth(r:j7 k A):A.depth<recursionLimit:=by have:=r.dp;lia
theorem j7.units(r:j7 k A):A.units+64<cLine:=by have:=r.un;lia
def HS:TA:=λ_ H Q=>Q [] H
def vg(t:TE)(tr:TA):TA:=λa H Q=>t a H λx H1=>tr a H1 λb c=>Q (x::b) c
def l7:PA X [] HS:=λ_ _ _ _ H Q I h=>By ⟨[],H,I,.nil,h⟩
def gF(j:PE X e k)(hr:PA X es t)(hs:autoParam (bF (e::es) X.env=(b4,eval e X.env)::bF es X.env) b5):PA X (e::es) (vg k t):=by
 intro p f s g H Q I h;rw[hs];show aC _ _ (spliced ((b4,eval e X.env)::backTo p (bF es X.env))) _ _ s;refine xu (ig (j f s g H _ I h) λu l i=>?_);refine bC i λx H1 m r1 n=>?_;clear i;exact ig (hr p f l g H1 _ m n) λy z a=>a.elim λo b=>b.elim λr c=>c.elim λv d=>d.elim λr2 w=>⟨x::o,r,v,.cons r1 r2,w⟩
def aV2(t:TA):TE:=λa H Q=>t a H λx H1=>x.length<=cH/\∀p,H1 p=aj->Q (.ref p) (upd H1 p (.tup x))
def aV3(t:TA):TE:=λa H Q=>t a H λx H1=>x.length<=cH/\∀p,H1 p=aj->Q (.ref p) (upd H1 p (.lst x))
def BU{x}(h:PA X es t):PE X (.Tuple es x pos) (aV2 t):=by
 intro k s l H Q I m;refine MU (ig (h pos k s l H _ I m) λn a c=>c.elim λo d=>d.elim λH1 f=>f.elim λj g=>g.elim λr i=>i.elim λz q=>⟨by rw[<- r.length];exact z,?_⟩);have p:H1 a.heap.objs.size=aj:=j.fE.fresh (b9 _);refine⟨.ref a.heap.objs.size,upd H1 a.heap.objs.size (.tup o),j.laid (t':=a.toks) (λb u e=>bP _ e) (b9 _) ?_,rfl,q _ p⟩;exact⟨z,n,r,⟨_,eY _ rfl,rfl,_,rfl⟩⟩
def YM(h:PA X es t):PE X (.List es pos) (aV3 t):=by
 intro k s l H Q I m;refine wpAny_List_spliced (ig (h pos k s l H _ I m) λn a c=>c.elim λx d=>d.elim λH1 f=>f.elim λj g=>g.elim λr i=>i.elim λz q=>⟨by rw[<- r.length];exact z,?_⟩);have o:H1 a.heap.objs.size=aj:=j.fE.fresh (b9 _);refine⟨.ref a.heap.objs.size,upd H1 a.heap.objs.size (.lst x),j.laid (t':=a.toks) (λb u e=>bP _ e) (b9 _) ?_,rfl,q _ o⟩;exact⟨z,n,0,r,eY _ rfl⟩
abbrev Sp:=List V->Hp->VK->XK->Prop
abbrev Tc:=List Env->Hp->ay->XK->au->ay->Prop
structure HU(P:dz)(w:bL)(K:aF)(mg:Str->Option au)(base:aW)(A:cy)(outer:List Env)(s:ay)(H:Hp):Prop where
 frames:A.frames=ai outer
 mod:Mod K mg base
 bs:∀b o,base.get? b=ai o->s.heap.get? b=ai o/\H b=aj
 T7:base.objs.size<=s.heap.objs.size
 uy:s.heap.FunFrames base outer
 Xb:∀b∈xN outer,H b=aj
 fE:sj P w H s.heap
 bare:AllBare s.gens
def CE(o:List Env)(P:dz)(w:bL)(H:Hp)(s:ay)(Q:VK)(u:au)(s':ay):Prop:=
 ∃v a,s'.os=s.os/\AllBare s'.gens/\Un (xN o) [] H a s.heap s'.heap/\sj P w a s'.heap/\RelV v u/\Q v a
def CR(CX:Tc)(o:List Env)(P:dz)(w:bL)(H:Hp)(s:ay)(Q:VK)(E:XK)(r:Result)(s':ay):Prop:=
 match r with
 |.ok (.ret u)=>CE o P w H s Q u s'
 |.ok _=>False
 |.error e=>CX o H s E e s'
structure jT(P:dz)(w:bL)(K:aF)(mg:Str->Option au)(base:aW)(CX:Tc)(k:Nat)(f:av)(fd:gV)(ps:List Str)(sp:Sp):Prop where
 len:∀vs H Q E,sp vs H Q E->vs.length=ps.length
 run:∀(A:cy) (outer:List Env) (s:ay) (H:Hp) (args:Args) (us:List au) (vs:List V) (Q:VK) (E:XK),j7 k A->HU P w K mg base A outer s H->BindsTo s fd args (ps.zip us)->Vals vs us->sp vs H Q E->
  codeAny (aE P w) A (.call (.ref f) args) (CR CX outer P w H s Q E) s
theorem jT.mono{P:dz}{w:bL}{K:aF}{mg:Str->Option au}{base:aW}{CX:Tc}{j k:Nat}{f:av}{b:gV}{ps:List Str}{sp:Sp}(F:jT P w K mg base CX j f b ps sp)(h:j<=k) :
  jT P w K mg base CX k f b ps sp:=⟨F.len,λA o s H a u v Q E hr=>F.run A o s H a u v Q E (hr.mono h)⟩
def jT.imp{P:dz}{w:bL}{K:aF}{mg:Str->Option au}{base:aW}{CX:Tc}{k:Nat}{f:av}{c:gV}{ps:List Str}{sp a:Sp}(F:jT P w K mg base CX k f c ps sp)
  (h:∀vs H Q E,a vs H Q E->sp vs H Q E):jT P w K mg base CX k f c ps a:=
 ⟨λvs H Q E q=>F.len vs H Q E (h _ _ _ _ q),λA o s H b u vs Q E hr d hb e g=>F.run A o s H b u vs Q E hr d hb e (h _ _ _ _ g)⟩
def HU.make{P:dz}{w:bL}{K:aF}{mg:Str->Option au}{base:aW}{A:cy}{o:List Env}{s:ay}{H:Hp}(e:HU P w K mg base A o s H)(C:av)(u:List au)(k:List (Str×au)) :
  HU P w K mg base (A.under (.builtin "type.__call__" ⟨.ref C::u,k⟩)) o s H:=⟨by first|exact e.frames|(simpa[Around.under,Code.envs,Code.isFrame,pushEnvs]using e.frames),e.mod,e.bs,e.T7,e.uy,e.Xb,e.fE,e.bare⟩
def Inv.av2(I:Inv X a σ H s):HU X.prog X.w X.K X.mg X.base X.A X.stack s H:=
 ⟨I.ok.frames,I.ok.mod,I.bs,cz I.ok.T7 I.sz,I.stack,I.Jp,I.fE,I.bare⟩
def Inv.after(I:Inv X c σ H s)(h:CE X.stack X.prog X.w H s Q u s'):EP X c σ Q u s':=by
 refine an4 h λv e f a i j r q=>?_;clear h;obtain⟨k,g,d,t,o⟩:=s';obtain rfl:o=s.os:=f;exact⟨v,e,I.call (h':=k) (g':=g) (d':=d) (t':=t) (ch:=[]) i j a (λb z=>bi8 z (by simp)),r,q⟩
def Binds(K:aF)(f:gV)(ps:List Str)(ds:List au):Prop:=
 ∀(s:ay) (u:List au),K.In s.heap->(u++ds).length=ps.length->BindsTo s f ⟨u,[]⟩ (ps.zip (u++ds))
def Binds.all{K:aF}{f:gV}{ps:List Str}(h:∀u:List au,u.length=ps.length->bindArgs f ⟨u,[]⟩=pure (ps.zip u)):Binds K f ps []:=λs u _ hl=>by
 rw[kC]at hl ⊢;exact .of_eq (h u hl)
structure Mk(K:aF)(C f:av):Prop where
 makes:PySem.W.makesIn K C=bT
 init:wX K (.ref C) "__init__"=ai (ai (.ref f))
 fn:PySem.W.isFn K (.ref f)=bT
 kp:rj K (.ref C)=bT
structure kQ(N P:List Str)(sc:iP):Prop where
 kind:sc.kind=.function
 co:sc.isCoroutine=b4
 gen:sc.isGenerator=b4
 nd:N.Nodup
 pre:N.take P.length=P
 par:∀x∈P,sc.names.lookup x=ai .local\/sc.names.lookup x=ai .cell
 YN:∀y∈sc.names,y.2≠.free
theorem Av{k:Str->Option NameKind}{x:Str}:∀{b:List (Str×au)} {m:Str->Option au},(∀v,(x,v)∉b)->bindL k b m x=m x
 |[],_,_=>rfl
 |(n,v)::r,m,h=>by
  unfold bindL;rw[Av λw a=>h w (pI _ a)];split;have:x≠n:=by rintro rfl;exact h v vd
  simp[this];rfl
theorem Aw{k:Str->Option NameKind}{x:Str}:∀{b:List (Str×au)} {m:Str->Option au},(∀v,(x,v)∉b)->bindC k b m x=m x
 |[],_,_=>rfl
 |(n,v)::r,m,h=>by
  unfold bindC;rw[Aw λw a=>h w (pI _ a)];split;rfl;have:x≠n:=by rintro rfl;exact h v vd
  simp[this]
theorem Ax{k:Str->Option NameKind}:∀{P:List Str} {vs:List au} {i:Nat} {m:Str->Option au},P.Nodup->P[i]?=ai x->vs[i]?=ai v->k x=ai .local->
  bindL k (P.zip vs) m x=ai v
 |[],_,_,_,_,h,_,_=>by simp at h
 |_::_,[],_,_,_,_,h,_=>by simp at h
 |p::P,w::vs,0,m,nd,a,b,hk=>by
  simp at a b;subst a;subst b;show bindL k ((p,w)::P.zip vs) m p=_;unfold bindL;rw[Av λv c=>(kX.mp nd).1 (GD c).1,bh6 hk];simp
 |p::P,w::vs,i+1,m,nd,a,b,hk=>by
  show bindL k ((p,w)::P.zip vs) m x=_;unfold bindL;exact Ax (i:=i) (kX.mp nd).2 (by simpa using a) (by simpa using b) hk
theorem Ay{k:Str->Option NameKind}:∀{P:List Str} {vs:List au} {i:Nat} {m:Str->Option au},P.Nodup->P[i]?=ai x->vs[i]?=ai v->k x≠ai .local->
  bindC k (P.zip vs) m x=ai v
 |[],_,_,_,_,h,_,_=>by simp at h
 |_::_,[],_,_,_,_,h,_=>by simp at h
 |p::P,w::vs,0,m,nd,a,b,hk=>by
  simp at a b;subst a;subst b;show bindC k ((p,w)::P.zip vs) m p=_;unfold bindC;rw[Aw λv c=>(kX.mp nd).1 (GD c).1,bh7 hk];simp
 |p::P,w::vs,i+1,m,nd,a,b,hk=>by
  show bindC k ((p,w)::P.zip vs) m x=_;unfold bindC;exact Ay (i:=i) (kX.mp nd).2 (by simpa using a) (by simpa using b) hk
noncomputable def start(N:List Str)(vs:List V):St:=vs.map ai++kE (N.length-vs.length) aj
noncomputable def oS(CX:Tc)(P:dz)(w:bL)(K:aF)(mg:Str->Option au)(base:aW)(N:List Str)(b:Str)(a:iP)(f:av)(c:au)(A:cy)(o:List Env)(s:ay)(H:Hp)(E:XK):Cx where
 prog:=P
 w:=w
 K:=K
 mg:=mg
 base:=base
 A:=A.deeper (envOfC b a s.heap.objs.size f c)
 N:=N
 jq:=s
 OU:=H
 env:=envOfC b a s.heap.objs.size f c
 outer:=o
 stack:=envOfC b a s.heap.objs.size f c::o
 ex:=[]
 calm:=bT
 fn:=λ_=>bT
 pn:=[]
 xe:=λe d=>aC (aE P w) (A.deeper (envOfC b a s.heap.objs.size f c)) (leaving (envOfC b a s.heap.objs.size f c) e) (λ_ M=>CX o H s E e M) (λg M=>CX o H s E g M) d
def DZ{sc:iP}(h:sc.names.lookup x=ai .cell):∃c,(cellsFrom n sc.names []).lookup x=ai c:=by
 have q:=N8 sc.names n [] (.inl h);exact Oj.mp q
def L3{CX:Tc}{P:dz}{w:bL}{K:aF}{mg:Str->Option au}{base:aW}{N ps:List Str}{g:Str}{d:iP}{f:av}{F:au}{A:cy}{o:List Env}{s M:ay}{H:Hp}{E:XK}{L:List au}{vs:List V}
  (S:kQ N ps d) (hd:A.handled=aj) (l:HU P w K mg base A o s H) (hl:vs.length=ps.length) (r:Vals vs L)
  (x:InCallC s s.heap.objs.size (bindL (envOfC g d s.heap.objs.size f F).kindOf (ps.zip L) λ_=>aj) (cellsFrom (s.heap.objs.size+1) d.names []) (bindC (envOfC g d s.heap.objs.size f F).kindOf (ps.zip L) λ_=>aj) M) :
  Inv (oS CX P w K mg base N g d f F A o s H E) [] (start N vs) H M:=by
 have X:ps.length<=N.length:=by have:=congrArg List.length S.pre;rw[kF]at this;lia
 refine dW x.done λI tk Q hk=>?_;obtain rfl:=Q;have n:∀b:av,b∉(oS CX P w K mg base N g d f F A o s H E).ex:=λb z=>bi8 (show b∈([]:List av)from z) (by simp);refine⟨⟨l.mod,S.kind,rfl,rfl,b9 _,λy z c I j=>?_,λy m=>?_,λy c _ h=>?_,λ_=>hd,Around.frames_deeper l.frames,.inr ⟨rfl,rfl⟩,λb z=>bi8 z (n b),l.bs,l.T7,λb _ _=>n b,λb z=>bi8 z (n b),l.uy,l.Xb⟩,
  rfl,l.bare,Un.kept hk,⟨_,x.toInCall.ns,λi y v I j Y=>?_⟩,λy c h=>⟨_,x.cell y c h⟩,l.fE.fresh (b9 _),λy c h=>?_,λp t=>bi8 (show p∈([]:List (av×Obj))from t) (by simp),l.fE.kept hk,?_⟩
 exact name_of_addr x.apart (wQ I) (wQ j);have m:d.names.lookup y=ai .cell\/d.names.lookup y=ai .free:=m;rcases m with m|m;exact DZ m;exact bi8 rfl (S.YN _ (wQ m));exact jc (x.above y c (wQ h));have J:i<vs.length:=by unfold start at j;by_cases J:i<vs.length;exact J;rw[kG (by simpa using J)]at j;rw[nK]at j;split at j <;> cases j
 have T:vs[i]?=ai v:=by
  unfold start at j;rw[mE (by simpa using J),d8]at j;cases e:vs[i]? with
  |none=>rw[e]at j;cases j
  |some a=>rw[e]at j;cases j;rfl
 refine aR (r.get T) λu O U=>?_;have t:ps[i]?=ai y:=by rw[<- S.pre,GF (by lia)];exact I
 have C:ps.Nodup:=by rw[<- S.pre];exact S.nd.sublist (Nu _ _)
 refine⟨u,U,?_⟩;rcases S.par y (iK t)with k|k;exact .inl ⟨k,Ax C t O k⟩;obtain⟨c,e⟩:=DZ (n:=s.heap.objs.size+1) k;refine .inr ⟨.inl k,c,e,?_⟩;have q:=x.cell y c e;rw[Ay C t O (by show d.names.lookup y≠_;rw[k];decide)]at q;exact q;exact l.fE.fresh (jc (x.above y c (wQ h)));unfold start;show _=N.length;rw[bX,bw,GG];lia
def av3{CX:Tc}{P:dz}{w:bL}{K:aF}{mg:Str->Option au}{base:aW}{k:Nat}{f:av}{name d:Str}{p:Arguments}{body:List aY}{a:iP}{T kV j U i ct oc:au}{X od:Option av}
  {G6:Array (Option au)} {N ps:List Str} {sp:Sp} (lk:K.lookup f=ai ⟨oc,od,.func (nI name d p body a T kV j U X i ct),G6⟩) (HB:PySem.W.codeIn K i d=bT) (S:kQ N ps a)
  (l:∀vs H Q E,sp vs H Q E->vs.length=ps.length)
  (xV:∀(A:cy) (c:List Env) (s:ay) (H:Hp) (vs:List V) (Q:VK) (E:XK),j7 k (A.deeper (envOfC d a s.heap.objs.size f i))->sp vs H Q E->
   ∃t,qL (oS CX P w K mg base N d a f i A c s H E) body t/\t {nx:=λ_ g=>Q .cR g,rt:=Q} (start N vs) H) :
  jT P w K mg base CX (k+1) f (nI name d p body a T kV j U X i ct) ps sp:=by
 refine⟨l,λA c s H Y us vs Q E hr m hb r z=>?_⟩;have hl:=l _ _ _ _ z;have Z:K.In s.heap:=m.mod.kin.keeps λb o e=>(m.bs b o e).1;have F:s.heap.NoLimit:=m.mod.nolimit.keeps λb o e=>(m.bs b o e).1;have E2:∀y∈ps.zip us,a.names.lookup y.1=ai .local\/(a.names.lookup y.1=ai .cell/\((cellsFrom (s.heap.objs.size+1) a.names []).lookup y.1).isSome=bT):=λL hy=>by obtain⟨n,v⟩:=L;rcases S.par n (GD hy).1 with q|q;exact .inl q;exact .inr ⟨q,N8 _ _ _ (.inl q)⟩
 refine codeAny_call_function hr.depth (Z _ _ lk) rfl S.co S.gen rfl (PySem.W.codeRec_of Z HB) (hb _ _ _ _ ?_);refine MV S.kind E2 λenv he s1 x=>?_;subst he;refine⟨F.keeps x.toInCall.keep,codeAny_func ?_⟩;refine aR (xV A c s H vs Q E (hr.deeper _) z) λt ht hq=>?_;have I:Inv (oS CX P w K mg base N d a f i A c s H E) [] (start N vs) H s1:=L3 S hr.hd m hl r x;refine iw (ht [] s1 (start N vs) H _ I hq) (λfl M h=>?_) λe M h=>h;have fin:∀{C:St} {g:Hp} {v:V} {u:au},Inv (oS CX P w K mg base N d a f i A c s H E) [] C g M->RelV v u->Q v g->CE c P w H s Q u M:=
  λ{C g v u} J O q=>⟨v,g,J.os,J.bare,J.base,J.fE,O,q⟩
 cases fl with
 |ret u=>refine Ye h λv C g J O q=>?_;clear h;exact fin J O q
 |next=>refine dW h λC g J q=>?_;clear h;exact fin (v:=V.cR) (u:=eL) J rfl q
 |brk=>refine dW h λ_ _ _ q=>?_;clear h;exact nU q
 |cont=>refine dW h λ_ _ _ q=>?_;clear h;exact nU q
section
variable {X:Cx}{x:Str}{p pos:Pos}{e:bq}{es:List bq}{t:TA}{id:String}{r:List V->Hp->VK->Prop}
def tCB(r:List V->Hp->VK->Prop)(t:TA):TE:=λa H Q=>t a H λv H1=>r v H1 Q
def l8(i:mX X (.builtin id) r)(j:Gl X x)(k:X.mg x=aj)(l:jR x=ai (.builtin id))(m:PA X (e::es) t)(n:autoParam (x≠ "__name__") cT)(A:autoParam ((x==("__debug__" : Str))=b4) cT)
  (o:autoParam (bF (e::es) X.env=(b4,eval e X.env)::bF es X.env) b5) (v:autoParam ((backTo pos (bF es X.env)).any (·.1)=b4) b5):PE X (.Call (.Name x p) (e::es) [] pos) (tCB r t):=by
 intro f s g H Q I h;refine tX (uA I j k l ?_ n A);exact Of (ig (m pos f s g H _ I h) λu w a=>a.elim λy b=>b.elim λH1 c=>c.elim λz d=>d.elim λr1 C=>i f w g H1 y u Q z r1 C) o v
def qy(i:mX X (.type T) r)(j:Gl X x)(k:X.mg x=aj)(l:jR x=ai (.type T))(m:PA X (e::es) t)(n:autoParam (x≠ "__name__") cT)(A:autoParam ((x==("__debug__" : Str))=b4) cT)
  (o:autoParam (bF (e::es) X.env=(b4,eval e X.env)::bF es X.env) b5) (v:autoParam ((backTo pos (bF es X.env)).any (·.1)=b4) b5):PE X (.Call (.Name x p) (e::es) [] pos) (tCB r t):=by
 intro f s g H Q I h;refine tX (uA I j k l ?_ n A);exact Oe (ig (m pos f s g H _ I h) λu w a=>a.elim λy b=>b.elim λH1 c=>c.elim λz d=>d.elim λr1 C=>i f w g H1 y u Q z r1 C) o v
end
end L2
namespace HT
open PySem PyProof.Rows
noncomputable def lexLt:List Int->List Int->Bool
 |[],[]=>b4
 |[],_::_=>bT
 |_::_,[]=>b4
 |x::a,y::b=>if x=y then lexLt a b else decide (x<y)
def dU(x y:Int)(xs ys:List Int):lexLt (x::xs) (y::ys)=if x=y then lexLt xs ys else decide (x<y):=rfl
def iR:lexLt [] []=b4:=rfl
def pW(y:Int)(ys:List Int):lexLt [] (y::ys)=bT:=rfl
def l9(x:Int)(xs:List Int):lexLt (x::xs) []=b4:=rfl
def Pe(A:cy)(s:ay)(a:Int)(t:Tok)(c:Int)(u:Tok)(prog:dz)(w:bL)(E:au->ay->Prop)(Q:au->ay->Prop)(h:Q (.bool (decide (a<c))) s) :
  aC (aE prog w) A (richCompare .Lt (.int a t) (.int c u)) Q E s:=
 (Y4 h:aC (aE prog w) A (i0 .Lt (.int a t) (.int c u)) Q E s)
section
open PySem.SeqAt
open PySem.AutoSeq1 (wpAny_loadPart')
open PySem.MeetsSeq PySem.MeetsSeq2 PySem.MeetsSeq3
end
noncomputable def jj(n d:Nat):Option Int->Nat
 |none=>d
 |some v=>if v<0 then(v+(n:Int)).toNat else min v.toNat n
def YO(n d:Nat)(hd:d<=n)(o:Option Int):jj n d o<=n:=by
 cases o with
 |none=>exact hd
 |some v=>show(if v<0 then(v+(n:Int)).toNat else min v.toNat n)<=n;by_cases h:v<0;rw[bh6 h];lia;rw[bh7 h];exact Nat.min_le_right _ _
def Jv(v:Int)(n d:Nat):(if v<0 then max (v+(n:Int)) 0 else min v (n:Int))=((jj n d (ai v):Nat):Int):=by
 show(if v<0 then max (v+(n:Int)) 0 else min v (n:Int))=(((if v<0 then(v+(n:Int)).toNat else min v.toNat n):Nat):Int)
 by_cases h:v<0;simp only[bh6 h];lia;simp only[bh7 h];lia
def HV(lo h:Option Int)(n:Nat):Builtin.Slice.sliceAdjust lo h 1 (n:Int)=(((jj n 0 lo:Nat):Int),((jj n n h:Nat):Int)):=by
 have a:¬ ((1:Int)<0):=by lia
 unfold Builtin.Slice.sliceAdjust;simp only[a,bi4];refine mJ ?_ ?_;cases lo with
 |none=>rfl
 |some v=>exact Jv v n 0
 cases h with
 |none=>rfl
 |some v=>exact Jv v n n
def HW(i j:Nat):Builtin.Slice.slicePlaces (i:Int) (j:Int) 1=j-i:=by
 unfold Builtin.Slice.slicePlaces;have h:(1:Int) > 0:=by lia
 simp only[h,bi5,Int.ediv_one];split <;> lia
def xW{Q:Option Int->ay->Prop}(p:IsPart v o)(h:Q o s):aC (aE prog w) A (Builtin.Slice.slicePartIndex v) Q E s:=by
 cases p with
 |none=>exact slicePart_none h
 |int i t=>exact slicePart_int h
def uC{e:av}{v d:au}{lo a:Option Int}{n:Nat}{Q:Int×Int×Nat->ay->Prop}(hs:s.heap.IsSliceOf e v d .none)(p:IsPart v lo)(f:IsPart d a)
  (h:Q (((jj n 0 lo:Nat):Int),1,jj n n a-jj n 0 lo) s):aC (aE prog w) A (Builtin.Slice.sliceApplied (.ref e) (pure (n:Int))) Q E s:=by
 refine cA (id hs) λo b g c=>?_;unfold Builtin.Slice.sliceApplied Builtin.Slice.sliceFields;refine ak (ak (mh b c (x:=v) rfl (ak (mh b c (x:=d) rfl (ak (mh b c (x:=.none) rfl (aB ?_)))))));refine ak (slicePart_none ?_);show aC _ _ (if((1:Int)==0)=bT then _ else _) _ _ s;rw[bh7 (by decide)];refine ak (xW p (ak (xW f (ak (aB ?_)))));show aC _ _ (match Builtin.Slice.sliceAdjust lo a 1 (n:Int)with|(lo,a)=>pure (lo,(1:Int),Builtin.Slice.slicePlaces lo a 1)) _ _ s;rw[HV lo a n];show aC _ _ (pure (((jj n 0 lo:Nat):Int),(1:Int),Builtin.Slice.slicePlaces ((jj n 0 lo:Nat):Int) ((jj n n a:Nat):Int) 1)) _ _ s;rw[HW];exact aB h
def Pf(xs:Array au)(i k:Nat):((cY k).filterMap λ(m:Nat)=>xs[((i:Int)+(m:Int)*1).toNat]?).toArray=((xs.toList.drop i).take k).toArray:=by
 have e:(λ(m:Nat)=>xs[((i:Int)+(m:Int)*1).toNat]?)=λm=>xs[i+m]?:=by
  funext m;have:((i:Int)+(m:Int)*1).toNat=i+m:=by lia
  rw[this]
 rw[e];have:=pick_run xs i k;rw[List.filterMap_map]at this;have a:((λx=>xs[x]?)∘λx=>i+x)=λm=>xs[i+m]?:=rfl;rw[a]at this;rw[this]
def sJ{t c:av}{items:Array au}{v g:au}{lo a:Option Int}{Q:au->ay->Prop}(b:IsTup s.heap t items)(hs:s.heap.IsSliceOf c v g .none)(p:IsPart v lo)(i:IsPart g a)
  (j:¬ (jj items.size 0 lo=0/\jj items.size items.size a=items.size))
  (h:Q (.ref s.heap.objs.size) {s with heap:=s.heap.push {cls:=.type "tuple",data:=.seq ((items.toList.drop (jj items.size 0 lo)).take (jj items.size items.size a-jj items.size 0 lo)).toArray}})
  (hsz:items.size<=cH):aC (aE prog w) A (getItem (.ref t) (.ref c)) Q E s:=by
 have J:sizeOk (.seq ((items.toList.drop (jj items.size 0 lo)).take (jj items.size items.size a-jj items.size 0 lo)).toArray):=by show((items.toList.drop (jj items.size 0 lo)).take (jj items.size items.size a-jj items.size 0 lo)).toArray.size<=cH;rw[dP,kF,ua,dN];lia
 have l:jj items.size items.size a<=items.size:=YO _ _ (b9 _) a;refine cA (id hs) λo d e k=>?_;have f:s.TypeIs (.ref c) "slice":=⟨o,d,e⟩
 unfold getItem;try with_reducible refine jb ?_
 first|refine ak (aB ?_)|skip
 refine ak (wpAny_sequenceKey b.typeIs (by decide) ?_);refine ak (p9 (name:=kI "__getitem__") b.typeIs Hf
  (iy Hf b.typeIs entry_tuple_getitem ?_ (args_tuple_getitem _ _)))
 show aC _ _ (Builtin.Tuple.tupleItemsOf (.ref t)>>=_) _ _ s;refine ak (tupleItemsOf_ b ?_);refine ak (wR f ?_);rw[bh6 (by decide)];refine ak (uC hs p i ?_);have Y:¬ ((((jj items.size 0 lo:Nat):Int)==0&&(1:Int)==1&&(jj items.size items.size a-jj items.size 0 lo)==items.size)=bT):=by intro q;rw[bI,bI]at q;have m:((jj items.size 0 lo:Nat):Int)=0:=bj1 q.1.1;have n:jj items.size items.size a-jj items.size 0 lo=items.size:=bj1 q.2;exact j ⟨by lia,by lia⟩
 show aC _ _ (if(((jj items.size 0 lo:Nat):Int)==0&&(1:Int)==1&&(jj items.size items.size a-jj items.size 0 lo)==items.size)=bT then _ else _) _ _ s;rw[bh7 Y,Pf];first
  |exact ak (m:=Builtin.Tuple.tupleExact _) (kN (aB ⟨_,rfl,aB h⟩) J)
  |exact ak (m:=Builtin.Tuple.tupleExact _) (kN (ak (aB (aB ⟨_,rfl,aB h⟩))) J)
  |exact ak (ak (m:=Builtin.Tuple.tupleExact _) (kN (aB (aB ⟨_,rfl,aB h⟩)) J))
  |exact ak (ak (m:=Builtin.Tuple.tupleExact _) (kN (aB ⟨_,rfl,aB h⟩) J))
end HT
namespace L2
open PySem PySem.Spec PyProof.Rows
abbrev TO:=St->Hp->(Option Int->Hp->Prop)->Prop
def PO(X:Cx)(e:Option bq)(t:TO):Prop:=
 ∀(b:List (av×Obj)) (s:ay) (a:St) (H:Hp) (Q:Option Int->Hp->Prop),Inv X b a H s->t a H Q->
  aC (aE X.prog X.w) X.A (evalPart e X.env) (λu d=>∃o c,Inv X b a c d/\IsPart u o/\Q o c) X.xe s
def U0:TO:=λ_ H Q=>Q aj H
def aw3(t:TE):TO:=λa H Q=>t a H λx H1=>∃i,x=.int i/\Q (ai i) H1
section
variable {X:Cx}{e:bq}{te:TE}{lo hi:Option bq}{tl th:TO}{pos p2:Pos}
def U1:PO X aj U0:=by
 intro a s b H Q I h;rw[evalPart_none];exact aB ⟨aj,H,I,.none,h⟩
def U3(h:PE X e te):PO X (ai e) (aw3 te):=by
 intro c s d H Q I f;rw[evalPart_some];refine ig (h c s d H _ I f) λu k a=>?_;refine bC a λx H1 g r1 b=>?_;clear a;refine aR b λi j q=>?_;clear b;obtain rfl:=j;obtain⟨t,rfl⟩:=r1;exact⟨ai i,H1,g,.int i t,q⟩
def SlR(X:Cx)(r:V->Option Int->Option Int->Hp->VK->Prop):Prop:=
 ∀(a:List (av×Obj)) (s:ay) (b:St) (H:Hp) (x:V) (v c d:au) (lo hi:Option Int) (f:av) (Q:VK),Inv X a b H s->RelV x v->s.heap.IsSliceOf f c d .none->IsPart c lo->IsPart d hi->r x lo hi H Q->
  ∃T id,typeLookup (.type T) "__getitem__"=pure (ai (.builtin id))/\s.TypeIs v T/\aC (aE X.prog X.w) X.A (getItem v (.ref f)) (EP X a b Q) X.xe s
def tSl(r:V->Option Int->Option Int->Hp->VK->Prop)(te:TE)(tl th:TO):TE:=λa H Q=>te a H λx H1=>tl a H1 λl b=>th a b λu c=>r x l u c Q
def E3(hr:SlR X r)(p:PE X e te)(hl:PO X lo tl)(t:PO X hi th):PE X (.Subscript e (.Slice lo hi aj p2) pos) (tSl r te tl th):=by
 intro c s d H Q I h;refine Subscript_ (ig (p c s d H _ I h) λv w m=>?_);refine bC m λx H1 y r1 z=>?_;clear m;refine wpAny_Slice (ig (hl c w d H1 _ y z) λf A g=>g.elim λl i=>i.elim λC j=>j.elim λE k=>k.elim λF J=>ig (t c A d C _ E J) λvu a n=>?_);refine bC n λu o L M N=>?_;clear n;rw[evalPart_none];refine aB ?_;have O:Inv X c d o {a with heap:=a.heap.push {cls:=.type "slice",data:=.fields #[f,vu,.none]}}:=L.kept (t':=a.toks) λb Y q=>bP _ q;refine bC (hr c {a with heap:=a.heap.push {cls:=.type "slice",data:=.fields #[f,vu,.none]}} d o x v f vu l u a.heap.objs.size Q O r1 (Y8 ..) F M N) λT id P S U=>?_;show aC (aE X.prog X.w) X.A (subscriptTail e (.Slice lo hi aj p2) v (.ref a.heap.objs.size)) (EP X c d Q) X.xe {a with heap:=a.heap.push {cls:=.type "slice",data:=.fields #[f,vu,.none]}};exact tail_any (ops:=[.ref a.heap.objs.size,v]) S P U (by with_unfolding_all rfl)
noncomputable def E4(xs:List V)(lo hi:Option Int):List V:=(xs.drop (HT.jj xs.length 0 lo)).take (HT.jj xs.length xs.length hi-HT.jj xs.length 0 lo)
def vj(xs:List V)(lo hi:Option Int):(E4 xs lo hi).length<=xs.length:=by
 unfold E4;rw[kF,ua];lia
def aV4(K:aF):V->Option Int->Option Int->Hp->VK->Prop:=λx lo hi H Q=>∃a b,x=.ref a/\lT K H a b/\
 ¬ (HT.jj b.length 0 lo=0/\HT.jj b.length b.length hi=b.length)/\∀p,H p=aj->Q (.ref p) (upd H p (.tup (E4 b lo hi)))
def YR:SlR X (aV4 X.K):=by
 intro t s u H x v w y lo hi z Q I i j p k h;refine ux h λa d l m n q=>?_;clear h;obtain rfl:=l;cases i;refine cA (I.tuple m) λo r f g=>?_;have c:o.toArray.size=d.length:=by rw[dP];exact r.length.symm
 refine⟨"tuple",_,Hf.lookup,f.typeIs,?_⟩;refine HT.sJ f j p k (by rw[c];exact n) ?_ (by rw[c];exact g);rw[c];refine⟨.ref s.heap.objs.size,_,I.laid (t':=s.toks) (o:=.tup (E4 d lo hi)) (λb A q=>bP _ q) (b9 _) ?_,rfl,q _ (I.fE.fresh (b9 _))⟩;exact⟨cz (vj d lo hi) g,_,(r.drop (HT.jj d.length 0 lo)).take (HT.jj d.length d.length hi-HT.jj d.length 0 lo),Oh _ _⟩
end
noncomputable def Td(n:Nat)(i:Int):Option Nat:=if 0<=i then(if i<n then ai i.toNat else aj)else if -(n:Int)<=i then ai (i+n).toNat else aj
noncomputable def E5{a:Type}(xs:List a)(i:Int):Option a:=(Td xs.length i).bind λj=>xs[j]?
def U4(h:Td n i=ai j):seqIndex? i n=ai j/\j<n/\ -(n:Int)<=i/\i<n:=by
 unfold Td at h;by_cases b:0<=i;rw[bh6 b]at h;by_cases a:i<n;rw[bh6 a]at h;have e:i.toNat=j:=fJ h;exact⟨by rw[seqIndex_of b a,e],by lia,by lia,a⟩;rw[bh7 a]at h;cases h;rw[bh7 b]at h;by_cases a : -(n:Int)<=i;rw[bh6 a]at h;have e:(i+n).toNat=j:=fJ h;exact⟨by rw[seqIndex_neg (by lia) a,e],by lia,a,by lia⟩;rw[bh7 a]at h;cases h
def Jx(h:E5 xs i=ai v):∃j,seqIndex? i xs.length=ai j/\xs[j]?=ai v/\j<xs.length/\ -(xs.length:Int)<=i/\i<xs.length:=by
 unfold E5 at h;cases e:Td xs.length i with
 |none=>rw[e]at h;cases h
 |some j=>rw[e]at h;refine Hx (U4 e) λa b c d=>?_;exact⟨j,a,h,b,c,d⟩
def qz(b:bq):Prop:=∀o i,subscripted b b4 o i=operate [o,i] (getItem o i)
def U5(X:Cx)(r:R2):Prop:=
 ∀(b a:bq) (c:List (av×Obj)) (s:ay) (d:St) (H:Hp) (x y:V) (v u:au) (Q:VK),Inv X c d H s->RelV x v->RelV y u->r x y H Q->
  subscripted a b4 v u=operate [v,u] (getItem v u)->aC (aE X.prog X.w) X.A (subscriptTail b a v u) (EP X c d Q) X.xe s
def MtR(X:Cx)(id:String)(r:V->List V->Hp->VK->Prop):Prop:=
 ∀(a:List (av×Obj)) (s:ay) (b:St) (H:Hp) (x:V) (c:List V) (v:au) (u:List au) (Q:VK),Inv X a b H s->RelV x v->Vals c u->r x c H Q->
  aC (aE X.prog X.w) X.A (call (.builtin id) (v::u)) (EP X a b Q) X.xe s
section
variable {X:Cx}
def U5.or(h:U5 X r)(h':U5 X i):U5 X (λx y H Q=>r x y H Q\/i x y H Q):=by
 intro a b c s d H x y v u Q I e f q g;rcases q with q|q;exact h a b c s d H x y v u Q I e f q g;exact h' a b c s d H x y v u Q I e f q g
def Xi(hr:U5 X r)(c:PE X a t)(hb:PE X b d)(hs:qz b):PE X (.Subscript a b pos) (tOp r t d):=by
 intro e s f H Q I h;exact Subscript_ (YD c hb I h λv u g x y i j k l q=>hr a b e g f i x y v u Q j k l q (hs _ _))
def aw8(K:aF):R2:=λx y H Q=>∃p a i v,x=.ref p/\y=.int i/\k9 K H p a/\E5 a i=ai v/\Q v H
def aw9(K:aF):R2:=λx y H Q=>∃p a i v,x=.ref p/\y=.int i/\lT K H p a/\E5 a i=ai v/\Q v H
def U6:U5 X (aw8 X.K):=by
 intro b c f s g H x y v u Q I n o h k;refine Yg h λp N i z P U A C q=>?_;clear h;obtain rfl:=P;obtain rfl:=U;cases n;obtain⟨t,rfl⟩:=o;refine cA (I.list A) λE r d S=>?_;refine Tv (Jx C) λj a F T J L=>?_;refine aR (r.get F) λw l O=>?_;have hl:=r.length;have Y:=HM;have fin:EP X f g Q w s:=⟨z,H,I,O,q⟩
 by_cases m:0<=i;have e:i.toNat=j:=by rw[seqIndex_of m L]at a;exact fJ a
 exact item_listR d.isList m (by lia) (by rw[e];simpa using l) fin k;have e:(i+(E.toArray.size:Int)).toNat=j:=by rw[seqIndex_neg (by lia) J]at a;rw[dP,<- hl];exact fJ a
 exact Og (x:=w) d.isList.typeIs MW.lookup
  (wpAny_getItem_list_neg (Q:=λr M=>r=w/\EP X f g Q r M) d.isList (by lia) (by rw[dP] <;> lia) (by lia) (by rw[e];simpa using l) ⟨rfl,fin⟩) k
def YS:U5 X (aw9 X.K):=by
 intro a b c s d H x y v u Q I f g h k;refine Yg h λp E i z P U l m q=>?_;clear h;obtain rfl:=P;obtain rfl:=U;cases f;obtain⟨t,rfl⟩:=g;refine cA (I.tuple l) λF r e J=>?_;refine Tv (Jx m) λj n o L M N=>?_;refine aR (r.get o) λw A O=>?_;have hl:=r.length;have S:=HM;have fin:EP X c d Q w s:=⟨z,H,I,O,q⟩
 exact Og (x:=w) e.typeIs slot_tuple_getitem.lookup
  (getItem_tuple (j:=j) (Q:=λr C=>r=w/\EP X c d Q r C) e (by lia) (by lia) (by rw[dP,<- hl];exact n) (by simpa using A) ⟨rfl,fin⟩) k
def BV(lo a:Option Int)(n:Nat):(sliceBounds lo a aj n).1=((HT.jj n 0 lo:Nat):Int)/\(sliceBounds lo a aj n).2.1=((HT.jj n n a:Nat):Int)/\(sliceBounds lo a aj n).2.2=1:=by
 refine⟨?_,?_,rfl⟩;cases lo with
 |none=>simp[sliceBounds,HT.jj]
 |some i=>simp only[sliceBounds,HT.jj,Ol,show(1:Int) > 0 by decide,bi5];by_cases h:i<0;simp only[h,bi5] <;> lia;simp only[h,bi4] <;> lia
 cases a with
 |none=>simp[sliceBounds,HT.jj]
 |some i=>simp only[sliceBounds,HT.jj,Ol,show(1:Int) > 0 by decide,bi5];by_cases h:i<0;simp only[h,bi5] <;> lia;simp only[h,bi4] <;> lia
def zJ(b:List au)(lo h:Option Int):slicePick b.toArray lo h aj=((b.drop (HT.jj b.length 0 lo)).take (HT.jj b.length b.length h-HT.jj b.length 0 lo)).toArray:=by
 refine xH (BV lo h b.toArray.size) λa c d=>?_;unfold slicePick;rw[a,c,d];simp only[sliceRange_one,pick_run,dP] <;> rfl
def aV5(K:aF):V->Option Int->Option Int->Hp->VK->Prop:=λx l h H Q=>∃a b,x=.ref a/\k9 K H a b/\∀p,H p=aj->Q (.ref p) (upd H p (.lst (E4 b l h)))
def U8:SlR X (aV5 X.K):=by
 intro o s t H x v u w l e y Q I g i p j h;refine bC h λa c k m q=>?_;clear h;obtain rfl:=k;cases g;refine cA (I.list m) λz r f n=>?_;have d:=r.length;refine⟨"list",_,MW.lookup,f.isList.typeIs,?_⟩;refine wpAny_getItem_list_slice f.isList i p j .none (by simp) ?_ (by rw[dP] <;> lia);rw[zJ,<- d];refine⟨.ref s.heap.objs.size,_,I.laid (t':=s.toks) (o:=.lst (E4 c l e)) (λb A q=>bP _ q) (b9 _) ?_,rfl,q _ (I.fE.fresh (b9 _))⟩;exact⟨cz (vj c l e) n,_,0,(r.drop (HT.jj c.length 0 l)).take (HT.jj c.length c.length e-HT.jj c.length 0 l),eY _ rfl⟩
def BW:mX X (.builtin "len") (λxs H Q=>∃p ys,xs=[.ref p]/\(k9 X.K H p ys\/lT X.K H p ys)/\Q (.int ys.length) H):=by
 intro k s l H xs m Q I r h;refine bC h λp ys e b q=>?_;clear h;obtain rfl:=e;refine aR (vals1 r) λu j f=>?_;obtain rfl:=j;cases f;have n:=HM;rcases b with b|b;refine cA (I.list b) λg c d i=>?_;have a:=c.length;exact O6 d.isList (by simp only[dP] <;> lia) ⟨.int ys.length,H,I.tok _,⟨s.toks+1,by rw[dP,a]⟩,q⟩;refine cA (I.tuple b) λg c d i=>?_;have a:=c.length;exact len_tuple d (by simp only[dP] <;> lia) ⟨.int ys.length,H,I.tok _,⟨s.toks+1,by rw[dP,a]⟩,q⟩
def sN:mX X (.type "list") (λxs H Q=>∃p ys,xs=[.ref p]/\(k9 X.K H p ys\/lT X.K H p ys)/\∀l,H l=aj->Q (.ref l) (upd H l (.lst ys))):=by
 intro x s y H xs E Q I r h;refine bC h λp ys z g q=>?_;clear h;obtain rfl:=z;refine aR (vals1 r) λu A C=>?_;obtain rfl:=A;cases C;have fin:∀(c:List au),Vals ys c->ys.length<=cH->∀(a:aW) (d:Nat),(∀b w,s.heap.get? b=ai w->a.get? b=ai w)->
   a.get? s.heap.objs.size=ai {cls:=.type "list",dict:=aj,data:=.seq c.toArray d,slots:=#[]}->EP X x y Q (.ref s.heap.objs.size) {s with heap:=a}:=λc f i a d k e=>
  ⟨.ref s.heap.objs.size,_,I.laid (t':=s.toks) k (b9 _) (show gP X.prog X.w _ a _ (.lst ys)from⟨i,c,d,f,e⟩),rfl,q _ (I.fE.fresh (b9 _))⟩
 rcases g with g|g;refine cA (I.list g) λc f m i=>?_;have j:=f.length;obtain⟨o,t,v,n,hd⟩:=m.isList;exact call_list_seq p (.inl rfl) t v hd (λa d k e=>fin c f i a d k e) (by simp only[dP] <;> lia);refine cA (I.tuple g) λc f m i=>?_;have j:=f.length;obtain⟨o,t,v,n,hd⟩:=m;exact call_list_seq p (.inr rfl) t v hd (λa d k e=>fin c f i a d k e) (by simp only[dP] <;> lia)
def zK:mX X (.type "tuple") (λxs H Q=>∃p ys,xs=[.ref p]/\((k9 X.K H p ys/\∀l,H l=aj->Q (.ref l) (upd H l (.tup ys)))\/(lT X.K H p ys/\Q (.ref p) H))):=by
 intro i s j H xs x Q I r h;obtain⟨p,ys,rfl,h⟩:=h;obtain⟨u,rfl,t⟩:=vals1 r;cases t;rcases h with⟨c,q⟩|⟨c,q⟩;obtain⟨d,f,g,k⟩:=I.list c;have m:=f.length;refine call_tuple_list g.isList (λa v=>?_) (by simp only[dP] <;> lia);have n:Inv X i j H {s with heap:=a}:=I.kept (t':=s.toks) v;have w:Inv X i j (upd H a.objs.size (.tup ys)) {s with heap:=a.push {cls:=.type "tuple",data:=.seq d.toArray}}:=
  n.laid (t':=s.toks) (λb o e=>bP _ e) (b9 _) (show gP X.prog X.w _ _ _ (.tup ys)from⟨k,d,f,Oh _ _⟩)
 exact⟨.ref a.objs.size,_,w,rfl,q _ (n.fE.fresh (b9 _))⟩;obtain⟨d,f,g,k⟩:=I.tuple c;exact call_tuple_same g ⟨.ref p,H,I,rfl,q⟩
def tyV(K:aF)(T:String)(x:V)(H:Hp):Prop:=match x with
 |.str _=>T = "str"
 |.int _=>T = "int"
 |.ref p=>(T = "list" /\∃b,k9 K H p b)\/(T = "tuple" /\∃o,K.lookup p=ai o/\o.cls=.type "tuple" /\o.dict=aj)\/
   (T = "dict" /\((∃a,H p=ai (.dK a))\/∃a,H p=ai (.dT a)))\/(T = "set" /\∃S n,H p=ai (.set S n))
 |_=>False
def YT(I:Inv X j σ H s)(r:RelV x v)(ty:tyV X.K T x H) :
  s.TypeIs v T/\∀a,v=.ref a->∃ob,s.heap.get? a=ai ob/\ob.dict=aj:=by
 cases x with
 |str z=>obtain⟨t,rfl⟩:=r;cases(show T = "str"from ty);exact⟨typeIs_str s z t,λ_ e=>nomatch e⟩
 |int i=>obtain⟨t,rfl⟩:=r;cases(show T = "int"from ty);exact⟨typeIs_int s i t,λ_ e=>nomatch e⟩
 |ref p=>
  cases r;rcases ty with⟨rfl,k,h⟩|⟨rfl,o,hk,f,hd⟩|⟨rfl,hk⟩|⟨rfl,S,n,hk⟩;refine cA (I.list h) λl _ b _=>?_;refine⟨b.isList.typeIs,λa e=>?_⟩;cases e;refine ux b λo n e c hd _=>?_;clear b;exact⟨o,e,hd⟩;refine⟨⟨o,I.BK p o hk,f⟩,λa e=>?_⟩;cases e;exact⟨o,I.BK _ o hk,hd⟩;have z:∃o,s.heap.get? p=ai o/\o.ExactDict:=by rcases hk with⟨g,hk⟩|⟨g,hk⟩;obtain⟨_,_,_,_,o,_,_,e,ex,_⟩:=I.fE p _ hk;exact⟨o,e,ex⟩;obtain⟨_,_,_,_,o,_,_,e,ex,_⟩:=I.fE p _ hk;exact⟨o,e,ex⟩
  refine aR z λo e ex=>?_;clear z;refine⟨⟨o,e,ex.1⟩,λa d=>?_⟩;cases d;exact⟨o,e,ex.2.1⟩;refine aO0 (I.fE p _ hk) λo _ _ _ e ex _=>?_;refine⟨⟨o,e,ex.1⟩,λa d=>?_⟩;cases d;exact⟨o,e,ex.2.1⟩
 |_=>exact nU ty
def tBM(K:aF)(T:String)(r:V->List V->Hp->VK->Prop)(to:TE)(t:TA):TE:=λa H Q=>to a H λx H1=>tyV K T x H1/\t a H1 λb c=>r x b c Q
variable {o e:bq}{es:List bq}{to:TE}{t:TA}{name:Str}{apos jL:Pos}{T id:String}{r:V->List V->Hp->VK->Prop}
def Xj(p:PlainAttrs T)(a:Slot T name id)(b:typeOf (.builtin id)=pure (.type "method_descriptor"))(n:MtR X id r)(u:PE X o to)(w:PA X (e::es) t)
  (y:autoParam (p8 o name X.env (eval o X.env)=eval o X.env) b5)
  (Y:autoParam (((backTo jL (bF (e::es) X.env)).all (λx=>!x.1)&&(backToKw jL (keywordEach [] X.env)).all (λx=>x.1.isSome)
   && decide ((e::es).length+([]:List Keyword).length+(if([]:List Keyword).isEmpty then 0 else 1)<30))=bT) b5)
  (z:autoParam ((apos.endLine==jL.line)=bT) b5) (hs:autoParam (bF (e::es) X.env=(b4,eval e X.env)::bF es X.env) b5) (A:autoParam ((backTo jL (bF es X.env)).any (·.1)=b4) b5) :
  PE X (.Call (.Attribute o name apos) (e::es) [] jL) (tBM X.K T r to t):=by
 intro c s d H Q I h;refine MX y Y z rfl (ig (u c s d H _ I h) λv C k=>?_);refine ux k λx H1 l r1 ty E=>?_;clear k;obtain⟨F,J⟩:=YT l r1 ty;refine⟨T,id,p,a,b,F,J,?_⟩;have m:=w jL c C d H1 _ l E;rw[hs]at m ⊢;refine GY (by show(b4 || (backTo jL (bF es X.env)).any (·.1))=b4;rw[A] <;> rfl) (GZ ?_);exact ig m λL M f=>f.elim λN g=>g.elim λO i=>i.elim λP j=>j.elim λr2 S=>n c M d O x N v L Q P r1 r2 S
end
def MtM(X:Cx)(id:String)(r:V->List V->Hp->VK->Prop):Prop:=
 ∀(a:List (av×Obj)) (s:ay) (b:St) (H:Hp) (x:V) (c:List V) (v:au) (u:List au) (Q:VK),Inv X a b H s->RelV x v->Vals c u->r x c H Q->
  aC (aE X.prog X.w) X.A (call (.builtin id) (v::u)) (EP X a b Q) X.xe s
def Vals.inv(h:Vals (x::xs) us):∃u vs,us=u::vs/\RelV x u/\Vals xs vs:=by
 cases h with
 |cons r t=>exact⟨_,_,rfl,r,t⟩
def Vals.zero(h:Vals [] us):us=[]:=by
 cases h;rfl
def Vals.one(h:Vals [x] us):∃u,us=[u]/\RelV x u:=by
 refine bC h.inv λu v b r t=>?_;obtain rfl:=b;obtain rfl:=t.zero;exact⟨u,rfl,r⟩
def Inv.aV6{b its':List au}{f:Array au->Array au}(I:Inv X a σ H s)(h:H l=ai (.lst xs))
  (e:s.heap.get? l=ai {cls:=.type "list",data:=.seq b.toArray n}) (c:f b.toArray=its'.toArray) (d:Vals ys its') (hz:ys.length<=cH) :
  Inv X a σ (upd H l (.lst ys)) {s with heap:=s.heap.update l (dg f),toks:=t'}:=by
 have q:=PySem.IsL.update e f;rw[c]at q;refine I.write (x:=l) (e:=l) (by rw[h];exact trivial) (.inl rfl) (λi u hb g=>(Gx s.heap (dg f) (eW hb)).trans g) ⟨_,q⟩ ?_;exact⟨hz,its',_,d,q⟩
def Inv.aV7(I:Inv X a σ H s)(h:Vals ys b)(hz:ys.length<=cH) :
  Inv X a σ (upd H s.heap.objs.size (.lst ys)) {s with heap:=s.heap.push {cls:=.type "list",data:=.seq b.toArray},toks:=t'}:=
 I.laid (λ_ _ q=>bP _ q) (b9 _) ⟨hz,b,0,h,eY _ rfl⟩
theorem Inv.fresh(I:Inv X a σ H s):H s.heap.objs.size=aj:=I.fE.fresh (b9 _)
def Inv.aV8(I:Inv X a σ H s)(h:H l=ai (.lst xs)):xs.length<=cH/\∃(b:List au) (n:Nat),Vals xs b/\xs.length=b.length/\s.heap.get? l=ai {cls:=.type "list",data:=.seq b.toArray n}:=by
 obtain⟨z,b,n,r,e⟩:=I.fE l _ h;exact⟨z,b,n,r,r.length,e⟩
def BX:V->List V->Hp->VK->Prop:=λx v H Q=>∃l a y,x=.ref l/\v=[y]/\H l=ai (.lst a)/\a.length<cH/\Q .cR (upd H l (.lst (a++[y])))
def uD:MtM X "list.append" BX:=by
 intro i s k H x m v o Q I c d h;refine DK h λl p y f P a t q=>?_;clear h;obtain rfl:=f;obtain rfl:=P;cases c;refine aR d.one λu j g=>?_;obtain rfl:=j;obtain⟨z,b,n,r,hl,e⟩:=I.aV8 a;refine call_meets F.slot_list_append ⟨_,e,rfl⟩ F.entry_list_append (F.args_list_append_2 _ _) (PySem.list_append l b.toArray n u (by rw[dP];lia)) ⟨e,?_⟩;refine⟨.cR,_,I.aV6 (its':=b++[u]) a e (by simp) (r.append (.cons g .nil)) ?_,rfl,q⟩;rw[bX,xg];lia
end L2
namespace Att
open PySem PySem.W PySem.Calls PyProof.Rows
def vM:∀(ns:List Int) (vs:List au),WellAll P h vs (ns.map WData.int)->IntsAre vs ns:=by
 intro ns;induction ns with
 |nil=>intro vs w;rw[nM]at w;cases w;exact .nil
 |cons n ns i=>
  intro vs w;rw[bz]at w;cases w with
  |cons a b=>cases a;exact .cons _ _ (i _ b)
def L4{l:OpenLaw}(j:l.most=ai n)
  (U:l.row.toRowW.claim.pre args=bT) (f:WellAll P h vals args) :
  ∃a vs ns,vals=[f7 a]/\args=[WData.list (ns.map WData.int)]/\h.get? a=ai {cls:=.type "list",data:=.seq vs.toArray}/\IntsAre vs ns/\ns.length<=n:=by
 have g:WShape.hasAll [] args [.list .int]=bT:=(pre_splitW U).1;have i:l.pre.holds [] {args:=args}=bT:=(pre_splitW U).2;refine bC (hasAllW_cons g) λd r k m o=>?_;obtain rfl:=k;obtain rfl:=hasAllW_nil o;refine aR (hasW_list m) λy p s=>?_;obtain rfl:=p;obtain⟨ns,rfl⟩:=items_int s;have b:ns.length<=n:=by
  unfold OpenLaw.pre at i;have c:(WTm.not (.lt (.lit (.int (n:Int))) (.len (.arg 0)))).holds [] {args:=[.list (ns.map .int)]}=bT:=by have c:=(holds_andW i).1;rw[j]at c;exact c
  have e:=condW_of c (w_not (w_lt w_lit (w_len_list (w_arg rfl))));rw[bw]at e;refine mC λq=>?_;have t:(n:Int)<((ns.length:Nat):Int):=by lia
  first
   |(rw[bh8 t]at e;exact bi8 e (by decide))
   |(simp at e;lia)
 cases f with
 |cons w u=>
  cases u;cases w with
  |list v x=>exact⟨_,_,ns,rfl,rfl,v,vM ns _ x,b⟩
def L5(l:OpenLaw)(a:List WData):l.row.toRowW.claim.post a (.bool bT) a=bT:=
 postW_of (r:=l.row.toRowW) (X:=(bT==bT))
  (show WShape.has [] (.bool bT) .bool=bT by first|rfl|decide|simp[WShape.has,WShape.arms,WShape.armsAll])
  (show(WTm.eq .res (.lit (.bool bT))).value [] {args:=a,res:=ai (.bool bT),after:=a}=ai (.bool (bT==bT))from w_eq_bool (w_res rfl) w_lit) rfl
def E6{l:OpenLaw}{u:bL->aW->Prop}{d:DefRec}
  (C:l.most=ai n) (E:d.params.defaults=[])
  (e:∀(w:bL) (k b:ay) (mg m:Str->Option au) (g:av) (o:Obj) (p j c:au) (a:av) (vs:List au) (ns:List Int),
   Ground q loose [] X w k mg m b.heap->u w b.heap->
   b.heap.get? g=ai o->o.data=.func (docDef d.name d.params d.body d.scope p j c)->b.heap.CodeRec j d.name->mg d.name=ai (.ref g)->
   b.heap.get? a=ai {cls:=.type "list",data:=.seq vs.toArray}->IntsAre vs ns->ns.length<=n->b.gens=#[]->
   codeAny (aE l.prog w) callerA (.call (.ref g) ⟨[.ref a],[]⟩) (λr s'=>r=.ok (.ret (.bool bT))/\OldK b.heap s'.heap/\s'.os=b.os/\AllBare s'.gens) b) :
  WalkO q loose X u l.row.toRowW d [] (λf vs=>PySem.call f vs):=by
 intro w k b mg m G Y g o p j c F kV H hd I v s J x y as U L M t N;obtain rfl:F=.none:=Dflts.none v E;obtain rfl:kV=.none:=Dflts.noKw v;refine DK (L4 C U t) λa vs ns O P Q h i=>?_;obtain rfl:=O;obtain rfl:=P;refine enter_call (tY (e w k b mg m g o p j c a vs ns G Y H (fd_plain hd) I s Q h i J) λr s' A=>?_);refine Hx A λz S T Z=>?_;clear A;obtain rfl:=z;exact⟨.inl ⟨.bool bT,.bool bT,[],rfl,λ_=>rfl,.bool bT,L5 l _,λ_=>⟨List.Pairwise.nil,λ_ hm=>(nomatch hm)⟩⟩,S,T,Z⟩
end Att
namespace L2
open PySem PySem.Spec PyProof.Rows
theorem AA:∀{vs:List au} {ns:List Int},IntsAre vs ns->Vals (ns.map V.int) vs
 |_,_,.nil=>.nil
 |_,_,.cons n t h=>.cons ⟨t,rfl⟩ (AA h)
noncomputable def inClass(s:aY)(j:Nat):aY:=match s with
 |.ClassDef _ _ _ body _ _ _ _ _ _ _=>body.getD j (.Pass ⟨0,0,0,0⟩)
 |_=>.Pass ⟨0,0,0,0⟩
noncomputable def jr(s:aY):Arguments:=match s with
 |.FunctionDef _ a _ _ _ _ _ _ _ _=>a
 |_=>{posonlyargs:=[],args:=[],vararg:=aj,kwonlyargs:=[],kw_defaults:=[],kwarg:=aj,defaults:=[]}
noncomputable def fu(s:aY):List aY:=match s with
 |.FunctionDef _ _ b _ _ _ _ _ _ _=>b
 |_=>[]
noncomputable def bG(s:aY):iP:=match s with
 |.FunctionDef _ _ _ _ _ _ sc _ _ _=>sc
 |_=>{kind:=.function,names:=[],isGenerator:=b4,isCoroutine:=b4}
structure ME(K:aF)(x qual:Str)(st:aY)(f:av)(fd:gV):Prop where
 ex:∃(oc:au) (od:Option av) (kV doc pm:au) (an:Option av) (dj ct:au) (G6:Array (Option au)),
  fd=nI x qual (jr st) (fu st) (bG st) .none kV doc pm an dj ct/\K.lookup f=ai ⟨oc,od,.func fd,G6⟩/\PySem.W.codeIn K dj qual=bT
 kp:rj K (.ref f)=bT
section
variable {K:aF}
def ME.binds{x a:Str}{st:aY}{f:av}{e:gV}{ps:List Str}(F:ME K x a st f e)
  (h:∀(kV d p:au) (b:Option av) (c ct:au) (u:List au),u.length=ps.length->bindArgs (nI x a (jr st) (fu st) (bG st) .none kV d p b c ct) ⟨u,[]⟩=pure (ps.zip u)):Binds K e ps []:=by
 refine Yh F.ex λo od kV d p b c ct g z lk H=>?_;obtain rfl:=z;exact .all (h kV d p b c ct)
def BY{x a:Str}{st:aY}{f:av}{o:au}{od e:Option av}{g:Array (Option au)}{kV d p b ct:au}(l:K.lookup f=ai ⟨o,od,.func (nI x a (jr st) (fu st) (bG st) .none kV d p e b ct),g⟩)
  (c:PySem.W.codeIn K b a=bT) (k:rj K (.ref f)=bT):ME K x a st f (nI x a (jr st) (fu st) (bG st) .none kV d p e b ct):=⟨⟨o,od,kV,d,p,e,b,ct,g,rfl,l,c⟩,k⟩
end
noncomputable def pv(i:Nat)(h:autoParam (X.N[i]?=ai x) b5)(a:Vis X.env.scope x:=by first|exact gD rfl|exact iN (gD rfl)|exact iN (iN rfl))(hd:autoParam ((x==("__debug__" : Str))=b4) cT)
  (H:autoParam ((x==("__classdict__" : Str))=b4) cT):PE X (.Name x pos) (rK i):=Yp h a hd H
def aG(H a:Hp):Prop:=∀b o,H b=ai o->a b=ai o
def aG.refl(H:Hp):aG H H:=λ_ _ h=>h
def aG.trans(a:aG H H1)(b:aG H1 H2):aG H H2:=λc o h=>b c o (a c o h)
def aG.free(e:aG H a)(h:a l=Option.none):H l=Option.none:=by
 cases q:H l with
 |none=>rfl
 |some o=>rw[e l o q]at h;cases h
def aG.seq{K:aF}{H b:Hp}{a:av}{xs:List V}(e:aG H b)(h:k9 K H a xs):k9 K b a xs:=by
 rcases h with(h|⟨o,h⟩)|h;exact .inl (.inl (e _ _ h));exact .inl (.inr ⟨o,e _ _ h⟩);exact .inr h
end L2
namespace Dm
open PySem PySem.Spec PyProof.Rows L2
def XD(b:Option av)(a:av)(h:aW):Prop:=∀d,b=ai d->∃o,h.get? a=ai o/\o.dict=ai d
def XD.no:XD aj a h:=λ_ z=>nomatch z
def XD.keeps{h':aW}(x:XD f a h)(k:∀o,h.get? a=ai o->∃b,h'.get? a=ai b/\b.dict=o.dict):XD f a h':=λd z=>by
 obtain⟨o,e,g⟩:=x d z;obtain⟨b,i,c⟩:=k o e;exact⟨b,i,c.trans g⟩
def HX(f:Obj->Obj):Prop:=∀o,(f o).dict=o.dict/\(o.isFreed=b4->(f o).isFreed=b4)
inductive KD{α:Type}:Sem α->Prop
 |ret (a:α):KD (.pure a)
 |exc (e:au):KD (.raise e)
 |no (w:String):KD (.unsupported w)
 |load {a:av} {pt:Option au} {k:Obj->Sem α} (h:∀o,KD (k o)):KD (.load a pt k)
 |upd {a:av} {pt:Option au} {f:Obj->Obj} {k:Unit->Sem α} (hf:HX f) (h:KD (k ())):KD (.update a pt f k)
 |alloc {o:Obj} {k:av->Sem α} (h:∀a,KD (k a)):KD (.alloc o k)
 |stack {k:List (Code×Pos)->Sem α} (h:∀l,KD (k l)):KD (.stack k)
theorem KD.bind{f:α->Sem β}(h:KD m)(b:∀a,KD (f a)):KD (m>>=f):=by
 show KD (Sem.bind m f);induction h with
 |ret a=>exact b a
 |exc e=>exact .exc e
 |no w=>exact .no w
 |load _ i=>exact .load i
 |upd z _ i=>exact .upd z i
 |alloc _ i=>exact .alloc i
 |stack _ i=>exact .stack i
def XD.upd(x:XD d a h)(c:HX f):XD d a (h.update b f):=x.keeps λo e=>by
 by_cases z:b=a;subst z;exact⟨f o,nJ f e ((c o).2 (Heap.get?_some_iff.mp e).2),(c o).1⟩;exact⟨o,(Gx h f z).trans e,rfl⟩
def ax4(k:KD t) :
  ∀{p:Pos} {s:ay},Sem.wp M b t Q E p s->XD d a s.heap->Sem.wp M b t (λx p s=>Q x p s/\XD d a s.heap) (λx p s=>E x p s/\XD d a s.heap) p s:=by
 induction k with
 |ret x=>exact λh z=>⟨h,z⟩
 |exc e=>exact λh z=>⟨h,z⟩
 |no w=>exact λh z=>h
 |load _ i=>intro p s h z;rw[Sem.wp_load]at h ⊢;obtain⟨o,e,h⟩:=h;exact⟨o,e,i o h z⟩
 |upd c _ i=>intro p s h z;rw[Sem.wp_update]at h ⊢;exact⟨h.1,i h.2 (z.upd c)⟩
 |alloc _ i=>intro p s h z;rw[Sem.wp_alloc]at h ⊢;exact i _ h (z.keeps λo e=>⟨o,bP _ e,rfl⟩)
 |stack _ i=>intro p s h z;exact i _ h z
def E7(k:KD t)(h:aC M A t Q E s)(z:XD d a s.heap) :
  aC M A t (λx s'=>Q x s'/\XD d a s'.heap) (λx s'=>E x s'/\XD d a s'.heap) s:=λb p c=>ax4 k (h b p c) z
def C0(a:av):KD (load a):=.load λo=>.ret o
def y9:KD stack:=.stack λl=>.ret l
def sO(f:Array au->Array au):HX (Obj.mapFields f):=λo=>by
 obtain⟨c,d,a,s⟩:=o;cases a <;> exact⟨rfl,λh=>h⟩
def E8(v:au):KD (fieldsOf v):=by
 unfold fieldsOf;cases v with
 |ref a=>refine .bind (C0 a) λo=>?_;split;exact .ret _;exact .no _
 |_=>exact .no _
def sP(v:au)(i:Nat):KD (field v i):=by
 unfold field;refine .bind (E8 v) λa=>?_;split;exact .ret _;exact .no _
def ya(a:av)(i:Nat)(x:au):KD (updateField a i x):=by
 unfold updateField;refine .bind (C0 a) λo=>?_;split;split;exact .upd (sO _) (.ret _);exact .no _;exact .no _
def pX(v:au)(i:Nat)(x:au):KD (setField v i x):=by
 unfold setField;cases v with
 |ref a=>exact ya a i x
 |_=>exact .no _
def C1(e:au)(f:Option av):KD (setFlight e f):=by
 unfold setFlight;refine .bind (sP e 1) λt=>?_;split;exact pX _ _ _;exact .ret _
def L6(env:Env)(o:List Env):KD (behindIsImport env o):=by
 unfold behindIsImport;split;exact .ret _;split;exact .ret _;exact .bind (sP _ _) λ_=>.ret _
def Ua(env:Env)(i:Bool)(o:List Env):KD (keptBack env i o):=by
 unfold keptBack;split;split;exact .ret _;unfold underTheClaimsCaller;exact .bind (.bind y9 λ_=>.ret _) λ_=>.ret _;exact .ret _
def Ph:∀l:List Env,KD (readyFrames l):=λl=>by
 induction l with
 |nil=>exact .ret _
 |cons env a c=>unfold readyFrames;split;refine .bind (C0 _) λo=>?_;split;exact .ret _;refine .bind (L6 env a) λi=>.bind (Ua env i a) λb=>.bind (.upd (λo=>⟨rfl,λh=>by obtain⟨_,_,d,_⟩:=o;cases d <;> exact h⟩) (.ret _)) λ_=>c;exact .no _
def HY(env:Env):KD (PySem.frameOf env):=by
 unfold PySem.frameOf frameEnvs;refine .bind (.bind y9 λ_=>.ret _) λl=>.bind ?_ λo=>?_;unfold frameObject;split;exact .ret _;exact .bind (Ph _) λ_=>.ret _;split;exact .ret _;exact .no _
def Pj(f:av)(b:Bool):KD (entryPlaceOf f b):=by
 unfold entryPlaceOf;refine .bind y9 λl=>?_;split;exact .ret _;exact .ret _
def Pn(h:au)(b:au)(l f x:au)(p:List au):KD (EntryCells.newEntry h b l f x p):=by
 have fin:∀d,KD (newObjAsIs (.type "traceback") d):=λd=>by unfold newObjAsIs;exact .bind (.alloc λa=>.ret a) λ_=>.ret _
 unfold EntryCells.newEntry newFields;generalize ([h,b,l,f,x]++if p.isEmpty=bT then kE 6 eL else p).toArray=v;unfold newObj;dsimp only;split;exact .bind (.no _) λ_=>fin _;exact fin _
def Ub(e:au)(env:Env):KD (noteFrame e env):=by
 unfold noteFrame;split;refine .bind (sP e 1) λh=>?_;have fin:=λ(f:av)=>KD.bind (HY env) λa=>KD.bind (Pj f (h != .none)) λp=>KD.bind (Pn h a .none (rawInt f) .none p) λb=>pX e 1 b;dsimp only;split;refine .bind (sP h 3) λx=>?_;split;exact .ret _;exact .bind (pX _ _ _) λ_=>fin _;exact fin _;exact .no _
def Cov(l:List Env)(B h:aW):Prop:=∀b o,h.get? b=ai o->b∉xN l->B.get? b=ai o
def oU(P:dz)(w:bL):Tc:=λo H s E e b=>∃a c f g d h B,e=.ref a/\Heap.FlyingW B o a c g b.heap/\XD f a b.heap/\Cov o B h/\h.UpToSlots b.heap/\E c f d/\b.os=s.os/\AllBare b.gens/\
 Un (xN o) [] H d s.heap h/\sj P w d h
structure Made(h h':aW)(a:av)(cls:au):Prop where
 keeps:∀b o,h.get? b=ai o->h'.get? b=ai o
 new:h.get? a=aj
 there:∃o a0,h'.get? a=ai o/\o.cls=cls/\o.data=.fields #[a0,.none,.none,.none,.bool b4,.none]
def Made.of(x:Heap.MadeExcOf h h' a cls vs):Made h h' a cls:=by
 refine cA x.there λt b _ _=>?_;exact⟨x.keeps,x.new,_,_,b,rfl,rfl⟩
def kj(X:Cx)(E:L2.St->XK)(e:au)(s':ay):Prop:=∃a c d b H h,e=.ref a/\L2.Inv X [] b H {s' with heap:=h}/\E b c d H/\XD d a s'.heap/\
 (Made h s'.heap a c\/(∃f B,Cov X.stack B h/\h.UpToSlots s'.heap/\(Heap.FlyingW B X.stack a c f s'.heap\/Heap.HeldW B X.stack a c f X.env.locals s'.heap)))
def yb(I:L2.Inv X a σ H s):L2.Inv X [] σ H s:=I.sE λp h=>by cases h
section
variable {X:Cx}
def Uc(I:L2.Inv X b σ H s)(h:Made s.heap h' a cls)(q:E σ cls aj H):kj X E (.ref a) {s with heap:=h'}:=
 ⟨a,cls,aj,σ,H,s.heap,rfl,yb I,q,.no,.inl h⟩
def E9(I:L2.Inv X j σ H s)(c:oU X.prog X.w X.stack H s (E σ) e s'):kj X E e s':=by
 obtain⟨a,g,k,l,i,h,B,rfl,f,xd,m,u,q,o,d,n,p⟩:=c;have r:L2.Inv X j σ i {s' with heap:=h}:=Inv.DU I (s':={s' with heap:=h}) o n p d (λb z=>bi8 z (by simp));exact⟨a,g,k,σ,i,h,rfl,yb r,q,xd,.inr ⟨l,B,m,u,.inl f⟩⟩
def Ud{h:aW}(f:h.FunFrames base l):∃B:aW,Cov l B h/\B.StaysIn h/\h.FunFrames B l/\∀b,h.get? b=aj->B.get? b=aj:=by
 have st:(An h (xN l)).StaysIn h:=λb o e=>Jm _ e;refine⟨An h (xN l),λb o e n=>N7 _ e n,st,PySem.W.funFrames_hide f λenv c a d=>x9.mpr ⟨env,c,d⟩,λb hb=>?_⟩;cases g:(An h (xN l)).get? b with
 |none=>rfl
 |some i=>have:=st b i g;rw[hb]at this;cases this
structure YX(X:Cx):Prop where
 OV:X.stack=X.env::X.outer
 fr:X.env.frame=ai X.env.locals
def Ea{Q:Unit->ay->Prop}(O:YX X)(f:kj X E e s')
  (k:∀(a:av) c d a0 g H h B h',e=.ref a->L2.Inv X [] g H {s' with heap:=h}->E g c d H->XD d a h'->Cov X.stack B h->h.UpToSlots h'->Heap.HeldW B X.stack a c a0 X.env.locals h'->Q () {s' with heap:=h'}) :
  aC (aE X.prog X.w) X.A (noteFrame e X.env) Q v s':=by
 obtain⟨a,c,d,g,H,h,rfl,I,q,xd,f⟩:=f;have l:X.A.frames=ai (X.env::X.outer):=by rw[I.ok.frames,O.OV]
 refine iw (E7 (Q:=λu s=>XD d a s.heap->Q u s) (E:=v) (Ub _ _) ?_ xd) (λu s h=>h.1 h.2) λ_ _ h=>h.1;rcases f with i|⟨a0,B,m,n,f|f⟩;obtain⟨P,a0,p,A,j⟩:=i.there;subst A;obtain⟨B,w,x,y,r⟩:=Ud I.stack;have t:s'.heap.FunFrames B X.stack:=y.of_keeps λb o hb _=>⟨o,i.keeps b o hb,rfl⟩
 rw[O.OV]at t;unfold noteFrame;simp only[O.fr];refine ak (mh p (vs:=#[a0,.none,.none,.none,.bool b4,.none]) j (x:=.none) rfl ?_);rw[bh7 (by decide)];refine wpAny_entryW (a0:=a0) l t O.fr p (λb o hb=>i.keeps b o (x b o hb)) (r a i.new) j (by simp) rfl λh' z=>?_;obtain⟨C,F,J,L⟩:=z;refine λxd=>k a _ d a0 g H h B h' rfl I q xd w ((Y9 i.keeps).trans L) ⟨C,r a i.new,?_,J⟩;rw[O.OV];exact F;rw[O.OV]at f;refine wpAny_looks_onW l O.fr f λh' M N=>?_;exact λxd=>k a c d a0 g H h B h' rfl I q xd m (n.trans N) (by rw[O.OV];exact M);refine wpAny_noteFrame_againW O.fr f.2.2.2 ?_;exact λxd=>k a c d a0 g H h B s'.heap rfl I q xd m n f
def fS(O:YX X):PassesOwn (aE X.prog X.w) X.A X.env (kj X E):=by
 intro e Z f;refine Ea O f λa l y A C H h B m F I q xd J L hd=>?_;subst F;unfold cameBackBy;obtain⟨M,N,P,Q,v,T,oT,t,n,S,p,r,i,j,s,d,U⟩:=hd;refine ak (mh n p r ?_);rw[bh7 (by simp)];unfold setFlight;refine ak (mh n p r ?_);rw[bh6 (show(f7 T !=eL)=bT from by simp)];have k:3<t.size:=(pQ.mp U).1;rw[O.fr];refine r9 s d k ?_;have c:∀b,b≠T->(m.update T (Obj.mapFields (·.setIfInBounds 3 (rawInt X.env.locals)))).get? b=m.get? b:=λb hb=>Gx _ _ (eW hb);have u:∀b o,m.get? b=ai o->(∀v,o.data≠.fields v)->b≠T:=λb o hb g z=>by rw[z,s]at hb;injection hb with hb;subst hb;exact g t d
 refine⟨a,l,y,C,H,h,rfl,I,q,xd.upd (sO _),.inr ⟨A,B,J,λb o hb w=>?_,.inr ⟨λb o hb=>?_,N,P.of_keeps λb o hb g=>⟨o,(c b (u b o hb g)).trans hb,rfl⟩,?_⟩⟩⟩;obtain⟨Y,x⟩:=L b o hb w;exact⟨Y,(c b (u b _ x λv z=>w v z)).trans x⟩;refine(c b λz=>?_).trans (M b o hb);rw[z,i]at hb;cases hb;refine⟨Q,v,T,_,_,(c a (eW j)).trans n,S,p,r,i,j,nJ _ s (BE (uw d _)),uw d _,?_⟩;simp[k]
end
section
variable {P:dz}{w:bL}{K:aF}{mg:Str->Option au}{base:aW}{N:List Str}{qual:Str}{scope:iP}{f:av}{cd:au}{A:cy}{outer:List Env}{s:ay}{H:Hp}{E:XK}
def L7(fl:kj (oS (oU P w) P w K mg base N qual scope f cd A outer s H E) (λ_=>E) e s'):(oS (oU P w) P w K mg base N qual scope f cd A outer s H E).xe e s':=by
 let X:=oS (oU P w) P w K mg base N qual scope f cd A outer s H E;have O:YX X:=⟨rfl,rfl⟩
 show aC (aE P w) X.A (leaving X.env e) (λ_ M=>oU P w outer H s E e M) (λk M=>oU P w outer H s E k M) s';unfold leaving;refine ak (Ea O fl λa l t F σ m h B h' J I q xd L Q hd=>?_);subst J;refine iw (E7 (Q:=λ_ d=>XD t a d.heap->oU P w outer H s E (.ref a) d) (E:=λk d=>oU P w outer H s E k d) (C1 _ _) ?_ xd) (λu d h=>h.1 h.2) λ_ _ h=>h.1;refine wpAny_landsW hd λh2 i S xd=>?_;refine Hx i λT U Y Z=>?_;clear i;obtain⟨_,⟨L',x,j,e2,e3,e4⟩,k3⟩:=Y;obtain rfl:X.env.locals=L':=fJ j;have y:m X.env.locals=aj:=I.free;have fr:∀b,b∈xN X.stack↔b=X.env.locals\/b∈xN outer:=λb=>by show b∈xN (X.env::outer)↔_;unfold xN;rw[Nv (show X.env.frame=ai X.env.locals from rfl),cK]
 have g:∀b o,b≠X.env.locals->h.get? b=ai o->(An h [X.env.locals]).get? b=ai o:=λb o n e=>N7 _ e (by simpa using n);refine⟨a,l,t,F,m,An h [X.env.locals],B,rfl,⟨T,U,k3,Z⟩,xd,λb o e nb=>?_,λb o e hn=>?_,q,I.os,I.bare,?_,?_⟩;have nl:b≠X.env.locals:=λz=>by have C:=X6 [X.env.locals] (h:=h) (b:=b) (by simp[z]);rw[e]at C;cases C
 exact L b o (Jm _ e) λz=>by rcases(fr b).mp z with z|z;exact nl z;exact nb z
 exact(Q.trans S) b o (Jm _ e) hn;have u:Un (xN outer) [] H m s.heap h:=I.base;have p:∀b o,s.heap.get? b=ai o->b≠X.env.locals:=λb o e=>dM (gO (bZ e) I.ok.above);refine⟨λb o e n r nx=>g b o (p b o e) (u.keep b o e n r nx),λb o e n r nx=>?_,u.free,λb o e nx=>?_,u.pT,u.xK,u.xM⟩;obtain⟨sl,j⟩:=u.slot b o e n r nx;exact⟨sl,g b _ (p b o e) j⟩;obtain⟨x,j⟩:=u.there b o e nx;exact⟨x,g b _ (p b o e) j⟩;intro b u e;refine(I.fE b u e).zI (λc v hc q'=>g c v ?_ q') (λ_ z=>z) (λ_ _ z=>z) λ_ zo _ z=>z;rcases hc with z|z;rintro rfl;rw[<- z,y]at e;cases e;rintro rfl;rw[y]at z;cases z
end
end Dm
namespace Dm
open PySem PySem.Spec PyProof.Rows L2 PySem.W
noncomputable def exD(K:Frag)(C:av)(b:List au)(n:String)(o:Obj):Bool:=match o.data with
 |.cls c=>!c.hasDel&&c.mro.head?==ai (.ref C)&&tailIn K b c.mro.tail&&nsOkIn K c.ns&&nsIn K c.ns "__init__"==ai aj&&o.cls == .type "type" && o.slots.toList[4]?==ai (ai (.builtin n))&&o.slots.toList.length==6
 |_=>b4
noncomputable def exB(K:Frag)(C:av)(b:List au)(n:String):Bool:=(K.lookup C).any (exD K C b n)
def six{l:List (Option au)}(h:l.length=6)(e:l[4]?=ai a):∃k0 k1 k2 k3 k5,l=[k0,k1,k2,k3,a,k5]:=by
 refine rJ (uc h) λk0 l b=>?_;obtain rfl:=b;refine rJ (uc (fR h)) λk1 l b=>?_;obtain rfl:=b;refine rJ (uc (fR (fR h))) λk2 l b=>?_;obtain rfl:=b;refine rJ (uc (fR (fR (fR h)))) λk3 l b=>?_;obtain rfl:=b;refine rJ (uc (fR (fR (fR (fR h))))) λk l b=>?_;obtain rfl:=b;refine rJ (uc (fR (fR (fR (fR (fR h)))))) λk5 l b=>?_;obtain rfl:=b;obtain rfl:=Nx (fR (fR (fR (fR (fR (fR h))))));cases e;exact⟨k0,k1,k2,k3,k5,rfl⟩
def YY{K:Frag}{mg:Str->Option au}(X:K.In h)(hb:mg x=ai (.ref C))(q:exB K C b newId=bT):OwnCls x C b newId mg h:=by
 refine⟨hb,?_⟩;unfold exB at q;cases a:K.lookup C with
 |none=>rw[a]at q;cases q
 |some o=>
  rw[a]at q;replace q:exD K C b newId o=bT:=q;obtain⟨M,dd,g,i⟩:=o;cases g with
  |cls j=>
   obtain⟨n,k,c,p,r,hd,t,s,u,d,v⟩:=j;obtain⟨l⟩:=i;unfold exD at q;simp only[bI,bi0,Bool.not_eq_true']at q;obtain⟨⟨⟨⟨⟨⟨⟨rfl,e⟩,w⟩,f⟩,y⟩,rfl⟩,z⟩,A⟩:=q;cases c with
   |nil=>cases e
   |cons m E=>cases e;refine aN9 (six A z) λF H I J L U=>?_;obtain rfl:=U;exact⟨E,p,n,r,k,hd,t,s,u,d,dd,F,H,I,J,L,_,X _ _ a,.of_isNs (isNs_of_in X f),nsMap_none_of_in X f y,tail_of_in X w⟩
  |_=>exact nomatch q
section
variable {X:Cx}{E:L2.St->XK}{x:Str}{C:av}{B newId Po:String}{bm:List au}{np jL pos:Pos}{C2:bq}{rest:List bq}{ta:TA}
def YZ(E:L2.St->XK)(c:au)(ta:TA):TS:=λ_ a H=>ta a H λv H1=>v.length<=cH/\E a c aj H1
def Pp(F:ExcBaseFacts B newId Po bm)(g:X.A.handled=aj)(c:X.mg x=ai (.ref C))(i:exB X.K C bm newId=bT)(j:Gl X x)(k:PA (X.dJ (kj X E)) (C2::rest) ta)
  (d:autoParam (bF (C2::rest) X.env=(b4,eval C2 X.env)::bF rest X.env) b5) (m:autoParam ((backTo jL (bF rest X.env)).any (·.1)=b4) b5) (hd:autoParam ((x==("__debug__" : Str))=b4) cT) :
  PS (X.dJ (kj X E)) (.Raise (ai (.Call (.Name x np) (C2::rest) [] jL)) aj pos) (YZ E (.ref C) ta):=by
 intro n s o H D I h;have O:OwnCls x C bm newId X.mg X.base:=YY I.ok.mod.kin c i;obtain⟨t,N,nm,q,bs,hdct,sn,sub,ab,col,dd,k0,k1,k2,k3,k5,mN,p,u,b,T⟩:=O.obj;refine wpAny_Raise_call_subT (C:=C) (nm:=nm) (q:=q) (N:=N) (bs:=bs) (bm:=t) (hdct:=hdct) (sn:=sn) (sub:=sub) (ab:=ab) (col:=col) (dd:=dd) (k0:=k0) (k1:=k1) (k2:=k2) (k3:=k3) (k5:=k5)
  F (mN:=mN) (T.hasType F.hasBase) g (by rw[d];show(b4 || (backTo jL (bF rest X.env)).any (·.1))=b4;rw[m];rfl) b (sG I j c ⟨rfl,?_⟩ hd)
 have f:=k jL n s o H _ I h;rw[d]at f ⊢;refine GZ (iw f (λA J l=>?_) λ_ _ y=>y);refine ux l λL H1 a r z w=>?_;clear l;exact⟨rfl,by rw[<- r.length];exact z,a.bk _ _ p,u.keeps a.bk,T.keeps a.bk,λM e v=>Uc a.iO (.of v) w⟩
def HZ(sp:Sp)(E:L2.St->XK)(t:TA):TE:=λa H Q=>t a H λv H1=>sp v H1 Q (E a)
def Ue{CX:Tc}(F:jT X.prog X.w X.K X.mg X.base (oU X.prog X.w) k f fd ps sp)(hr:j7 k X.A)(hb:Binds X.K fd ps [])
  (I:L2.Inv X c σ H s) (r:Vals vs us) (h:sp vs H Q (E σ)):aC (aE X.prog X.w) X.A (call (.ref f) us) (EP X c σ Q) (kj X E) s:=by
 have hl:(us++[]).length=ps.length:=by rw[kC,<- r.length];exact F.len _ _ _ _ h
 have a:=hb s us I.BK hl;rw[kC]at a;refine Bh (tY (F.run X.A X.stack s H ⟨us,[]⟩ us vs Q (E σ) hr I.av2 a r h) λr d b=>?_);cases r with
 |error e=>exact E9 I b
 |ok fl=>
  cases fl with
  |ret u=>exact I.after b
  |next=>exact nU b
  |brk=>exact nU b
  |cont=>exact nU b
def Eb(F:jT X.prog X.w X.K X.mg X.base (oU X.prog X.w) k f fd ps sp)(hr:j7 k X.A)(b:Gl X x)(c:X.mg x=ai (.ref f))(hk:rj X.K (.ref f)=bT)(hb:Binds X.K fd ps [])
  (d:PA (X.dJ (kj X E)) (e::es) t) (A:autoParam ((x==("__debug__" : Str))=b4) cT) (g:autoParam (bF (e::es) X.env=(b4,eval e X.env)::bF es X.env) b5) (i:autoParam ((backTo pos (bF es X.env)).any (·.1)=b4) b5) :
  PE (X.dJ (kj X E)) (.Call (.Name x p) (e::es) [] pos) (HZ sp E t):=by
 intro j s l H Q I h;refine tX (sG I b c ?_ A);refine N9 (h₀:=X.base) I.ok.mod.kin hk (ig (d pos j s l H _ I h) λP S o=>o.elim λT m=>m.elim λH1 n=>n.elim λa w=>w.elim λr q=>⟨a.BK,?_⟩) g i;refine ig (Ue (CX:=oU X.prog X.w) F hr hb a.iO r q) λu U J=>J.elim λv y=>y.elim λz L=>L.elim λM N=>N.elim λr2 O=>⟨v,z,M.dJ _,r2,O⟩
def Z0(C:av)(sp:Sp)(E:L2.St->XK)(t:TA):TE:=λa H Q=>t a H λb H1=>∀x d,H1 x=aj->H1 d=aj->d≠x->
 sp (.ref x::b) (upd (upd H1 d (.own x)) x (.ins C d [])) (λv c=>v=.cR/\Q (.ref x) c) (E a)
def L8(M:Mk X.K C f)(F:jT X.prog X.w X.K X.mg X.base (oU X.prog X.w) k f fd ps sp)(hr:j7 (k+1) X.A)(hb:Binds X.K fd ps [])
  (I:L2.Inv X g σ H s) (r:Vals vs us) (h:∀x d,H x=aj->H d=aj->d≠x->sp (.ref x::vs) (upd (upd H d (.own x)) x (.ins C d [])) (λv H2=>v=.cR/\Q (.ref x) H2) (E σ)) :
  aC (aE X.prog X.w) X.A (call (.ref C) us) (EP X g σ Q) (kj X E) s:=by
 have c:=h (s.heap.objs.size+1) s.heap.objs.size (I.fE.fresh (wY _)) (I.fE.fresh (b9 _)) (dM (Aq _));have b:=Inv.made (C:=C) I;have r2:Vals (V.ref (s.heap.objs.size+1)::vs) (f7 (s.heap.objs.size+1)::us):=.cons rfl r;have hl:(f7 (s.heap.objs.size+1)::us++[]).length=ps.length:=by rw[kC,<- r2.length];exact F.len _ _ _ _ c
 have a:=hb _ (f7 (s.heap.objs.size+1)::us) b.BK hl;rw[kC]at a;refine Bh (Pc (f:=f) I.BK M.makes M.init (bi0.mp M.fn) (tY (F.run _ X.stack _ _ ⟨f7 (s.heap.objs.size+1)::us,[]⟩ (f7 (s.heap.objs.size+1)::us) _ _ (E σ) (hr.make C us [])
  (b.av2.make C us []) a r2 c) λr n U=>?_))
 cases r with
 |error e=>exact E9 b U
 |ok fl=>
  cases fl with
  |ret u=>refine ux (b.after U) λv i j l ev m=>?_;subst ev;exact⟨l,⟨V.ref (s.heap.objs.size+1),i,j,rfl,m⟩⟩
  |next=>exact nU U
  |brk=>exact nU U
  |cont=>exact nU U
def Pq(M:Mk X.K C f)(F:jT X.prog X.w X.K X.mg X.base (oU X.prog X.w) k f fd ps sp)(hr:j7 (k+1) X.A)(b:Gl X x)(c:X.mg x=ai (.ref C))(hb:Binds X.K fd ps [])
  (d:PA (X.dJ (kj X E)) (e::es) t) (A:autoParam ((x==("__debug__" : Str))=b4) cT) (g:autoParam (bF (e::es) X.env=(b4,eval e X.env)::bF es X.env) b5) (i:autoParam ((backTo pos (bF es X.env)).any (·.1)=b4) b5) :
  PE (X.dJ (kj X E)) (.Call (.Name x p) (e::es) [] pos) (Z0 C sp E t):=by
 intro j s l H Q I h;refine tX (sG I b c ?_ A);refine N9 (h₀:=X.base) I.ok.mod.kin M.kp (ig (d pos j s l H _ I h) λO S m=>m.elim λT n=>n.elim λH1 o=>o.elim λa w=>w.elim λr q=>⟨a.BK,?_⟩) g i;refine ig (L8 M F hr hb a.iO r q) λu U P=>P.elim λv Z=>Z.elim λy z=>z.elim λJ L=>L.elim λr2 N=>⟨v,y,J.dJ _,r2,N⟩
def AD{P:dz}{w:bL}{K:aF}{mg:Str->Option au}{base:aW}{x a:Str}{st:aY}{f:av}{b:gV}{N ps:List Str}{k:Nat}{sp:Sp}(F:ME K x a st f b)(S:kQ N ps (bG st))(l:∀vs H Q E,sp vs H Q E->vs.length=ps.length)
  (i:∀(d:au),b.code=d->∀(A:cy) (o:List Env) (s:ay) (H:Hp) (vs:List V) (Q:VK) (E:XK),j7 k (A.deeper (envOfC a (bG st) s.heap.objs.size f d))->sp vs H Q E->
   ∃t,qL ((oS (oU P w) P w K mg base N a (bG st) f d A o s H E).dJ (kj (oS (oU P w) P w K mg base N a (bG st) f d A o s H E) λ_=>E)) (fu st) t/\t {nx:=λ_ c=>Q .cR c,rt:=Q} (start N vs) H) :
  jT P w K mg base (oU P w) (k+1) f b ps sp:=by
 refine Yh F.ex λy od kV j J L d ct O z lk m=>?_;obtain rfl:=z;refine av3 lk m S l λA o s H vs Q E hr h=>?_;refine aR (i d rfl A o s H vs Q E hr h) λt n q=>?_;refine⟨t,λp r u c D I v=>?_,q⟩;exact iw (n p r u c D (I.dJ _) v) (λfl M g=>SP.iO g) λe M g=>L7 g
end
section
variable {e:av}
def ClsAt(e:av)(c:au)(h:aW):Prop:=∃o,h.get? e=ai o/\o.cls=c
end
end Dm
namespace Dm
open PySem PySem.Spec PyProof.Rows L2 PySem.W PySem.Calls PySem.Builtin PySem.Builtin.ObjectAttr PySem.Builtin.Getset_descriptor
def Z2(e C d:av)(h:aW):Prop:=∃o,h.get? e=ai o/\o.cls=.ref C/\o.dict=ai d/\∃v,o.data=.fields v
def Z2.at_(p:Z2 e C d h):ClsAt e (.ref C) h:=by
 obtain⟨o,a,b,_⟩:=p;exact⟨o,a,b⟩
end Dm
namespace Dm
open PySem PyProof.Rows L2
inductive D where
 |cR|bl (b:Bool)|int (i:Int)|str (x:Str)|tup (ds:List D)|lst (ds:List D)|bN (t:Nat) (ds:List D)
mutual
noncomputable def dep:D->Nat
 |.tup d=>jU d+1
 |.lst d=>jU d+1
 |.bN t d=>jU d+2
 |_=>0
noncomputable def jU:List D->Nat
 |[]=>0
 |d::a=>max (dep d) (jU a)
end
theorem iV:∀{ds:List D} {d:D},d∈ds->dep d<=jU ds
 |_::_,_,.head _=>Nat.le_max_left _ _
 |_::ds,_,.tail _ h=>cz (iV h) (Nat.le_max_right _ _)
theorem nW:∀{ds:List D},(∀d∈ds,dep d<=n)->jU ds<=n
 |[],_=>eS _
 |d::ds,h=>Nat.max_le.mpr ⟨h d (.head _),nW λx a=>h x (.tail _ a)⟩
mutual
noncomputable def iJ:D->D->Bool
 |.cR,.cR=>bT
 |.bl a,.bl b=>a==b
 |.bl a,.int j=>(if a then 1 else 0)==j
 |.int i,.bl b=>i==(if b then 1 else 0)
 |.int i,.int j=>i==j
 |.str x,.str y=>x==y
 |.tup c,.tup d=>eT c d
 |.lst c,.lst d=>eT c d
 |_,_=>b4
noncomputable def eT:List D->List D->Bool
 |[],[]=>bT
 |x::a,y::b=>iJ x y&&eT a b
 |_,_=>b4
end
theorem Ec:∀{xs ys:List D},eT xs ys=bT->xs.length=ys.length
 |[],[],_=>rfl
 |[],_::_,h=>by simp[eT]at h
 |_::_,[],h=>by simp[eT]at h
 |x::xs,y::ys,h=>by
  rw[eT,bI]at h;rw[cS,cS,Ec h.2]
theorem Ed:∀{xs ys:List D},xs.length=ys.length->eT xs ys=(cY xs.length).all λj=>iJ (xs.getD j .cR) (ys.getD j .cR)
 |[],[],_=>rfl
 |x::xs,y::ys,h=>by
  rw[eT,Ed (xs:=xs) (ys:=ys) (by simpa using h),cS,List.range_succ_eq_map,List.all_cons,Ny];rfl
mutual
noncomputable def flat:D->Bool
 |.tup d=>cC d
 |.lst d=>cC d
 |.bN _ _=>b4
 |_=>bT
noncomputable def cC:List D->Bool
 |[]=>bT
 |d::a=>flat d&&cC a
end
theorem eO:∀{ds:List D} {d:D},cC ds=bT->d∈ds->flat d=bT
 |_::_,_,h,.head _=>by rw[cC,bI]at h;exact h.1
 |_::ds,_,h,.tail _ m=>by rw[cC,bI]at h;exact eO h.2 m
theorem iC:∀{ds:List D},(∀d∈ds,flat d=bT)->cC ds=bT
 |[],_=>rfl
 |d::ds,h=>by rw[cC,bI];exact⟨h d (.head _),iC λx a=>h x (.tail _ a)⟩
mutual
def fL(h:aW):D->au->Prop
 |.cR,v=>v=.none
 |.bl b,v=>v=.bool b
 |.int i,v=>∃t,v=.int i t
 |.str x,v=>∃t,v=.str x t
 |.tup d,v=>∃a c,v=.ref a/\IsTup h a c/\bH h d c.toList
 |.lst d,v=>∃a c,v=.ref a/\PlainL h a c/\bH h d c.toList
 |.bN _ _,_=>False
def bH(h:aW):List D->List au->Prop
 |[],a=>a=[]
 |d::b,a=>∃v r,a=v::r/\fL h d v/\bH h b r
end
theorem bH.len:∀{ds:List D} {vs:List au},bH h ds vs->vs.length=ds.length
 |[],_,e=>by rw[bH]at e;subst e;rfl
 |d::ds,_,e=>by
  rw[bH]at e;obtain⟨v,r,rfl,_,q⟩:=e;rw[cS,cS,q.len]
theorem bH.get:∀{ds:List D} {vs:List au} (j:Nat) (c:j<vs.length),bH h ds vs->fL h (ds.getD j .cR) vs[j]/\ds.getD j .cR∈ds
 |[],_,j,c,e=>by rw[bH]at e;subst e;exact bi8 c (jK _)
 |d::ds,_,j,c,e=>by
  rw[bH]at e;obtain⟨v,r,rfl,f,q⟩:=e;cases j with
  |zero=>exact⟨f,.head _⟩
  |succ j=>obtain⟨a,b⟩:=q.get j (by simpa using c);exact⟨by simpa using a,by simpa using .inr b⟩
mutual
theorem Px:∀d:D,flat d=bT->iJ d d=bT
 |.cR,_=>by rw[iJ]
 |.bl b,_=>by rw[iJ];exact bi7 b
 |.int i,_=>by rw[iJ];exact bi7 i
 |.str x,_=>by rw[iJ];exact bi7 x
 |.tup a,h=>by rw[iJ];rw[flat]at h;exact mZ a h
 |.lst a,h=>by rw[iJ];rw[flat]at h;exact mZ a h
 |.bN t a,h=>by rw[flat]at h;cases h
theorem mZ:∀ds:List D,cC ds=bT->eT ds ds=bT
 |[],_=>by rw[eT]
 |d::ds,h=>by
  rw[cC,bI]at h;rw[eT,Px d h.1,mZ ds h.2];rfl
end
inductive Vw(h:aW):D->au->Prop
 |cR:Vw h .cR .none
 |bl (b:Bool):Vw h (.bl b) (.bool b)
 |int (i:Int) (t:Tok):Vw h (.int i) (.int i t)
 |str (x:Str) (t:Tok):Vw h (.str x) (.str x t)
 |tup {ds:List D} {a:av} {bx:Array au} (q:IsTup h a bx) (p:bH h ds bx.toList):Vw h (.tup ds) (.ref a)
 |lst {ds:List D} {a:av} {bx:Array au} (q:PlainL h a bx) (p:bH h ds bx.toList):Vw h (.lst ds) (.ref a)
def vw(x:fL h d u):Vw h d u:=by
 cases d with
 |cR=>rw[fL]at x;subst x;exact .cR
 |bl b=>rw[fL]at x;subst x;exact .bl b
 |int i=>rw[fL]at x;obtain⟨t,rfl⟩:=x;exact .int i t
 |str y=>rw[fL]at x;obtain⟨t,rfl⟩:=x;exact .str y t
 |tup c=>rw[fL]at x;obtain⟨a,e,rfl,q,p⟩:=x;exact .tup q p
 |lst c=>rw[fL]at x;obtain⟨a,e,rfl,q,p⟩:=x;exact .lst q p
 |bN _ _=>rw[fL]at x;exact x.elim
def bH.inj(H:∀d∈ds,∀(e:D) (v:au),fL h d v->fL h e v->d=e)(x:bH h ds vs)(y:bH h es vs):ds=es:=by
 induction ds generalizing es vs with
 |nil=>
  rw[bH]at x;subst x;cases es with
  |nil=>rfl
  |cons e es=>rw[bH]at y;obtain⟨_,_,z,_⟩:=y;cases z
 |cons d ds i=>
  rw[bH]at x;obtain⟨v,r,rfl,p,a⟩:=x;cases es with
  |nil=>rw[bH]at y;cases y
  |cons e es=>rw[bH]at y;obtain⟨f,g,z,b,c⟩:=y;cases z;rw[H d (.head _) e v p b,i (λd hd=>H d (.tail _ hd)) a c]
theorem fL.inj(d e:D)(u:fL h d v)(w:fL h e v):d=e:=by
 generalize z:dep d=n;induction n using Nat.strongRecOn generalizing d e v with
 |ind n A=>
 have x:=vw u;have y:=vw w;clear u w;cases x with
 |cR=>cases y;rfl
 |bl b=>cases y;rfl
 |int i t=>cases y;rfl
 |str s t=>cases y;rfl
 |tup q p=>
  rw[dep]at z;cases y with
  |tup c j=>obtain⟨o1,f,_,C,m⟩:=q;obtain⟨o2,g,_,o,k⟩:=c;obtain rfl:=fJ (f.symm.trans g);rw[m]at k;cases k;rw[bH.inj (λd hd e v a b=>A _ (by have:=iV hd;lia) d e a b rfl) p j]
  |lst c j=>obtain⟨o1,f,r,_⟩:=q;obtain⟨o2,o,g,l,_⟩:=c;obtain rfl:=fJ (f.symm.trans g);rw[r]at l;exact bi8 l (by decide)
 |lst q p=>
  rw[dep]at z;cases y with
  |tup c j=>obtain⟨o2,o,g,l,_⟩:=q;obtain⟨o1,f,r,_⟩:=c;obtain rfl:=fJ (f.symm.trans g);rw[r]at l;exact bi8 l (by decide)
  |lst c j=>obtain⟨o1,C,f,_,_,m⟩:=q;obtain⟨o2,o,g,_,_,k⟩:=c;obtain rfl:=fJ (f.symm.trans g);rw[m]at k;cases k;rw[bH.inj (λd hd e v a b=>A _ (by have:=iV hd;lia) d e a b rfl) p j]
open PySem.SeqAt
section
variable {s:ay}
def aQ(x:IsTup h a items):h.IsTuple a items:=by
 obtain⟨o,b,c,n,d⟩:=x;exact⟨o,b,c,n,d⟩
def n5{b k:Array au}(p:bH s.heap xs b.toList)(pv:bH s.heap ys k.toList)(h:∀(x y:D) (u v:au),x∈xs->y∈ys->fL s.heap x u->fL s.heap y v->EqAt A s u v (iJ x y)):∀j (h1:j<b.size) (a:j<k.size),EqAt A s b[j] k[j] (iJ (xs.getD j .cR) (ys.getD j .cR)):=λj h1 a=>by
 obtain⟨g1,m⟩:=p.get j (by rw[dN];exact h1);obtain⟨g2,c⟩:=pv.get j (by rw[dN];exact a);rw[O7]at g1 g2;exact h _ _ _ _ m c g1 g2
def yc{b k:Array au}(p:bH s.heap xs b.toList)(pv:bH s.heap ys k.toList):((cY (min b.size k.size)).all (λj=>iJ (xs.getD j .cR) (ys.getD j .cR))&&(b.size==k.size))=eT xs ys:=by
 have l:b.size=xs.length:=by rw[<- dN];exact p.len
 have lv:k.size=ys.length:=by rw[<- dN];exact pv.len
 by_cases hl:b.size=k.size;rw[<- hl,Nc,bi7,ur,l,<- Ed (l.symm.trans (hl.trans lv))];rw[bi3.mpr hl,Hj];exact(uu.mpr λz=>hl (by rw[l,lv];exact Ec z)).symm
def Ic{b k:Array au}(p:bH s.heap xs b.toList)(pv:bH s.heap ys k.toList)(hl:b.size=k.size):(cY b.size).all (λj=>iJ (xs.getD j .cR) (ys.getD j .cR))=eT xs ys:=by
 rw[<- yc p pv,<- hl,Nc,bi7,ur]
def Ie{b k:Array au}(p:bH s.heap xs b.toList)(pv:bH s.heap ys k.toList)(hl:¬ b.size=k.size):b4=eT xs ys:=by
 rw[<- yc p pv,bi3.mpr hl,Hj]
def Uh{A:cy}(x:Vw s.heap d u)(y:Vw s.heap e v)(g:A.units<cLine)(w:dep d=n)(m:flat d=bT)(o:flat e=bT)
  (z:∀{xs ys:List D} {a b:av} {k l:Array au},dep (.tup xs)=n->cC xs=bT->cC ys=bT->IsTup s.heap a k->bH s.heap xs k.toList->IsTup s.heap b l->bH s.heap ys l.toList->EqAt A s (.ref a) (.ref b) (eT xs ys))
  (hl:∀{xs ys:List D} {a b:av} {k l:Array au},dep (.lst xs)=n->cC xs=bT->cC ys=bT->PlainL s.heap a k->bH s.heap xs k.toList->PlainL s.heap b l->bH s.heap ys l.toList->EqAt A s (.ref a) (.ref b) (eT xs ys)):EqAt A s u v (iJ d e):=by
 cases x with
 |cR=>
  cases y with
  |cR=>exact EqAt.same _
  |bl c=>exact EqAt.none_bool c
  |int j r=>exact EqAt.none_int j r
  |str y r=>exact EqAt.none_str y r
  |tup f h=>exact EqAt.none_tuple (aQ f) g
  |lst f h=>exact EqAt.none_list f.isList g
 |bl b=>
  cases y with
  |cR=>exact EqAt.bool_none b
  |bl c=>exact EqAt.bool_bool b c
  |int j r=>exact EqAt.bool_int b j r
  |str y r=>exact EqAt.bool_str b y r
  |tup f h=>exact EqAt.bool_tuple b (aQ f) g
  |lst f h=>exact EqAt.bool_list b f.isList g
 |int i t=>
  cases y with
  |cR=>exact EqAt.int_none i t
  |bl c=>exact EqAt.int_bool i t c
  |int j r=>exact EqAt.int_int i t j r
  |str y r=>exact EqAt.int_str i t y r
  |tup f h=>exact EqAt.int_tuple i t (aQ f) g
  |lst f h=>exact EqAt.int_list i t f.isList g
 |str x t=>
  cases y with
  |cR=>exact EqAt.str_none x t
  |bl c=>exact EqAt.str_bool x t c
  |int j r=>exact EqAt.str_int x t j r
  |str y r=>exact EqAt.str_str x t y r
  |tup f h=>exact EqAt.str_tuple x t (aQ f) g
  |lst f h=>exact EqAt.str_list x t f.isList g
 |tup q p=>
  cases y with
  |cR=>exact EqAt.tuple_none (aQ q) g
  |bl c=>exact EqAt.tuple_bool c (aQ q) g
  |int j r=>exact EqAt.tuple_int j r (aQ q) g
  |str y r=>exact EqAt.tuple_str y r (aQ q) g
  |tup f h=>exact z w (by rw[flat]at m;exact m) (by rw[flat]at o;exact o) q p f h
  |lst f h=>exact EqAt.tuple_list (aQ q) f.isList g
 |lst q p=>
  cases y with
  |cR=>exact EqAt.list_none q.isList g
  |bl c=>exact EqAt.list_bool c q.isList g
  |int j r=>exact EqAt.list_int j r q.isList g
  |str y r=>exact EqAt.list_str y r q.isList g
  |tup f h=>exact EqAt.list_tuple q.isList (aQ f) g
  |lst f h=>exact hl w (by rw[flat]at m;exact m) (by rw[flat]at o;exact o) q p f h
def pY(d e:D){A:cy}(f:flat d=bT)(j:flat e=bT)(C:fL s.heap d u)(E:fL s.heap e v)(hr:A.units+dep d<cLine):EqAt A s u v (iJ d e):=by
 generalize h:dep d=n at hr;induction n using Nat.strongRecOn generalizing d e A u v with
 |ind n z=>
 have o:A.units<cLine:=rm (wZ _ _) hr;refine Uh (vw C) (vw E) o h f j (λ{g k a b r t} h f j q p i c=>?_) (λ{g k a b r t} h f j q p i c=>?_);by_cases l:a=b;subst l;have e:D.tup g=D.tup k:=fL.inj (h:=s.heap) _ _ (v:=.ref a) (by rw[fL];exact⟨a,r,rfl,q,p⟩) (by rw[fL];exact⟨a,t,rfl,i,c⟩);obtain rfl:g=k:=by injection e
 rw[mZ g f];exact EqAt.same _;rw[<- yc p c];exact EqAt.of_refs l (RcAt.tuples (aQ q) (aQ i) o (n5 p c λx y u v m w g1 g2=>z _ (by rw[<- h,dep];have:=iV m;lia) _ _ (eO f m) (eO j w) g1 g2 rfl (by show A.units+1+_<_;rw[<- h,dep]at hr;have:=iV m;lia)));by_cases l:a=b;subst l;have e:D.lst g=D.lst k:=fL.inj (h:=s.heap) _ _ (v:=.ref a) (by rw[fL];exact⟨a,r,rfl,q,p⟩) (by rw[fL];exact⟨a,t,rfl,i,c⟩);obtain rfl:g=k:=by injection e
 rw[mZ g f];exact EqAt.same _;refine EqAt.of_refs l ?_;by_cases hl:r.size=t.size;rw[<- Ic p c hl];exact RcAt.lists q.isList i.isList hl o (n5 p c λx y u v m w g1 g2=>z _ (by rw[<- h,dep];have:=iV m;lia) _ _ (eO f m) (eO j w) g1 g2 rfl (by show A.units+1+_<_;rw[<- h,dep]at hr;have:=iV m;lia));rw[<- Ie p c hl];exact RcAt.lists_lengths q.isList i.isList (by simpa using hl) o
end
end Dm
namespace Sg
open PySem PySem.W PyProof.Rows
noncomputable section
noncomputable def gal:Bool->Keyed->Array Keyed->Nat->Nat->Nat->StateT bJ Sem (Option Nat):=sortPriv% PySem.Builtin.gallop
def mlo:Array Keyed->Array Keyed->StateT bJ Sem (Array Keyed):=sortPriv% PySem.Builtin.mergeLo
noncomputable def mhi:Array Keyed->Array Keyed->StateT bJ Sem (Array Keyed):=sortPriv% PySem.Builtin.mergeHi
noncomputable def smg:Nat->StateT bJ Sem Unit:=sortPriv% PySem.Builtin.setMinGallop
def Cm(prog:dz)(w:bL)(A:cy)(s:ay)(kd:iM)(f:Nat->Keyed)(n:Nat)(r:Nat->Nat):Prop:=
 ∀i j C,i<n->j<n->C (decide (r i<r j)) s->aC (aE prog w) A (keyLt' kd (f i).1 (f j).1) C (λ_ _=>False) s
section
variable {prog:dz}{w:bL}{A:cy}{E:au->ay->Prop}{s:ay}{kd:iM}{st:bJ}
def Ef{Q:Option Bool->bJ->Prop}(b:Cm prog w A s kd f n r)(hk:kindOf st=kd)(d:i<n)(e:j<n)(h:Q (ai (decide (r i<r j))) st):wpS (aE prog w) A E s (lt' (f i) (f j)) Q st:=by
 rw[lt'_eq];refine aI (mG ?_);rw[hk];refine aI (wpS_lift (pB (iw (b i j (λc a=>a=s/\c=decide (r i<r j)) d e ⟨rfl,rfl⟩) (λc a z=>?_) λ_ _ z=>z.elim)));obtain⟨rfl,rfl⟩:=z;exact⟨rfl,aP h⟩
noncomputable def arr(f:Nat->Keyed)(X:List Nat):Array Keyed:=(X.map f).toArray
def cM(X:List Nat):(arr f X).size=X.length:=by simp[arr]
def i8(X:List Nat)(i j:Nat):(arr f X).extract i j=arr f (X.extract i j):=by simp[arr,gz,GH,GI]
def gh(X:List Nat)(x:Nat):(arr f X).push (f x)=arr f (X++[x]):=by simp[arr]
def iW(X Y:List Nat):arr f X++arr f Y=arr f (X++Y):=by simp[arr]
def we(X:List Nat):(arr f X).reverse=arr f X.reverse:=by simp[arr]
def dD{X:List Nat}{Q:Keyed->bJ->Prop}(a:X[i]?=ai x)(h:Q (f x) st):wpS (aE prog w) A E s (elem' (arr f X) i) Q st:=by
 rw[elem'_eq];have:(arr f X)[i]?=ai (f x):=by simp[arr,a]
 rw[this];exact aP h
def C3{Q:Unit->bJ->Prop}(h:Q () (SortSt.mk' (kindOf st) (arrOf st) (pendingOf st) g (failedOf st))):wpS (aE prog w) A E s (smg g) Q st:=rE h
noncomputable def bey(left:Bool)(key:Keyed)(a:Array Keyed)(b i:Nat):StateT bJ Sem (Option Bool):=
 elem' a (b+i)>>=λx=>ite (left=bT) (lt' x key) (lt' key x>>=λc=>pure (c.map not))
noncomputable def lk(r:Nat->Nat)(left:Bool)(key x:Nat):Bool:=if left then decide (r x<r key)else !decide (r key<r x)
def Z3{Q:Option Bool->bJ->Prop}(a:Cm prog w A s kd f n r)(hk:kindOf st=kd)(g:∀x∈X,x<n)(c:key<n)(d:X[b+i]?=ai x)(h:Q (ai (lk r left key x)) st) :
  wpS (aE prog w) A E s (bey left (f key) (arr f X) b i) Q st:=by
 unfold bey;have e:x<n:=g x (iK d);refine aI (dD d ?_);cases left with
 |true=>rw[bh6 rfl];exact Ef a hk e c (by simpa[lk]using h)
 |false=>rw[bh7 (by simp)];exact aI (Ef a hk c e (aP (by simpa[lk]using h)))
section
variable {B:Nat->Bool}{m:Nat}{Q:Option (Option Nat)×Nat×Nat->bJ->Prop}{g:Nat->Option (Option Nat)×Nat×Nat->StateT bJ Sem (ForInStep (Option (Option Nat)×Nat×Nat))}
def C4{lo a:Nat}(h:lo<a):lo+(a-lo) / 2<a:=by lia
def Xm(d:∀i j,i<=j->j<m->B j=bT->B i=bT){lo a:Nat}
  (y:∀x lo a (Q:_->bJ->Prop),lo<=a->a<=m->(lo ≥ a->Q (.done (aj,lo,a)) st)->(lo<a->B (lo+(a-lo) / 2)=bT->Q (.yield (aj,lo+(a-lo) / 2+1,a)) st)->(lo<a->B (lo+(a-lo) / 2)=b4->Q (.yield (aj,lo,lo+(a-lo) / 2)) st)->wpS (aE prog w) A E s (g x (aj,lo,a)) Q st)
  (h1:lo<=a) (o:a<=m) (p:∀i,i<lo->B i=bT) (r:∀i,a<=i->i<m->B i=b4)
  (h:∀k,k<=m->(∀i,i<k->B i=bT)->(∀i,k<=i->i<m->B i=b4)->Q (aj,k,k) st):wpS (aE prog w) A E s (forIn [0:m] (aj,lo,a) g) Q st:=by
 refine j5 (I:=λx c e=>e=st/\∃lo a,c=(aj,lo,a)/\lo<=a/\a<=m/\a-lo<=m-x/\(∀i,i<lo->B i=bT)/\(∀i,a<=i->i<m->B i=b4)) ?step ?fin ⟨rfl,lo,a,rfl,h1,o,by lia,p,r⟩;case fin=>
  rintro c e ⟨rfl,lo,a,rfl,u,f,C,l,n⟩;have:lo=a:=by lia
  subst this;exact h lo f l n
 case step=>
  rintro x c e _ F ⟨rfl,lo,a,rfl,u,f,C,l,n⟩;refine y x lo a _ u f (λz=>?_) (λz b=>?_) λz b=>?_;have:lo=a:=by lia
  subst this;exact h lo f l n;have t:=C4 z;have v:=wZ lo ((a-lo) / 2);generalize lo+(a-lo) / 2=t at *;exact⟨rfl,_,_,rfl,t,f,by lia,λi X=>d i _ (Nd X) (gO ‹_› f) b,n⟩;have t:=C4 z;have v:=wZ lo ((a-lo) / 2);generalize lo+(a-lo) / 2=t at *;refine⟨rfl,_,_,rfl,v,jc (gO ‹_› f),by lia,l,λi h1 o=>?_⟩;cases q:B i with
  |false=>rfl
  |true=>rw[d _ i h1 o q]at b;cases b
def Xo{D:Nat->Bool}(i:mx<=m)
  (j:∀x l o (Q:_->bJ->Prop),1<=o->(o ≥ mx->Q (.done (aj,l,o)) st)->(o<mx->D o=b4->Q (.done (aj,l,o)) st)->(o<mx->D o=bT->Q (.yield (aj,o,2*o+1)) st)->wpS (aE prog w) A E s (g x (aj,l,o)) Q st)
  (k:D 0=bT) (n:0<mx)
  (h:∀l o,l<o->l<mx->D l=bT->(o ≥ mx\/D o=b4)->Q (aj,l,o) st):wpS (aE prog w) A E s (forIn [0:m] (aj,0,1) g) Q st:=by
 refine j5 (I:=λx c a=>a=st/\∃l o,c=(aj,l,o)/\l<o/\x+1<=o/\l<mx/\D l=bT) ?step ?fin ⟨rfl,0,1,rfl,by lia,by lia,n,k⟩;case fin=>rintro c a ⟨rfl,l,o,rfl,d,p,e,f⟩;exact h l o d e f (.inl (by lia))
 case step=>rintro x c a _ r ⟨rfl,l,o,rfl,d,p,e,f⟩;refine j x l o _ (by lia) (λz=>h l o d e f (.inl z)) (λz b=>h l o d e f (.inr b)) λz b=>⟨rfl,o,2*o+1,rfl,by lia,by lia,z,b⟩
end
def uE{left:Bool}{key:Nat}{X:List Nat}{b m hint:Nat}{Q:Option Nat->bJ->Prop}(O:Cm prog w A s kd f n r)(hk:kindOf st=kd)(P:∀x∈X,x<n)(S:key<n)(hm:b+m<=X.length)(T:hint<m)
  (a:∀i j,i<=j->j<m->lk r left key (X.getD (b+j) 0)=bT->lk r left key (X.getD (b+i) 0)=bT)
  (h:∀k,k<=m->(∀i,i<k->lk r left key (X.getD (b+i) 0)=bT)->(∀i,k<=i->i<m->lk r left key (X.getD (b+i) 0)=b4)->Q (ai k) st) :
  wpS (aE prog w) A E s (gal left (f key) (arr f X) b m hint) Q st:=by
 have c:∀{i:Nat} {Q:Option Bool->bJ->Prop},i<m->Q (ai (lk r left key (X.getD (b+i) 0))) st->wpS (aE prog w) A E s (bey left (f key) (arr f X) b i) Q st:=λ{i Q} t q=>by
  have e:X[b+i]?=ai (X.getD (b+i) 0):=by
   have:b+i<X.length:=by lia
   simp[this]
  exact Z3 O hk P S e q
 generalize U:(λi=>lk r left key (X.getD (b+i) 0))=B at *;have F:∀i,lk r left key (X.getD (b+i) 0)=B i:=λi=>by rw[<- U]
 simp only[F]at a h c;refine aI (c T ?_);cases hr:B hint with
 |true=>
  dsimp only;rw[bh6 rfl];refine aI (Xo (m:=m) (D:=λo=>B (hint+o)) (mx:=m-hint) (by lia) (λx l o Q Z u v y=>?_) hr (by lia) λl o a1 a2 C d=>?_);dsimp only;by_cases z:o ≥ m-hint;rw[bh6 z];exact aP (u z);rw[bh7 z];refine aI (c (i:=hint+o) (by lia) ?_);cases q:B (hint+o)with
  |true=>simp only[j6,d9,bi4];exact aP (y (by lia) q)
  |false=>simp only[BC,bi5];exact aP (v (by lia) q)
  dsimp only;refine aI (Xm (m:=m) a (λx p t Q g1 g2 u v y=>?_) (by lia) (by lia) (λi t=>a i (hint+l) (by lia) (by lia) C) (λi N H=>?_) λk I J L=>aP (h k I J L));dsimp only;by_cases z:p ≥ t;rw[bh6 z];exact aP (u z);rw[bh7 z];refine aI (c (i:=p+(t-p) / 2) (gO (C4 (Nf z)) g2) ?_);cases q:B (p+(t-p) / 2)with
  |true=>dsimp only;rw[if_pos rfl];exact aP (v (by lia) q)
  |false=>dsimp only;rw[if_neg (by simp)];exact aP (y (by lia) q)
  rcases d with d|d;lia;cases q:B i with
  |false=>rfl
  |true=>rw[a (hint+o) i (by lia) H q]at d;cases d
 |false=>
  dsimp only;rw[bh7 (by simp)];refine aI (Xo (m:=m) (D:=λo=>!B (hint-o)) (mx:=hint+1) (by lia) (λx l o Q Z u v y=>?_) (by simp[hr]) (by lia) λl o a1 a2 C d=>?_);dsimp only;by_cases z:o ≥ hint+1;rw[bh6 z];exact aP (u z);rw[bh7 z];refine aI (c (i:=hint-o) (by lia) ?_);cases q:B (hint-o)with
  |true=>dsimp only;rw[if_pos rfl];exact aP (v (by lia) (by simp[q]))
  |false=>dsimp only;rw[if_neg (by simp)];exact aP (y (by lia) (by simp[q]))
  dsimp only;have C:B (hint-l)=b4:=by simpa using C
  refine aI (Xm (m:=m) a (λx p t Q g1 g2 u v y=>?_) (by lia) (by lia) (λi t=>?_) (λi N H=>?_) λk I J L=>aP (h k I J L));dsimp only;by_cases z:p ≥ t;rw[bh6 z];exact aP (u z);rw[bh7 z];refine aI (c (i:=p+(t-p) / 2) (gO (C4 (Nf z)) g2) ?_);cases q:B (p+(t-p) / 2)with
  |true=>dsimp only;rw[if_pos rfl];exact aP (v (by lia) q)
  |false=>dsimp only;rw[if_neg (by simp)];exact aP (y (by lia) q)
  rcases d with d|d;lia;have d:B (hint-o)=bT:=by simpa using d
  by_cases z:o<=hint;exact a i (hint-o) (by lia) (by lia) d;lia;cases q:B i with
  |false=>rfl
  |true=>rw[a (hint-l) i N H q]at C;cases C
end
end
noncomputable section
structure MI(le:Nat->Nat->Prop)(T O xs ys:List Nat):Prop where
 pm:(O++(xs++ys)).Perm T
 so:O.Pairwise le
 sx:xs.Pairwise le
 sy:ys.Pairwise le
 ox:∀o∈O,∀x∈xs,le o x
 oy:∀o∈O,∀y∈ys,le o y
def Dn(le:Nat->Nat->Prop)(T Z:List Nat):Prop:=Z.Perm T/\Z.Pairwise le
def MI.tx(h:MI le T O (u++xs) ys)(d:∀x∈u,∀y∈ys,le x y):MI le T (O++u) xs ys:=by
 have s:=xh.mp h.sx;refine⟨by have:=h.pm;simpa[fQ]using this,xh.mpr ⟨h.so,s.1,λo a x b=>h.ox o a x (DJ _ b)⟩,s.2.1,h.sy,λo a x b=>?_,λo a y c=>?_⟩;rcases i6.mp a with a|a;exact h.ox o a x (mW _ b);exact s.2.2 o a x b;rcases i6.mp a with a|a;exact h.oy o a y c;exact d o a y c
def MI.swap(h:MI le T O xs ys):MI le T O ys xs:=⟨(Oq O List.perm_append_comm).trans h.pm,h.so,h.sy,h.sx,h.oy,h.ox⟩
def MI.ty(h:MI le T O xs (u++ys))(a:∀y∈u,∀x∈xs,le y x):MI le T (O++u) xs ys:=(h.swap.tx a).swap
def MI.fin(h:MI le T O xs ys)(c:∀x∈xs,∀y∈ys,le x y):Dn le T (O++xs++ys):=
 ⟨by rw[fQ];exact h.pm,xh.mpr ⟨xh.mpr ⟨h.so,h.sx,h.ox⟩,h.sy,λo a y b=>by
  rcases i6.mp a with a|a;exact h.oy o a y b;exact c o a y b⟩⟩
def MI.ax9(h:MI le T O xs ys)(a:∀y∈ys,∀x∈xs,le y x):Dn le T (O++ys++xs):=h.swap.fin a
abbrev Le(r:Nat->Nat):Nat->Nat->Prop:=λa b=>r a<=r b
def jt{X:List Nat}(h:X.Pairwise (Le r))(l:i<=j)(a:j<X.length):r (X.getD i 0)<=r (X.getD j 0):=by
 have e:∀k (hk:k<X.length),X.getD k 0=X[k]:=λk hk=>by simp[hk]
 rw[e i (by lia),e j a];by_cases c:i=j;subst c;exact b9 _;exact rA.mp h i j (by lia) a (by lia)
def Jz{X:List Nat}(h:i<X.length):X.drop i=X.getD i 0::X.drop (i+1):=by
 rw[ud h];simp[h]
def jw{X:List Nat}(h:x∈X.drop i):∃j,i<=j/\j<X.length/\x=X.getD j 0:=by
 obtain⟨k,hk,e⟩:=iZ.mp h;rw[ua]at hk;exact⟨i+k,by lia,by lia,by rw[<- e];simp[show i+k<X.length by lia]⟩
def JA{X:List Nat}(hk:i+k<=X.length)(h:x∈X.extract i (i+k)):∃j,j<k/\x=X.getD (i+j) 0:=by
 obtain⟨q,a,e⟩:=iZ.mp h;have:q<k:=by simp[gz]at a;lia
 refine⟨q,this,?_⟩;rw[<- e];simp[gz,show i+q<X.length by lia]
def yd{X:List Nat}:X.drop i=X.extract i (i+k)++X.drop (i+k):=by
 rw[gz,show i+k-i=k by lia,<- List.drop_drop,nN]
def wg{X:List Nat}:X.extract i X.length=X.drop i:=by
 rw[gz,uf (by simp)]
def get_some{X:List Nat}(h:i<X.length):X[i]?=ai (X.getD i 0):=by simp[h]
def get_mem{X:List Nat}(h:i<X.length):X.getD i 0∈X:=iK (get_some h)
structure LI(r:Nat->Nat)(X Y O:List Nat)(ia ib:Nat):Prop where
 a:ia+1<X.length
 b:ib<Y.length
 l:O.length=ia+ib
 m:MI (Le r) (X++Y) O (X.drop ia) (Y.drop ib)
def aG(st st':bJ):Prop:=∃g,st'=SortSt.mk' (kindOf st) (arrOf st) (pendingOf st) g (failedOf st)
def aG.refl(st:bJ):aG st st:=⟨gallopOf st,rfl⟩
def aG.kd{st st':bJ}(h:aG st st'):kindOf st'=kindOf st:=by obtain⟨g,rfl⟩:=h;rfl
def aG.mg{st st':bJ}(h:aG st st')(g:Nat):aG st (SortSt.mk' (kindOf st') (arrOf st') (pendingOf st') g (failedOf st')):=by obtain⟨a,rfl⟩:=h;exact⟨g,rfl⟩
section
variable {kd:iM}{st:bJ}
def bD[Decidable c](h1:c->wpS (aE prog w) A E s a Q st)(d:¬ c->wpS (aE prog w) A E s b Q st):wpS (aE prog w) A E s (if c then a else b) Q st:=by
 by_cases h:c;rw[bh6 h];exact h1 h;rw[bh7 h];exact d h
def Tf:lk r b4 key x=bT↔r x<=r key:=by simp[lk]
def Z4:lk r b4 key x=b4↔r key<r x:=by simp[lk]
def Ui:lk r bT key x=bT↔r x<r key:=by simp[lk]
def Uj:lk r bT key x=b4↔r key<=r x:=by simp[lk]
def Tg(e:o=arr f O):o.push (f y)=arr f (O++[y]):=by rw[e,gh]
def qA{Q:Unit->bJ->Prop}(h:Q () st):wpS (aE prog w) A E s (liftM (rule x)) Q st:=wpS_lift (wN ⟨rfl,h⟩)
def share{a:Type}{P:a->Prop}{G:Prop}(use:(∀v,P v)->G)(p:∀v,P v):G:=use p
def Py{c d:Type}{P H:c->d->Prop}{G:Prop}(use:(∀a b,H a b->P a b)->G)(p:∀a b,H a b->P a b):G:=use p
def Z5{Q:Array Keyed->bJ->Prop}(hc:Cm prog w A s kd f n r)(hk:kindOf st=kd)(hX:∀x∈X,x<n)(hY:∀y∈Y,y<n)(sX:X.Pairwise (Le r))(sY:Y.Pairwise (Le r))(lX:0<X.length)(lY:0<Y.length)
  (h0:∀x∈X,r (Y.getD 0 0)<=r x) (hl:∀y∈Y,r y<=r (X.getD (X.length-1) 0)) (h:∀Z st',aG st st'->Dn (Le r) (X++Y) Z->Q (arr f Z) st') :
  wpS (aE prog w) A E s (mlo (arr f X) (arr f Y)) Q st:=by
 have zX:∀{i:Nat},(i==(arr f X).size)=bT->i=X.length:=λz=>by rw[<- cM (f:=f) X];exact bi0.mp z
 have zY:∀{i:Nat},(i==(arr f Y).size)=bT->i=Y.length:=λz=>by rw[<- cM (f:=f) Y];exact bi0.mp z
 have H:∀{i:Nat},¬ (i==(arr f X).size)=bT->i≠X.length:=λz e=>z (by rw[cM];exact bi0.mpr e);have U:∀{i:Nat},¬ (i==(arr f Y).size)=bT->i≠Y.length:=λz e=>z (by rw[cM];exact bi0.mpr e);let Gd:Array Keyed->Prop:=λg=>∃Z,g=arr f Z/\Dn (Le r) (X++Y) Z;have ye:∀{O a b o},o=arr f O->MI (Le r) (X++Y) O (X.drop a) (Y.drop b)->(a=X.length\/b=Y.length)->Gd (o++(arr f X).extract a (arr f X).size++(arr f Y).extract b (arr f Y).size):=λ{O a b o} e m q=>by refine⟨O++X.drop a++Y.drop b,?_,m.fin λx p y t=>?_⟩;rw[e,i8,i8,cM,cM,wg,wg,iW,iW];rcases q with q|q;rw[q,Br]at p;cases p;rw[q,Br]at t;cases t
 have C5:∀{O a b o},o=arr f O->MI (Le r) (X++Y) O (X.drop a) (Y.drop b)->a+1=X.length->Gd (o++(arr f Y).extract b (arr f Y).size++(arr f X).extract a (arr f X).size):=λ{O a b o} e m q=>by refine⟨O++Y.drop b++X.drop a,?_,m.ax9 λy t x p=>?_⟩;rw[e,i8,i8,cM,cM,wg,wg,iW,iW];obtain⟨j,F,N,rfl⟩:=jw p;rw[show j=X.length-1 by lia];exact hl y (ug t)
 have gX:∀i,i<X.length->X.getD i 0<n:=λi I=>hX _ (get_mem I);have gY:∀i,i<Y.length->Y.getD i 0<n:=λi I=>hY _ (get_mem I);have stX:∀{O a b},a<X.length->MI (Le r) (X++Y) O (X.drop a) (Y.drop b)->(∀y∈Y.drop b,r (X.getD a 0)<=r y)->MI (Le r) (X++Y) (O++[X.getD a 0]) (X.drop (a+1)) (Y.drop b):=λ{O a b} I m q=>by rw[Jz I]at m;exact MI.tx (u:=[X.getD a 0]) m λx p y t=>by rw[gC.mp p];exact q y t
 have stY:∀{O a b},b<Y.length->MI (Le r) (X++Y) O (X.drop a) (Y.drop b)->(∀x∈X.drop a,r (Y.getD b 0)<=r x)->MI (Le r) (X++Y) (O++[Y.getD b 0]) (X.drop a) (Y.drop (b+1)):=λ{O a b} I m q=>by rw[Jz I]at m;exact MI.ty (u:=[Y.getD b 0]) m λx p y t=>by rw[gC.mp p];exact q y t
 have M0:MI (Le r) (X++Y) [Y.getD 0 0] (X.drop 0) (Y.drop 1):=
  stY (O:=[]) lY ⟨by simp,.nil,sX,sY,λo ho=>bi8 ho j0,λo ho=>bi8 ho j0⟩ λx p=>h0 x p
 refine aI (qA (aI (dD (get_some lY) (bD (λz=>?_) λz1=>bD (λz=>?_) λz2=>aI (mG (aI ?_))))));obtain⟨Z,e,d⟩:=ye (o:=#[f (Y.getD 0 0)]) rfl M0 (.inr (zY z));have q:=h Z st (.refl _) d;rw[<- e]at q;exact aP q;obtain⟨Z,e,d⟩:=C5 (o:=#[f (Y.getD 0 0)]) rfl M0 (zX z);have q:=h Z st (.refl _) d;rw[<- e]at q;exact aP q;have z1:=U z1;have z2:=H z2;refine kH (j5 (I:=λx c st'=>aG st st'/\c.1=aj/\∃O,c.2.1=arr f O/\LI r X Y O c.2.2.1 c.2.2.2.1/\x+1<=O.length) (Q:=λc st'=>aG st st'/\∃g,c.1=ai g/\Gd g) ?step ?fin ⟨.refl _,rfl,[Y.getD 0 0],rfl,⟨by show 0+1<_;lia,by show 1<_;lia,rfl,M0⟩,b9 _⟩) ?post;case post=>rintro⟨_,c⟩ st' ⟨S,_,rfl,Z,rfl,d⟩;exact aP (h Z st' S d)
 case fin=>rintro⟨_,_,a,b,mg⟩ st' ⟨_,rfl,O,rfl,L,hO⟩;have:=L.a;have:=L.b;have:=L.l;rw[cM,cM]at hO;dsimp only at *;lia
 case step=>
  rintro x ⟨_,_,a,b,mg⟩ kq _ p ⟨S1,rfl,O,rfl,L,hO⟩;refine aI (kH (j5 (I:=λz c st'=>aG st st'/\c.1=aj/\∃u,c.2.1=arr f u/\LI r X Y u c.2.2.1 c.2.2.2.1/\O.length+z<=u.length)
   (Q:=λc st'=>aG st st'/\((∃g,c.1=ai g/\Gd g)\/c.1=aj/\∃u,c.2.1=arr f u/\LI r X Y u c.2.2.1 c.2.2.2.1/\O.length+1<=u.length)) ?s1 ?f1 ⟨S1,rfl,O,rfl,L,b9 _⟩) ?p1)
  case f1=>rintro⟨_,_,a,b,ac,bc⟩ st' ⟨S2,rfl,u,rfl,L',Uk⟩;exact⟨S2,.inr ⟨rfl,u,rfl,L',by rw[cM,cM]at Uk;lia⟩⟩
  case s1=>
   rintro z ⟨_,_,a,b,ac,bc⟩ mP _ hz ⟨S2,rfl,u,rfl,L',Uk⟩;have la:a+1<X.length:=L'.a;have T:b<Y.length:=L'.b;have ll:u.length=a+b:=L'.l;have lm:MI (Le r) (X++Y) u (X.drop a) (Y.drop b):=L'.m;refine aI (dD (get_some T) (aI (dD (get_some (show a<X.length by lia)) (aI (Ef hc (S2.kd.trans hk) (gY b T) (gX a (by lia)) (bD (λcw=>?_) λcw=>?_))))));have cw:r (Y.getD b 0)<r (X.getD a 0):=bi2 cw;have M2:=stY T lm λx p=>by obtain⟨j,F,N,rfl⟩:=jw p;have:=jt sX F N;lia
   refine aI (dD (get_some T) (bD (λC=>aP ⟨S2,.inl ⟨_,rfl,ye (gh _ _) M2 (.inr (zY C))⟩⟩) λC=>?_));have C:b+1≠Y.length:=U C;have L2:LI r X Y (u++[Y.getD b 0]) a (b+1):=⟨la,by lia,by rw[bX,ll];simp;lia,M2⟩
   refine bD (λc4=>aP ⟨S2,.inr ⟨rfl,_,gh _ _,L2,?_⟩⟩) λc4=>aP ⟨S2,rfl,_,gh _ _,L2,?_⟩ <;> (rw[bX];simp;lia)
   have cw:¬ r (Y.getD b 0)<r (X.getD a 0):=λz=>cw (bh8 z);have M2:=stX (show a<X.length by lia) lm λy t=>by obtain⟨j,F,N,rfl⟩:=jw t;have:=jt sY F N;lia
   refine aI (dD (get_some (show a<X.length by lia)) (bD (λC=>aP ⟨S2,.inl ⟨_,rfl,C5 (gh _ _) M2 (zX C)⟩⟩) λC=>?_));have C:a+1+1≠X.length:=H C;have L2:LI r X Y (u++[X.getD a 0]) (a+1) b:=⟨by lia,T,by rw[bX,ll];simp;lia,M2⟩
   refine bD (λc4=>aP ⟨S2,.inr ⟨rfl,_,gh _ _,L2,?_⟩⟩) λc4=>aP ⟨S2,rfl,_,gh _ _,L2,?_⟩ <;> (rw[bX];simp;lia)
  case p1=>
   rintro⟨_,_,a,b,ac,bc⟩ mP ⟨S2,⟨g,rfl,d⟩|⟨rfl,u,rfl,L',Uk⟩⟩;exact aP ⟨S2,g,rfl,d⟩;refine aI (qA (aI (kH (j5 (I:=λz c st'=>aG st st'/\c.1=aj/\∃l,c.2.1=arr f l/\LI r X Y l c.2.2.1 c.2.2.2.1/\O.length+1<=l.length)
    (Q:=λc st'=>aG st st'/\((∃g,c.1=ai g/\Gd g)\/c.1=aj/\∃l,c.2.1=arr f l/\LI r X Y l c.2.2.1 c.2.2.2.1/\O.length+1<=l.length)) ?s2 ?f2 ⟨S2,rfl,u,rfl,L',Uk⟩) ?p2)))
   case f2=>rintro⟨_,_,a,b,mg,ac,bc⟩ st' ⟨S3,rfl,l,rfl,C6,Ig⟩;exact⟨S3,.inr ⟨rfl,l,rfl,C6,Ig⟩⟩
   case p2=>rintro⟨_,_,a,b,mg,ac,bc⟩ w9 ⟨S3,⟨g,rfl,d⟩|⟨rfl,l,rfl,C6,Ig⟩⟩;exact aP ⟨S3,g,rfl,d⟩;exact aI (C3 (aP ⟨S3.mg _,rfl,l,rfl,C6,by lia⟩))
   case s2=>
    rintro z ⟨_,_,a,b,mg',ac,bc⟩ w9 _ hz ⟨S3,rfl,l,rfl,C6,Ig⟩;have la:a+1<X.length:=C6.a;have T:b<Y.length:=C6.b;have ll:l.length=a+b:=C6.l;have lm:MI (Le r) (X++Y) l (X.drop a) (Y.drop b):=C6.m;refine share (P:=?P) (λJ=>?use) λ(v:Nat)=>?prf;case use=>refine bD (λcg=>?_) λcg=>?_;clear cg;generalize mg'-1=v;exact J v;exact J _
    refine aI (C3 (aI (dD (get_some T) (aI (uE (b:=a) (key:=Y.getD b 0) (m:=(arr f X).size-a) hc ((S3.mg _).kd.trans hk) hX (gY b T) (by rw[cM];lia) (by rw[cM];lia) (λi j lU hj q=>?_) λk k1 k2 k3=>?_)))));rw[cM]at hj;exact Tf.mpr (cz (jt sX (show a+i<=a+j by lia) (by lia)) (Tf.mp q));rw[cM]at k1 k3;have M2:MI (Le r) (X++Y) (l++X.extract a (a+k)) (X.drop (a+k)) (Y.drop b):=by have m:=lm;rw[yd (i:=a) (k:=k)]at m;refine m.tx λx p y t=>?_;obtain⟨j,F,rfl⟩:=JA (by lia) p;obtain⟨j',N,j3,rfl⟩:=jw t;exact cz (Tf.mp (k2 j F)) (jt sY N j3)
    have Mx:∀x∈X.drop (a+k),r (Y.getD b 0)<=r x:=λx p=>by obtain⟨j,F,N,rfl⟩:=jw p;have:=k3 (j-a) (by lia) (by lia);rw[show a+(j-a)=j by lia]at this;exact jc (Z4.mp this)
    have l1:(l++X.extract a (a+k)).length=a+k+b:=by rw[bX,ll];simp[gz];lia
    have l2:O.length+1<=(l++X.extract a (a+k)).length:=by lia
    have e2:arr f l++(arr f X).extract a (a+k)=arr f (l++X.extract a (a+k)):=by rw[i8,iW]
    have e0:k=0->arr f l=arr f (l++X.extract a (a+k)):=λz=>by rw[z];simp[gz]
    generalize l++X.extract a (a+k)=M at *;have M3:=stY T M2 Mx;have gB:∀x∈X.drop (a+k),r (X.getD (a+k) 0)<=r x:=λx p=>by obtain⟨j,F,N,rfl⟩:=jw p;exact jt sX F N
    refine Py (P:=?P2) (H:=λo i=>o=arr f M/\i=a+k/\i+1<X.length) (λJ=>?aW3) λo i hoi=>?bg0;case aW3=>
     refine bD (λck=>bD (λC=>aP ⟨S3.mg _,.inl ⟨_,rfl,C5 e2 M2 (zX C)⟩⟩) λC=>bD (λc4=>aP ⟨S3.mg _,.inl ⟨_,rfl,ye e2 M2 (.inl (zX c4))⟩⟩) λc4=>?_) λck=>?_;have C:a+k+1≠X.length:=H C;have c4:a+k≠X.length:=H c4;have La:a+k+1<X.length:=by lia
     generalize ho:arr f l++(arr f X).extract a (a+k)=o;generalize I:a+k=i at La ⊢;exact J o i ⟨ho.symm.trans e2,I.symm,La⟩;have k0:k=0:=by have:¬ k > 0:=ck;lia
     exact J (arr f l) a ⟨e0 k0,by lia,la⟩
    obtain⟨rfl,rfl,La⟩:=hoi;have eo:arr f M=arr f M:=rfl;refine aI (dD (get_some T) (bD (λc5=>aP ⟨S3.mg _,.inl ⟨_,rfl,ye (Tg eo) M3 (.inr (zY c5))⟩⟩) λc5=>?_));have c5:b+1≠Y.length:=U c5;refine aI (dD (get_some (u6 La)) (aI (uE (b:=b+1) (m:=(arr f Y).size-(b+1)) hc ((S3.mg _).kd.trans hk) hY (gX _ (u6 La)) (by rw[cM];lia) (by rw[cM];lia) (λi j lU hj q=>?_) λk' k1' k2' Xp=>?_)));rw[cM]at hj;exact Ui.mpr (rm (jt sY (show b+1+i<=b+1+j by lia) (by lia)) (Ui.mp q));rw[cM]at k1' Xp;have l3:(M++[Y.getD b 0]++Y.extract (b+1) (b+1+k')).length=M.length+1+k':=by simp[gz];lia
    have M4:=yd (X:=Y) (i:=b+1) (k:=k')▸M3;have M4:=M4.ty λy t x p=>by obtain⟨j,F,rfl⟩:=JA (by lia) t;exact cz (jc (Ui.mp (k2' j F))) (gB x p)
    have My:=λy (t:y∈Y.drop (b+1+k'))=>show r (X.getD _ 0)<=r y by obtain⟨j,F,N,rfl⟩:=jw t;have q:=Xp (j-(b+1)) (by lia) (by lia);rw[show b+1+(j-(b+1))=j by lia]at q;exact Uj.mp q
    have M5:=stX (u6 La) M4 My;have e4:(arr f (M++[Y.getD b 0]))++(arr f Y).extract (b+1) (b+1+k')=arr f (M++[Y.getD b 0]++Y.extract (b+1) (b+1+k')):=by rw[i8,iW]
    have e5:k'=0->arr f (M++[Y.getD b 0])=arr f (M++[Y.getD b 0]++Y.extract (b+1) (b+1+k')):=λz=>by rw[z];simp[gz]
    generalize M++[Y.getD b 0]++Y.extract (b+1) (b+1+k')=O4 at *;rw[<- Tg eo]at e4 e5;refine Py (P:=?P3) (H:=λo i=>o=arr f O4/\i=b+1+k'/\i<Y.length) (λJ=>?aW4) λo i hoi=>?bg1;case aW4=>
     refine bD (λck=>bD (λc6=>aP ⟨S3.mg _,.inl ⟨_,rfl,ye e4 M4 (.inr (zY c6))⟩⟩) λc6=>?_) λck=>?_;have c6:b+1+k'≠Y.length:=U c6;have Ul:b+1+k'<Y.length:=by lia
     generalize ho:((arr f M).push (f (Y.getD b 0)))++(arr f Y).extract (b+1) (b+1+k')=o;generalize I:b+1+k'=i at Ul ⊢;exact J o i ⟨ho.symm.trans e4,I.symm,Ul⟩;have k0:k'=0:=by have:¬ k' > 0:=ck;lia
     exact J _ _ ⟨e5 k0,by lia,by lia⟩
    obtain⟨rfl,rfl,Ul⟩:=hoi;have eo:arr f O4=arr f O4:=rfl;refine aI (dD (get_some (u6 La)) (bD (λc7=>aP ⟨S3.mg _,.inl ⟨_,rfl,C5 (Tg eo) M5 (zX c7)⟩⟩) λc7=>?_));have c7:=H c7;refine bD (λ_=>aP ⟨S3.mg _,.inr ⟨rfl,_,Tg eo,⟨Ng La c7,Ul,?_,M5⟩,?_⟩⟩) λ_=>aP ⟨S3.mg _,rfl,_,Tg eo,⟨Ng La c7,Ul,?_,M5⟩,?_⟩ <;> (rw[bX,l3,l1];simp;lia)
end
end
noncomputable section
abbrev Ge(r:Nat->Nat):Nat->Nat->Prop:=λa b=>r b<=r a
noncomputable abbrev tr(X:List Nat)(i:Nat):List Nat:=(X.take i).reverse
def Xq{X:List Nat}(a:0<i)(h:i<=X.length):tr X i=X.getD (i-1) 0::tr X (i-1):=by
 obtain⟨j,rfl⟩:∃j,i=j+1:=⟨i-1,by lia⟩
 rw[tr,List.take_succ_eq_append_getElem (by lia),Nz];simp[show j<X.length by lia]
def Eg(h:k<=i):tr X i=(X.extract k i).reverse++tr X k:=by
 rw[tr,tr,<- Nz,gz,<- List.take_add,show k+(i-k)=i by lia]
def rM(h:x∈tr X i):∃j,j<i/\j<X.length/\x=X.getD j 0:=by
 obtain⟨k,hk,e⟩:=iZ.mp (uh.mp h);rw[kF]at hk;exact⟨k,by lia,by lia,by rw[<- e];simp[show k<X.length by lia]⟩
def Pz{X:List Nat}(b:i<=X.length)(h:x∈(X.extract k i).reverse):∃j,k<=j/\j<i/\x=X.getD j 0:=by
 obtain⟨q,a,e⟩:=iZ.mp (uh.mp h);have U:q<i-k:=by simp[gz]at a;lia
 refine⟨k+q,by lia,by lia,?_⟩;rw[<- e];simp[gz,show k+q<X.length by lia]
def sR{X:List Nat}:X.extract 0 i=X.take i:=by simp[gz]
structure HI(r:Nat->Nat)(X Y O:List Nat)(na nb:Nat):Prop where
 a:0<na
 a':na<=X.length
 b:1<nb
 b':nb<=Y.length
 l:O.length+na+nb=X.length+Y.length
 m:MI (Ge r) (X++Y) O (tr X na) (tr Y nb)
section
variable {kd:iM}{st:bJ}
def Z6{Q:Array Keyed->bJ->Prop}(hc:Cm prog w A s kd f n r)(hk:kindOf st=kd)(hX:∀x∈X,x<n)(hY:∀y∈Y,y<n)(sX:X.Pairwise (Le r))(sY:Y.Pairwise (Le r))(lX:0<X.length)(lY:0<Y.length)
  (h0:∀x∈X,r (Y.getD 0 0)<=r x) (hl:∀y∈Y,r y<=r (X.getD (X.length-1) 0)) (h:∀Z st',aG st st'->Dn (Le r) (X++Y) Z->Q (arr f Z) st') :
  wpS (aE prog w) A E s (mhi (arr f X) (arr f Y)) Q st:=by
 let Gd:Array Keyed->Prop:=λg=>∃Z,g=arr f Z/\Dn (Le r) (X++Y) Z;have rv:∀{Z},Dn (Ge r) (X++Y) Z->Dn (Le r) (X++Y) Z.reverse:=λd=>⟨(GJ _).trans d.1,GK.mpr d.2⟩
 have ye:∀{O b a o},o=arr f O->MI (Ge r) (X++Y) O (tr X b) (tr Y a)->(b=0\/a=0)->Gd ((arr f X).extract 0 b++(arr f Y).extract 0 a++o.reverse):=λ{O b a o} e m q=>by refine⟨(O++tr Y a++tr X b).reverse,?_,rv (m.ax9 λy p x t=>?_)⟩;rw[e,i8,i8,we,sR,sR,iW,iW];simp[tr];rcases q with q|q;rw[q]at t;simp[tr]at t;rw[q]at p;simp[tr]at p
 have C5:∀{O b a o},o=arr f O->MI (Ge r) (X++Y) O (tr X b) (tr Y a)->a=1->Gd ((arr f Y).extract 0 a++(arr f X).extract 0 b++o.reverse):=λ{O b a o} e m q=>by refine⟨(O++tr X b++tr Y a).reverse,?_,rv (m.fin λx t y p=>?_)⟩;rw[e,i8,i8,we,sR,sR,iW,iW];simp[tr];obtain⟨j,H,U,rfl⟩:=rM p;rw[show j=0 by lia];exact h0 x (pJ (uh.mp t))
 have gX:∀i,i<X.length->X.getD i 0<n:=λi N=>hX _ (get_mem N);have gY:∀i,i<Y.length->Y.getD i 0<n:=λi N=>hY _ (get_mem N);have stX:∀{O b a},0<b->b<=X.length->MI (Ge r) (X++Y) O (tr X b) (tr Y a)->(∀y∈tr Y a,r y<=r (X.getD (b-1) 0))->MI (Ge r) (X++Y) (O++[X.getD (b-1) 0]) (tr X (b-1)) (tr Y a):=λ{O b a} N Xn m q=>by rw[Xq N Xn]at m;exact MI.tx (u:=[X.getD (b-1) 0]) m λx t y p=>by rw[gC.mp t];exact q y p
 have stY:∀{O b a},0<a->a<=Y.length->MI (Ge r) (X++Y) O (tr X b) (tr Y a)->(∀x∈tr X b,r x<=r (Y.getD (a-1) 0))->MI (Ge r) (X++Y) (O++[Y.getD (a-1) 0]) (tr X b) (tr Y (a-1)):=λ{O b a} N Xn m q=>by rw[Xq N Xn]at m;exact MI.ty (u:=[Y.getD (a-1) 0]) m λx t y p=>by rw[gC.mp t];exact q y p
 have upX:∀{b x},b<=X.length->x∈tr X b->r x<=r (X.getD (b-1) 0):=λ{b x} N t=>by obtain⟨j,H,U,rfl⟩:=rM t;exact jt sX (by lia) (by lia)
 have upY:∀{a y},a<=Y.length->y∈tr Y a->r y<=r (Y.getD (a-1) 0):=λ{a y} N p=>by obtain⟨j,H,U,rfl⟩:=rM p;exact jt sY (by lia) (by lia)
 have M0:MI (Ge r) (X++Y) [X.getD (X.length-1) 0] (tr X (X.length-1)) (tr Y Y.length):=
  stX (O:=[]) lX (b9 _) ⟨by simp only[tr,xj,dQ];exact(GJ _).append (GJ _),.nil,by simpa only[tr,xj]using GK.mpr sX,by simpa only[tr,xj]using GK.mpr sY,λo ho=>bi8 ho j0,λo ho=>bi8 ho j0⟩ λy p=>hl y (pJ (uh.mp p))
 have sx:=cM (f:=f) X;have sy:=cM (f:=f) Y;refine aI (qA (aI (dD (i:=(arr f X).size-1) (by rw[sx];exact get_some (by lia)) (bD (λz=>?_) λz1=>bD (λz=>?_) λz2=>aI (mG (aI ?_))))));obtain⟨Z,e,d⟩:=ye (o:=#[f (X.getD (X.length-1) 0)]) rfl M0 (.inl (by rw[<- sx];exact bi0.mp z));have q:=h Z st (.refl _) d;rw[<- e]at q;exact aP (by rw[sx,sy];exact q);obtain⟨Z,e,d⟩:=C5 (o:=#[f (X.getD (X.length-1) 0)]) rfl M0 (by rw[<- sy];exact bi0.mp z);have q:=h Z st (.refl _) d;rw[<- e]at q;exact aP (by rw[sx,sy];exact q);have z1:X.length-1≠0:=λe=>z1 (by show((arr f X).size-1==0)=bT;rw[sx];exact bi0.mpr e);have z2:Y.length≠1:=λe=>z2 (by rw[sy];exact bi0.mpr e);refine kH (j5 (I:=λx c st'=>aG st st'/\c.1=aj/\∃O,c.2.2.2.1=arr f O/\HI r X Y O c.2.1 c.2.2.1/\x+1<=O.length) (Q:=λc st'=>aG st st'/\∃g,c.1=ai g/\Gd g) ?step ?fin ?init) ?post;case init=>exact⟨.refl _,rfl,[X.getD (X.length-1) 0],rfl,by
  show HI r X Y _ ((arr f X).size-1) (arr f Y).size;rw[sx,sy];exact⟨by lia,by lia,by lia,b9 _,by simp;lia,M0⟩,b9 _⟩
 case post=>rintro⟨_,c⟩ st' ⟨S,_,rfl,Z,rfl,d⟩;exact aP (h Z st' S d)
 case fin=>rintro⟨_,b,a,_,mg⟩ st' ⟨_,rfl,O,rfl,L,hO⟩;have:=L.a;have:=L.b;have:=L.l;rw[sx,sy]at hO;dsimp only at *;lia
 case step=>
  rintro x ⟨_,b,a,_,mg⟩ kq _ t ⟨S1,rfl,O,rfl,L,hO⟩;refine aI (kH (j5 (I:=λz c st'=>aG st st'/\c.1=aj/\∃u,c.2.2.2.1=arr f u/\HI r X Y u c.2.1 c.2.2.1/\O.length+z<=u.length)
   (Q:=λc st'=>aG st st'/\((∃g,c.1=ai g/\Gd g)\/c.1=aj/\∃u,c.2.2.2.1=arr f u/\HI r X Y u c.2.1 c.2.2.1/\O.length+1<=u.length)) ?s1 ?f1 ⟨S1,rfl,O,rfl,L,b9 _⟩) ?p1)
  case f1=>rintro⟨_,b,a,_,ac,bc⟩ st' ⟨S2,rfl,u,rfl,I,Uk⟩;exact⟨S2,.inr ⟨rfl,u,rfl,I,by rw[sx,sy]at Uk;lia⟩⟩
  case s1=>
   rintro z ⟨_,b,a,_,ac,bc⟩ mP _ hz ⟨S2,rfl,u,rfl,I,Uk⟩;have la:0<b:=I.a;have T:b<=X.length:=I.a';have lb:1<a:=I.b;have F:a<=Y.length:=I.b';have ll:u.length+b+a=X.length+Y.length:=I.l;have lm:MI (Ge r) (X++Y) u (tr X b) (tr Y a):=I.m;have ga:b-1<X.length:=by lia
   have gb:a-1<Y.length:=by lia
   refine aI (dD (get_some gb) (aI (dD (get_some ga) (aI (Ef hc (S2.kd.trans hk) (gY (a-1) gb) (gX (b-1) ga) (bD (λcw=>?_) λcw=>?_))))));have cw:r (Y.getD (a-1) 0)<r (X.getD (b-1) 0):=bi2 cw;have M2:=stX la T lm λy p=>cz (upY F p) (jc cw);refine aI (dD (get_some ga) (bD (λC=>aP ⟨S2,.inl ⟨_,rfl,ye (gh _ _) M2 (.inl (bi0.mp C))⟩⟩) λC=>?_));have C:b-1≠0:=λe=>C (bi0.mpr e);have L2:HI r X Y (u++[X.getD (b-1) 0]) (b-1) a:=⟨by lia,by lia,lb,F,by rw[bX];simp;lia,M2⟩
   refine bD (λc4=>aP ⟨S2,.inr ⟨rfl,_,gh _ _,L2,?_⟩⟩) λc4=>aP ⟨S2,rfl,_,gh _ _,L2,?_⟩ <;> (rw[bX];simp;lia)
   have cw:¬ r (Y.getD (a-1) 0)<r (X.getD (b-1) 0):=λz=>cw (bh8 z);have M2:=stY (by lia) F lm λx t=>cz (upX T t) (mC cw);refine aI (dD (get_some gb) (bD (λC=>aP ⟨S2,.inl ⟨_,rfl,C5 (gh _ _) M2 (bi0.mp C)⟩⟩) λC=>?_));have C:a-1≠1:=λe=>C (bi0.mpr e);have L2:HI r X Y (u++[Y.getD (a-1) 0]) b (a-1):=⟨la,T,by lia,by lia,by rw[bX];simp;lia,M2⟩
   refine bD (λc4=>aP ⟨S2,.inr ⟨rfl,_,gh _ _,L2,?_⟩⟩) λc4=>aP ⟨S2,rfl,_,gh _ _,L2,?_⟩ <;> (rw[bX];simp;lia)
  case p1=>
   rintro⟨_,b,a,_,ac,bc⟩ mP ⟨S2,⟨g,rfl,d⟩|⟨rfl,u,rfl,I,Uk⟩⟩;exact aP ⟨S2,g,rfl,d⟩;refine aI (qA (aI (kH (j5 (I:=λz c st'=>aG st st'/\c.1=aj/\∃l,c.2.2.2.1=arr f l/\HI r X Y l c.2.1 c.2.2.1/\O.length+1<=l.length)
    (Q:=λc st'=>aG st st'/\((∃g,c.1=ai g/\Gd g)\/c.1=aj/\∃l,c.2.2.2.1=arr f l/\HI r X Y l c.2.1 c.2.2.1/\O.length+1<=l.length)) ?s2 ?f2 ⟨S2,rfl,u,rfl,I,Uk⟩) ?p2)))
   case f2=>rintro⟨_,b,a,_,mg,ac,bc⟩ st' ⟨S3,rfl,l,rfl,M,Ig⟩;exact⟨S3,.inr ⟨rfl,l,rfl,M,Ig⟩⟩
   case p2=>rintro⟨_,b,a,_,mg,ac,bc⟩ w9 ⟨S3,⟨g,rfl,d⟩|⟨rfl,l,rfl,M,Ig⟩⟩;exact aP ⟨S3,g,rfl,d⟩;exact aI (C3 (aP ⟨S3.mg _,rfl,l,rfl,M,by lia⟩))
   case s2=>
    rintro z ⟨_,b,a,_,mg',ac,bc⟩ w9 _ hz ⟨S3,rfl,l,rfl,M,Ig⟩;have la:0<b:=M.a;have T:b<=X.length:=M.a';have lb:1<a:=M.b;have F:a<=Y.length:=M.b';have ll:l.length+b+a=X.length+Y.length:=M.l;have lm:MI (Ge r) (X++Y) l (tr X b) (tr Y a):=M.m;have gb:a-1<Y.length:=by lia
    refine share (P:=?P) (λJ=>?use) λ(v:Nat)=>?prf;case use=>refine bD (λcg=>?_) λcg=>?_;clear cg;generalize mg'-1=v;exact J v;exact J _
    refine aI (C3 (aI (dD (get_some gb) (aI (uE (b:=0) (key:=Y.getD (a-1) 0) (m:=b) (hint:=b-1) hc ((S3.mg _).kd.trans hk) hX (gY (a-1) gb) (by lia) (by lia) (λi j lU hj q=>?_) λk k1 k2 k3=>?_)))));exact Tf.mpr (cz (jt sX (show 0+i<=0+j by lia) (by lia)) (Tf.mp q));simp only[mD]at k2 k3;have M2:MI (Ge r) (X++Y) (l++(X.extract k b).reverse) (tr X k) (tr Y a):=by have m:=lm;rw[Eg k1]at m;refine m.tx λx t y p=>?_;obtain⟨j,H,U,rfl⟩:=Pz T t;exact cz (upY F p) (jc (Z4.mp (k3 j H U)))
    have Mx:∀x∈tr X k,r x<=r (Y.getD (a-1) 0):=λx t=>by obtain⟨j,H,U,rfl⟩:=rM t;exact Tf.mp (k2 j H)
    have l1:(l++(X.extract k b).reverse).length+k+a=X.length+Y.length:=by rw[bX,List.length_reverse];simp[gz];lia
    have l2:O.length+1<=(l++(X.extract k b).reverse).length:=by lia
    have e2:arr f l++((arr f X).extract k b).reverse=arr f (l++(X.extract k b).reverse):=by rw[i8,we,iW]
    have e0:b=k->arr f l=arr f (l++(X.extract k b).reverse):=λz=>by rw[z];simp[gz]
    generalize l++(X.extract k b).reverse=O1 at *;have M3:=stY (by lia) F M2 Mx;refine bD (λck=>bD (λC=>aP ⟨S3.mg _,.inl ⟨_,rfl,ye e2 M2 (.inl (bi0.mp C))⟩⟩) λC=>?_) λck=>?_;have La:0<k:=by have C:k≠0:=λe=>C (bi0.mpr e);lia
    have eo:=e2;rotate_left;obtain rfl:b=k:=by have:¬ b-k > 0:=ck;lia
    have La:=la;have eo:=e0 rfl;all_goals
     refine aI (dD (get_some gb) (bD (λc5=>aP ⟨S3.mg _,.inl ⟨_,rfl,C5 (Tg eo) M3 (bi0.mp c5)⟩⟩) λc5=>?_))
     have c5:a-1≠1:=λe=>c5 (bi0.mpr e)
     have ga:=gO (Nat.sub_lt La Nat.zero_lt_one) (cz k1 T)
     refine aI (dD (get_some ga) (aI (uE (b:=0) (m:=a-1) (hint:=a-1-1) hc ((S3.mg _).kd.trans hk) hY (gX _ ga) (by lia) (by lia) (λi j lU hj q=>?_) λk' k1' k2' Xp=>?_)))
     ·exact Ui.mpr (rm (jt sY (show 0+i<=0+j by lia) (by lia)) (Ui.mp q))
     simp only[mD]at k2' Xp
     have l3:(O1++[Y.getD (a-1) 0]++(Y.extract k' (a-1)).reverse).length=O1.length+1+(a-1-k'):=by simp[gz];lia
     have M4:=Eg (X:=Y) k1'▸M3
     have M4:=M4.ty λy p x t=>by
      obtain⟨j,H,U,rfl⟩:=Pz (by lia) p
      exact cz (upX (cz k1 T) t) (Uj.mp (Xp j H U))
     have My:=λy (p:y∈tr Y k')=>show r y<=r (X.getD _ 0) by
      obtain⟨j,H,U,rfl⟩:=rM p
      exact jc (Ui.mp (k2' j H))
     have M5:=stX La (cz k1 T) M4 My
     have e4:arr f (O1++[Y.getD (a-1) 0])++((arr f Y).extract k' (a-1)).reverse=arr f (O1++[Y.getD (a-1) 0]++(Y.extract k' (a-1)).reverse):=by rw[i8,we,iW]
     have e5:a-1=k'->arr f (O1++[Y.getD (a-1) 0])=arr f (O1++[Y.getD (a-1) 0]++(Y.extract k' (a-1)).reverse):=λz=>by rw[<- z];simp[gz]
     generalize O1++[Y.getD (a-1) 0]++(Y.extract k' (a-1)).reverse=O4 at *
     rw[<- Tg eo]at e4 e5
     refine bD (λck=>bD (λc6=>aP ⟨S3.mg _,.inl ⟨_,rfl,C5 e4 M4 (bi0.mp c6)⟩⟩) λc6=>bD (λc7=>aP ⟨S3.mg _,.inl ⟨_,rfl,ye e4 M4 (.inr (bi0.mp c7))⟩⟩) λc7=>?_) λck=>?_
     have Ul:1<k':=by
      have c6:k'≠1:=λe=>c6 (bi0.mpr e)
      have c7:k'≠0:=λe=>c7 (bi0.mpr e)
      lia
     have eo:=e4
     rotate_left
     obtain rfl:a-1=k':=by
      have:¬ a-1-k' > 0:=ck
      lia
     have Ul:1<a-1:=by lia
     have eo:=e5 rfl
     all_goals
      refine aI (dD (get_some ga) (bD (λc8=>aP ⟨S3.mg _,.inl ⟨_,rfl,ye (Tg eo) M5 (.inl (bi0.mp c8))⟩⟩) λc8=>?_))
      have c8:=λe=>c8 (bi0.mpr e)
      refine bD (λ_=>aP ⟨S3.mg _,.inr ⟨rfl,_,Tg eo,⟨Gz c8,cz (Nat.sub_le _ _) (cz k1 T),Ul,cz k1' (by lia),?_,M5⟩,?_⟩⟩) λ_=>aP ⟨S3.mg _,rfl,_,Tg eo,⟨Gz c8,cz (Nat.sub_le _ _) (cz k1 T),Ul,cz k1' (by lia),?_,M5⟩,?_⟩ <;> (rw[bX,l3];simp;lia)
end
end
noncomputable section
def PB{B:List Nat}(h:i<B.length):(P++(B++R)).getD (P.length+i) 0=B.getD i 0:=by
 simp[nO,kG,mE,h]
def JB{P B:List Nat}(h:i=P.length)(a:j=P.length+B.length):(P++(B++R)).extract i j=B:=by
 subst h;subst a;simp[gz]
theorem PC:∀(L U V R:List Keyed) (k:Nat),U.length=sa+k->V.length=L.length->(L.zipIdx k).foldl (λa (q:Keyed×Nat)=>a.setIfInBounds (sa+q.2) q.1) (U++(V++R)).toArray=(U++(L++R)).toArray
 |[],U,V,R,k,_,h=>by
  have:V=[]:=pK.mp h;subst this;rfl
 |l::L,U,[],R,k,_,h=>by simp at h
 |l::L,U,v::V,R,k,b,h=>by
  rw[List.zipIdx_cons,NB];have e:(U++(v::V++R)).toArray.setIfInBounds (sa+k) l=((U++[l])++(V++R)).toArray:=by rw[<- b];simp[List.set_append]
  show List.foldl _ ((U++(v::V++R)).toArray.setIfInBounds (sa+k) l) _=_;rw[e,PC L (U++[l]) V R (k+1) (by simp;lia) (by simpa using h)];simp
def uF{X Y:List Nat}:(X++Y).Pairwise le↔X.Pairwise le/\Y.Pairwise le/\∀a∈X,∀b∈Y,le a b:=xh
def C7{X:List Nat}{x:Nat}(h:x∈X):∃j,j<X.length/\x=X.getD j 0:=by
 obtain⟨j,a,e⟩:=iZ.mp h;exact⟨j,a,by rw[<- e];simp[a]⟩
section
variable {kd:iM}
def Z7{st st':bJ}{Q:PUnit->bJ->Prop}(h:Q ⟨⟩ st'):wpS (aE prog w) A E s (set st':StateT bJ Sem PUnit) Q st:=by
 unfold wpS;rw[StateT.run_set];exact aB ⟨rfl,h⟩
structure Wt(kd:iM)(f:Nat->Keyed)(p:List Nat)(pe:Array (Nat×Nat×Nat))(st:bJ):Prop where
 k:kindOf st=kd
 a:arrOf st=arr f p
 p:pendingOf st=pe
 e:failedOf st=aj
def Z8{i sa m C pw pw':Nat}{P c l o:List Nat}{pe:Array (Nat×Nat×Nat)}{st:bJ}{Q:Bool->bJ->Prop}(hc:Cm prog w A s kd f n r)(W:Wt kd f (P++(c++(l++o))) pe st)(I:∀x∈P++(c++(l++o)),x<n)
  (e1:pe[i]?=ai (sa,m,pw)) (e2:pe[i+1]?=ai (sa+m,C,pw')) (hs:P.length=sa) (ha:c.length=m) (hb:l.length=C) (h1:0<m) (h2:0<C) (s1:c.Pairwise (Le r)) (s2:l.Pairwise (Le r))
  (h:∀M st',M.Perm (c++l)->M.Pairwise (Le r)->Wt kd f (P++(M++o)) ((pe.setIfInBounds i (sa,m+C,pw)).eraseIdxIfInBounds (i+1)) st'->Q bT st'):wpS (aE prog w) A E s (mergeAt' i) Q st:=by
 obtain⟨Xr,a',p',g,e'⟩:=st;obtain rfl:Xr=kd:=W.k;obtain rfl:a'=arr f (P++(c++(l++o))):=W.a;obtain rfl:p'=pe:=W.p;obtain rfl:e'=aj:=W.e;refine aI (mG ?_);dsimp only;rw[e1,e2];refine aI (Z7 ?_);generalize hpe:(p'.setIfInBounds i (sa,m+C,pw)).eraseIdxIfInBounds (i+1)=J at *;have W2:∀{p g},Wt Xr f p J (SortSt.mk' Xr (arr f p) J g aj):=⟨rfl,rfl,rfl,rfl⟩
 have X:∀i,i<m->(P++(c++(l++o))).getD (sa+i) 0=c.getD i 0:=λi hi=>by rw[<- hs];exact PB (by lia)
 have Y:∀i,i<C->(P++(c++(l++o))).getD (sa+m+i) 0=l.getD i 0:=λi hi=>by rw[<- fQ,<- hs,<- ha,<- bX];exact PB (by lia)
 have L:=Y 0 h2;rw[GA]at L;have lp:(P++(c++(l++o))).length=sa+m+C+o.length:=by simp;lia
 have hk:l.getD 0 0<n:=by rw[<- L];exact I _ (get_mem (by lia))
 refine aI (dD (x:=l.getD 0 0) (by rw[get_some (by lia),L]) (aI (uE (b:=sa) (m:=m) (hint:=0) hc rfl I hk (by lia) h1 (λi j lU hj q=>?_) λk k1 k2 k3=>?_)));rw[X i (by lia)];rw[X j hj]at q;exact Tf.mpr (cz (jt s1 lU (by lia)) (Tf.mp q));have N:∀b∈l,r (l.getD 0 0)<=r b:=λb u=>by obtain⟨j,v,rfl⟩:=C7 u;exact jt s2 (eS _) v
 refine bD (λz=>aP (h (c++l) _ (.refl _) (uF.mpr ⟨s1,s2,λa T b u=>?_⟩) (by rw[fQ];exact W2))) λz=>?_;have z:m-k=0:=bi0.mp z;obtain⟨j,v,rfl⟩:=C7 T;have:=k2 j (by lia);rw[X j (by lia)]at this;exact cz (Tf.mp this) (N b u);have z:m-k≠0:=λe=>z (bi0.mpr e);have gl:(P++(c++(l++o))).getD (sa+k+(m-k)-1) 0=c.getD (m-1) 0:=by rw[show sa+k+(m-k)-1=sa+(m-1) by lia];exact X _ (by lia)
 have hk2:c.getD (m-1) 0<n:=by rw[<- gl];exact I _ (get_mem (by lia))
 refine aI (dD (x:=c.getD (m-1) 0) (by rw[get_some (by lia),gl]) (aI (uE (b:=sa+m) (m:=C) (hint:=C-1) hc rfl I hk2 (by lia) (by lia) (λi j lU hj q=>?_) λk' k1' k2' Xp=>?_)));rw[Y i (by lia)];rw[Y j hj]at q;exact Ui.mpr (rm (jt s2 lU (by lia)) (Ui.mp q));have top:∀a∈c,r a<=r (c.getD (m-1) 0):=λa T=>by obtain⟨j,v,rfl⟩:=C7 T;exact jt s1 (by lia) (by lia)
 refine bD (λz=>aP (h (c++l) _ (.refl _) (uF.mpr ⟨s1,s2,λa T b u=>?_⟩) (by rw[fQ];exact W2))) λz'=>?_;have z:k'=0:=bi0.mp z;obtain⟨j,v,rfl⟩:=C7 u;have:=Xp j (by lia) (by lia);rw[Y j (by lia)]at this;exact cz (top a T) (Uj.mp this);have z':k'≠0:=λe=>z' (bi0.mpr e);have O:c.take k++c.drop k=c:=nN _ _;have F:l.take k'++l.drop k'=l:=nN _ _;have e3:(P++(c++(l++o)))=(P++c.take k)++(c.drop k++(l++o)):=by rw[fQ,<- fQ (c.take k),O]
 have e4:(P++(c++(l++o)))=(P++c)++(l.take k'++(l.drop k'++o)):=by rw[<- fQ (l.take k'),F,fQ]
 have x1:(arr f (P++(c++(l++o)))).extract (sa+k) (sa+m)=arr f (c.drop k):=by rw[i8,e3,JB (by simp;lia) (by simp;lia)]
 have x2:(arr f (P++(c++(l++o)))).extract (sa+m) (sa+m+k')=arr f (l.take k'):=by rw[i8,e4,JB (by simp;lia) (by simp;lia)]
 have t1:=uF.mp (O.symm▸s1);have t2:=uF.mp (F.symm▸s2);have m1:∀x∈c.drop k,r (l.getD 0 0)<r x:=λx t=>by obtain⟨j,v,j2,rfl⟩:=jw t;have:=k3 j v (by lia);rw[X j (by lia)]at this;exact Z4.mp this
 have m2:∀y∈l.take k',r y<r (c.getD (m-1) 0):=λy U=>by obtain⟨j,v,j2,rfl⟩:=rM (uh.mpr U);have:=k2' j v;rw[Y j (by lia)]at this;exact Ui.mp this
 have m3:∀y∈l.drop k',r (c.getD (m-1) 0)<=r y:=λy U=>by obtain⟨j,v,j2,rfl⟩:=jw U;have:=Xp j v (by lia);rw[Y j (by lia)]at this;exact Uj.mp this
 have m0:∀x∈c.take k,r x<=r (l.getD 0 0):=λx t=>by obtain⟨j,v,j2,rfl⟩:=rM (uh.mpr t);have:=k2 j v;rw[X j (by lia)]at this;exact Tf.mp this
 have q0:(l.take k').getD 0 0=l.getD 0 0:=by simp[nO,GN,Gz z']
 have ql:(c.drop k).getD ((c.drop k).length-1) 0=c.getD (m-1) 0:=by simp only[nO,NC,ua,ha];rw[show k+(m-k-1)=m-1 by lia]
 have fin:∀Z st',aG (SortSt.mk' Xr (arr f (P++(c++(l++o)))) J g aj) st'->Dn (Le r) (c.drop k++l.take k') Z->wpS (aE prog w) A E s
   (modify (λst=>setArr st ((arr f Z).toList.zipIdx.foldl (λa (q:Keyed×Nat)=>a.setIfInBounds (sa+k+q.2) q.1) (arrOf st)))>>=λ_=>get>>=λst=>pure (failedOf st).isNone) Q st':=λZ st' S d=>by
  obtain⟨g',rfl⟩:=S
  refine aI (rE (aI (mG (aP (h (c.take k++(Z++l.drop k')) _ ?_ ?_ ?_)))))
  ·have:(c.take k++(Z++l.drop k')).Perm (c.take k++((c.drop k++l.take k')++l.drop k')):=(d.1.append_right _).append_left _
   refine this.trans ?_
   rw[fQ,F,<- fQ,O]
  ·have inZ:∀z∈Z,r (l.getD 0 0)<=r z/\r z<=r (c.getD (m-1) 0):=λz H=>by
    rcases i6.mp (d.1.mem_iff.mp H)with H|H
    ·exact⟨jc (m1 z H),top z (ug H)⟩
    ·exact⟨N z (pJ H),jc (m2 z H)⟩
   refine uF.mpr ⟨t1.1,uF.mpr ⟨d.2,t2.2.1,λz H b u=>cz (inZ z H).2 (m3 b u)⟩,λa T b u=>?_⟩
   rcases i6.mp u with u|u
   ·exact cz (m0 a T) (inZ b u).1
   ·exact cz (m0 a T) (N b (ug u))
  ·have lz:Z.length=(c.drop k++l.take k').length:=d.1.length_eq
   have:=PC (sa:=sa+k) (Z.map f) ((P++c.take k).map f) ((c.drop k++l.take k').map f) ((l.drop k'++o).map f) 0 (by simp;lia) (by simp[lz])
   have e5:(P++c.take k).map f++((c.drop k++l.take k').map f++(l.drop k'++o).map f)=(P++(c++(l++o))).map f:=by
    rw[<- j4,<- j4,e3,fQ (c.drop k),<- fQ (l.take k'),F]
   rw[e5]at this
   refine⟨rfl,?_,rfl,rfl⟩
   show(arr f Z).toList.zipIdx.foldl _ (arr f (P++(c++(l++o))))=_
   unfold arr
   rw[this,<- j4,<- j4]
   simp only[fQ]
 rw[x1,x2];refine bD (λ_=>aI ?_) λ_=>aI ?_;exact Z5 hc rfl (λx t=>I x (by simp[ug t])) (λx t=>I x (by simp[pJ t])) t1.2.1 t2.1 (by simp;lia) (by simp;lia) (λx t=>by rw[q0];exact jc (m1 x t)) (λy U=>by rw[ql];exact jc (m2 y U)) fin;exact Z6 hc rfl (λx t=>I x (by simp[ug t])) (λx t=>I x (by simp[pJ t])) t1.2.1 t2.1 (by simp;lia) (by simp;lia) (λx t=>by rw[q0];exact jc (m1 x t)) (λy U=>by rw[ql];exact jc (m2 y U)) fin
end
end
end Sg
namespace So
open PySem PySem.W PyProof.Rows
def rev_getD{p:Array Nat}(h:j<=p.size)(k:Nat):(kas_rev p i j).getD k 0=if i<=k/\k<j then p.getD (i+j-1-k) 0 else p.getD k 0:=by
 rw[jm];unfold kas_rev;rw[getElem?_mirror_all h];split <;> rw[jm]
def PD(p:Array Nat)(i j:Nat):(kas_rev p i j).Perm p:=mirror_perm _ _ _ _
end So
namespace Sg
open PySem PySem.W PyProof.Rows
noncomputable section
noncomputable def JC(p:List Nat)(i j:Nat):List Nat:=(kas_rev p.toArray i j).toList
noncomputable def Z9(p:List Nat)(k d:Nat):List Nat:=(bubble p.toArray k d).toList
def C8(p:List Nat)(k:Nat):p.toArray.getD k 0=p.getD k 0:=by simp[nO,jm]
def vm(p:Array Nat)(k:Nat):p.toList.getD k 0=p.getD k 0:=by simp[nO,jm]
def C9{p:List Nat}(h:j<=p.length)(k:Nat):(JC p i j).getD k 0=if i<=k/\k<j then p.getD (i+j-1-k) 0 else p.getD k 0:=by
 rw[JC,vm,So.rev_getD (by simpa using h)];split <;> rw[C8]
def Um(p:List Nat)(i j:Nat):(JC p i j).Perm p:=by
 have:=O8.mp (So.PD p.toArray i j);simpa[JC]using this
def Uo(p:List Nat)(k d:Nat):(Z9 p k d).Perm p:=by
 have:=O8.mp (bubble_perm p.toArray k d);simpa[Z9]using this
def Ih{p:List Nat}(hk:k<p.length)(hl:l<=k)(j:Nat):(Z9 p k (k-l)).getD j 0=if j=l then p.getD k 0 else if l<j/\j<=k then p.getD (j-1) 0 else p.getD j 0:=by
 rw[Z9,vm,jm,getElem?_bubble (by simpa using hk) (k-l) (by lia),show k-(k-l)=l by lia]
 repeat' split
 all_goals simp[nO]
structure Fix(lo:Nat)(p p':List Nat):Prop where
 pm:p'.Perm p
 eq:∀k,k<lo->p'.getD k 0=p.getD k 0
theorem Fix.refl(lo:Nat)(p:List Nat):Fix lo p p:=⟨.refl _,λ_ _=>rfl⟩
theorem Fix.trans{lo:Nat}{p p' c:List Nat}(a:Fix lo p p')(b:Fix lo p' c):Fix lo p c:=⟨b.pm.trans a.pm,λk hk=>(b.eq k hk).trans (a.eq k hk)⟩
def Fix.rv{lo:Nat}{p:List Nat}{i j:Nat}(h:j<=p.length)(a:lo<=i):Fix lo p (JC p i j):=⟨Um _ _ _,λk hk=>by rw[C9 h,bh7 (by lia)]⟩
def Fix.bu{lo:Nat}{p:List Nat}{k l:Nat}(hk:k<p.length)(hl:l<=k)(h:lo<=l):Fix lo p (Z9 p k (k-l)):=⟨Uo _ _ _,λj a=>by rw[Ih hk hl,bh7 (by lia),bh7 (by lia)]⟩
def Fix.len{lo:Nat}{p p':List Nat}(a:Fix lo p p'):p'.length=p.length:=a.pm.length_eq
def Fix.all{lo n:Nat}{p p':List Nat}(a:Fix lo p p')(h:∀x∈p,x<n):∀x∈p',x<n:=λx b=>h x (a.pm.mem_iff.mp b)
noncomputable abbrev vv(r:Nat->Nat)(p:List Nat)(lo i:Nat):Nat:=r (p.getD (lo+i) 0)
def Ii(v:Nat->Nat)(a:Nat):Prop:=∀i j,i<=j->j<a->v i<=v j
def PF(v:Nat->Nat)(a:Nat):Prop:=∀i j,i<=j->j<a->v j<=v i
def Ii.one(v:Nat->Nat):Ii v 1:=λi j l h=>by
 have:i=j:=by lia
 subst this;exact b9 _
def Ii.succ(h:Ii v a)(h1:1<=a)(q:¬ v a<v (a-1)):Ii v (a+1):=λi j l d=>by
 by_cases b:j<a;exact h i j l b;have e:j=a:=by lia
 subst e;by_cases c:i=j;subst c;exact b9 _;have:=h i (j-1) (by lia) (by lia);lia
def PF.succ(h:PF v a)(h1:1<=a)(q:v a<=v (a-1)):PF v (a+1):=λi j l d=>by
 by_cases b:j<a;exact h i j l b;have e:j=a:=by lia
 subst e;by_cases c:i=j;subst c;exact b9 _;have:=h i (j-1) (by lia) (by lia);lia
section
variable {kd:iM}{st:bJ}
def sS{Q:Option Bool->bJ->Prop}(d:Cm prog w A s kd f n r)(W:Wt kd f p e st)(a:∀x∈p,x<n)(b:i<p.length)(c:j<p.length)(h:Q (ai (decide (r (p.getD i 0)<r (p.getD j 0)))) st):wpS (aE prog w) A E s (ltAt' i j) Q st:=by
 rw[ltAt'_eq];refine aI (mG ?_);show wpS _ _ _ _ (elem' (arrOf st) i>>=λx=>elem' (arrOf st) j>>=λy=>lt' x y) Q st;rw[W.a];exact aI (dD (get_some b) (aI (dD (get_some c) (Ef d W.k (a _ (get_mem b)) (a _ (get_mem c)) h))))
def sU(p:List Nat):arr f p=p.toArray.map f:=by simp[arr]
def Ca{Q:Unit->bJ->Prop}(W:Wt kd f p a st)(h:∀st',Wt kd f (JC p i j) a st'->Q () st'):wpS (aE prog w) A E s (reverseSlice' i j) Q st:=by
 rw[reverseSlice'_eq];refine rE (h _ ⟨W.k,?_,W.p,W.e⟩);show mirror (arrOf st) i j ((j-i) / 2)=_;rw[W.a,sU,sU,JC];exact kas_swaps_map f (λk=>i+k) (λk=>j-1-k) _ p.toArray
def Za{Q:Unit->bJ->Prop}(W:Wt kd f p a st)(h:∀st',Wt kd f (Z9 p k (k-l)) a st'->Q () st'):wpS (aE prog w) A E s (moveDown' k l) Q st:=by
 rw[moveDown'_eq];refine rE (h _ ⟨W.k,?_,W.p,W.e⟩);show bubble (arrOf st) k (k-l)=_;rw[W.a,sU,sU,Z9];exact kas_swaps_map f (λi=>k-i) (λi=>k-i-1) _ p.toArray
def ay3{v:Nat->Nat}{Q:Option (Option Nat)×Nat->bJ->Prop}{g:Nat->Option (Option Nat)×Nat->StateT bJ Sem (ForInStep (Option (Option Nat)×Nat))}
  (e:∀x m (Q:_->bJ->Prop),1<=m->m<nrem->(v m<v (m-1)->Q (.done (aj,m)) st)->(¬ v m<v (m-1)->Q (.yield (aj,m+1)) st)->wpS (aE prog w) A E s (g x (aj,m)) Q st)
  (h1:1<=a) (f:a<=nrem) (i:Ii v a) (h:∀m,a<=m->m<=nrem->Ii v m->(m=nrem\/v m<v (m-1))->Q (aj,m) st):wpS (aE prog w) A E s (forIn [a:nrem] (aj,a) g) Q st:=by
 refine j5 (I:=λx c b=>b=st/\c=(aj,x)/\Ii v x) ?step ?fin ⟨rfl,rfl,i⟩;case fin=>rintro c b ⟨rfl,rfl,d⟩;rw[show max a nrem=nrem by lia]at d ⊢;exact h nrem f (b9 _) d (.inl rfl)
 case step=>rintro x c b j k ⟨rfl,rfl,d⟩;exact e x x _ (by lia) k (λq=>h x j (by lia) d (.inr q)) λq=>⟨rfl,rfl,d.succ (by lia) q⟩
def Zb{lo nrem:Nat}{Q:Option Nat->bJ->Prop}(X:Cm prog w A s kd f n r)(W:Wt kd f p Y st)(Z:∀x∈p,x<n)(hl:lo+nrem<=p.length)(h1:1<=nrem)
  (h:∀m p' st',1<=m->m<=nrem->Fix lo p p'->Ii (vv r p' lo) m->Wt kd f p' Y st'->Q (ai m) st'):wpS (aE prog w) A E s (countRun' lo nrem) Q st:=by
 have L:∀{p' st' m} {Q:ForInStep (Option (Option Nat)×Nat)->bJ->Prop},Wt kd f p' Y st'->Fix lo p p'->1<=m->m<nrem->(vv r p' lo m<vv r p' lo (m-1)->Q (.done (aj,m)) st')->(¬ vv r p' lo m<vv r p' lo (m-1)->Q (.yield (aj,m+1)) st')->
   wpS (aE prog w) A E s (ltAt' (lo+m) (lo+m-1)>>=λz=>match z with|some q=>if q=bT then pure (.done (aj,m))else pure (.yield (aj,m+1))|_=>pure (.done (ai aj,m))) Q st':=λ{p' st' m Q} W F hm M N O=>by
  have:=F.len
  refine aI (sS X W (F.all Z) (by lia) (by lia) (bD (λz=>aP (N ?_)) λz=>aP (O λy=>z (bh8 ?_))))
  ·have:=bi2 z
   rw[show lo+m-1=lo+(m-1) by lia]at this
   exact this
  ·rw[show lo+m-1=lo+(m-1) by lia]
   exact y
 have t:∀{p' x q},lo+x<=p'.length->q+1<=x->(∀i,x-(q+1)<=i->i<x->vv r p' lo i=vv r p' lo (x-1))->∀i,vv r (JC p' (lo+x-(q+1)) (lo+x)) lo i=vv r p' lo i:=λ{p' x q} hx hq he i=>by unfold vv;rw[C9 hx];split;rename_i hi;have a:=he i (by lia) (by lia);have b:=he (x-(q+1)+x-1-i) (by lia) (by lia);rw[show lo+x-(q+1)+(lo+x)-1-(lo+i)=lo+(x-(q+1)+x-1-i) by lia];exact b.trans a.symm;rfl
 refine aI (ay3 (v:=vv r p lo) (λx m Q hm M N O=>L W (.refl _ _) hm M N O) (b9 1) h1 (Ii.one _) λm a1 a2 C H=>bD (λz=>aP (h m p st a1 a2 (.refl _ _) C W)) λz=>?_);have z:m≠nrem:=λe=>z (bi0.mpr e);have H:vv r p lo m<vv r p lo (m-1):=by rcases H with H|H;exact bi8 H z;exact H
 refine bD (λz2=>aI (sS X W Z (show lo<p.length by lia) (show lo+m-1<p.length by lia) (bD (λz3=>aP (h m p st a1 a2 (.refl _ _) C W)) λz3=>aI (Ca W λmP W2=>?_)))) λz2=>?_;have z3:¬ vv r p lo 0<vv r p lo (m-1):=λq=>z3 (bh8 (by rw[show lo+m-1=lo+(m-1) by lia];exact q));have F2:Fix lo p (JC p lo (lo+m)):=.rv (by lia) (b9 _);have d2:PF (vv r (JC p lo (lo+m)) lo) (m+1):=by
  have al:∀k,k<m->vv r p lo k=vv r p lo (m-1):=λk hk=>by have b1:=C 0 k (by lia) hk;have b2:=C k (m-1) (by lia) (by lia);lia
  have ev:∀i,vv r (JC p lo (lo+m)) lo i=vv r p lo i:=λi=>by have:=t (p':=p) (x:=m) (q:=m-1) (by lia) (by lia) (λi _ hi=>al i hi) i;rw[show lo+m-(m-1+1)=lo by lia]at this;exact this
  refine PF.succ (λi j I u=>?_) a1 (by rw[ev,ev];lia);rw[ev,ev,al i (by lia),al j u];exact b9 _
 rotate_left;have W2:=W;have F2:=Fix.refl lo p;have d2:PF (vv r p lo) (m+1):=by
  have:m=1:=by have:¬ m > 1:=z2;lia
  subst this;refine PF.succ (λi j I u=>?_) (b9 _) (by lia);have:i=j:=by lia
  subst this;exact b9 _
 all_goals
  refine aI (qA (aI (kH (j5 (I:=λx c st'=>∃d q,c=(aj,x,q)/\Wt kd f d Y st'/\Fix lo p d/\PF (vv r d lo) x/\q+1<=x/\∀i,x-(q+1)<=i->i<x->vv r d lo i=vv r d lo (x-1))
   (Q:=λc st'=>∃d q x,c=(aj,x,q)/\1<=x/\x<=nrem/\Wt kd f d Y st'/\Fix lo p d/\PF (vv r d lo) x/\q+1<=x/\∀i,x-(q+1)<=i->i<x->vv r d lo i=vv r d lo (x-1)) ?_ ?_ ⟨_,0,rfl,W2,F2,d2,by lia,λi h1 h2=>by congr 1;lia⟩) ?_)))
  ·rintro x c w9 hx M ⟨d,q,rfl,l,g,o,J,v⟩
   have fl:=g.len
   have P:lo+x-1=lo+(x-1):=by lia
   refine aI (sS X l (g.all Z) (show lo+x<_ by lia) (show lo+x-1<_ by lia) (bD (λy=>?_) λy=>aI (sS X l (g.all Z) (show lo+x-1<_ by lia) (show lo+x<_ by lia) (bD (λS=>aP ⟨d,q,x,rfl,by lia,by lia,l,g,o,J,v⟩) λS=>aP ⟨d,q+1,rfl,l,g,?_,by lia,λi i1 i2=>?_⟩))))
   ·have y:vv r d lo x<vv r d lo (x-1):=by have:=bi2 y;rw[P]at this;exact this
    have ev:=t (p':=d) (by lia) J v
    refine bD (λ_=>aI (Ca (i:=lo+x-(q+1)) (j:=lo+x) l λTj T=>aP ⟨_,0,rfl,T,g.trans (.rv (i:=lo+x-(q+1)) (j:=lo+x) (by lia) (by lia)),PF.succ (λi j I u=>by rw[ev,ev];exact o i j I u) (by lia) (by rw[ev,ev];lia),by lia,λi i1 i2=>by congr 1;lia⟩)) λ_=>aP ⟨d,0,rfl,l,g,o.succ (by lia) (by lia),by lia,λi i1 i2=>by congr 1;lia⟩
   ·have y:¬ vv r d lo x<vv r d lo (x-1):=λq=>y (bh8 (by rw[P];exact q))
    have S:¬ vv r d lo (x-1)<vv r d lo x:=λq=>S (bh8 (by rw[P];exact q))
    exact o.succ (by lia) (by lia)
   ·have y:¬ vv r d lo x<vv r d lo (x-1):=λq=>y (bh8 (by rw[P];exact q))
    have S:¬ vv r d lo (x-1)<vv r d lo x:=λq=>S (bh8 (by rw[P];exact q))
    show vv r d lo i=vv r d lo (x+1-1)
    rw[Bq]
    by_cases hi:i=x
    ·subst hi;rfl
    ·rw[v i (by lia) (by lia)];lia
  ·rintro c w9 ⟨d,q,rfl,l,g,o,J,v⟩
   rw[show max (m+1) nrem=nrem by lia]at *
   exact⟨d,q,nrem,rfl,h1,b9 _,l,g,o,J,v⟩
  ·rintro c w9 ⟨d,q,x,rfl,x1,x2,l,g,o,J,v⟩
   have fl:=g.len
   have ev:=t (p':=d) (by lia) J v
   refine bD (λ_=>aI (Ca (i:=lo+x-(q+1)) (j:=lo+x) l λTj T=>?_)) λ_=>?_
   have U:Fix lo p _:=g.trans (.rv (i:=lo+x-(q+1)) (j:=lo+x) (by lia) (by lia))
   have d4:PF (vv r (JC d (lo+x-(q+1)) (lo+x)) lo) x:=λi j I u=>by rw[ev,ev];exact o i j I u
   generalize JC d (lo+x-(q+1)) (lo+x)=p4 at T U d4
   rotate_left
   have T:=l
   have U:=g
   have d4:=o
   all_goals
    have fl:=U.len
    refine aI (Ca (i:=lo) (j:=lo+x) T λBR W5=>aI (ay3 (a:=x) (v:=vv r (JC _ lo (lo+x)) lo) (λx' m' Q zL M N O=>L W5 (U.trans (.rv (by lia) (b9 _))) zL M N O) x1 x2 (λi j I u=>?_) λm' a1 a2 C _=>aP (h m' _ _ (by lia) a2 (U.trans (.rv (by lia) (b9 _))) C W5)))
    unfold vv
    rw[C9 (by lia),C9 (by lia),bh6 (by lia),bh6 (by lia),show lo+(lo+x)-1-(lo+i)=lo+(x-1-i) by lia,show lo+(lo+x)-1-(lo+j)=lo+(x-1-j) by lia]
    exact d4 _ _ (by lia) (by lia)
def Zc{lo m ok:Nat}{Q:Bool->bJ->Prop}(M:Cm prog w A s kd f n r)(W:Wt kd f p C st)(N:∀x∈p,x<n)(hl:lo+m<=p.length)(hk:1<=ok)(T:ok<=m)(O:Ii (vv r p lo) ok)
  (h:∀p' st',Fix lo p p'->Ii (vv r p' lo) m->Wt kd f p' C st'->Q bT st'):wpS (aE prog w) A E s (binarySort' lo m ok) Q st:=by
 refine aI (kH (j5 (I:=λk c st'=>∃p',c=(aj,())/\Wt kd f p' C st'/\Fix lo p p'/\Ii (vv r p' lo) k) (Q:=λc st'=>∃p',c=(aj,())/\Wt kd f p' C st'/\Fix lo p p'/\Ii (vv r p' lo) m) ?_ ?_ ⟨p,rfl,W,.refl _ _,by rw[Nat.max_eq_left hk];exact O⟩) ?_);rintro k c o U X ⟨a,rfl,b,F,u⟩;have fl:=F.len;refine aI (kH (j5 (I:=λx c st'=>st'=o/\∃l q,c=(aj,l,q)/\l<=q/\q<=k/\q-l<=k-x/\(∀i,i<l->vv r a lo i<=vv r a lo k)/\∀i,q<=i->i<k->vv r a lo k<vv r a lo i)
  (Q:=λc st'=>st'=o/\∃l q,c=(aj,l,q)/\l<=k/\(∀i,i<l->vv r a lo i<=vv r a lo k)/\∀i,l<=i->i<k->vv r a lo k<vv r a lo i) ?_ ?_ ⟨rfl,0,k,rfl,eS _,b9 _,b9 _,λi Y=>by lia,λi Z h2=>by lia⟩) ?_)
 rintro x c I _ hx ⟨rfl,l,q,rfl,J,d,H,t,v⟩;refine bD (λz=>?_) λz=>aI (sS M b (F.all N) (show lo+k<_ by lia) (show lo+(l+q) / 2<_ by have:¬ l ≥ q:=z;lia) (bD (λy=>aP ⟨rfl,l,(l+q) / 2,rfl,by lia,by lia,?_,t,λi L P=>?_⟩) λy=>aP ⟨rfl,(l+q) / 2+1,q,rfl,?_,d,?_,λi L=>?_,v⟩));have:l ≥ q:=z;have:l=q:=by lia
 subst this;exact aP ⟨rfl,l,l,rfl,d,t,v⟩;have:¬ l ≥ q:=z;lia;have y:vv r a lo k<vv r a lo ((l+q) / 2):=bi2 y;exact gO y (u _ _ L P);have:¬ l ≥ q:=z;lia;have:¬ l ≥ q:=z;lia;have y:¬ vv r a lo k<vv r a lo ((l+q) / 2):=λe=>y (bh8 e);have:¬ l ≥ q:=z;exact cz (u i ((l+q) / 2) (by lia) (by lia)) (mC y);rintro c I ⟨rfl,l,q,rfl,J,d,H,t,v⟩;have:l=q:=by lia
 subst this;exact⟨rfl,l,l,rfl,d,t,v⟩
 ·rintro c I ⟨rfl,l,q,rfl,J,d,H⟩;refine aI (Za (k:=lo+k) (l:=lo+l) b λw9 S=>aP ⟨_,rfl,S,F.trans (.bu (by lia) (by lia) (by lia)),λi j lU hj=>?_⟩);unfold vv;rw[Ih (by lia) (by lia),Ih (by lia) (by lia)];have g:∀i j,i<=j->j<k->r (a.getD (lo+i) 0)<=r (a.getD (lo+j) 0):=u
  repeat' split
  all_goals first
   |(exfalso;lia)
   |exact b9 _
   |exact d _ (by lia)
   |(rw[show lo+j-1=lo+(j-1) by lia];exact jc (H _ (by lia) (by lia)))
   |(rw[show lo+i-1=lo+(i-1) by lia,show lo+j-1=lo+(j-1) by lia];exact g _ _ (by lia) (by lia))
   |(rw[show lo+j-1=lo+(j-1) by lia];exact g _ _ (by lia) (by lia))
   |exact g _ _ (by lia) (by lia)
 rintro c o ⟨a,rfl,b,F,u⟩;rw[show max (max ok 1) m=m by lia]at u;exact⟨a,rfl,b,F,u⟩;rintro c o ⟨a,rfl,b,F,u⟩;exact aP (h a o F u b)
end
end
noncomputable section
def PR(r:Nat->Nat):Nat->List (Nat×Nat×Nat)->List (List Nat)->Prop
 |_,[],[]=>True
 |s,q::p,b::a=>q.1=s/\q.2.1=b.length/\0<b.length/\b.Pairwise (Le r)/\PR r (s+b.length) p a
 |_,_,_=>False
theorem PR.len:∀{s:Nat} {ps:List (Nat×Nat×Nat)} {a:List (List Nat)},PR r s ps a->ps.length=a.length/\a.length<=a.flatten.length
 |_,[],[],_=>⟨rfl,b9 _⟩
 |s,q::ps,b::a,h=>by
  rw[PR]at h;have:=PR.len h.2.2.2.2;rw[List.flatten_cons,bX,cS,cS];lia
 |_,[],_::_,h=>by simp[PR]at h
 |_,_::_,[],h=>by simp[PR]at h
theorem PR.snoc{q:Nat×Nat×Nat}{b:List Nat}(d:q.2.1=b.length)(e:0<b.length)(f:b.Pairwise (Le r)):∀{s:Nat} {ps:List (Nat×Nat×Nat)} {a:List (List Nat)},PR r s ps a->q.1=s+a.flatten.length->PR r s (ps++[q]) (a++[b])
 |s,[],[],_,c=>by
  show PR r s [q] [b];rw[PR];exact⟨by simpa using c,d,e,f,trivial⟩
 |s,g::ps,i::a,h,c=>by
  rw[PR]at h;show PR r s (g::(ps++[q])) (i::(a++[b]));rw[PR];exact⟨h.1,h.2.1,h.2.2.1,h.2.2.2.1,PR.snoc d e f h.2.2.2.2 (by rw[c];simp;lia)⟩
 |_,[],_::_,h,_=>by simp[PR]at h
 |_,_::_,[],h,_=>by simp[PR]at h
theorem PR.pw:∀{s:Nat} {ps Z:List (Nat×Nat×Nat)} {a:List (List Nat)},PR r s ps a->Z.map (λq=>(q.1,q.2.1))=ps.map (λq=>(q.1,q.2.1))->PR r s Z a
 |_,[],Z,[],_,e=>by
  have:Z=[]:=by simpa using e
  rw[this];trivial
 |s,q::ps,[],b::a,h,e=>by simp at e
 |s,q::ps,i::Z,b::a,h,e=>by
  rw[PR]at h ⊢;rw[bz,bz]at e;injection e with c d;injection c with f g;exact⟨f.trans h.1,g.trans h.2.1,h.2.2.1,h.2.2.2.1,PR.pw h.2.2.2.2 d⟩
 |_,[],_,_::_,h,_=>by simp[PR]at h
 |_,_::_,_,[],h,_=>by simp[PR]at h
theorem PR.one:∀{s:Nat} {ps:List (Nat×Nat×Nat)} {b:List Nat},PR r s ps [b]->b.Pairwise (Le r)
 |_,[],_,h=>by simp[PR]at h
 |_,_::_,_,h=>by rw[PR]at h;exact h.2.2.2.1
theorem PR.two:∀{i s:Nat} {ps:List (Nat×Nat×Nat)} {j:List (List Nat)},PR r s ps j->i+1<ps.length->∃e f g R2 k p,j=e++f::g::R2/\ps[i]?=ai (s+e.flatten.length,f.length,k)/\ps[i+1]?=ai (s+e.flatten.length+f.length,g.length,p)/\
  0<f.length/\0<g.length/\f.Pairwise (Le r)/\g.Pairwise (Le r)/\∀M:List Nat,M.length=f.length+g.length->M.Pairwise (Le r)->PR r s ((ps.set i (s+e.flatten.length,f.length+g.length,k)).eraseIdx (i+1)) (e++M::R2)
 |0,s,q::x::ps,b::o::j,h,_=>by
  rw[PR,PR]at h;obtain⟨t,u,y,z,v,w,A,C,E⟩:=h;obtain⟨a,c,d⟩:=q;obtain⟨S,T,F⟩:=x;simp only at t u v w;subst t u v w;refine⟨[],b,o,j,d,F,rfl,rfl,rfl,y,A,z,C,λM l m=>?_⟩;show PR r a ((a+0,b.length+o.length,d)::ps) (M::j);rw[PR];exact⟨rfl,l.symm,by lia,m,by rw[l,<- x6];exact E⟩
 |i+1,s,q::ps,b::j,h,hl=>by
  rw[PR]at h;obtain⟨e,f,g,R2,k,p,H,I,J,L,N,O,P,Q⟩:=PR.two (i:=i) h.2.2.2.2 (by simpa using hl);have n:s+(b::e).flatten.length=s+b.length+e.flatten.length:=by simp;lia
  refine⟨b::e,f,g,R2,k,p,by rw[H];rfl,by rw[n];exact I,by rw[n];exact J,L,N,O,P,λM l m=>?_⟩;rw[n];show PR r s (q::((ps.set i (s+b.length+e.flatten.length,f.length+g.length,k)).eraseIdx (i+1))) (b::(e++M::R2));rw[PR];exact⟨h.1,h.2.1,h.2.2.1,h.2.2.2.1,Q M l m⟩
 |_,_,[],[],_,hl=>by simp at hl
 |_,_,[],_::_,h,_=>by simp[PR]at h
 |_,_,_::_,[],h,_=>by simp[PR]at h
 |0,_,[_],[_],_,hl=>by simp at hl
 |0,_,[_],_::_::_,h,_=>by simp[PR]at h
 |0,_,_::_::_,[_],h,_=>by simp[PR]at h
def PJ(a:Array (Nat×Nat×Nat))(i p:Nat):(a.modify i λx=>(x.1,x.2.1,p)).toList.map (λq=>(q.1,q.2.1))=a.toList.map λq=>(q.1,q.2.1):=by
 refine Bs λk=>?_;simp only[d8,mF,Array.getElem?_modify];split;cases a[k]? <;> rfl;rfl
def Fix.tail{F:List Nat}(h:Fix F.length (F++R) p'):∃b,p'=F++b/\b.Perm R:=by
 have hl:=h.len;have e:p'.take F.length=F:=by
  refine Bs λk=>?_;rw[GN];split;rename_i hk;have q:=h.eq k hk;have a:k<p'.length:=by rw[hl,bX];lia
  rw[get_some a,q];simp[nO,hk,mE];rename_i hk;rw[um (by lia)]
 refine⟨p'.drop F.length,?_,?_⟩;conv=>lhs;rw[<- nN F.length p',e]
 have:=h.pm;rw[show p'=F++p'.drop F.length by conv=>lhs;rw[<- nN F.length p',e]]at this;exact(List.perm_append_left_iff F).mp this
def JD(h:Ii (vv r (F++R) F.length) m)(c:m<=R.length):(R.take m).Pairwise (Le r):=by
 rw[rA];intro i j a b l;rw[kF]at a b;have:=h i j (by lia) (by lia);simp[vv,nO,kG]at this;simp[show i<R.length by lia,show j<R.length by lia]at this ⊢;exact this
section
variable {kd:iM}{st:bJ}
def PK{d:List (List Nat)}{Q:Bool->bJ->Prop}(m:Cm prog w A s kd f n r)(W:Wt kd f (d.flatten++R) p st)(e:∀x∈d.flatten++R,x<n)(hr:PR r 0 p.toList d)(o:i+1<p.size)
  (h:∀v z st',v.flatten.Perm d.flatten->PR r 0 z.toList v->z.size+1=p.size->Wt kd f (v.flatten++R) z st'->Q bT st'):wpS (aE prog w) A E s (mergeAt' i) Q st:=by
 obtain⟨a,b,c,R2,g,t,rfl,j,k,u,y,C,F,H⟩:=hr.two (i:=i) (by simpa using o);rw[mF]at j k;have I:(a++b::c::R2).flatten++R=a.flatten++(b++(c++(R2.flatten++R))):=by simp
 rw[I]at W e;refine Z8 m W e j k (by lia) rfl rfl u y C F λM st' l sm J=>?_;have L:M.length=b.length+c.length:=by rw[l.length_eq,bX]
 have P:=H M L sm;refine h (a++M::R2) _ st' ?_ ?_ ?_ (by rw[show(a++M::R2).flatten++R=a.flatten++(M++(R2.flatten++R)) by simp];exact J);have:(a++M::R2).flatten=a.flatten++(M++R2.flatten):=by simp
 rw[this,show(a++b::c::R2).flatten=a.flatten++((b++c)++R2.flatten) by simp];exact(l.append_right _).append_left _;have:((p.setIfInBounds i (0+a.flatten.length,b.length+c.length,g)).eraseIdxIfInBounds (i+1)).toList=(p.toList.set i (0+a.flatten.length,b.length+c.length,g)).eraseIdx (i+1):=by simp
 rw[this];exact P;rw[Array.eraseIdxIfInBounds,dif_pos (by simp;lia)];simp;lia
def JE{Q:Unit->bJ->Prop}(hc:Cm prog w A s kd f n r)(W:Wt kd f p #[] st)(hp:∀x∈p,x<n)(h:∀p' st',p'.Perm p->p'.Pairwise (Le r)->arrOf st'=arr f p'->failedOf st'=aj->Q () st') :
  wpS (aE prog w) A E s sortRuns' Q st:=by
 have N:(arrOf st).size=p.length:=by rw[W.a,cM]
 refine aI (mG (aI (kH (j5 (I:=λx c st'=>∃(d:List (List Nat)) (R:List Nat) (g:Array (Nat×Nat×Nat)),c=(aj,d.flatten.length)/\Wt kd f (d.flatten++R) g st'/\(d.flatten++R).Perm p/\PR r 0 g.toList d/\x<=d.flatten.length)
  (Q:=λc st'=>∃(d:List (List Nat)) (g:Array (Nat×Nat×Nat)),c=(aj,d.flatten.length)/\Wt kd f d.flatten g st'/\d.flatten.Perm p/\PR r 0 g.toList d) ?step ?fin ⟨[],p,#[],rfl,W,.refl _,trivial,eS _⟩) ?post)))
 case fin=>rintro c st' ⟨d,R,g,rfl,H,P,r1,x1⟩;have l1:=P.length_eq;rw[bX]at l1;have:R=[]:=pK.mp (by rw[N]at x1;lia);subst this;rw[kC]at H P;exact⟨d,g,rfl,H,P,r1⟩
 case post=>
  rintro c kq ⟨d,g,rfl,H,P,r1⟩;refine aI (kH (j5 (I:=λx c st'=>∃(d:List (List Nat)) (g:Array (Nat×Nat×Nat)),c=(aj,())/\Wt kd f d.flatten g st'/\d.flatten.Perm p/\PR r 0 g.toList d/\g.size+x<=p.length+1)
   (Q:=λc st'=>∃(d:List (List Nat)) (g:Array (Nat×Nat×Nat)),c=(aj,())/\Wt kd f d.flatten g st'/\d.flatten.Perm p/\PR r 0 g.toList d/\g.size<=1) ?_ ?_ ⟨d,g,rfl,H,P,r1,?_⟩) ?_)
  rintro x c L _ u ⟨d,g,rfl,k,t,r2,x2⟩;have W2':Wt kd f (d.flatten++[]) g L:=by rw[kC];exact k
  have G8:∀x∈d.flatten++[],x<n:=λx u=>hp x (t.mem_iff.mp (by simpa using u));refine aI (mG (bD (λz=>aP ⟨d,g,rfl,k,t,r2,by rw[<- k.p];exact z⟩) λz=>aI (PK hc W2' G8 r2 ?_ λZe Zf I P5 r5 l5 W5=>bD (λz=>bi8 z (by simp)) λ_=>aP ⟨Ze,Zf,rfl,by rw[kC]at W5;exact W5,P5.trans t,r5,by lia⟩)));have z:¬ (pendingOf L).size<=1:=z;have e:(sortPriv% PySem.Builtin.SortState.pending) L=g:=k.p;rw[k.p]at z;rw[e];(repeat' split) <;> lia;rintro c L ⟨d,g,rfl,k,t,r2,x2⟩;exact⟨d,g,rfl,k,t,r2,by rw[N]at x2;lia⟩;have:=r1.len;have:=P.length_eq;have:g.size=d.length:=by rw[<- dN];exact r1.len.1
  lia;rintro c L ⟨d,g,rfl,k,t,r2,x2⟩;have T:=r2.len;rw[dN]at T;refine aP (h d.flatten L t ?_ k.a k.e);match d,T,r2 with
  |[],_,_=>exact .nil
  |[b],_,r2=>simpa using r2.one
  |_::_::_,T,_=>simp at T;lia
 case step=>
  rintro x c kq _ u ⟨d,R,g,rfl,H,P,r1,x1⟩;have l1:=P.length_eq;rw[bX]at l1;have U:∀x∈d.flatten++R,x<n:=λx u=>hp x (P.mem_iff.mp u);refine bD (λz=>aP ?_) λz=>aI (Zb hc H U (lo:=d.flatten.length) (nrem:=(arrOf st).size-d.flatten.length) (by rw[N,bX];lia) (by have z:¬ d.flatten.length ≥ (arrOf st).size:=z;lia) λm p2 L m1 m2 F2 u2 k=>?_);have z:d.flatten.length ≥ (arrOf st).size:=z;have:R=[]:=pK.mp (by rw[N]at z;lia);subst this;rw[kC]at H P;exact⟨d,g,rfl,H,P,r1⟩;obtain⟨R2,rfl,X⟩:=F2.tail;have T:=X.length_eq;rw[N]at m2;have G8:∀x∈d.flatten++R2,x<n:=F2.all U;have t:(d.flatten++R2).Perm p:=(X.append_left _).trans P;have J:∀{i:List Nat} {m:Nat} {v:List (List Nat)} {j:Array (Nat×Nat×Nat)} {I:bJ},1<=m/\m<=i.length->(i.take m).Pairwise (Le r)->(d.flatten++i).Perm p->v.flatten.Perm d.flatten->PR r 0 j.toList v->kindOf I=kd->arrOf I=arr f (v.flatten++i)->pendingOf I=j.push (d.flatten.length,m,0)->failedOf I=aj->
    ∃(Y:List (List Nat)) (R:List Nat) (g:Array (Nat×Nat×Nat)),((aj,d.flatten.length+m):Option Unit×Nat)=(aj,Y.flatten.length)/\Wt kd f (Y.flatten++R) g I/\(Y.flatten++R).Perm p/\PR r 0 g.toList Y/\x+1<=Y.flatten.length:=λ{i m v j I} hm Z O C M w1 w2 w3 w4=>by
   have lf:v.flatten.length=d.flatten.length:=C.length_eq
   have e:(v++[i.take m]).flatten=v.flatten++i.take m:=by simp
   have lt:(i.take m).length=m:=by rw[kF];lia
   have e2:(v++[i.take m]).flatten++i.drop m=v.flatten++i:=by rw[e,fQ,nN]
   refine⟨v++[i.take m],i.drop m,j.push (d.flatten.length,m,0),?_,⟨w1,by rw[e2];exact w2,w3,w4⟩,by rw[e2];exact(C.append_right _).trans O,?_,?_⟩
   ·rw[e,bX,lf,lt]
   ·rw[H8]
    exact M.snoc (by rw[lt]) (by lia) Z (by show d.flatten.length=0+_;lia)
   ·rw[e,bX,lf,lt];lia
  refine bD (λzm=>aI (qA (aI (Zc hc k G8 (lo:=d.flatten.length) (m:=min ((arrOf st).size-d.flatten.length) (minRun' (arrOf st).size (arrOf st).size 0)) (by rw[N,bX];lia) m1 (by have zm:m<minRun' (arrOf st).size (arrOf st).size 0:=zm;lia) u2 λp3 w9 F3 u3 S=>bD (λz=>bi8 z (by simp)) λ_=>?_)))) λ_=>?_;obtain⟨i,rfl,pm3⟩:=F3.tail;have l3:=pm3.length_eq;have O:(d.flatten++i).Perm p:=(pm3.append_left _).trans t;have l:1<=min ((arrOf st).size-d.flatten.length) (minRun' (arrOf st).size (arrOf st).size 0)/\min ((arrOf st).size-d.flatten.length) (minRun' (arrOf st).size (arrOf st).size 0)<=i.length:=by have zm:m<minRun' (arrOf st).size (arrOf st).size 0:=zm;lia
  have Z:=JD u3 l.2;rotate_left;have S:=k;have O:=t;have l:1<=m/\m<=R2.length:=by lia
  have Z:=JD u2 l.2;generalize hR:R2=i at *;all_goals
   have hp3:∀x∈d.flatten++i,x<n:=λx u=>hp x (O.mem_iff.mp u)
   refine aI (mG ?_)
   dsimp only
   split
   ·refine aI (kH (j5 (I:=λy c st'=>∃(v:List (List Nat)) (j:Array (Nat×Nat×Nat)),c=(aj,())/\Wt kd f (v.flatten++i) j st'/\v.flatten.Perm d.flatten/\PR r 0 j.toList v)
     (Q:=λc st'=>∃(v:List (List Nat)) (j:Array (Nat×Nat×Nat)),c=(aj,())/\Wt kd f (v.flatten++i) j st'/\v.flatten.Perm d.flatten/\PR r 0 j.toList v) ?_ (λ_ _ z=>z) ⟨d,g,rfl,S,.refl _,r1⟩) ?_)
    ·rintro y c Tj _ _ ⟨v,j,rfl,F,C,M⟩
     refine aI (mG ?_)
     split
     ·rename_i a b o hq
      refine bD (λ_=>aP ⟨v,j,rfl,F,C,M⟩) λ_=>aI (PK hc F (λx u=>hp3 x (((C.append_right _).mem_iff).mp u)) M ?_ λZe Zf I P5 r5 _ W5=>bD (λz=>bi8 z (by simp)) λ_=>aP ⟨Ze,Zf,rfl,W5,P5.trans C,r5⟩)
      have e:(sortPriv% PySem.Builtin.SortState.pending) Tj=j:=F.p
      rw[e]at hq ⊢
      split at hq
      ·lia
      ·cases hq
     ·exact aP ⟨v,j,rfl,F,C,M⟩
    ·rintro c Tj ⟨v,j,rfl,F,C,M⟩
     obtain rfl:=F.p
     exact aI (rE (aI (rE (aP (J l Z O C (M.pw (PJ _ _ _)) F.k F.a rfl F.e)))))
   ·obtain rfl:=S.p
    exact aI (rE (aP (J l Z O (.refl _) r1 S.k S.a rfl S.e)))
end
end
end Sg
namespace So
open PySem PySem.W PyProof.Rows
def Keeps(a:av)(h h':aW):Prop:=∀b o,b≠a->h.get? b=ai o->h'.get? b=ai o
section
variable {prog:dz}{w:bL}{A:cy}{E:au->ay->Prop}{s:ay}{a:av}{vs:List au}{kd:iM}{r:Nat->Nat}
def map_range(ds:List α)(z:α):(cY ds.length).map (λi=>ds.getD i z)=ds:=by
 refine ND (by simp) λi h b=>?_;simp at h;simp[h]
def zN{P:PySem.Fin->ay->Prop}(m:s.heap.get? a=ai (cG "list" vs.toArray n))(hz:vs.length<=cH)
  (J:2<=vs.length->∀h' Q,Keeps a s.heap h'->Q kd {s with heap:=h'}->aC (aE prog w) A (keyKind' vs.toArray) Q E {s with heap:=h'})
  (L:2<=vs.length->∀h' i j C,Keeps a s.heap h'->i<vs.length->j<vs.length->C (decide (r i<r j)) {s with heap:=h'}->aC (aE prog w) A (keyLt' kd (vs.getD i eL) (vs.getD j eL)) C (λ_ _=>False) {s with heap:=h'})
  (h:∀h' M (p:List Nat),Keeps a s.heap h'->p.Perm (cY vs.length)->p.Pairwise (λi j=>r i<=r j)->h'.get? a=ai (cG "list" (p.map λi=>vs.getD i eL).toArray M)->P (.done (.ret .none)) {s with heap:=h'}) :
  aC (aE prog w) A (Builtin.«list.sort» ⟨[.ref a],[]⟩) P E s:=by
 have N:=fB s.heap a (dg λ_=>(#[]:Array au));obtain⟨t,X⟩:∃t,(s.heap.update a (dg λ_=>(#[]:Array au))).get? a=ai (cG "list" #[] t):=⟨_,xy m λ_=>#[]⟩
 rw[list_sort_plain];refine ak (Hg m rfl (ak (rF m rfl (ak (xA X rfl (ak (Gh (ak (wU (jb ?_) (eS _))) (by show vs.length<=_;lia))))) (by rw[dP];lia) (eS _))));generalize z:((s.heap.update a (dg λ_=>(#[]:Array au))).push (cG "tuple" vs.toArray 0)).push (cG "list" #[] 0)=g;have u:Keeps a s.heap g:=λb o hb e=>by rw[<- z];exact bP _ (bP _ (by rw[N.2 b hb];exact e))
 have k:g.get? a=ai (cG "list" #[] t):=by rw[<- z];exact bP _ (bP _ X)
 show aC (aE prog w) A _ P E {s with heap:=g};dsimp only;have fin:∀(p:List Nat),p.Perm (cY vs.length)->p.Pairwise (λi j=>r i<=r j)->P (.done (.ret .none)) {s with heap:=g.update a (dg λ_=>(p.map λi=>vs.getD i eL).toArray)}:=λp O d=>by have S:=fB g a (dg λ_=>(p.map λi=>vs.getD i eL).toArray);exact h _ _ p (λb o hb e=>by rw[S.2 b hb];exact u b o hb e) O d (xy k λ_=>_)
 have l:∀(p:List Nat),p.Perm (cY vs.length)->(p.map λi=>vs.getD i eL).toArray.size<=cH+1:=λp T=>by rw[dP,bw,T.length_eq,xm];lia
 by_cases d:vs.toArray.size<2;rw[bh6 d,bh6 d];refine ak (aB ?_);rw[Ou];refine ak (aB ?_);dsimp only;have f:(arrOf (SortSt.mk' general' (vs.toArray.zip vs.toArray) #[] 7 aj)).map (·.2)=((cY vs.length).map λi=>vs.getD i eL).toArray:=by rw[map_range];apply BA.mp;rw[Array.toList_map,O9];exact List.map_snd_zip (b9 _)
 rw[f];refine ak (xA k rfl (ak (rF k rfl ?_ (eS _) (l _ (.refl _)))));simp only[bi9,d9,bi4];refine aB (fin _ (.refl _) ?_);rw[dP]at d;refine rA.mpr λi j F v lU=>?_;rw[xm]at v;lia;rw[bh7 d,bh7 d];rw[dP]at d;have H:2<=vs.length:=by lia
 refine ak (J H g _ u ?_);have W:Sg.Wt kd (kas_item (pairsOf vs)) (cY vs.length) #[] (SortSt.mk' kd (vs.toArray.zip vs.toArray) #[] 7 aj):=⟨rfl,by
  have e:=kas_range (pairsOf vs);rw[pairsOf_size]at e;rw[Sg.sU,e];rfl,rfl,rfl⟩
 have run:=Sg.JE (prog:=prog) (w:=w) (A:=A) (E:=E) (s:={s with heap:=g}) (n:=vs.length) (r:=r) (Q:=λ_ c=>failedOf c=aj/\∃p:List Nat,arrOf c=Sg.arr (kas_item (pairsOf vs)) p/\p.Perm (cY vs.length)/\p.Pairwise (λi j=>r i<=r j))
  (λi j C F v U=>by rw[Gw,Gw];exact L H g i j C u F v U) W (λx Y=>kO.mp Y) λZ c q1 q2 q3 q4=>⟨q4,Z,q3,q1,q2⟩
 refine ak (iw run ?_ λ_ _ e=>e);rintro⟨⟨⟩,c⟩ s' ⟨rfl,hf,p,y,I,p3⟩;dsimp only;have f:(arrOf c).map (·.2)=(p.map λi=>vs.getD i eL).toArray:=by rw[y,Sg.arr,GO,dY];congr 1;refine uo λi _=>?_;show(kas_item (pairsOf vs) i).2=_;rw[Gw]
 rw[f];refine ak (xA k rfl (ak (rF k rfl ?_ (eS _) (l _ I))));rw[hf];simp only[bi9,d9,bi4];exact aB (fin p I p3)
end
end So
namespace Dm
open PySem PyProof.Rows L2 HT
mutual
noncomputable def fl:D->List Int
 |.int i=>[i]
 |.tup d=>kr d
 |.lst d=>kr d
 |_=>[]
noncomputable def kr:List D->List Int
 |[]=>[]
 |d::a=>fl d++kr a
end
mutual
noncomputable def iu:D->D->Bool
 |.int _,.int _=>bT
 |.tup x,.tup y=>gk x y
 |.lst x,.lst y=>gk x y
 |_,_=>b4
noncomputable def gk:List D->List D->Bool
 |[],[]=>bT
 |x::a,y::b=>iu x y&&gk a b
 |_,_=>b4
end
mutual
theorem wj:∀(x y:D),iu x y=bT->(fl x).length=(fl y).length
 |.int _,.int _,_=>rfl
 |.tup a,.tup b,h=>by rw[fl,fl];exact yf a b (by rw[iu]at h;exact h)
 |.lst a,.lst b,h=>by rw[fl,fl];exact yf a b (by rw[iu]at h;exact h)
 |.cR,y,h=>by cases y <;> simp[iu]at h
 |.bl _,y,h=>by cases y <;> simp[iu]at h
 |.str _,y,h=>by cases y <;> simp[iu]at h
 |.bN _ _,y,h=>by cases y <;> simp[iu]at h
 |.int _,.cR,h=>by simp[iu]at h
 |.int _,.bl _,h=>by simp[iu]at h
 |.int _,.str _,h=>by simp[iu]at h
 |.int _,.tup _,h=>by simp[iu]at h
 |.int _,.lst _,h=>by simp[iu]at h
 |.int _,.bN _ _,h=>by simp[iu]at h
 |.tup _,.cR,h=>by simp[iu]at h
 |.tup _,.bl _,h=>by simp[iu]at h
 |.tup _,.str _,h=>by simp[iu]at h
 |.tup _,.int _,h=>by simp[iu]at h
 |.tup _,.lst _,h=>by simp[iu]at h
 |.tup _,.bN _ _,h=>by simp[iu]at h
 |.lst _,.cR,h=>by simp[iu]at h
 |.lst _,.bl _,h=>by simp[iu]at h
 |.lst _,.str _,h=>by simp[iu]at h
 |.lst _,.int _,h=>by simp[iu]at h
 |.lst _,.tup _,h=>by simp[iu]at h
 |.lst _,.bN _ _,h=>by simp[iu]at h
theorem yf:∀(xs ys:List D),gk xs ys=bT->(kr xs).length=(kr ys).length
 |[],[],_=>rfl
 |[],_::_,h=>by simp[gk]at h
 |_::_,[],h=>by simp[gk]at h
 |x::xs,y::ys,h=>by
  rw[gk,bI]at h;rw[kr,kr,bX,bX,wj x y h.1,yf xs ys h.2]
end
def gm(h:iu x y=bT):(∃i j,x=.int i/\y=.int j)\/(∃xs ys,x=.tup xs/\y=.tup ys/\gk xs ys=bT)\/(∃xs ys,x=.lst xs/\y=.lst ys/\gk xs ys=bT):=by
 cases x <;> cases y <;> simp[iu]at h;exact .inl ⟨_,_,rfl,rfl⟩;exact .inr (.inl ⟨_,_,rfl,rfl,h⟩);exact .inr (.inr ⟨_,_,rfl,rfl,h⟩)
mutual
theorem Cc:∀(x y:D),iu x y=bT->fl x=fl y->x=y
 |.int i,y,h,e=>by
  rcases gm h with⟨f,j,a,rfl⟩|⟨_,_,a,_⟩|⟨_,_,a,_⟩;rw[fl,fl]at e;injection e with e;rw[e];cases a;cases a
 |.tup b,y,h,e=>by
  rcases gm h with⟨_,_,a,_⟩|⟨c,d,a,rfl,q⟩|⟨_,_,a,_⟩;cases a;obtain rfl:b=c:=by injection a
  rw[fl,fl]at e;rw[sV b d q e];cases a
 |.lst b,y,h,e=>by
  rcases gm h with⟨_,_,a,_⟩|⟨_,_,a,_⟩|⟨c,d,a,rfl,q⟩;cases a;cases a;obtain rfl:b=c:=by injection a
  rw[fl,fl]at e;rw[sV b d q e]
 |.cR,y,h,_=>by cases y <;> simp[iu]at h
 |.bl _,y,h,_=>by cases y <;> simp[iu]at h
 |.str _,y,h,_=>by cases y <;> simp[iu]at h
 |.bN _ _,y,h,_=>by cases y <;> simp[iu]at h
theorem sV:∀(xs ys:List D),gk xs ys=bT->kr xs=kr ys->xs=ys
 |[],[],_,_=>rfl
 |[],_::_,h,_=>by simp[gk]at h
 |_::_,[],h,_=>by simp[gk]at h
 |x::xs,y::ys,h,e=>by
  rw[gk,bI]at h;rw[kr,kr]at e;obtain⟨a,b⟩:=NF e (wj x y h.1);rw[Cc x y h.1 a,sV xs ys h.2 b]
end
mutual
theorem yg:∀(x y:D),iu x y=bT->flat x=bT/\flat y=bT
 |.int i,y,h=>by
  rcases gm h with⟨_,j,_,rfl⟩|⟨_,_,e,_⟩|⟨_,_,e,_⟩;exact⟨by rw[flat] <;> simp,by rw[flat] <;> simp⟩;cases e;cases e
 |.tup a,y,h=>by
  rcases gm h with⟨_,_,e,_⟩|⟨b,c,e,rfl,q⟩|⟨_,_,e,_⟩;cases e;obtain rfl:a=b:=by injection e
  rw[flat,flat];exact uG a c q;cases e
 |.lst a,y,h=>by
  rcases gm h with⟨_,_,e,_⟩|⟨_,_,e,_⟩|⟨b,c,e,rfl,q⟩;cases e;cases e;obtain rfl:a=b:=by injection e
  rw[flat,flat];exact uG a c q
 |.cR,y,h=>by cases y <;> simp[iu]at h
 |.bl _,y,h=>by cases y <;> simp[iu]at h
 |.str _,y,h=>by cases y <;> simp[iu]at h
 |.bN _ _,y,h=>by cases y <;> simp[iu]at h
theorem uG:∀(xs ys:List D),gk xs ys=bT->cC xs=bT/\cC ys=bT
 |[],[],_=>⟨by rw[cC],by rw[cC]⟩
 |[],_::_,h=>by simp[gk]at h
 |_::_,[],h=>by simp[gk]at h
 |x::xs,y::ys,h=>by
  rw[gk,bI]at h;obtain⟨a,b⟩:=yg x y h.1;obtain⟨c,d⟩:=uG xs ys h.2;rw[cC,cC,a,b,c,d];exact⟨rfl,rfl⟩
end
mutual
theorem PM:∀(x y:D),iu x y=bT->iJ x y=decide (fl x=fl y)
 |.int i,y,h=>by
  rcases gm h with⟨_,j,_,rfl⟩|⟨_,_,e,_⟩|⟨_,_,e,_⟩;rw[iJ,fl,fl];by_cases c:i=j;subst c;simp;simp[c];cases e;cases e
 |.tup a,y,h=>by
  rcases gm h with⟨_,_,e,_⟩|⟨b,d,e,rfl,q⟩|⟨_,_,e,_⟩;cases e;obtain rfl:a=b:=by injection e
  rw[iJ,fl,fl];exact wm a d q;cases e
 |.lst a,y,h=>by
  rcases gm h with⟨_,_,e,_⟩|⟨_,_,e,_⟩|⟨b,d,e,rfl,q⟩;cases e;cases e;obtain rfl:a=b:=by injection e
  rw[iJ,fl,fl];exact wm a d q
 |.cR,y,h=>by cases y <;> simp[iu]at h
 |.bl _,y,h=>by cases y <;> simp[iu]at h
 |.str _,y,h=>by cases y <;> simp[iu]at h
 |.bN _ _,y,h=>by cases y <;> simp[iu]at h
theorem wm:∀(xs ys:List D),gk xs ys=bT->eT xs ys=decide (kr xs=kr ys)
 |[],[],_=>by rw[eT];simp[kr]
 |[],_::_,h=>by simp[gk]at h
 |_::_,[],h=>by simp[gk]at h
 |x::xs,y::ys,h=>by
  rw[gk,bI]at h;rw[eT,PM x y h.1,wm xs ys h.2,kr,kr];have l:=wj x y h.1;by_cases c:fl x=fl y;rw[c];by_cases a:kr xs=kr ys;rw[a];simp;simp[a];have:¬ (fl x++kr xs=fl y++kr ys):=λz=>c (NF z l).1;simp[c,this]
end
theorem wo:∀{a c b d:List Int},a.length=c.length->lexLt (a++b) (c++d)=if a=c then lexLt b d else lexLt a c
 |[],[],b,d,_=>by simp
 |x::a,y::c,b,d,h=>by
  rw[Bt,Bt,dU,dU,wo (a:=a) (c:=c) (by simpa using h)];by_cases e:x=y;subst e;by_cases f:a=c;subst f;simp;simp[f];simp[e]
theorem sW:∀a:List Int,lexLt a a=b4
 |[]=>rfl
 |x::a=>by rw[dU,bh6 rfl];exact sW a
theorem Ce:∀a b:List Int,lexLt a b=b4->lexLt b a=b4->a=b
 |[],[],_,_=>rfl
 |[],_::_,h,_=>by rw[pW]at h;cases h
 |_::_,[],_,h=>by rw[pW]at h;cases h
 |x::a,y::b,c,d=>by
  rw[dU]at c d;by_cases e:x=y;subst e;rw[bh6 rfl]at c d;rw[Ce a b c d];rw[bh7 e]at c;rw[bh7 (λz=>e z.symm)]at d;have:=bj0 c;have:=bj0 d;lia
theorem lex_trans:∀a b c:List Int,lexLt a b=bT->lexLt b c=bT->lexLt a c=bT
 |[],[],_,h,_=>by rw[iR]at h;cases h
 |[],_::_,[],_,h=>by rw[l9]at h;cases h
 |[],_::_,_::_,_,_=>rfl
 |_::_,[],_,h,_=>by rw[l9]at h;cases h
 |_::_,_::_,[],_,h=>by rw[l9]at h;cases h
 |x::a,y::b,z::c,e,d=>by
  rw[dU]at e d ⊢;by_cases g:x=y;subst g;rw[bh6 rfl]at e;by_cases f:x=z;subst f;rw[bh6 rfl]at d ⊢;exact lex_trans a b c e d;rw[bh7 f]at d ⊢;exact d;rw[bh7 g]at e;have k:=bi2 e;by_cases f:y=z;subst f;rw[bh7 g];exact e;rw[bh7 f]at d;have i:=bi2 d;rw[bh7 (by lia)];exact bh8 (by lia)
def PN(a b:List Int)(h:lexLt a b=bT):lexLt b a=b4:=by
 cases q:lexLt b a with
 |false=>rfl
 |true=>have:=lex_trans a b a h q;rw[sW]at this;cases this
noncomputable def rP(a b:List Int):Bool:=!lexLt b a
def Lb(a b:List Int):(rP a b || rP b a)=bT:=by
 unfold rP;cases q:lexLt b a with
 |false=>rfl
 |true=>rw[PN b a q];rfl
def AE(a b c:List Int)(h1:rP a b=bT)(h:rP b c=bT):rP a c=bT:=by
 unfold rP at h1 h ⊢;have h1:lexLt b a=b4:=by simpa using h1
 have h:lexLt c b=b4:=by simpa using h
 cases q:lexLt c a with
 |false=>rfl
 |true=>
  by_cases e:a=b;subst e;rw[h]at q;cases q;have:lexLt a b=bT:=by
   cases z:lexLt a b with
   |true=>rfl
   |false=>exact bi8 (Ce a b z h1) e
  have:=lex_trans c a b q this;rw[h]at this;cases this
def yh(a b:List Int)(h1:rP a b=bT)(h:rP b a=bT):a=b:=Ce a b (by simpa[rP]using h) (by simpa[rP]using h1)
noncomputable def fV(ds:List D):List D:=ds.mergeSort λa b=>rP (fl a) (fl b)
def cX(ds:List D):(fV ds).Perm ds:=List.mergeSort_perm _ _
def n6(ds:List D):(fV ds).Pairwise λa b=>rP (fl a) (fl b)=bT:=
 List.pairwise_mergeSort (le:=λa b=>rP (fl a) (fl b)) (λa b c=>AE (fl a) (fl b) (fl c)) (λa b=>Lb (fl a) (fl b)) ds
def jx{es:List D}(hs:∀a∈ds,∀b∈ds,iu a b=bT)(h:es.Perm ds)(c:es.Pairwise λa b=>rP (fl a) (fl b)=bT):es=fV ds:=by
 refine BG (le:=λa b=>rP (fl a) (fl b)=bT) (λa b d hb e f=>?_) c (n6 ds) (h.trans (cX ds).symm);exact Cc a b (hs a (h.mem_iff.mp d) b ((cX ds).mem_iff.mp hb)) (yh _ _ e f)
end Dm
namespace Dm
open PySem PyProof.Rows L2 HT PySem.SeqAt
def Zg(A:cy)(s:ay)(u v:au)(b:Bool):Prop:=
 ∀(p:dz) (w:bL) (E:au->ay->Prop) (Q:au->ay->Prop),Q (.bool b) s->aC (aE p w) A (richCompare .Lt u v) Q E s
inductive PL(A:cy)(s:ay):List au->List au->List D->List D->Prop
 |nil:PL A s [] [] [] []
 |cons {v w:au} {x y:D} {vs ws:List au} {xs ys:List D}:EqAt A s v w (decide (fl x=fl y))->Zg A s v w (lexLt (fl x) (fl y))->(fl x).length=(fl y).length->PL A s vs ws xs ys->PL A s (v::vs) (w::ws) (x::xs) (y::ys)
def PL.len(h:PL A s vs ws xs ys):vs.length=ws.length:=by
 induction h with
 |nil=>rfl
 |cons _ _ _ _ i=>rw[cS,cS,i]
section
open PySem.AutoSeq1 (wpAny_loadPart')
open PySem.MeetsSeq PySem.MeetsSeq2 PySem.MeetsSeq3
def Ij(l b:av)(items C:Array au)(n L:Nat)(dd j:Option av)(M k:Array (Option au))(xs ys:List D) :
  Meets (Builtin.«tuple.__lt__» ⟨[.ref l,.ref b],[]⟩) (λA R s=>
   s.heap.get? l=ai {cls:=.type "tuple",dict:=dd,data:=.seq items n,slots:=M}/\
   s.heap.get? b=ai {cls:=.type "tuple",dict:=j,data:=.seq C L,slots:=k}/\
   PL A.in1 s items.toList C.toList xs ys/\R (.ok (.ret (.bool (lexLt (kr xs) (kr ys))))) s):=
 .of_wp λp w A R s h=>by
  obtain⟨m,g,d,tk,o⟩:=s;obtain⟨hl,hb,I,h⟩:=h;have f2:=AutoSeq1.sub_tuple_tuple;have N:items.size=C.size:=by simpa using I.len
  wp_walk using ku hl,ku hb,mw _ (λr b t=>b.1=aj/\t=⟨m,g,d,tk,o⟩/\∃(v ws:List au) (i J:List D),r=v.zip ws/\
   PL A.in1 ⟨m,g,d,tk,o⟩ v ws i J/\R (.ok (.ret (.bool (lexLt (kr i) (kr J))))) ⟨m,g,d,tk,o⟩) _
  case turn=>
   rintro⟨y,x⟩ r b t ⟨u,rfl,v,ws,i,J,f,a,e⟩;cases a with
   |nil=>cases f
   |@cons Y Z O P _ _ _ _ Q S z E=>
    rw[NG]at f;injection f with F T;injection F with U X;subst U X;rw[kr,kr,wo z]at e;refine ak (Q p w _ _ ?_);by_cases c:fl O=fl P;rw[bh6 c]at e;rw[bh8 c]
    wp_walk
    exact⟨rfl,rfl,_,_,_,_,T,E,e⟩;rw[bh7 c]at e;rw[bh9 c];have H:=S p w
    wp_walk using H
    exact⟨_,rfl,by simpa using e⟩
  case fin=>
   rintro⟨b1,b2⟩ t ⟨u,rfl,v,ws,i,J,f,a,e⟩;simp only at u;subst u;cases a with
   |cons _ _ _ _=>cases f
   |nil=>
    wp_walk
    refine⟨_,rfl,?_⟩;simpa[Builtin.Tuple.tupleCompareSizes,N,kr,iR]using e
  case h=>exact⟨rfl,rfl,items.toList,C.toList,xs,ys,rfl,I,h⟩
end
mutual
noncomputable def nl:D->Bool
 |.lst _=>b4
 |.tup d=>Ik d
 |_=>bT
noncomputable def Ik:List D->Bool
 |[]=>bT
 |d::a=>nl d&&Ik a
end
mutual
theorem Zh:∀(x y:D) {A:cy} {u v:au},iu x y=bT->nl x=bT->fL s.heap x u->fL s.heap y v->A.units+dep x<cLine->Zg A s u v (lexLt (fl x) (fl y))
 |.int i,y,A,u,v,h,_,f,g,_=>by
  rcases gm h with⟨_,j,_,rfl⟩|⟨_,_,e,_⟩|⟨_,_,e,_⟩;rw[fL]at f;rw[fL]at g;obtain⟨t,rfl⟩:=f;obtain⟨L,rfl⟩:=g;intro p w E Q d;refine Pe A s i t j L p w E Q ?_;rw[fl,fl,dU,iR]at d;by_cases c:i=j;rw[bh6 c]at d;rw[bh9 (by lia)];exact d;rw[bh7 c]at d;exact d;cases e;cases e
 |.tup k,y,A,u,v,h,l,f,g,hr=>by
  rcases gm h with⟨_,_,e,_⟩|⟨N,o,e,rfl,q⟩|⟨_,_,e,_⟩;cases e;obtain rfl:k=N:=by injection e
  rw[fL]at f;rw[fL]at g;refine bC f λa O r P S=>?_;clear f;obtain rfl:=r;refine bC g λb T r U Y=>?_;clear g;obtain rfl:=r;rw[dep]at hr;rw[nl]at l;obtain⟨⟨Z,dd,H,sl⟩,I,J,n,hd⟩:=id P;obtain⟨⟨ay7,z,C,F⟩,X,M,n2,m⟩:=id U;simp only at J hd M m;subst J hd M m;intro p w E Q d;rw[fl,fl]at d;exact MY (op:=.Lt) ⟨_,I,rfl⟩ ⟨_,X,rfl⟩ PySem.F.slot_tuple_lt PySem.F.entry_tuple_lt (PySem.F.args_tuple_lt_2 _ _) (Ij a b O T n n2 dd z sl F k o)
   ⟨I,X,Uq k o q l S Y (A:=A.in1) (by show A.units+1+_<_;lia),show Value.bool (lexLt (kr k) (kr o))≠Value.notImplemented/\Q _ s from⟨(λx=>nomatch x),d⟩⟩ (by lia)
  cases e
 |.lst k,y,A,u,v,h,l,_,_,_=>by rw[nl]at l;cases l
 |.cR,y,_,_,_,h,_,_,_,_=>by cases y <;> simp[iu]at h
 |.bl _,y,_,_,_,h,_,_,_,_=>by cases y <;> simp[iu]at h
 |.str _,y,_,_,_,h,_,_,_,_=>by cases y <;> simp[iu]at h
 |.bN _ _,y,_,_,_,h,_,_,_,_=>by cases y <;> simp[iu]at h
theorem Uq:∀(xs ys:List D) {A:cy} {vs ws:List au},gk xs ys=bT->Ik xs=bT->bH s.heap xs vs->bH s.heap ys ws->A.units+jU xs<cLine->PL A s vs ws xs ys
 |[],[],A,vs,ws,_,_,a,b,_=>by rw[bH]at a b;subst a;subst b;exact .nil
 |[],_::_,_,_,_,h,_,_,_,_=>by simp[gk]at h
 |_::_,[],_,_,_,h,_,_,_,_=>by simp[gk]at h
 |x::xs,y::ys,A,vs,ws,h,c,a,b,hr=>by
  rw[bH]at a;rw[bH]at b;refine bC a λv r d e g=>?_;clear a;obtain rfl:=d;refine bC b λj k d f i=>?_;clear b;obtain rfl:=d;rw[gk,bI]at h;rw[Ik,bI]at c;rw[jU]at hr;obtain⟨f1,f2⟩:=yg x y h.1;refine .cons ?_ (Zh x y h.1 c.1 e f (by lia)) (wj x y h.1) (Uq xs ys h.2 c.2 g i (by lia));rw[<- PM x y h.1];exact pY x y f1 f2 e f (by lia)
end
end Dm
namespace Dm
open PySem PySem.W PyProof.Rows L2 HT PySem.SeqAt So
mutual
theorem fL.keep{h h':aW}(k:∀b o,h.get? b=ai o->h'.get? b=ai o):∀(d:D) {v:au},fL h d v->fL h' d v
 |.cR,v,q=>by rw[fL]at q ⊢;exact q
 |.bl b,v,q=>by rw[fL]at q ⊢;exact q
 |.int i,v,q=>by rw[fL]at q ⊢;exact q
 |.str x,v,q=>by rw[fL]at q ⊢;exact q
 |.tup c,v,q=>by
  rw[fL]at q ⊢;refine bC q λa f e t p=>?_;clear q;exact⟨a,f,e,t.keeps k,bH.keep k c p⟩
 |.lst c,v,q=>by
  rw[fL]at q ⊢;refine bC q λa f e t p=>?_;clear q;exact⟨a,f,e,t.keeps k,bH.keep k c p⟩
 |.bN g c,v,q=>by rw[fL]at q;exact q.elim
theorem bH.keep{h h':aW}(k:∀b o,h.get? b=ai o->h'.get? b=ai o):∀(ds:List D) {vs:List au},bH h ds vs->bH h' ds vs
 |[],_,q=>by rw[bH]at q ⊢;exact q
 |d::ds,_,q=>by
  rw[bH]at q ⊢;refine bC q λv r e a b=>?_;clear q;exact⟨v,r,e,fL.keep k d a,bH.keep k ds b⟩
end
theorem bH.of_map(f:α->D)(g:α->au):∀(l:List α),(∀x∈l,fL h (f x) (g x))->bH h (l.map f) (l.map g)
 |[],_=>by rw[nM,bH];rfl
 |x::l,a=>by
  rw[bz,bz,bH];exact⟨_,_,rfl,a x (.head _),bH.of_map f g l λy b=>a y (.tail _ b)⟩
theorem Il{p q:α->Bool}:∀(l:List α),(∀x∈l,p x=bT->q x=bT)->l.countP p<=l.countP q
 |[],_=>b9 _
 |x::l,h=>by
  rw[xo,xo];have i:=Il l λy a=>h y (.tail _ a);by_cases c:p x=bT;rw[bh6 c,bh6 (h x (.head _) c)];lia;rw[bh7 c];lia
theorem PV{p q:α->Bool}:∀(l:List α),(∀x∈l,p x=bT->q x=bT)->∀z∈l,q z=bT->p z=b4->l.countP p<l.countP q
 |x::l,h,z,f,b,d=>by
  rw[xo,xo];rcases cK.mp f with e|e;subst e;rw[bh7 (by rw[d];exact jd),bh6 b];have:=Il l λy a=>h y (.tail _ a);lia;have i:=PV l (λy a=>h y (.tail _ a)) z e b d;by_cases c:p x=bT;rw[bh6 c,bh6 (h x (.head _) c)];lia;rw[bh7 c];lia
noncomputable def rk(ds:List D)(i:Nat):Nat:=(cY ds.length).countP λj=>lexLt (fl (ds.getD j .cR)) (fl (ds.getD i .cR))
def JG(ds:List D)(h:i<ds.length):lexLt (fl (ds.getD i .cR)) (fl (ds.getD j .cR))=decide (rk ds i<rk ds j):=by
 cases q:lexLt (fl (ds.getD i .cR)) (fl (ds.getD j .cR))with
 |true=>refine(bh8 ?_).symm;exact PV _ (λk _ hk=>lex_trans _ _ _ hk q) i (kO.mpr h) q (sW _)
 |false=>
  refine(bh9 (GB.mpr ?_)).symm;refine Il _ λk _ hk=>?_;cases z:lexLt (fl (ds.getD k .cR)) (fl (ds.getD i .cR))with
  |true=>rfl
  |false=>
   have a:rP (fl (ds.getD i .cR)) (fl (ds.getD k .cR))=bT:=by unfold rP;rw[z];rfl
   have b:rP (fl (ds.getD j .cR)) (fl (ds.getD i .cR))=bT:=by unfold rP;rw[q];rfl
   have c:=AE _ _ _ b a;unfold rP at c;rw[hk]at c;cases c
inductive Sk:List D->iM->Prop
 |lW {ds:List D} {kd:iM}:ds.length<2->Sk ds kd
 |nums {ds:List D}:(∀d∈ds,∃i,d=.int i)->Sk ds oneType'
 |pT {ds:List D}:(∀d∈ds,∃i xs,d=.tup (.int i::xs))->Sk ds (tuples' bT)
 |Zi {ds:List D}:(∀d∈ds,∃ys xs,d=.tup (.tup ys::xs))->Sk ds (tuples' b4)
def Ci(i j:Int):lexLt [i] [j]=decide (i<j):=by
 rw[dU,iR];by_cases c:i=j;rw[bh6 c,bh9 (by lia)];rw[bh7 c]
theorem Eh{Q:Bool->ay->Prop}:∀(xs ys:List D) (vs ws:List au) (i:Nat),(b=bT->i=0->∃m n F J,xs=.int m::F/\ys=.int n::J)->gk xs ys=bT->PL A s vs ws xs ys->bH s.heap xs vs->bH s.heap ys ws->fin=b4->Q (lexLt (kr xs) (kr ys)) s->
  KatLex prog w A b fin Q (vs.zip ws) i s
 |[],[],vs,ws,i,_,_,p,d,e,j,a=>by
  rw[bH]at d e;subst d;subst e;show Q fin s;rw[j];exact a
 |[],_::_,_,_,_,_,h,_,_,_,_,_=>by simp[gk]at h
 |_::_,[],_,_,_,_,h,_,_,_,_,_=>by simp[gk]at h
 |x::xs,y::ys,vs,ws,i,hb,h,p,d,e,j,a=>by
  rw[bH]at d;rw[bH]at e;refine bC d λv r k u H=>?_;clear d;obtain rfl:=k;refine bC e λP I k C L=>?_;clear e;obtain rfl:=k;rw[gk,bI]at h;cases p with
  |cons M hl l o=>
   rw[kr,kr,wo l]at a;refine kat_cons (M prog w _ _ (kat_go (λc=>kat_yes ?_) (λc=>kat_no ?_)));have c:=bi2 c;rw[bh6 c]at a;exact Eh xs ys r I (i+1) (λ_ z=>bi8 z (Nat.succ_ne_zero _)) h.2 o H L j a;have c:=bj0 c;rw[bh7 c]at a;by_cases E:b=bT/\i=0;obtain⟨f,g⟩:=E;refine aN8 (hb f g) λm n _ _ N O=>?_;obtain⟨rfl,_⟩:x=.int m/\_:=Ov N;obtain⟨rfl,_⟩:y=.int n/\_:=Ov O;rw[fL]at u;rw[fL]at C;obtain⟨t,rfl⟩:=u;obtain⟨S,rfl⟩:=C;rw[f,g];refine oneLt_int ?_;rw[fl,fl,Ci]at a;exact a;have:(b&&i==0)=b4:=by
    cases b with
    |false=>rfl
    |true=>have:i≠0:=λz=>E ⟨rfl,z⟩;simp[this]
   rw[this];exact kat_one _ _ (hl prog w _ _ (show PySem.W.BoolBack Q (.bool (lexLt (fl x) (fl y))) s from a))
def lZ(p:bH h ds vs)(d:i<ds.length):fL h (ds.getD i .cR) (vs.getD i eL)/\ds.getD i .cR∈ds:=by
 have c:i<vs.length:=by rw[p.len];exact d
 obtain⟨a,b⟩:=p.get i c;have e:vs.getD i eL=vs[i]:=by simp[c]
 rw[e];exact⟨a,b⟩
def Zj{C:Bool->ay->Prop}(k:Sk ds kd)(h2:2<=ds.length)(hs:∀a∈ds,∀b∈ds,iu a b=bT)(J:∀a∈ds,nl a=bT)(hd:∀a∈ds,A.units+dep a<cLine)(p:bH s.heap ds vs)
  (F:i<ds.length) (L:j<ds.length) (e:C (decide (rk ds i<rk ds j)) s):aC (aE prog w) A (keyLt' kd (vs.getD i eL) (vs.getD j eL)) C (λ_ _=>False) s:=by
 rw[<- JG ds F]at e;obtain⟨o,f⟩:=lZ p F;obtain⟨r,u⟩:=lZ p L;generalize ds.getD i .cR=x at e o f;generalize ds.getD j .cR=y at e r u;have tup:∀{b:Bool} {c d:List D},x=.tup c->y=.tup d->(b=bT->∃m n M N,c=.int m::M/\d=.int n::N)->aC (aE prog w) A (keyLt' (tuples' b) (vs.getD i eL) (vs.getD j eL)) C (λ_ _=>False) s:=by intro b c d ex O hb;have v:=hs x f y u;have nx:=J x f;have Q:=hd x f;subst ex;subst O;rw[iu]at v;rw[nl]at nx;rw[dep]at Q;rw[fL]at o;rw[fL]at r;refine bC o λa S g E H=>?_;clear o;obtain⟨o1,T,_,n1,U⟩:=E;refine bC r λb' X l E I=>?_;clear r;obtain⟨o2,Y,_,n2,Z⟩:=E;rw[g,l];have P:=Uq c d (A:=A) v nx H I (by lia);refine kat_lt T U Y Z (Eh c d _ _ 0 (λh _=>hb h) v P H I (bh9 ?_) ?_);have:S.toList.length=X.toList.length:=P.len;simp at this;lia;rw[fl,fl]at e;exact e
 cases k with
 |lW h=>lia
 |nums h=>obtain⟨m,rfl⟩:=h x f;obtain⟨n,rfl⟩:=h y u;rw[fL]at o;rw[fL]at r;obtain⟨t,g⟩:=o;obtain⟨t',l⟩:=r;rw[g,l,keyLt'_oneType];refine oneLt_int ?_;rw[fl,fl,Ci]at e;exact e
 |pT h=>refine rJ (h x f) λm c g=>?_;refine rJ (h y u) λn d l=>?_;exact tup g l λ_=>⟨m,n,c,d,rfl,rfl⟩
 |Zi h=>refine rJ (h x f) λm c g=>?_;refine rJ (h y u) λn d l=>?_;exact tup g l λz=>nomatch z
theorem Cj:∀{ds:List D} {vs:List au} (f:D->Prop),(∀d∈ds,∃x xs,d=.tup (x::xs)/\f x)->bH h ds vs->∃c:List au,c.length=ds.length/\KatTups h vs c/\∀v∈c,∃x,f x/\fL h x v
 |[],vs,f,_,p=>by
  rw[bH]at p;subst p;exact⟨[],rfl,.nil,λv m=>bi8 m (by simp)⟩
 |d::ds,vs,f,hd,p=>by
  rw[bH]at p;refine bC p λv r g a b=>?_;clear p;obtain rfl:=g;refine cA (Cj f (λd T=>hd d (.tail _ T)) b) λc l k e=>?_;refine dW (hd d (.head _)) λx xs g n=>?_;obtain rfl:=g;rw[fL]at a;refine bC a λC E g o i=>?_;clear a;obtain rfl:=g;obtain⟨o1,s,t,F,u⟩:=o;rw[bH]at i;refine bC i λy H w A _=>?_;clear i;refine⟨y::c,by rw[cS,cS,l],.cons s t u ?_ k,λz j=>?_⟩;rw[<- mF,w];rfl;rcases cK.mp j with rfl|j;exact⟨x,n,A⟩;exact e z j
def Ei{Q:iM->ay->Prop}(k:Sk ds kd)(o:2<=ds.length)(p:bH s.heap ds vs)(f:Q kd s):aC (aE prog w) A (keyKind' vs.toArray) Q E s:=by
 cases k with
 |lW h=>lia
 |nums h=>refine kas_kind (T:=.type "int") (by rw[p.len];exact o) (λv c=>?_) (by decide) (by decide) f;obtain⟨i,r,e⟩:=iZ.mp c;obtain⟨a,b⟩:=p.get i r;obtain⟨m,u⟩:=h _ b;rw[u,fL]at a;obtain⟨t,z⟩:=a;rw[<- e,z];exact Looks.now
 |pT h=>obtain⟨C,l,g,e⟩:=Cj (λx=>∃i,x=.int i) (λd hd=>by obtain⟨i,j,e⟩:=h d hd;exact⟨_,j,e,i,rfl⟩) p;refine kat_kind (T:=.type "int") g (by lia) (λv c=>?_) (by decide) f;refine aR (e v c) λx n q=>?_;obtain⟨i,rfl⟩:=n;rw[fL]at q;obtain⟨t,rfl⟩:=q;exact Looks.now
 |Zi h=>obtain⟨C,l,g,e⟩:=Cj (λx=>∃y,x=.tup y) (λd hd=>by obtain⟨y,j,e⟩:=h d hd;exact⟨_,j,e,y,rfl⟩) p;refine kat_kind (T:=.type "tuple") g (by lia) (λv c=>?_) (by decide) f;refine aR (e v c) λx n q=>?_;obtain⟨y,rfl⟩:=n;rw[fL]at q;refine bC q λa L F H _=>?_;clear q;obtain rfl:=F;obtain⟨o1,I,J,_⟩:=H;have lk:Looks (aE prog w) s.heap (typeOf (.ref a)) o1.cls:=(Looks.ld I).andThen .now;rw[J]at lk;exact lk
def SG(prog:dz)(w:bL)(A:cy)(es:List D)(kd:iM)(vs:List au):Prop:=es.length<=cH/\(∀a∈es,∀b∈es,fl a=fl b->a=b)/\∀(c:cy) (s:ay),c.units=A.units+2->2<=es.length->bH s.heap es vs->
 (∀E (R:iM->ay->Prop),R kd s->aC (aE prog w) c (keyKind' vs.toArray) R E s)/\∀i j C,i<es.length->j<es.length->C (decide (rk es i<rk es j)) s->aC (aE prog w) c (keyLt' kd (vs.getD i eL) (vs.getD j eL)) C (λ_ _=>False) s
def vo{Pd:List D->iM->List au->Prop}{Q:au->ay->Prop}(hk:∀es kd vs,Pd es kd vs->SG prog w A es kd vs)
  (d:∀R:List au->ay->Prop,(∀h' tk es kd vs,(∀b ob,s.heap.get? b=ai ob->h'.get? b=ai ob)->Pd es kd vs->bH h' es vs->R vs {s with heap:=h',toks:=tk})->aC (aE prog w) A.in1 (collect v) R E s)
  (h:∀(h1 h':aW) tk es kd vs L n (c:List Nat),(∀b ob,s.heap.get? b=ai ob->h1.get? b=ai ob)->(∀b ob,h1.get? b=ai ob->h'.get? b=ai ob)->Pd es kd vs->bH h1 es vs->h1.objs.size<=L->(∀i∈c,i<es.length)->fV es=c.map (λi=>es.getD i .cR)->
   h'.get? L=ai (cG "list" (c.map λi=>vs.getD i eL).toArray n)->Q (.ref L) {s with heap:=h',toks:=tk}) :
  aC (aE prog w) A (call (.builtin "sorted") [v]) Q E s:=by
 refine Calls.call_function_entry kind_sorted plain_sorted entry_sorted (args_sorted1 _) ?_;unfold Builtin.«sorted»;refine ak (m:=checkCount "sorted" 1 1 _) (aB (ak (d _ λh1 tk es kd vs z o p=>?_)));obtain ⟨P,F,r⟩:=hk es kd vs o;have lv:vs.length=es.length:=p.len;refine ak (wU ?_ (by lia));have t:(h1.push (cG "list" vs.toArray 0)).get? h1.objs.size=ai (cG "list" vs.toArray 0):=eY _ rfl;have f:∀h',Keeps h1.objs.size (h1.push (cG "list" vs.toArray 0)) h'->∀b ob,h1.get? b=ai ob->h'.get? b=ai ob:=λh' k b ob e=>k b ob (dM (bZ e)) (bP _ e);refine ak (jb (iy slot_list_sort ⟨_,t,rfl⟩ entry_list_sort ?body (args_list_sort _)));case body=>
  refine zN (kd:=kd) (r:=rk es) (s:={s with heap:=h1.push (cG "list" vs.toArray 0),toks:=tk}) t (by lia) (λg h' R k H=>(r _ _ rfl (by lia) (p.keep (f h' k))).1 _ R H) (λg h' i j C k l u I=>(r _ _ rfl (by lia) (p.keep (f h' k))).2 i j C (by lia) (by lia) I) λh' J c k m M N=>?_;rw[lv]at m;have x:∀i∈c,i<es.length:=λi l=>kO.mp (m.mem_iff.mp l);refine⟨_,rfl,aB ⟨_,rfl,h h1 h' tk es kd vs _ J c z (f h' k) o p (b9 _) x ?_ N⟩⟩;have y:(c.map λi=>es.getD i D.cR).Perm es:=by have:=m.map λi=>es.getD i D.cR;rwa [So.map_range]at this
  refine(BG (le:=λa b=>rP (fl a) (fl b)=bT) (λa b O hb h1 g=>F a ((cX es).mem_iff.mp O) b (y.mem_iff.mp hb) (yh _ _ h1 g)) (n6 es) ?_ ((cX es).trans y.symm));rw[Bu];refine M.imp_of_mem λ{i j} l u S=>?_;unfold rP;rw[JG es (x j u),bh9 (by lia)];rfl
def sgS(c:Sk es kd)(l:es.length<64)(hs:∀a∈es,∀b∈es,iu a b=bT)(f:∀a∈es,nl a=bT)(hd:∀a∈es,A.units+2+dep a<cLine):SG prog w A es kd vs:=
 ⟨cz (jc l) (by rw[gf];decide),λa h b hb=>Cc a b (hs a h b hb),λk s e d p=>⟨λE R g=>Ei c d p g,λi j C=>Zj c d hs f (λa h=>by rw[e];exact hd a h) p⟩⟩
end Dm
namespace Dm
open PySem PyProof.Rows L2 PySem.SeqAt
def Ur{A:cy}(x:Vw s.heap d u)(y:Vw s.heap e v)(g:A.units<cLine)(w:dep d=n)(m:flat d=bT)(o:flat e=bT)
  (z:∀{xs ys:List D} {a b:av} {k l:Array au},dep (.tup xs)=n->cC xs=bT->cC ys=bT->IsTup s.heap a k->bH s.heap xs k.toList->IsTup s.heap b l->bH s.heap ys l.toList->RcAt A s (.ref a) (.ref b) (eT xs ys))
  (hl:∀{xs ys:List D} {a b:av} {k l:Array au},dep (.lst xs)=n->cC xs=bT->cC ys=bT->PlainL s.heap a k->bH s.heap xs k.toList->PlainL s.heap b l->bH s.heap ys l.toList->RcAt A s (.ref a) (.ref b) (eT xs ys)):RcAt A s u v (iJ d e):=by
 cases x with
 |cR=>
  cases y with
  |cR=>exact RcAt.none_none
  |bl c=>exact RcAt.none_bool c
  |int j r=>exact RcAt.none_int j r
  |str y r=>exact RcAt.none_str y r
  |tup f h=>exact RcAt.none_tuple (aQ f) g
  |lst f h=>exact RcAt.none_list f.isList g
 |bl b=>
  cases y with
  |cR=>exact RcAt.bool_none b
  |bl c=>exact RcAt.bool_bool b c
  |int j r=>exact RcAt.bool_int b j r
  |str y r=>exact RcAt.bool_str b y r
  |tup f h=>exact RcAt.bool_tuple b (aQ f) g
  |lst f h=>exact RcAt.bool_list b f.isList g
 |int i t=>
  cases y with
  |cR=>exact RcAt.int_none i t
  |bl c=>exact RcAt.int_bool i t c
  |int j r=>exact RcAt.int_int i t j r
  |str y r=>exact RcAt.int_str i t y r
  |tup f h=>exact RcAt.int_tuple i t (aQ f) g
  |lst f h=>exact RcAt.int_list i t f.isList g
 |str x t=>
  cases y with
  |cR=>exact RcAt.str_none x t
  |bl c=>exact RcAt.str_bool x t c
  |int j r=>exact RcAt.str_int x t j r
  |str y r=>exact RcAt.str_str x t y r
  |tup f h=>exact RcAt.str_tuple x t (aQ f) g
  |lst f h=>exact RcAt.str_list x t f.isList g
 |tup q p=>
  cases y with
  |cR=>exact RcAt.tuple_none (aQ q) g
  |bl c=>exact RcAt.tuple_bool c (aQ q) g
  |int j r=>exact RcAt.tuple_int j r (aQ q) g
  |str y r=>exact RcAt.tuple_str y r (aQ q) g
  |tup f h=>exact z w (by rw[flat]at m;exact m) (by rw[flat]at o;exact o) q p f h
  |lst f h=>exact RcAt.tuple_list (aQ q) f.isList g
 |lst q p=>
  cases y with
  |cR=>exact RcAt.list_none q.isList g
  |bl c=>exact RcAt.list_bool c q.isList g
  |int j r=>exact RcAt.list_int j r q.isList g
  |str y r=>exact RcAt.list_str y r q.isList g
  |tup f h=>exact RcAt.list_tuple q.isList (aQ f) g
  |lst f h=>exact hl w (by rw[flat]at m;exact m) (by rw[flat]at o;exact o) q p f h
def Zk(d e:D){A:cy}(f:flat d=bT)(g:flat e=bT)(o:fL s.heap d u)(r:fL s.heap e v)(hr:A.units+dep d<cLine):RcAt A s u v (iJ d e):=by
 have i:A.units<cLine:=rm (wZ _ _) hr;refine Ur (vw o) (vw r) i rfl f g (λ{t w a b l n} j f g q p h c=>?_) (λ{t w a b l n} j f g q p h c=>?_);rw[<- yc p c];exact RcAt.tuples (aQ q) (aQ h) i (n5 p c λx y u v m k g1 g2=>pY _ _ (eO f m) (eO g k) g1 g2 (by show A.units+1+_<_;rw[<- j,dep]at hr;have:=iV m;lia));by_cases hl:l.size=n.size;rw[<- Ic p c hl];exact RcAt.lists q.isList h.isList hl i (n5 p c λx y u v m k g1 g2=>pY _ _ (eO f m) (eO g k) g1 g2 (by show A.units+1+_<_;rw[<- j,dep]at hr;have:=iV m;lia));rw[<- Ie p c hl];exact RcAt.lists_lengths q.isList h.isList (by simpa using hl) i
def Lc{A:cy}(x:Vw s.heap d u)(y:Vw s.heap e v)(g:A.units<cLine)(w:dep d=n)(m:flat d=bT)(o:flat e=bT)
  (z:∀{xs ys:List D} {a b:av} {k l:Array au},dep (.tup xs)=n->cC xs=bT->cC ys=bT->IsTup s.heap a k->bH s.heap xs k.toList->IsTup s.heap b l->bH s.heap ys l.toList->RcNeAt A s (.ref a) (.ref b) (!eT xs ys))
  (hl:∀{xs ys:List D} {a b:av} {k l:Array au},dep (.lst xs)=n->cC xs=bT->cC ys=bT->PlainL s.heap a k->bH s.heap xs k.toList->PlainL s.heap b l->bH s.heap ys l.toList->RcNeAt A s (.ref a) (.ref b) (!eT xs ys)):RcNeAt A s u v (!iJ d e):=by
 cases x with
 |cR=>
  cases y with
  |cR=>exact RcNeAt.none_none
  |bl c=>exact RcNeAt.none_bool c
  |int j r=>exact RcNeAt.none_int j r
  |str y r=>exact RcNeAt.none_str y r
  |tup f h=>exact RcNeAt.none_tuple (aQ f) g
  |lst f h=>exact RcNeAt.none_list f.isList g
 |bl b=>
  cases y with
  |cR=>exact RcNeAt.bool_none b
  |bl c=>exact RcNeAt.bool_bool b c
  |int j r=>exact RcNeAt.bool_int b j r
  |str y r=>exact RcNeAt.bool_str b y r
  |tup f h=>exact RcNeAt.bool_tuple b (aQ f) g
  |lst f h=>exact RcNeAt.bool_list b f.isList g
 |int i t=>
  cases y with
  |cR=>exact RcNeAt.int_none i t
  |bl c=>exact RcNeAt.int_bool i t c
  |int j r=>exact RcNeAt.int_int i t j r
  |str y r=>exact RcNeAt.int_str i t y r
  |tup f h=>exact RcNeAt.int_tuple i t (aQ f) g
  |lst f h=>exact RcNeAt.int_list i t f.isList g
 |str x t=>
  cases y with
  |cR=>exact RcNeAt.str_none x t
  |bl c=>exact RcNeAt.str_bool x t c
  |int j r=>exact RcNeAt.str_int x t j r
  |str y r=>exact RcNeAt.str_str x t y r
  |tup f h=>exact RcNeAt.str_tuple x t (aQ f) g
  |lst f h=>exact RcNeAt.str_list x t f.isList g
 |tup q p=>
  cases y with
  |cR=>exact RcNeAt.tuple_none (aQ q) g
  |bl c=>exact RcNeAt.tuple_bool c (aQ q) g
  |int j r=>exact RcNeAt.tuple_int j r (aQ q) g
  |str y r=>exact RcNeAt.tuple_str y r (aQ q) g
  |tup f h=>exact z w (by rw[flat]at m;exact m) (by rw[flat]at o;exact o) q p f h
  |lst f h=>exact RcNeAt.tuple_list (aQ q) f.isList g
 |lst q p=>
  cases y with
  |cR=>exact RcNeAt.list_none q.isList g
  |bl c=>exact RcNeAt.list_bool c q.isList g
  |int j r=>exact RcNeAt.list_int j r q.isList g
  |str y r=>exact RcNeAt.list_str y r q.isList g
  |tup f h=>exact RcNeAt.list_tuple q.isList (aQ f) g
  |lst f h=>exact hl w (by rw[flat]at m;exact m) (by rw[flat]at o;exact o) q p f h
def PX(d e:D){A:cy}(f:flat d=bT)(g:flat e=bT)(o:fL s.heap d u)(r:fL s.heap e v)(hr:A.units+dep d<cLine):RcNeAt A s u v (!iJ d e):=by
 have i:A.units<cLine:=rm (wZ _ _) hr;refine Lc (vw o) (vw r) i rfl f g (λ{t w a b l n} j f g q p h c=>?_) (λ{t w a b l n} j f g q p h c=>?_);rw[<- yc p c];exact RcNeAt.tuples (aQ q) (aQ h) i (n5 p c λx y u v m k g1 g2=>pY _ _ (eO f m) (eO g k) g1 g2 (by show A.units+1+_<_;rw[<- j,dep]at hr;have:=iV m;lia));by_cases hl:l.size=n.size;rw[<- Ic p c hl];exact RcNeAt.lists q.isList h.isList hl i (n5 p c λx y u v m k g1 g2=>pY _ _ (eO f m) (eO g k) g1 g2 (by show A.units+1+_<_;rw[<- j,dep]at hr;have:=iV m;lia));rw[<- Ie p c hl];exact RcNeAt.lists_lengths q.isList h.isList (by simpa using hl) i
end Dm
namespace Tb
open PySem PySem.SetTable
noncomputable def lB(mask:Nat)(p:Probe):Probe:=
 if p.more > 0 then {p with j:=p.j+1,more:=p.more-1}else
  {p with j:=(leap mask p.i p.perturb).1,more:=runEnd mask (leap mask p.i p.perturb).1-(leap mask p.i p.perturb).1,i:=(leap mask p.i p.perturb).1,perturb:=(leap mask p.i p.perturb).2}
def yi(t:iz)(p:Probe):t.advance p=lB t.mask p:=by
 unfold SetTable.advance lB;rfl
noncomputable def MJ(mask i l:Nat):Probe:={j:=i,more:=runEnd mask i-i,i:=i,perturb:=l,dummy:=aj}
def yj(t:iz)(h:Int):t.probeStart h=MJ t.mask (bits h % (t.mask+1)) (bits h):=rfl
noncomputable def W(mask:Nat):Probe->Nat->Probe
 |p,0=>p
 |p,k+1=>W mask (lB mask p) k
theorem pZ(mask:Nat):∀(a b:Nat) (p:Probe),W mask p (a+b)=W mask (W mask p a) b
 |0,b,p=>by rw[mD];rfl
 |a+1,b,p=>by
  rw[show a+1+b=(a+b)+1 by lia];show W mask (lB mask p) (a+b)=_;rw[pZ mask a b];rfl
def Zl(mask:Nat)(p:Probe)(k:Nat):W mask p (k+1)=lB mask (W mask p k):=by
 rw[pZ mask k 1 p];rfl
def yk(mask:Nat)(p:Probe)(h:p.dummy=aj):(lB mask p).dummy=aj:=by
 unfold lB;split <;> exact h
theorem JH(mask:Nat):∀(k:Nat) (p:Probe),p.dummy=aj->(W mask p k).dummy=aj
 |0,_,h=>h
 |k+1,p,h=>JH mask k _ (yk mask p h)
theorem PY(mask:Nat):∀(k:Nat) (p:Probe),k<=p.more->W mask p k={p with j:=p.j+k,more:=p.more-k}
 |0,p,_=>rfl
 |k+1,p,h=>by
  show W mask (lB mask p) k=_;have e:lB mask p={p with j:=p.j+1,more:=p.more-1}:=by unfold lB;rw[bh6 (by lia)]
  rw[e,PY mask k _ (by show k<=p.more-1;lia)];simp only[Probe.mk.injEq,and_true,true_and];lia
def Im(mask i l:Nat):W mask (MJ mask i l) (runEnd mask i-i+1)=MJ mask (leap mask i l).1 (leap mask i l).2:=by
 rw[Zl,PY mask (runEnd mask i-i) (MJ mask i l) (b9 _)];unfold lB;rw[bh7 (by show ¬ (runEnd mask i-i-(runEnd mask i-i) > 0);lia)];rfl
def Zm(mask i:Nat):runEnd mask i-i<=9:=by unfold runEnd;split <;> lia
noncomputable def G(mask:Nat):Nat->Nat->Nat->Nat×Nat
 |0,i,l=>(i,l)
 |n+1,i,l=>G mask n (leap mask i l).1 (leap mask i l).2
theorem Ej(mask:Nat):∀(n i l:Nat),∃k,k<=10*n/\W mask (MJ mask i l) k=MJ mask (G mask n i l).1 (G mask n i l).2
 |0,i,l=>⟨0,by lia,rfl⟩
 |n+1,i,l=>by
  refine aR (Ej mask n (leap mask i l).1 (leap mask i l).2) λk hk e=>?_;refine⟨runEnd mask i-i+1+k,by have:=Zm mask i;lia,?_⟩;rw[pZ,Im,e];rfl
theorem Xw(mask:Nat):∀(n i l:Nat),(G mask n i l).2=l / 32 ^ n
 |0,i,l=>by simp[G]
 |n+1,i,l=>by
  show(G mask n (leap mask i l).1 (leap mask i l).2).2=_;rw[Xw mask n,show(leap mask i l).2=l / 32 from rfl,Nat.div_div_eq_div_mul,Nh,Nat.mul_comm]
theorem Xx(mask:Nat):∀(a b i l:Nat),G mask (a+b) i l=G mask b (G mask a i l).1 (G mask a i l).2
 |0,b,i,l=>by rw[mD];rfl
 |a+1,b,i,l=>by
  rw[show a+1+b=(a+b)+1 by lia];show G mask (a+b) _ _=_;rw[Xx mask a b];rfl
theorem ay9(mask:Nat):∀(n i l:Nat),i<mask+1->(G mask n i l).1<mask+1
 |0,_,_,h=>h
 |n+1,i,l,_=>ay9 mask n _ _ (rq _ (u7 _))
noncomputable def seen(mask:Nat):Nat->Nat->Nat->Nat
 |0,_,a=>a
 |n+1,i,a=>seen mask n ((i*5+1) % (mask+1)) (a ||| (1 <<< i))
theorem Ek(mask e:Nat):∀(n i a:Nat),(seen mask n i a).testBit e=bT->a.testBit e=bT\/∃m,m<n/\(G mask m i 0).1=e
 |0,i,a,h=>.inl h
 |n+1,i,a,h=>by
  rcases Ek mask e n _ _ h with h|⟨m,c,b⟩;rw[Nat.testBit_or,kZ]at h;rcases h with h|h;exact .inl h;refine .inr ⟨0,by lia,?_⟩;rw[Nat.one_shiftLeft,Nat.testBit_two_pow]at h;exact bi2 h;exact .inr ⟨m+1,by lia,b⟩
noncomputable def q8(mask:Nat):Bool:=(cY (mask+1)).all λi=>seen mask (mask+1) i 0==2 ^ (mask+1)-1
def az0:q8 7=bT:=by decide +kernel
def Zn:q8 31=bT:=by decide +kernel
def Us:q8 127=bT:=by decide +kernel
def MK(mask:Nat):Prop:=mask=7\/mask=31\/mask=127
def MK.full{mask:Nat}(h:MK mask):q8 mask=bT:=by
 rcases h with rfl|rfl|rfl;exact az0;exact Zn;exact Us
def cover{mask:Nat}(c:MK mask){i e:Nat}(d:i<mask+1)(f:e<mask+1):∃m,m<mask+1/\(G mask m i 0).1=e:=by
 have h:=c.full;unfold q8 at h;rw[dZ]at h;have q:=bi0.mp (h i (kO.mpr d));have b:(seen mask (mask+1) i 0).testBit e=bT:=by rw[q,Nat.testBit_two_pow_sub_one];exact bh8 f
 rcases Ek mask e _ _ _ b with a|a;rw[Nat.zero_testBit]at a;cases a;exact a
def Ut(h:Int):bits h<2 ^ 64:=by
 unfold bits;lia
def JI{mask:Nat}(a:MK mask)(h:Int){e:Nat}(b:e<mask+1):∃n,n<=mask+13/\(G mask n (bits h % (mask+1)) (bits h)).1=e:=by
 have p:(G mask 13 (bits h % (mask+1)) (bits h)).2=0:=by rw[Xw];exact Ni (gO (Ut h) (by decide))
 obtain⟨m,z,c⟩:=cover a (ay9 mask 13 _ (bits h) (rq _ (u7 _))) b;refine⟨13+m,by lia,?_⟩;rw[Xx,p];exact c
def reach{mask:Nat}(a:MK mask)(h:Int){e:Nat}(b:e<mask+1):∃k,k<=10*(mask+13)/\(W mask (MJ mask (bits h % (mask+1)) (bits h)) k).j=e:=by
 refine aR (JI a h b) λn f c=>?_;refine aR (Ej mask n (bits h % (mask+1)) (bits h)) λk hk d=>?_;refine⟨k,by lia,?_⟩;rw[d];exact c
def vp(xs:Array Nat):Prop:=∀i j,i<j->j<xs.size->xs.getD i 0<xs.getD j 0
def vp.le(h:vp xs)(l:i<=j)(a:j<xs.size):xs.getD i 0<=xs.getD j 0:=by
 rcases Nj l with b|rfl;exact jc (h i j b a);exact b9 _
def PZ(xs:Array Nat)(h:i<xs.size):xs.getD i a=xs.getD i b:=by simp[Array.getD,h]
theorem ym(hr:vp xs)(j:Nat):∀(f lo h:Nat),h<=xs.size->lo<=h->h-lo<=f->(∀i,i<lo->xs.getD i 0<j)->(∀i,h<=i->i<xs.size->j<=xs.getD i 0)->
  lo<=below.go xs j f lo h/\below.go xs j f lo h<=xs.size/\(∀i,i<below.go xs j f lo h->xs.getD i 0<j)/\∀i,below.go xs j f lo h<=i->i<xs.size->j<=xs.getD i 0
 |0,lo,h,c,k,l,a,b=>by
  have:h=lo:=by lia
  subst this;exact⟨b9 _,c,a,b⟩
 |f+1,lo,h,c,k,l,a,b=>by
  unfold below.go;by_cases g:lo<h;rw[bh6 g];dsimp only;have e:(lo+h) / 2<xs.size:=by lia
  rw[PZ xs (b:=0) e];by_cases d:xs.getD ((lo+h) / 2) 0<j;rw[bh6 d];have q:=ym hr j f ((lo+h) / 2+1) h c (by lia) (by lia) (λi X=>rm (hr.le (by lia) e) d) b;exact⟨by lia,q.2⟩;rw[bh7 d];have q:=ym hr j f lo ((lo+h) / 2) (by lia) (by lia) (by lia) a (λi X m=>cz (mC d) (hr.le X m));exact⟨by lia,q.2⟩;rw[bh7 g];have:h=lo:=by lia
  subst this;exact⟨b9 _,c,a,b⟩
def nX(hr:vp xs)(j:Nat):below xs j<=xs.size/\(∀i,i<below xs j->xs.getD i 0<j)/\∀i,below xs j<=i->i<xs.size->j<=xs.getD i 0:=
 (ym hr j xs.size 0 xs.size (b9 _) (eS _) (b9 _) (λi h=>bi8 h (jK _)) (λi h a=>bi8 a (GB.mpr h))).2
def below_at(hr:vp xs)(d:i<xs.size):below xs (xs.getD i 0)=i:=by
 refine xH (nX hr (xs.getD i 0)) λa b c=>?_;rcases u9 (below xs (xs.getD i 0)) i with h|h|h;have:=c _ (b9 _) (by lia);have:=hr _ _ h d;lia;exact h;have:=b i h;lia
structure Good(t:iz)(n:Nat):Prop where
 size:t.place.size=n
 rise:vp t.place
 le:∀i,i<n->t.place.getD i 0<=t.mask
 dum:t.dummies=#[]
 msk:MK t.mask
 lW:n<t.mask
def JJ(j:Nat):has #[] j=b4:=by simp[has]
def AF(g:Good t n)(a:i<n):t.slot (t.place.getD i 0)=.live i:=by
 have h:i<t.place.size:=by rw[g.size];exact a
 unfold SetTable.slot;dsimp only;rw[below_at g.rise h,bh6 (by simp[Array.getD,h])]
def yo(g:Good t n)(j:Nat):(∃i,i<n/\t.place.getD i 0=j/\t.slot j=.live i)\/((∀i,i<n->t.place.getD i 0≠j)/\t.slot j=.empty):=by
 by_cases h:∃i,i<n/\t.place.getD i 0=j;refine aR h λi a e=>?_;clear h;exact .inl ⟨i,a,e,by rw[<- e];exact AF g a⟩;refine .inr ⟨λi a e=>h ⟨i,a,e⟩,?_⟩;unfold SetTable.slot;dsimp only;rw[bh7,g.dum,JJ];rfl;intro q;have q:=bi0.mp q;obtain⟨b,e⟩:=pQ.mp q;exact h ⟨below t.place j,by rw[<- g.size];exact b,by simp[Array.getD,b,e]⟩
def gn(g:Good t n)(j:Nat):t.slot j=.empty↔∀i,i<n->t.place.getD i 0≠j:=by
 rcases yo g j with⟨i,b,e,q⟩|⟨a,q⟩;rw[q];exact⟨λh=>(nomatch h),λh=>bi8 e (h i b)⟩;exact⟨λ_=>a,λ_=>q⟩
theorem JK(h:vp xs):∀i,i<xs.size->i<=xs.getD i 0
 |0,_=>eS _
 |i+1,c=>by
  have a:=JK h i (by lia);have b:=h i (i+1) (by lia) c;lia
def Io(g:Good t n):∃e,e<t.mask+1/\t.slot e=.empty:=by
 by_cases h:∀i,i<n->t.place.getD i 0=i;refine⟨n,by have:=g.lW;lia,(gn g n).mpr λi d e=>?_⟩;rw[h i d]at e;lia;have:∃i,i<n/\t.place.getD i 0≠i/\∀k,k<i->t.place.getD k 0=k:=by
  have f:∀m,m<=n->(∀k,k<m->t.place.getD k 0=k)\/∃i,i<n/\t.place.getD i 0≠i/\∀k,k<i->t.place.getD k 0=k:=by
   intro m;induction m with
   |zero=>intro _;exact .inl λk hk=>bi8 hk (jK _)
   |succ m j=>intro p;rcases j (by lia)with a|a;by_cases e:t.place.getD m 0=m;refine .inl λk hk=>?_;rcases Nj (Nd hk)with c|rfl;exact a k c;exact e;exact .inr ⟨m,by lia,e,a⟩;exact .inr a
  rcases f n (b9 _)with a|a;exact bi8 a h;exact a
 refine cA this λi d l b=>?_;clear this;have o:i<t.place.size:=by rw[g.size];exact d
 have r:=JK g.rise i o;refine⟨i,by have:=g.le i d;lia,(gn g i).mpr λk hk e=>?_⟩;rcases u9 k i with c|rfl|c;rw[b k c]at e;lia;exact l e;have:=g.rise i k c (by rw[g.size];exact hk);lia
def toList_ins(xs:Array α)(p:Nat)(x:α):(jo xs p x).toList=xs.toList.take p++x::xs.toList.drop p:=by
 simp[jo,gz,uf]
def Q0(xs:Array α)(p:Nat)(x:α)(h:p<=xs.size):(jo xs p x).size=xs.size+1:=by
 rw[<- dN,toList_ins,bX,cS,kF,ua,dN];lia
def sI(xs:Array α)(p:Nat)(x:α)(b:p<=xs.size)(i:Nat):(jo xs p x)[i]?=if i<p then xs[i]? else if i=p then ai x else xs[i-1]?:=by
 rw[<- mF,toList_ins];by_cases h:i<p;rw[bh6 h,mE (by rw[kF,dN];lia),GF h,mF];rw[bh7 h,kG (by rw[kF,dN];lia),kF,dN,GC b];by_cases a:i=p;subst a;simp;rw[bh7 a];obtain⟨m,c⟩:∃m,i-p=m+1:=⟨i-p-1,by lia⟩
 rw[c,NH,NC,mF];congr 1;lia
def El(xs:Array Nat)(p x:Nat)(h:p<=xs.size)(i:Nat):(jo xs p x).getD i 0=if i<p then xs.getD i 0 else if i=p then x else xs.getD (i-1) 0:=by
 have e:∀y:Array Nat,∀k,y.getD k 0=(y[k]?).getD 0:=λy k=>by simp[jm]
 rw[e,sI xs p x h i];split;rw[e];split;rfl;rw[e]
def Ip(g:Good t n):t.put j=({t with place:=jo t.place (below t.place j) j},below t.place j):=by
 unfold SetTable.put;dsimp only;rw[g.dum,JJ];simp only[d9,bi4]
def Em(g:Good t n)(x:j<=t.mask)(y:t.slot j=.empty)(z:n+1<t.mask):Good (t.put j).1 (n+1)/\(t.put j).2=below t.place j/\below t.place j<=n/\(t.put j).1.mask=t.mask/\
  (∀k,(t.put j).1.slot k=.empty↔(t.slot k=.empty/\k≠j))/\(t.put j).1.place=jo t.place (below t.place j) j:=by
 refine xH (nX g.rise j) λf A p=>?_;rw[g.size]at f p;have d:below t.place j<=t.place.size:=by rw[g.size];exact f
 have l:=(gn g j).mp y;have C:∀i,below t.place j<=i->i<n->j<t.place.getD i 0:=λi a b=>by have:=p i a b;have:=l i b;lia
 rw[Ip g];have c:=El t.place (below t.place j) j d;have s:(jo t.place (below t.place j) j).size=n+1:=by rw[Q0 _ _ _ d,g.size]
 have r:Good {t with place:=jo t.place (below t.place j) j} (n+1):=by
  refine⟨s,λi k m hk=>?_,λi u=>?_,g.dum,g.msk,z⟩;have hk:k<n+1:=by rw[<- s];exact hk
  show(jo t.place (below t.place j) j).getD i 0<(jo t.place (below t.place j) j).getD k 0;rw[c i,c k];by_cases a:k<below t.place j;rw[bh6 a,bh6 (by lia)];exact g.rise i k m (by rw[g.size];lia);rw[bh7 a];by_cases b:k=below t.place j;rw[bh6 b,bh6 (by lia)];exact A i (by lia);rw[bh7 b];by_cases v:i<below t.place j;rw[bh6 v];exact g.rise i (k-1) (by lia) (by rw[g.size];lia);rw[bh7 v];by_cases w:i=below t.place j;rw[bh6 w];exact C (k-1) (by lia) (by lia);rw[bh7 w];exact g.rise (i-1) (k-1) (by lia) (by rw[g.size];lia);show(jo t.place (below t.place j) j).getD i 0<=t.mask;rw[c i];by_cases a:i<below t.place j;rw[bh6 a];exact g.le i (by lia);rw[bh7 a];by_cases b:i=below t.place j;rw[bh6 b];exact x;rw[bh7 b];exact g.le (i-1) (by lia)
 refine⟨r,rfl,f,rfl,λk=>?_,rfl⟩;rw[gn r,gn g];show(∀i,i<n+1->(jo t.place (below t.place j) j).getD i 0≠k)↔_;constructor;intro h;refine⟨λi u e=>?_,λe=>?_⟩;by_cases a:i<below t.place j;exact h i (by lia) (by rw[c i,bh6 a];exact e);exact h (i+1) (by lia) (by rw[c (i+1),bh7 (by lia),bh7 (by lia)];exact e);exact h (below t.place j) (by lia) (by rw[c,bh7 (by lia),bh6 rfl];exact e.symm);rintro⟨h,o⟩ i u e;rw[c i]at e;by_cases a:i<below t.place j;rw[bh6 a]at e;exact h i (by lia) e;rw[bh7 a]at e;by_cases b:i=below t.place j;rw[bh6 b]at e;exact o e.symm;rw[bh7 b]at e;exact h (i-1) (by lia) e
def uH(t:iz)(h:Int)(j:Nat):Prop:=∃k,(W t.mask (t.probeStart h) k).j=j/\∀m,m<k->t.slot (W t.mask (t.probeStart h) m).j≠.empty
def Paths(t:iz)(hs:Nat->Int)(n:Nat):Prop:=∀i,i<n->uH t (hs i) (t.place.getD i 0)
def least{p:Nat->Prop}[DecidablePred p]{k:Nat}(h:p k):∃d,d<=k/\p d/\∀m,m<d->¬ p m:=by
 induction k using Nat.strongRecOn with
 |_ k i=>by_cases q:∃m,m<k/\p m;refine aR q λm c e=>?_;clear q;refine cA (i m c e) λd hd a b=>?_;exact⟨d,by lia,a,b⟩;exact⟨k,b9 _,h,λm c e=>q ⟨m,c,e⟩⟩
def dist{t:iz}{n:Nat}(g:Good t n)(h:Int):∃d,d<=10*(t.mask+13)/\t.slot (W t.mask (t.probeStart h) d).j=.empty/\∀m,m<d->t.slot (W t.mask (t.probeStart h) m).j≠.empty:=by
 refine aR (Io g) λe c s=>?_;refine aR (reach g.msk h c) λk hk f=>?_;obtain⟨d,hd,a,b⟩:=least (p:=λm=>t.slot (W t.mask (t.probeStart h) m).j=.empty) (k:=k) (by rw[yj,f];exact s);exact⟨d,by lia,a,b⟩
theorem JL(g:Good t n)(a:Nat->Int)(h:Int):∀(d:Nat) (p:Probe) (f:Nat),p.dummy=aj->d<f->t.slot (W t.mask p d).j=.empty->(∀m,m<d->t.slot (W t.mask p m).j≠.empty)->
  (∃m i,m<d/\i<n/\t.slot (W t.mask p m).j=.live i/\a i=h/\(∀c,c<m->∀r,t.slot (W t.mask p c).j=.live r->a r≠h)/\probe.go t a h f p=ai (.candidate (W t.mask p m).j i (W t.mask p (m+1))))\/
  ((∀m,m<d->∀i,t.slot (W t.mask p m).j=.live i->a i≠h)/\probe.go t a h f p=ai (.empty (W t.mask p d).j aj))
 |0,p,f+1,hd,_,s,_=>by
  refine .inr ⟨λm j=>bi8 j (jK _),?_⟩;unfold probe.go;have U:t.slot p.j=.empty:=s;rw[U,hd];rfl
 |d+1,p,f+1,hd,F,s,hb=>by
  have w:t.slot p.j≠.empty:=hb 0 (by lia);rcases yo g p.j with⟨i,x,_,q⟩|⟨_,q⟩;by_cases k:a i=h;refine .inl ⟨0,i,by lia,x,q,k,λm j=>bi8 j (jK _),?_⟩;unfold probe.go;rw[q];dsimp only;rw[bh6 (bi0.mpr k),yi];rfl;have e:probe.go t a h (f+1) p=probe.go t a h f (lB t.mask p):=by
   conv=>lhs;unfold probe.go
   rw[q];dsimp only;rw[bh7 (λz=>k (bi0.mp z)),yi]
  rw[e];rcases JL g a h d (lB t.mask p) f (yk _ _ hd) (by lia) s (λm j=>hb (m+1) (by lia))with⟨m,r,v,u,y,A,C,E⟩|⟨v,u⟩;refine .inl ⟨m+1,r,by lia,u,y,A,λc H b l=>?_,E⟩;cases c with
  |zero=>have o:t.slot p.j=.live b:=l;rw[q]at o;cases o;exact k
  |succ c=>exact C c (by lia) b l
  refine .inr ⟨λm j b l=>?_,u⟩;cases m with
  |zero=>have o:t.slot p.j=.live b:=l;rw[q]at o;cases o;exact k
  |succ m=>exact v m (by lia) b l
  exact bi8 q w
def Ld(g:Good t n)(u:j<=t.mask)(v:t.slot j=.empty)(w:n+1<t.mask){p:Nat->Int}(P:Paths t hs n)
  (x:∀i,i<n+1->p i=if i<below t.place j then hs i else if i=below t.place j then h else hs (i-1)) (y:uH t h j):Paths (t.put j).1 p (n+1):=by
 refine vL (Em g u v w) λF _ hb l o A=>?_;have a:∀{c:Int} {k:Nat},uH t c k->uH (t.put j).1 c k:=by
  rintro c k ⟨s,e,b⟩;have r:(t.put j).1.probeStart c=t.probeStart c:=by rw[yj,yj,l]
  refine⟨s,by rw[l,r];exact e,λm C z=>?_⟩;rw[l,r]at z;exact b m C ((o _).mp z).1
 intro i E;rw[A,El _ _ _ (by rw[g.size];exact hb),x i E];by_cases d:i<below t.place j;rw[bh6 d,bh6 d];exact a (P i (by lia));rw[bh7 d,bh7 d];by_cases f:i=below t.place j;rw[bh6 f,bh6 f];exact a y;rw[bh7 f,bh7 f];exact a (P (i-1) (by lia))
noncomputable def Dz(owner:Array (Option Nat))(j:Nat):Bool:=(owner.getD j (ai 0)).isSome
noncomputable def st(mask:Nat)(h:Int):Probe:=MJ mask (bits h % (mask+1)) (bits h)
theorem AG{mask:Nat}(owner:Array (Option Nat))(hz:owner.size=mask+1):∀(f i l n:Nat),i<mask+1->n<f->Dz owner (G mask n i l).1=b4->
  ∃k j,layClean.free mask owner f i l=ai j/\(W mask (MJ mask i l) k).j=j/\j<mask+1/\Dz owner j=b4/\∀m,m<k->Dz owner (W mask (MJ mask i l) m).j=bT
 |f+1,i,l,n,A,C,o=>by
  have s:runEnd mask i<=mask:=by unfold runEnd;split <;> lia
  have X:i<=runEnd mask i:=by unfold runEnd;split <;> lia
  have e:∀m,m<=runEnd mask i-i->(W mask (MJ mask i l) m).j=i+m:=λm h=>by rw[PY mask m (MJ mask i l) h];rfl
  unfold layClean.free;cases d:(cY (runEnd mask i+1-i)).find? (λk=>(owner.getD (i+k) (ai 0)).isNone)with
  |some k=>
   dsimp only;rw[List.find?_range_eq_some]at d;refine xH d λa b c=>?_;clear d;have hk:k<runEnd mask i+1-i:=kO.mp b;refine⟨k,i+k,rfl,e k (by lia),by lia,?_,λm h=>?_⟩;unfold Dz;cases q:owner.getD (i+k) (ai 0)with
   |none=>rfl
   |some z=>rw[q]at a;cases a
   rw[e m (by lia)];have q:=c m h;unfold Dz;cases g:owner.getD (i+m) (ai 0)with
   |none=>rw[g]at q;cases q
   |some z=>rfl
  |none=>
   dsimp only;rw[List.find?_range_eq_none]at d;have p:∀m,m<runEnd mask i+1-i->Dz owner (i+m)=bT:=λm h=>by
    have q:=d m h;unfold Dz;cases g:owner.getD (i+m) (ai 0)with
    |none=>rw[g]at q;cases q
    |some z=>rfl
   cases n with
   |zero=>
    have:Dz owner i=bT:=by have:=p 0 (by lia);rwa [GA]at this
    have U:Dz owner i=b4:=o;rw[this]at U;cases U
   |succ n=>
    refine Hy (AG owner hz f (leap mask i l).1 (leap mask i l).2 n (rq _ (u7 _)) (by lia) o) λk j t u v w x=>?_;refine⟨runEnd mask i-i+1+k,j,t,by rw[pZ,Im];exact u,v,w,λm h=>?_⟩;by_cases y:m<runEnd mask i-i+1;rw[e m (by lia)];exact p m (by lia);obtain⟨r,rfl⟩:∃r,m=runEnd mask i-i+1+r:=⟨m-(runEnd mask i-i+1),by lia⟩
    rw[pZ,Im];exact x r (by lia)
theorem az3{mask:Nat}:∀(k:Nat) (p:Probe),p.j+p.more<=mask->(W mask p k).j<=mask
 |0,p,h=>by show p.j<=mask;lia
 |k+1,p,h=>by
  refine az3 k (lB mask p) ?_;unfold lB;split;show p.j+1+(p.more-1)<=mask;lia;show(leap mask p.i p.perturb).1+(runEnd mask (leap mask p.i p.perturb).1-(leap mask p.i p.perturb).1)<=mask;have:(leap mask p.i p.perturb).1<mask+1:=rq _ (u7 _);unfold runEnd;split <;> lia
def Xz(mask:Nat)(h:Int)(k:Nat):(W mask (st mask h) k).j<=mask:=by
 refine az3 k _ ?_;show bits h % (mask+1)+(runEnd mask (bits h % (mask+1))-bits h % (mask+1))<=mask;have:bits h % (mask+1)<mask+1:=rq _ (u7 _);unfold runEnd;split <;> lia
structure Own(mask:Nat)(hs:Nat->Int)(owner:Array (Option Nat))(q:Nat):Prop where
 size:owner.size=mask+1
 lt:∀(j a:Nat),owner[j]?=ai (ai a)->a<q
 at':∀(a:Nat),a<q->∃j,owner[j]?=ai (ai a)/\∃k,(W mask (st mask (hs a)) k).j=j/\∀m,m<k->Dz owner (W mask (st mask (hs a)) m).j=bT
 uniq:∀(a j j':Nat),owner[j]?=ai (ai a)->owner[j']?=ai (ai a)->j=j'
 cnt:owner.toList.countP Option.isNone=mask+1-q
def Lf(mask:Nat)(hs:Nat->Int):Own mask hs (Array.replicate (mask+1) aj) 0:=by
 have no:∀(j a:Nat),(Array.replicate (mask+1) (aj:Option Nat))[j]?≠ai (ai a):=λj a h=>by rw[Array.getElem?_replicate]at h;split at h <;> cases h
 refine⟨by simp,λj a h=>bi8 h (no j a),λa h=>bi8 h (jK _),λa j _ h=>bi8 h (no j a),?_⟩;rw[Array.toList_replicate,List.countP_replicate];rfl
def occ_none(h:Dz owner j=b4):owner[j]?=ai aj:=by
 unfold Dz at h;rw[jm]at h;cases q:owner[j]? with
 |none=>rw[q]at h;cases h
 |some z=>cases z with
  |none=>rfl
  |some _=>rw[q]at h;cases h
def En{owner:Array (Option Nat)}(h:owner[j]?=ai aj):Dz owner j=b4:=by
 unfold Dz;rw[jm,h];rfl
def Uv{owner:Array (Option Nat)}(h:j<owner.size)(i:Nat):(owner.setIfInBounds j (ai q))[i]?=if i=j then ai (ai q)else owner[i]?:=by
 rw[Array.getElem?_setIfInBounds];by_cases e:i=j;subst e;simp[h];rw[bh7 (λz=>e z.symm),bh7 e]
def Q2{mask:Nat}(w:MK mask){hs:Nat->Int}{owner:Array (Option Nat)}{q:Nat}(o:Own mask hs owner q)(M:q<mask+1) :
  ∃j,layClean.free mask owner (turns mask) (bits (hs q) % (mask+1)) (bits (hs q))=ai j/\Own mask hs (owner.setIfInBounds j (ai q)) (q+1):=by
 have y:0<owner.toList.countP Option.isNone:=by rw[o.cnt];lia
 refine aR (List.countP_pos_iff.mp y) λx A C=>?_;obtain⟨e,r,ex⟩:=iZ.mp A;have E:e<owner.size:=by rw[<- dN];exact r
 have F:owner[e]?=ai aj:=by
  rw[<- mF,cU r,ex];cases x with
  |none=>rfl
  |some _=>cases C
 obtain⟨n,N,en⟩:=JI w (hs q) (e:=e) (by rw[<- o.size];exact E);obtain⟨k,j,f1,f2,f3,f4,H⟩:=AG owner o.size (turns mask) (bits (hs q) % (mask+1)) (bits (hs q)) n (rq _ (u7 _)) (by unfold turns;lia) (by rw[en];exact En F);refine⟨j,f1,?_⟩;have s:j<owner.size:=by rw[o.size];exact f3
 have g:=Uv (q:=q) s;have t:owner[j]?=ai aj:=occ_none f4;have u:∀i,Dz owner i=bT->Dz (owner.setIfInBounds j (ai q)) i=bT:=λi h=>by unfold Dz at h ⊢;rw[jm]at h ⊢;rw[g i];by_cases z:i=j;rw[bh6 z];rfl;rw[bh7 z];exact h
 refine⟨by rw[Array.size_setIfInBounds];exact o.size,λi a h=>?_,λa O=>?_,λa i f h b=>?_,?_⟩;rw[g i]at h;by_cases z:i=j;rw[bh6 z]at h;cases h;lia;rw[bh7 z]at h;have:=o.lt i a h;lia;by_cases z:a=q;subst z;exact⟨j,by rw[g,bh6 rfl],k,f2,λm l=>u _ (H m l)⟩;obtain⟨i,p,k',I,J⟩:=o.at' a (by lia);refine⟨i,?_,k',I,λm l=>u _ (J m l)⟩;rw[g,bh7,p];rintro rfl;rw[t]at p;cases p;rw[g i]at h;rw[g f]at b;by_cases z:i=j;by_cases c:f=j;rw[z,c];rw[bh6 z]at h;rw[bh7 c]at b;cases h;exact bi8 (o.lt _ _ b) (sC _);by_cases c:f=j;rw[bh7 z]at h;rw[bh6 c]at b;cases b;exact bi8 (o.lt _ _ h) (sC _);rw[bh7 z]at h;rw[bh7 c]at b;exact o.uniq a i f h b;rw[Array.toList_setIfInBounds];have d:j<owner.toList.length:=by rw[dN];exact s
 rw[List.countP_set d,o.cnt];have L:owner.toList[j]=aj:=by
  have v:owner.toList[j]?=ai aj:=by rw[mF];exact t
  rw[cU d]at v;exact fJ v
 rw[L];simp;lia
theorem Ep{mask:Nat}(b:MK mask){hs:Nat->Int}:∀(l:List Int) (owner:Array (Option Nat)) (q:Nat),Own mask hs owner q->q+l.length<=mask->(∀i,i<l.length->l[i]?=ai (hs (q+i)))->
  ∃C,l.foldl (init:=ai (owner,q)) (λa h=>do
   let(owner,k) <- a
   let j <- layClean.free mask owner (turns mask) (bits h % (mask+1)) (bits h)
   pure (owner.setIfInBounds j (ai k),k+1))=ai (C,q+l.length)/\Own mask hs C (q+l.length)
 |[],owner,q,o,_,_=>⟨owner,rfl,o⟩
 |h::r,owner,q,o,hl,c=>by
  have d:h=hs q:=by have:=c 0 (by simp);simpa using this
  obtain⟨j,f1,o1⟩:=Q2 b o (by simp only[cS]at hl;lia);obtain⟨C,e,o2⟩:=Ep b r (owner.setIfInBounds j (ai q)) (q+1) o1 (by simp only[cS]at hl;lia) (λi g=>by
   have:=c (i+1) (by simp;lia);simp only[NH]at this;rw[this,show q+(i+1)=q+1+i by lia])
  refine⟨C,?_,by rw[cS,show q+(r.length+1)=q+1+r.length by lia];exact o2⟩;rw[NB];have f:(do
   let(owner,k) <- (ai (owner,q):Option (Array (Option Nat)×Nat))
   let j <- layClean.free mask owner (turns mask) (bits h % (mask+1)) (bits h)
   pure (owner.setIfInBounds j (ai k),k+1))=ai (owner.setIfInBounds j (ai q),q+1):=by
   show(do
    let j <- layClean.free mask owner (turns mask) (bits h % (mask+1)) (bits h)
    pure (owner.setIfInBounds j (ai q),q+1))=_
   rw[d,f1];rfl
  rw[f,e,cS,show q+(r.length+1)=q+1+r.length by lia]
def Iq{mask:Nat}(b:MK mask)(h:Array Int)(c:h.size<=mask):∃owner,layClean mask h=ai owner/\Own mask (λi=>h.getD i 0) owner h.size:=by
 obtain⟨owner,e,o⟩:=Ep b (hs:=λi=>h.getD i 0) h.toList (Array.replicate (mask+1) aj) 0 (Lf mask _) (by rw[dN];lia) (λi a=>by
  rw[dN]at a;rw[mF,mD];simp[Array.getD,a])
 rw[dN,mD]at e o;refine⟨owner,?_,o⟩;unfold layClean;rw[<- Array.foldl_toList,e];rfl
noncomputable def live(mask:Nat)(owner:Array (Option Nat)):List (Nat×Nat):=(cY (mask+1)).filterMap λj=>(owner.getD j aj).map (j,·)
def yp{mask:Nat}{owner:Array (Option Nat)}(hz:owner.size=mask+1){j a:Nat}:(j,a)∈live mask owner↔owner[j]?=ai (ai a):=by
 unfold live;rw[x9];constructor;rintro⟨x,d,e⟩;cases q:owner.getD x aj with
 |none=>rw[q]at e;cases e
 |some b=>
  rw[q]at e;cases e;rw[jm]at q;cases c:owner[j]? with
  |none=>rw[c]at q;cases q
  |some z=>rw[c]at q;have q:z=ai a:=q;rw[q]
 intro h;have f:j<owner.size:=(pQ.mp h).1;exact⟨j,kO.mpr (by lia),by rw[jm,h];rfl⟩
def Lg(mask:Nat)(owner:Array (Option Nat)):(live mask owner).Pairwise λx y=>x.1<y.1:=by
 unfold live;refine Yb _ ?_ NI;intro a d h b hb e o;cases q:owner.getD a aj with
 |none=>rw[q]at hb;cases hb
 |some z=>
  cases c:owner.getD d aj with
  |none=>rw[c]at o;cases o
  |some f=>rw[q]at hb;rw[c]at o;cases hb;cases o;exact h
def Cn{owner:Array (Option Nat)}(hz:owner.size=n):owner.toList=(cY n).map λj=>owner.getD j aj:=by
 refine Bs λi=>?_;rw[mF,d8];by_cases h:i<n;rw[NJ h];have a:i<owner.size:=by lia
 simp[Array.getD,a];rw[rD (by lia),um (by simp;lia)];rfl
def Q3{mask:Nat}{hs:Nat->Int}{owner:Array (Option Nat)}{n:Nat}(o:Own mask hs owner n)(h:n<=mask+1):(live mask owner).length=n:=by
 unfold live;rw[List.length_filterMap_eq_countP];have e:List.countP (λj=>((owner.getD j aj).map λx=>(j,x)).isSome) (cY (mask+1))=owner.toList.countP Option.isSome:=by rw[Cn o.size,List.countP_map];congr 1;funext j;simp
 rw[e];have b:=List.length_eq_countP_add_countP (p:=Option.isNone) (l:=owner.toList);rw[o.cnt,dN,o.size]at b;have c:owner.toList.countP Option.isSome=List.countP (λa=>decide ¬ (Option.isNone a=bT)) owner.toList:=by congr 1;funext a;cases a <;> rfl
 lia
def Lh{mask n:Nat}(J:MK mask)(d:Array Int)(hz:d.size=n)(M:n<mask)(finger moves:Nat)(led plain:Bool) :
  ∃t' f,laid mask finger moves led plain d=ai (t',f)/\Good t' n/\t'.mask=mask/\t'.led=led/\t'.plain=plain/\f.size=n/\(∀m,m<n->f.getD m 0<n)/\
   (∀m g,m<n->g<n->f.getD m 0=f.getD g 0->m=g)/\(∀a,a<n->∃m,m<n/\f.getD m 0=a)/\Paths t' (λm=>d.getD (f.getD m 0) 0) n:=by
 refine aR (Iq J d (by lia)) λc e o=>?_;rw[hz]at o;have ll:=Q3 o (by lia);refine⟨{mask,place:=((live mask c).map (·.1)).toArray,dummies:=#[],finger,led,moves,plain},((live mask c).map (·.2)).toArray,?_,?_⟩;unfold laid;rw[e];rfl;have u:∀m,m<n->∃j a,(live mask c)[m]?=ai (j,a)/\(((live mask c).map (·.1)).toArray).getD m 0=j/\(((live mask c).map (·.2)).toArray).getD m 0=a/\c[j]?=ai (ai a):=λm h=>by
  have t:m<(live mask c).length:=by lia
  refine⟨((live mask c)[m]).1,((live mask c)[m]).2,cU t,?_,?_,(yp o.size).mp (nP t)⟩;simp[Array.getD,t];simp[Array.getD,t]
 have N:=rA.mp (Lg mask c);have l:vp (((live mask c).map (·.1)).toArray):=λi j O w=>by
  have w:j<(live mask c).length:=by simpa using w
  have y:i<(live mask c).length:=by lia
  have:=N i j y w O;simpa[Array.getD,y,w]using this
 have p:Good {mask,place:=((live mask c).map (·.1)).toArray,dummies:=#[],finger,led,moves,plain} n:=by refine⟨by simp[ll],l,λi y=>?_,rfl,J,M⟩;refine ux (u i y) λj a _ A _ s=>?_;show(((live mask c).map (·.1)).toArray).getD i 0<=mask;rw[A];have:=(pQ.mp s).1;have:=o.size;lia
 refine⟨p,rfl,rfl,rfl,by simp[ll],λm h=>?_,λm g h t q=>?_,λa h=>?_,λm h=>?_⟩;refine ux (u m h) λj a _ _ v s=>?_;rw[v];exact o.lt j a s;refine ux (u m h) λj a _ A v s=>?_;refine ux (u g t) λE X _ P F H=>?_;rw[v,F]at q;subst q;have L:=o.uniq a j E s H;rcases u9 m g with z|z|z;have:=l m g z (by simp[ll];exact t);lia;exact z;have:=l g m z (by simp[ll];exact h);lia;refine aR (o.at' a h) λj b _=>?_;obtain⟨m,I,Q⟩:=iZ.mp ((yp (mask:=mask) o.size).mpr b);refine⟨m,by lia,?_⟩;simp[Array.getD,I,Q];refine ux (u m h) λj a _ A v s=>?_;obtain⟨E,S,k,T,U⟩:=o.at' a (o.lt j a s);have L:=o.uniq a j E s S;subst L;dsimp only;rw[A,v];refine⟨k,T,λg I z=>?_⟩;have z:=(gn p _).mp z;have C:=U g I;have inr:(W mask (st mask (d.getD a 0)) g).j<=mask:=Xz mask _ g;unfold Dz at C;rw[jm]at C;cases q:c[(W mask (st mask (d.getD a 0)) g).j]? with
 |none=>have:=Oa.mp q;have:=o.size;lia
 |some x=>
  cases x with
  |none=>rw[q]at C;cases C
  |some b=>obtain⟨r,hr,er⟩:=iZ.mp ((yp (mask:=mask) o.size).mpr q);refine z r (by lia) ?_;dsimp only;simp[Array.getD,hr,er];rfl
end Tb
namespace Ts
open PySem PySem.SetTable Tb
structure q9(prog:dz)(w:bL)(K:Type)[DecidableEq K] extends HeapKind prog w K where
 Q4:∀{A:cy} {E:au->ay->Prop} {s:ay} {k:K} {a:av} {Q:Bool->ay->Prop},is s.heap k a->Q b4 s->aC (aE prog w) A (ofAClassStatement 8 (.ref a)) Q E s
 XA:∀{A:cy} {E:au->ay->Prop} {s:ay} {k:K} {a:av} {Q:Bool->ay->Prop},is s.heap k a->Q bT s->aC (aE prog w) A (hashByValue 8 (.ref a)) Q E s
 mono:∀{h h':aW} {k:K} {a:av},is h k a->(∀b o,h.get? b=ai o->o.cls=.type "tuple" ->h'.get? b=ai o)->is h' k a
section
variable {prog:dz}{w:bL}{K:Type}[DecidableEq K]{κ:q9 prog w K}
def stays(κ:q9 prog w K)(x:κ.is h k a)(c:h.get? d=ai o)(f:o.cls=.type "set")(s:iA d h h'):κ.is h' k a:=
 κ.mono x λb g e hb=>by
  rw[s.2 b ?_];exact e;rintro rfl;obtain rfl:=fJ (e.symm.trans c);rw[f]at hb;exact bi8 hb (by decide)
noncomputable def entry(κ:q9 prog w K)(x:K×av):Int×au:=(κ.hash x.1,.ref x.2)
structure ji(κ:q9 prog w K)(h:aW)(a:av)(led:Bool)(xs:List (K×av))(o:Obj)(ep:Nat)(t:iz):Prop where
 obj:h.get? a=ai o
 nY:o.ExactSet
 data:o.data=.set (xs.map (entry κ)).toArray ep t
 good:Good t xs.length
 JM:Paths t (λi=>((xs.map (entry κ)).toArray[i]?.map (·.1)).getD 0) xs.length
 Li:t.led=led
 plain:t.plain=bT
 lW:xs.length*5<t.mask*3
 keys:(xs.map (·.1)).Nodup
 each:∀x∈xs,κ.is h x.1 x.2
def fits_of(g:Good t n):t.fits n=bT:=by
 unfold SetTable.fits SetTable.fill;rw[g.dum,g.size];have:=g.lW;simp;lia
variable {A:cy}{E:au->ay->Prop}{s:ay}{a b:av}{led:Bool}{xs:List (K×av)}{o:Obj}{ep:Nat}{t:iz}{k:K}
def jy{Q:(Array (Int×au)×Nat×iz)->ay->Prop}(S:ji κ s.heap a led xs o ep t)(h:Q ((xs.map (entry κ)).toArray,ep,t) s):aC (aE prog w) A (setState a) Q E s:=
 MZ S.obj S.data (by simpa using fits_of S.good) h
def Uw{Q:Bool->ay->Prop}{l:List (K×av)}(i:κ.is s.heap k b)(hl:∀x∈l,κ.is s.heap x.1 x.2)(h:Q b4 s) :
  aC (aE prog w) A (searchCouldBeSeen (.ref b) (l.map λx=>f7 x.2)) Q E s:=by
 unfold searchCouldBeSeen;refine ak (mw _ (λc r d=>r.1=aj/\d=s/\∃(e:List (K×av)),c=e.map (λx:K×av=>f7 x.2)/\∀x∈e,κ.is s.heap x.1 x.2) _ ?_ ?_ _ _ ⟨rfl,rfl,l,rfl,hl⟩);rintro v c r d ⟨hr,rfl,e,g,hk⟩;cases e with
 |nil=>cases g
 |cons x e=>
  rw[bz]at g;injection g with j m;subst j;have nx:r.1=aj/\d=d/\∃(f:List (K×av)),c=f.map (λx:K×av=>f7 x.2)/\∀x∈f,κ.is d.heap x.1 x.2:=⟨hr,rfl,e,m,λy n=>hk y (pI _ n)⟩
  have J:=hk x vd;dsimp only;split;exact aB ⟨rfl,rfl,nx.2.2⟩;refine ak (κ.quiet i ?_);simp only[j6,d9,bi4];refine ak (κ.quiet J ?_);simp only[j6,d9,bi4];refine ak (κ.Q4 i ?_);simp only[d9,bi4];refine ak (κ.Q4 J ?_);simp only[d9,bi4];exact aB ⟨rfl,rfl,nx.2.2⟩
 rintro⟨r1,r2⟩ d ⟨hr,rfl,_⟩;simp only at hr;subst hr;exact aB h
def kR(xs:List (K×av))(i:Nat):(xs.map (entry κ)).toArray[i]?=xs[i]?.map (entry κ):=by simp
def Lj{Q:SetFound->ay->Prop}(S:ji κ s.heap a led xs o ep t)(hr:κ.room A)(T:κ.is s.heap k b)
  (hT:k∈xs.map (·.1)->Q (.there aj) s)
  (hF:k∉xs.map (·.1)->∀j,j<=t.mask->t.slot j=.empty->uH t (κ.hash k) j->Q (.free j b4) s)
  {D:Nat} (hD:D<=10*(t.mask+13)) (hE:t.slot (W t.mask (t.probeStart (κ.hash k)) D).j=.empty) (U:∀m,m<D->t.slot (W t.mask (t.probeStart (κ.hash k)) m).j≠.empty) :
  ∀(r g d:Nat),g+r=D->r<d->(∀m i,m<g->t.slot (W t.mask (t.probeStart (κ.hash k)) m).j=.live i->∀x,xs[i]?=ai x->x.1≠k)->
   ∀v:Option Probe,v.getD (t.probeStart (κ.hash k))=W t.mask (t.probeStart (κ.hash k)) g->
   aC (aE prog w) A (setSearchFrom a (.ref b) (κ.hash k) bT d v) Q E s:=by
 intro r;induction r using Nat.strongRecOn with
 |_ r ih=>
  intro g d X hf Y v tV;obtain⟨d,rfl⟩:∃f,d=f+1:=⟨d-1,by lia⟩
  unfold setSearchFrom;refine ak (jy S ?_);dsimp only;have I:t.gaveWay=b4:=by unfold SetTable.gaveWay;rcases S.good.msk with e|e|e <;> rw[e] <;> rfl
  rw[I];simp only[d9,bi4];have sp:=JL S.good (λi=>((xs.map (entry κ)).toArray[i]?.map (·.1)).getD 0) (κ.hash k) r (W t.mask (t.probeStart (κ.hash k)) g) (10*turns t.mask) (JH _ _ _ rfl) (by unfold turns;lia)
   (by rw[<- pZ,X];exact hE) (λm zL=>by rw[<- pZ];exact U _ (by lia))
  have C:t.probe (λi=>((xs.map (entry κ)).toArray[i]?.map (·.1)).getD 0) (κ.hash k) (v.getD (t.probeStart (κ.hash k)))=probe.go t (λi=>((xs.map (entry κ)).toArray[i]?.map (·.1)).getD 0) (κ.hash k) (10*turns t.mask) (W t.mask (t.probeStart (κ.hash k)) g):=by rw[tV];rfl
  rcases sp with⟨m,i,h1,J,h3,h4,h5,h6⟩|⟨h1,J⟩;have L:=C.trans h6;generalize p:t.probe _ (κ.hash k) (v.getD (t.probeStart (κ.hash k)))=pr;obtain rfl:=p.symm.trans L;dsimp only;obtain⟨x,Z⟩:∃x,xs[i]?=ai x:=⟨xs[i],cU J⟩
  have h:x∈xs:=iK Z;have l:aC (aE prog w) A (do
    let ai (_,y):=(xs.map (entry κ)).toArray[i]?|unsupported "internal:set-entry"
    let equal <- holding [y] (eqBool y (.ref b))
    let(zG,_,t') <- setState a
    if bT&&equal then return .there aj
    let ai same:=t'.sameMemory t.moves t.mask|unsupported "set.changed-during-lookup:is-the-new-block-at-the-old-address"
    let M <- match(if same then t'.slot (W t.mask (W t.mask (t.probeStart (κ.hash k)) g) m).j else .empty)with
     |.live n=>match zG[n]? with
      |some (_,y')=>do pure (if <- isSame y' y then ai n else aj)
      |none=>pure aj
     |_=>pure aj
    match M with
    |none=>rule "set.search.anew";setSearchFrom a (.ref b) (κ.hash k) bT d aj
    | some n=>if equal then return .there (ai n)else setSearchFrom a (.ref b) (κ.hash k) bT d (ai (W t.mask (W t.mask (t.probeStart (κ.hash k)) g) (m+1)))) Q E s:=by
   rw[kR,Z]
   dsimp only[Option.map,entry]
   refine ak (jb (κ.eqBool hr (S.each x h) T ?_))
   refine ak (jy S ?_)
   dsimp only
   by_cases hk:x.1=k
   ·rw[bh8 hk]
    simp only[Bool.and_self,bi5]
    exact aB (hT (aN.mpr ⟨x,h,hk⟩))
   ·rw[bh9 hk]
    simp only[Hj,d9,bi4]
    have JO:t.sameMemory t.moves t.mask=ai bT:=by unfold SetTable.sameMemory;rw[bh6 (by simp)]
    rw[JO]
    dsimp only
    rw[bh6 rfl,h3]
    dsimp only
    rw[kR,Z]
    dsimp only[Option.map,entry]
    refine ak (wpAny_isSame_ref_self (ak (aB ?_)))
    simp only[bi5]
    refine ih (r-(m+1)) (by lia) (g+(m+1)) d (by lia) (by lia) (λF n zL hl y z=>?_) _ (by rw[<- pZ];rfl)
    by_cases c1:F<g
    ·exact Y F n c1 hl y z
    ·obtain⟨q,rfl⟩:∃q,F=g+q:=⟨F-g,by lia⟩
     rw[pZ]at hl
     by_cases N:q<m
     ·intro e
      refine h5 q N n hl ?_
      show((xs.map (entry κ)).toArray[n]?.map (·.1)).getD 0=κ.hash k
      rw[kR,z]
      show κ.hash y.1=κ.hash k
      rw[e]
     ·have:q=m:=by lia
      subst this
      rw[h3]at hl
      cases hl
      rw[Z]at z
      cases z
      exact hk
  by_cases hl:led=bT;have O:t.led=bT:=S.Li.trans hl;rw[O];simp only[j6,d9,bi4];exact l;have O:t.led=b4:=S.Li.trans (uu.mpr hl);rw[O];simp only[BC,bi5];have el:((((xs.map (entry κ)).toArray.filter (·.1==κ.hash k))).toList.map (·.2))=(xs.filter λy=>κ.hash y.1==κ.hash k).map λy=>f7 y.2:=by rw[Array.toList_filter,List.filter_map,dY];rfl
  rw[el];refine ak (Uw T (λy z=>S.each y (sD.mp z).1) ?_);simp only[d9,bi4];exact l;have L:=C.trans J;generalize p:t.probe _ (κ.hash k) (v.getD (t.probeStart (κ.hash k)))=pr;obtain rfl:=p.symm.trans L;dsimp only;have ej:(W t.mask (W t.mask (t.probeStart (κ.hash k)) g) r).j=(W t.mask (t.probeStart (κ.hash k)) D).j:=by rw[<- pZ,X]
  rw[ej];refine aB (hF (λCo=>?_) _ (Xz t.mask _ D) hE ⟨D,rfl,U⟩);refine aR (aN.mp Co) λx h ek=>?_;obtain⟨i,P,ei⟩:=iZ.mp h;have Z:xs[i]?=ai x:=by rw[cU P,ei]
  refine aR (S.JM i P) λu p1 p2=>?_;have hh:(λi=>((xs.map (entry κ)).toArray[i]?.map (·.1)).getD 0) i=κ.hash k:=by show((xs.map (entry κ)).toArray[i]?.map (·.1)).getD 0=κ.hash k;rw[kR,Z];show κ.hash x.1=κ.hash k;rw[ek]
  rw[hh]at p1 p2;have H:t.slot (W t.mask (t.probeStart (κ.hash k)) u).j=.live i:=by rw[p1];exact AF S.good P
  have c1:u<D:=by rcases u9 u D with c|c|c;exact c;subst c;rw[H]at hE;cases hE;exact bi8 hE (p2 D c)
  by_cases N:u<g;exact Y u i N H x Z ek;obtain⟨q,rfl⟩:∃q,u=g+q:=⟨u-g,by lia⟩
  rw[pZ]at H;exact h1 q (by lia) i H hh
end
section
variable {prog:dz}{w:bL}{K:Type}[DecidableEq K]{κ:q9 prog w K}
variable {A:cy}{E:au->ay->Prop}{s:ay}{a b:av}{led:Bool}{xs:List (K×av)}{o:Obj}{ep:Nat}{t:iz}{k:K}
def ji.store(S:ji κ s.heap a led xs o ep t){ys:List (K×av)}(d:Good t' ys.length)(e:Paths t' (λi=>((ys.map (entry κ)).toArray[i]?.map (·.1)).getD 0) ys.length)(hl:t'.led=led)(v:t'.plain=bT)
  (hk:(ys.map (·.1)).Nodup) (f:∀x∈ys,κ.is s.heap x.1 x.2) :
  let h':=s.heap.update a (Obj.putSet (ys.map (entry κ)).toArray t')
  iA a s.heap h'/\h'.get? a=ai {o with data:=.set (ys.map (entry κ)).toArray (ep+1) t'}/\(∀x∈ys,κ.is h' x.1 x.2)/\
   (ys.length*5<t'.mask*3->ji κ h' a led ys {o with data:=.set (ys.map (entry κ)).toArray (ep+1) t'} (ep+1) t'):=by
 intro h';have c:iA a s.heap h':=fB ..;have Q:h'.get? a=ai {o with data:=.set (ys.map (entry κ)).toArray (ep+1) t'}:=by have:=nJ (Obj.putSet (ys.map (entry κ)).toArray t') S.obj (by rw[Bj _ t' S.data];rfl);rw[Bj _ t' S.data]at this;exact this
 have h:∀x∈ys,κ.is h' x.1 x.2:=λx g=>stays κ (f x g) S.obj S.nY.1 c;exact⟨c,Q,h,λj=>⟨Q,S.nY,rfl,d,e,hl,v,j,hk,h⟩⟩
def sZ(h:(M=32/\16<=n/\n<32)\/(M=128/\64<=n/\n<128)):sizeAbove n=M:=by
 unfold sizeAbove;rcases h with⟨rfl,c,d⟩|⟨rfl,c,d⟩;unfold sizeAbove.go;rw[bh6 (by lia)];unfold sizeAbove.go;rw[bh6 (by lia)];unfold sizeAbove.go;rw[bh7 (by lia)];unfold sizeAbove.go;rw[bh6 (by lia)];unfold sizeAbove.go;rw[bh6 (by lia)];unfold sizeAbove.go;rw[bh6 (by lia)];unfold sizeAbove.go;rw[bh6 (by lia)];unfold sizeAbove.go;rw[bh7 (by lia)]
def zO(l:List α)(p:Nat)(x y:α):y∈l.take p++x::l.drop p↔y=x\/y∈l:=by
 rw[i6,cK];have:y∈l↔y∈l.take p\/y∈l.drop p:=by rw[<- i6,nN]
 rw[this];constructor;rintro(h|h|h);exact .inr (.inl h);exact .inl h;exact .inr (.inr h);rintro(h|h|h);exact .inr (.inl h);exact .inl h;exact .inr (.inr h)
def Lk{l:List α}(p:Nat)(h:l.Nodup)(c:x∉l):(l.take p++x::l.drop p).Nodup:=by
 have e:(l.take p++x::l.drop p).Perm (x::l):=by refine NK.trans ?_;rw[nN]
 exact e.nodup_iff.mpr (kX.mpr ⟨c,h⟩)
def reorder(l:List α)(c:Array Nat)(hl:l.length=n)(r:c.size=n)(u:∀m,m<n->c.getD m 0<n) :
  (c.toList.filterMap (λi=>l[i]?)).length=n/\∀m,m<n->(c.toList.filterMap (λi=>l[i]?))[m]?=l[c.getD m 0]?:=by
 have f:∀(q:List Nat),(∀i∈q,i<l.length)->(q.filterMap (λi=>l[i]?)).length=q.length/\∀m,m<q.length->(q.filterMap (λi=>l[i]?))[m]?=l[q.getD m 0]?:=by
  intro q;induction q with
  |nil=>intro _;exact⟨rfl,λm h=>bi8 h (jK _)⟩
  |cons i q v=>
   intro h;have d:=h i vd;obtain⟨x,y⟩:=v λj z=>h j (pI _ z);rw[Nv (b:=l[i]) (cU d)];refine⟨by rw[cS,cS,x],λm g=>?_⟩;cases m with
   |zero=>simp[cU d]
   |succ m=>simpa using y m (by simpa using g)
 have g:∀i∈c.toList,i<l.length:=λi d=>by
  obtain⟨m,C,F⟩:=iZ.mp d;have p:m<c.size:=by rw[<- dN];exact C
  have:=u m (by lia);have e:c.getD m 0=i:=by simp[Array.getD,p];rw[<- F];simp
  lia
 obtain⟨H,I⟩:=f c.toList g;refine⟨by rw[H,dN,r],λm h=>?_⟩;rw[I m (by rw[dN];lia)];congr 1;have p:m<c.size:=by lia
 simp[Array.getD,List.getD,p]
def Q6{Q:Unit->ay->Prop}(r:s.heap.get? a=ai o)(F:o.ExactSet)(hd:o.data=.set (xs.map (entry κ)).toArray ep t)(X:Good t xs.length)(hl:t.led=led)(Y:t.plain=bT)(hk:(xs.map (·.1)).Nodup)(Z:∀x∈xs,κ.is s.heap x.1 x.2)
  (H:MK M) (I:sizeAbove wanted=M+1) (hn:xs.length*5<M*3)
  (h:∀h' o' BL t' ys,iA a s.heap h'->ji κ h' a led ys o' BL t'->(∀x,x∈ys↔x∈xs)->ys.length=xs.length->Q () {s with heap:=h'}):aC (aE prog w) A (setRelay a wanted) Q E s:=by
 unfold setRelay;refine ak (MZ r hd (by simpa using fits_of X) ?_);dsimp only;have hM':M<200:=by rcases H with e|e|e <;> lia
 rw[bh7 (by rw[I,gf];lia)];obtain⟨t',d,e1,g1,e2,e3,e4,e5,g,e7,e8,e9⟩:=Lh (n:=xs.length) H (((xs.map (entry κ)).toArray).map (·.1)) (by simp) (by lia) t.finger (t.movedTo M) t.led t.plain;have u:t.relaid (((xs.map (entry κ)).toArray).map (·.1)) wanted=ai (t',d):=by unfold SetTable.relaid;rw[I,Bq];exact e1
 rw[u];obtain⟨r1,r2⟩:=reorder xs d rfl e5 g;have v:d.filterMap (λi=>((xs.map (entry κ)).toArray)[i]?)=((d.toList.filterMap (λi=>xs[i]?)).map (entry κ)).toArray:=by apply BA.mp;rw[Array.toList_filterMap,List.map_filterMap];congr 1;funext i;rw[kR]
 refine ak (rf (a:=(((d.toList.filterMap (λi=>xs[i]?)).map (entry κ)).toArray,t')) ?_ ?_)
 ·show(do
   if(d.filterMap (λi=>((xs.map (entry κ)).toArray)[i]?)).size !=((xs.map (entry κ)).toArray).size then unsupported "internal:set-table-lost-an-element"
   pure (d.filterMap (λi=>((xs.map (entry κ)).toArray)[i]?),t'):Sem (Array (Int×au)×iz))=_
  rw[v,bh7 (by simp[r1])];first|done|rfl
 dsimp only;have l:(d.toList.filterMap (λi=>xs[i]?)).length=xs.length:=r1;have n:∀x,x∈d.toList.filterMap (λi=>xs[i]?)↔x∈xs:=λx=>by
  rw[x9];constructor;rintro⟨i,_,e⟩;exact iK e;intro y;obtain⟨i,f,ei⟩:=iZ.mp y;refine aR (e8 i f) λm hm em=>?_;have J:m<d.size:=by lia
  refine⟨i,?_,by rw[cU f,ei]⟩;have:d[m]=i:=by rw[<- em];simp[Array.getD,J]
  rw[<- this];exact Ar.mpr (Array.getElem_mem J)
 have nd:((d.toList.filterMap (λi=>xs[i]?)).map (·.1)).Nodup:=by
  rw[rB,rA];intro i j f p lU e;rw[bw,l]at f p;have L:=r2 i f;have N:=r2 j p;rw[cU (by lia),cU (g i f)]at L;rw[cU (by lia),cU (g j p)]at N;rw[uq,uq,fJ L,fJ N]at e;have O:=rA.mp (rB.mp hk);have P:d.getD i 0<(xs.map (·.1)).length:=by rw[bw];exact g i f
  have S:d.getD j 0<(xs.map (·.1)).length:=by rw[bw];exact g j p
  rcases u9 (d.getD i 0) (d.getD j 0)with c|c|c;exact O _ _ P S c (by rw[uq,uq];exact e);have:=e7 i j f p c;lia;exact O _ _ S P c (by rw[uq,uq];exact e.symm)
 have C:Paths t' (λi=>(((d.toList.filterMap (λi=>xs[i]?)).map (entry κ)).toArray[i]?.map (·.1)).getD 0) (d.toList.filterMap (λi=>xs[i]?)).length:=by
  rw[l];intro i f;have q:=e9 i f;have ee:(((d.toList.filterMap (λi=>xs[i]?)).map (entry κ)).toArray[i]?.map (·.1)).getD 0=(((xs.map (entry κ)).toArray).map (·.1)).getD (d.getD i 0) 0:=by rw[kR,r2 i f];generalize d.getD i 0=z;rw[jm,Array.getElem?_map,kR]
  show uH t' ((((d.toList.filterMap (λi=>xs[i]?)).map (entry κ)).toArray[i]?.map (·.1)).getD 0) (t'.place.getD i 0);rw[ee];exact q
 have T:iA a s.heap (s.heap.update a (Obj.putSet ((d.toList.filterMap (λi=>xs[i]?)).map (entry κ)).toArray t')):=fB ..;have U:=nJ (Obj.putSet ((d.toList.filterMap (λi=>xs[i]?)).map (entry κ)).toArray t') r (by rw[Bj _ t' hd];rfl);rw[Bj _ t' hd]at U;refine N1 r hd (h _ _ (ep+1) t' (d.toList.filterMap (λi=>xs[i]?)) T ⟨U,F,rfl,by rw[l];exact g1,C,e3.trans hl,e4.trans Y,by rw[l,e2];exact hn,nd,λx y=>stays κ (Z x ((n x).mp y)) r F.1 T⟩ n l) ?_;rw[dP,bw,l,gf];lia
def Zp{Q:Bool->ay->Prop}(S:ji κ s.heap a led xs o ep t)(hr:κ.room A)(g:κ.is s.heap k b)(hn:xs.length<60)
  (h:∀c h' n p t' ys,iA a s.heap h'->ji κ h' a led ys n p t'->(∀x∈ys,x∈xs\/x=(k,b))->(∀x∈xs,x∈ys)->k∈ys.map (·.1)->ys.length<=xs.length+1->Q c {s with heap:=h',toks:=s.toks+κ.draws k}) :
  aC (aE prog w) A (setAdd a (.ref b)) Q E s:=by
 unfold setAdd;refine jb (ak (κ.pyHash hr g ?_));have C:ji κ ({s with toks:=s.toks+κ.draws k}:ay).heap a led xs o ep t:=S;have qT:κ.is ({s with toks:=s.toks+κ.draws k}:ay).heap k b:=g;refine cA (dist S.good (κ.hash k)) λD d1 d2 d3=>?_;have hm:t.mask<=127:=by rcases S.good.msk with e|e|e <;> lia
 unfold setAddHashed setAddHashedIn;refine jb (ak (jy C ?_));dsimp only;have I:byScan (.ref b) (xs.map (entry κ)).toArray=b4:=by simp[byScan,Value.scannable]
 rw[I];simp only[d9,bi4];unfold setSearch;refine ak (Lj C hr qT (λL=>?_) (λL j hj he hp=>?_) d1 d2 d3 D 0 100000 (by lia) (by lia) (λm i h0=>bi8 h0 (jK _)) aj rfl);dsimp only;refine aB (h b4 s.heap o ep t xs (.refl ..) S (λx g=>.inl g) (λx g=>g) L (by lia));dsimp only;refine ak (jy C ?_);dsimp only;have r:xs.length+1<t.mask:=by have:=S.lW;rcases S.good.msk with e|e|e <;> rw[e]at this ⊢ <;> lia
 refine vL (Em S.good hj he r) λg1 p1 p2 p3 p4 p5=>?_;have N:(t.put j).1.plain=bT:=by rw[Ip S.good];exact S.plain
 have u:(t.put j).1.led=led:=by rw[Ip S.good];exact S.Li
 rw[N];simp only[bi5];refine ak (κ.XA qT ?_);simp only[bi5];have v:jo (xs.map (entry κ)).toArray (t.put j).2 (κ.hash k,f7 b)=((xs.take (below t.place j)++(k,b)::xs.drop (below t.place j)).map (entry κ)).toArray:=by apply BA.mp;rw[toList_ins,p1,j4,bz,GH,GI];rfl
 rw[v];have l:(xs.take (below t.place j)++(k,b)::xs.drop (below t.place j)).length=xs.length+1:=by rw[bX,cS,kF,ua];lia
 have nd:((xs.take (below t.place j)++(k,b)::xs.drop (below t.place j)).map (·.1)).Nodup:=by rw[j4,bz,GH,GI];exact Lk _ S.keys L
 have d:∀x,x∈(xs.take (below t.place j)++(k,b)::xs.drop (below t.place j))↔x=(k,b)\/x∈xs:=λx=>zO _ _ _ _;have O:∀x∈(xs.take (below t.place j)++(k,b)::xs.drop (below t.place j)),κ.is s.heap x.1 x.2:=λx J=>by rcases(d x).mp J with e|e;rw[e];exact g;exact S.each x e
 have P:Paths (t.put j).1 (λi=>(((xs.take (below t.place j)++(k,b)::xs.drop (below t.place j)).map (entry κ)).toArray[i]?.map (·.1)).getD 0) (xs.length+1):=by refine Ld S.good hj he r S.JM (h:=κ.hash k) (λi hi=>?_) hp;rw[<- v,p1,sI _ _ _ (by simp;exact p2)];by_cases F:i<below t.place j;rw[bh6 F,bh6 F];rw[bh7 F,bh7 F];by_cases H:i=below t.place j;rw[bh6 H,bh6 H];rfl;rw[bh7 H,bh7 H]
 obtain⟨sb,Q5,T,S2⟩:=ji.store (s:={s with toks:=s.toks+κ.draws k}) C (t':=(t.put j).1) (by rw[l];exact g1) (by rw[l];exact P) u N nd O;refine ak (N1 S.obj S.data ?_ (by rw[dP,bw,l,gf];lia));have y:∀h' n p t' ys,iA a s.heap h'->ji κ h' a led ys n p t'->(∀x,x∈ys↔x∈(xs.take (below t.place j)++(k,b)::xs.drop (below t.place j)))->ys.length=xs.length+1->Q bT {s with heap:=h',toks:=s.toks+κ.draws k}:=
  λh' n p t' ys U X z q4=>h bT h' n p t' ys U X (λx J=>((d x).mp ((z x).mp J)).symm) (λx J=>(z x).mpr ((d x).mpr (.inr J))) (aN.mpr ⟨(k,b),(z _).mpr ((d _).mpr (.inl rfl)),rfl⟩) (by lia)
 have tf:(t.put j).1.tooFull=decide ((xs.length+1)*5 ≥ t.mask*3):=by unfold SetTable.tooFull SetTable.fill;rw[g1.dum,g1.size,p3];simp
 rw[tf];simp only[BC,uv];by_cases f:(xs.length+1)*5 ≥ t.mask*3;rw[bh6 (bh8 f)];have lW:=S.lW;have hM:∃M,MK M/\sizeAbove (SetTable.grown ((xs.map (entry κ)).toArray.size+1))=M+1/\(xs.length+1)*5<M*3:=by
  have eg:SetTable.grown ((xs.map (entry κ)).toArray.size+1)=(xs.length+1)*4:=by unfold SetTable.grown;rw[dP,bw,bh7 (by lia)]
  rw[eg];rcases S.good.msk with e|e|e;rw[e]at f lW;exact⟨31,.inr (.inl rfl),sZ (.inl ⟨rfl,by lia,by lia⟩),by lia⟩;rw[e]at f lW;exact⟨127,.inr (.inr rfl),sZ (.inr ⟨rfl,by lia,by lia⟩),by lia⟩;rw[e]at f;lia
 refine cA hM λM Y Z hM3=>?_;clear hM;refine ak (Q6 (κ:=κ) (M:=M) (led:=led) (s:={s with heap:=_,toks:=_}) Q5 S.nY rfl (by rw[l];exact g1) u N nd T Y Z (by rw[l];exact hM3) λh' n p t' ys U X z q4=>?_);exact aB (y h' n p t' ys (sb.trans U) X z (q4.trans l));rw[bh7 (by simp;lia)];refine aB (y _ _ _ _ _ sb (S2 (by rw[l,p3];lia)) (λx=>Iff.rfl) l)
end
section
variable {prog:dz}{w:bL}{K:Type}[DecidableEq K]{κ:q9 prog w K}
variable {A:cy}{R:Result->ay->Prop}{s:ay}{a b:av}{led:Bool}{xs:List (K×av)}{o:Obj}{ep:Nat}{t:iz}
def ji.keep{h':aW}(S:ji κ h a led xs o ep t)(e:∀b o,h.get? b=ai o->(b=a\/o.cls=.type "tuple")->h'.get? b=ai o):ji κ h' a led xs o ep t:=
 ⟨e _ _ S.obj (.inl rfl),S.nY,S.data,S.good,S.JM,S.Li,S.plain,S.lW,S.keys,λx d=>κ.mono (S.each x d) λb o q c=>e b o q (.inr c)⟩
def Ux{ys:List (K×av)}(hh:A.handled=aj)(t6:κ.room A.in1)(f:S≠I)(C:S≠l)(E:l≠I)(hn:ys.length<=50) :
  ∀(r i:Nat) (s:ay) (xs:List (K×av)) (o:Obj) (ep:Nat) (t:iz),i+r=ys.length->s.heap.IsListIter I l i->s.heap.IsList l (ys.map λy=>f7 y.2).toArray->ji κ s.heap S led xs o ep t->
   (∀y∈ys,κ.is s.heap y.1 y.2)->(∀x∈xs,x∈ys)->(∀j y,j<i->ys[j]?=ai y->y.1∈xs.map (·.1))->xs.length<=i->
   (∀h' tk F H t' n,(∀b ob,b≠S->b≠I->s.heap.get? b=ai ob->h'.get? b=ai ob)->ji κ h' S led n F H t'->(∀x∈n,x∈ys)->(∀y∈ys,y.1∈n.map (·.1))->R (.ok (.ret .none)) {s with heap:=h',toks:=tk})->
   codeAny (aE prog w) A (.builtin "set.update.loop" ⟨[.ref S,.ref I],[]⟩) R s:=by
 intro r;induction r with
 |zero=>intro i s xs o ep t hi h hl hS hk J hd hz L;refine mz Ow ?_;rw[rH Hr _];refine ak (m:=pyNext (.ref I)) (X5 hh h hl (by simp;lia) λh' U=>?_);refine aB (L h' s.toks o ep t xs (λb ob _ k e=>U b ob k e) (hS.keep λb ob e c=>U b ob ?_ e) J λy d=>?_);rintro rfl;rcases c with c|c;exact f c.symm;refine cA h λoi m k _=>?_;clear h;obtain rfl:=fJ (e.symm.trans m);rw[k]at c;exact bi8 c (by decide);obtain⟨j,X,ej⟩:=iZ.mp d;exact hd j y (by lia) (by rw[cU X,ej])
 |succ r ih=>
  intro i s xs o ep t hi h hl hS hk J hd hz L;have g:i<ys.length:=by lia
  refine mz Ow ?_;rw[rH Hr _];refine ak (m:=pyNext (.ref I)) (X4 h hl (x:=.ref (ys[i]).2) (by simp[g]) λm Uy N=>?_);have p:∀b ob,s.heap.get? b=ai ob->ob.cls=.type "tuple" ->b≠I:=λb ob e c z=>by subst z;refine cA h λoi O P _=>?_;clear h;obtain rfl:=fJ (e.symm.trans O);rw[P]at c;exact bi8 c (by decide)
  have Y:∀b ob,s.heap.get? b=ai ob->(b=S\/ob.cls=.type "tuple")->m.get? b=ai ob:=λb ob e c=>by rw[N.2 b ?_];exact e;rcases c with c|c;rw[c];exact f;exact p b ob e c
  have S1:ji κ ({s with heap:=m}:ay).heap S led xs o ep t:=hS.keep Y;have u:∀y∈ys,κ.is m y.1 y.2:=λy d=>κ.mono (hk y d) λb ob e c=>Y b ob e (.inr c);have Z:ys[i]∈ys:=nP g;dsimp only;refine ak (jb (Zp S1 t6 (u _ Z) (by lia) λc k o2 Q t2 n M S2 m1 m2 m3 m4=>?_));refine aB ⟨wV Hr _,?_⟩;have tupS:∀b ob,m.get? b=ai ob->ob.cls=.type "tuple" ->b≠S:=λb ob e c z=>by subst z;obtain rfl:=fJ (e.symm.trans S1.obj);rw[S1.nY.1]at c;exact bi8 c (by decide)
  refine ih (i+1) _ n o2 Q t2 (by lia) (Uy.at λob e=>by rw[M.2 _ (eW f)];exact e) ?_ S2 (λy d=>κ.mono (u y d) λb ob e c=>by rw[M.2 b (tupS b ob e c)];exact e)
   (λx qT=>?_) (λj y X d=>?_) (by lia) λh' tk F H t' ws O P q3 q4=>?_
  refine hl.at λob e=>?_;show k.get? l=_;rw[M.2 _ (eW C),N.2 _ E];exact e;rcases m1 x qT with e|e;exact J x e;rw[e];exact Z;by_cases c:j<i;refine aR (aN.mp (hd j y c d)) λx T JN=>?_;exact aN.mpr ⟨x,m2 x T,JN⟩;have:j=i:=by lia
  subst this;rw[cU g]at d;obtain rfl:=fJ d;exact m3;refine L h' tk F H t' ws (λb ob v Dy e=>O b ob v Dy ?_) P q3 q4;show k.get? b=_;rw[M.2 b v,N.2 b Dy];exact e
end
section
variable {w:bL}{K:Type}[DecidableEq K]{κ:q9 prog w K}
variable {A:cy}{s:ay}
noncomputable def je(w:bL):Bool:=!(w.params.followText "set-order")
noncomputable def jz(w:bL):Obj:={cls:=.type "set",dict:=aj,data:=.set #[] 0 (.fresh 0 0 (je w))}
def Ir(w:bL):Good (SetTable.fresh 0 0 (je w)) 0:=⟨rfl,λi j _ h=>bi8 h (jK _),λi h=>bi8 h (jK _),rfl,.inl rfl,(by show 0<7;decide)⟩
def Iu{h:aW}(e:h.get? a=ai (jz w)):ji κ h a (je w) [] (jz w) 0 (.fresh 0 0 (je w)):=
 ⟨e,⟨rfl,rfl,rfl⟩,rfl,Ir w,λi h=>bi8 h (jK _),rfl,rfl,(by show 0*5<7*3;decide),GP,λx h=>bi8 h (by simp)⟩
def Q7(v:au){Q₁:au->ay->Prop}(h:Q₁ (.ref s.heap.objs.size) {s with heap:=s.heap.push (jz w)}) :
  codeAny (aE prog w) A (.call (.builtin "set.__new__") ⟨[.type "set",v],[]⟩) (wants Q₁ E) s:=by
 refine codeAny_of_tree ?_;show aC _ A.in1 (checkBuiltinCall "set.__new__" ⟨[.type "set",v],[]⟩>>=λ_=>again (.builtin "set.__new__" ⟨[.type "set",v],[]⟩)) _ _ s;refine ak (rf (F.newCall_set_1 v) (aB ⟨wV Ox _,mz F.entry_set_new ?_⟩));rw[rH Ox _];unfold Builtin.«set.__new__» Builtin.Frozenset.newClass;have own:=sub_set_self;obtain ⟨a,g,d,tk,o⟩:=s;dsimp only
 wp_walk
 refine Gi (aB ?_);dsimp only;simp only[newObj];exact ak (wpAny_alloc (aB (aB h)))
def Q8{ys:List (K×av)}{Q:au->ay->Prop}(U:A.handled=aj)(X:κ.room A.in1.in1.in1)(hl:s.heap.IsList l (ys.map λy=>f7 y.2).toArray)(Y:ys.length<=50)(hk:∀y∈ys,κ.is s.heap y.1 y.2)
  (h:∀h' tk o ep t z,(∀b ob,s.heap.get? b=ai ob->h'.get? b=ai ob)->ji κ h' s.heap.objs.size (je w) z o ep t->(∀x∈z,x∈ys)->(∀y∈ys,y.1∈z.map (·.1))->Q (.ref s.heap.objs.size) {s with heap:=h',toks:=tk}) :
  aC (aE prog w) A (call (.type "set") [.ref l]) Q E s:=by
 refine rJ pR.mro λc tl Z=>?_;have M:=pR.made;have sub:=pR.sub;have n1:=pR.notType;have n2:=pR.canCreate;have ct:=F.typeCall_set_1 (.ref l);refine Bh (codeAny_of_tree ?_);show aC _ _ (callAny (.type "set") _) _ _ _;refine aB ⟨Hs _ (by decide +kernel),mz F.entry_type_call ?_⟩;rw[Around.under_plain (weight_type_call_type "set" [.ref l] []) rfl];repeat any_goals first|assumption|wp_step
 refine tY (Q7 (.ref l) (E:=E) (Q₁:=λa N=>a=.ref s.heap.objs.size/\N={s with heap:=s.heap.push (jz w)}) ⟨rfl,rfl⟩) λr N hr=>?_;cases r with
 |error e=>exact hr
 |ok fl=>
  cases fl with
  |ret a=>
   obtain⟨rfl,rfl⟩:=hr;have g:(s.heap.push (jz w)).get? s.heap.objs.size=ai (jz w):=eY _ rfl;have ty:Shared.TypeIs {s with heap:=s.heap.push (jz w)} (.ref s.heap.objs.size) "set":=⟨_,g,rfl⟩
   have li:=pR.init.lookup;have bi:=pR.init.bind (.ref s.heap.objs.size);repeat any_goals first|assumption|wp_step
   refine tY (codeAny_call_builtin (R:=wants (λr T=>r=.none/\∃h' tk o ep t z,T={s with heap:=h',toks:=tk}/\(∀b ob,s.heap.get? b=ai ob->h'.get? b=ai ob)/\ji κ h' s.heap.objs.size (je w) z o ep t/\(∀x∈z,x∈ys)/\(∀y∈ys,y.1∈z.map (·.1))) E)
    pR.init.plain F.entry_set_init (check_set_init_1 ty ?_)) λk T m=>?_
   ·obtain⟨ol,d,O,nl,f⟩:=hl;obtain⟨bg4,n,be4,Zq⟩:=ol;simp only at O f;subst O;subst f;have p:(s.heap.push (jz w)).get? l=ai {cls:=.type "list",dict:=n,data:=.seq (ys.map λy=>f7 y.2).toArray nl,slots:=Zq}:=bP _ d;have s1:=F.sub_list_set;have s2:=F.sub_list_frozenset;have s3:(pH "list"==pH "dict")=b4:=by decide
    have i:(s.heap.push (jz w)).IsList l (ys.map λy=>f7 y.2).toArray:=⟨_,p,rfl,nl,rfl⟩
    have bg5:(s.heap.push (jz w)).get? s.heap.objs.size=ai { cls:=.type "set",dict:=aj,data:=.set #[] 0 (.fresh 0 0 (je w)) }:=g;unfold Builtin.«set.__init__» noKeywords Builtin.Frozenset.updateFrom;generalize u:pyIter=PI
    wp_walk
    subst u;refine MT i ?_;refine ak (wpAny_runValue ?_);have P:l<s.heap.objs.size:=bZ d;have v:(s.heap.push (jz w)).objs.size=s.heap.objs.size+1:=by rw[Ao]
    have d1:s.heap.objs.size≠(s.heap.push (jz w)).objs.size:=by rw[v];exact dM (Aq _)
    have d2:s.heap.objs.size≠l:=DH P;have d3:l≠(s.heap.push (jz w)).objs.size:=by rw[v];exact dM (x8 P)
    refine Ux (κ:=κ) (led:=je w) (ys:=ys) (by simp[U]) X d1 d2 d3 Y ys.length 0 _ [] (jz w) 0 (.fresh 0 0 (je w)) (by lia)
     ?h1 ?h2 ?h3 ?hk (λx hx=>bi8 hx (by simp)) (λj y hj=>bi8 hj (jK _)) (b9 _) λh' tk o ep t z C H I J=>?_
    case h1=>exact⟨_,eY _ rfl,rfl,rfl⟩
    case h2=>exact i.push _
    case h3=>exact Iu (bP _ g)
    case hk=>exact λy hy=>κ.mono (hk y hy) λb ob e _=>bP _ (bP _ e)
    refine aB (aB ⟨rfl,h',tk,o,ep,t,z,rfl,λb ob e=>?_,H,I,J⟩);have S:=bZ e;exact C b ob (dM S) (by rw[v];exact dM (x8 S)) (bP _ (bP _ e))
   cases k with
   |error e=>exact m
   |ok L=>
    cases L with
    |ret r=>
     obtain⟨rfl,h',tk,o,ep,t,z,rfl,C,H,I,J⟩:=m;repeat any_goals first|assumption|wp_step
     exact h h' tk o ep t z C H I J
    |_=>exact m.elim
  |_=>exact hr.elim
end
def iS:Slot "set_iterator" "__next__" "set_iterator.__next__" :=
 .of (owner:="set_iterator") (n:="__next__") (by rw[typeLookup_type,builtinLookup_eq_fast];kernel_rfl) (by decide +kernel)
  (by decide +kernel) (by decide +kernel) (by first|exact .inl (by decide +kernel)|exact .inr (by decide +kernel))
  (by rw[isSubtype_type];kernel_rfl)
def qc:entryFor table "set_iterator.__next__" =ai Builtin.«set_iterator.__next__»:=N2 (by kernel_rfl)
def qW(a:au):argsOk "set_iterator.__next__" ⟨[a],[]⟩:=by unfold argsOk;kernel_rfl
def yq:entryFor table "set.__iter__" =ai Builtin.«frozenset.__iter__» :=
 entryFor_alias (id':="frozenset.__iter__") (by kernel_rfl) rfl (by decide +kernel) (by kernel_rfl)
theorem JP(next:Nat->Nat):∀(f k:Nat) (left:List α) (o:Array α),f=left.length->(pickOrder.go next f k left o).toList.Perm (o.toList++left)
 |0,k,left,o,h=>by
  have:left=[]:=pK.mp h.symm;subst this;unfold pickOrder.go;simp
 |f+1,k,left,o,h=>by
  unfold pickOrder.go;have g:next k % left.length<left.length:=rq _ (by lia)
  rw[cU g];dsimp only;refine(JP next f (k+1) _ _ (by rw[List.length_eraseIdx_of_lt g];lia)).trans ?_;rw[H8,fQ];refine Oq _ ?_;have e:left=left.take (next k % left.length)++left[next k % left.length]::left.drop (next k % left.length+1):=by rw[<- ud g,nN]
  have a:left.eraseIdx (next k % left.length)=left.take (next k % left.length)++left.drop (next k % left.length+1):=NL _ _;rw[a];refine List.Perm.trans ?_ (List.Perm.of_eq e.symm);rw[List.singleton_append];exact NK.symm
def AH(next:Nat->Nat)(xs:Array α):(pickOrder next xs).toList.Perm xs.toList:=by
 have:=JP next xs.size 0 xs.toList #[] (by simp)
 simpa[pickOrder]using this
section
variable {prog:dz}{w:bL}{K:Type}[DecidableEq K]{κ:q9 prog w K}
variable {A:cy}{E:au->ay->Prop}{s:ay}{a:av}{xs:List (K×av)}{o:Obj}{ep:Nat}{t:iz}
noncomputable def jJ(w:bL)(a:av)(ep:Nat)(es:Array (Int×au)):Array (Int×au):=if w.params.followText "set-order"then pickOrder (w.params.setOrder a ep) es else es
def uI(w:bL)(a:av)(ep:Nat)(es:Array (Int×au)):(jJ w a ep es).toList.Perm es.toList:=by
 unfold jJ;split;exact AH _ _;exact .refl _
noncomputable def slotAt(w:bL)(t:iz)(m:Nat):Nat:=if w.params.followText "set-order"then 0 else if m=0 then 0 else t.place.getD (m-1) 0+1
def AI(h:aW)(I a:av)(n ep b m:Nat):Prop:=∃c,h.get? I=ai c/\c.cls=.type "set_iterator" /\c.data=.fields #[rawInt b,rawInt m,.ref a,rawInt n,rawInt ep]
def AI.typeIs{n ep b m:Nat}(x:AI s.heap I a n ep b m):s.TypeIs (.ref I) "set_iterator":=let⟨ob,h,c,_⟩:=x;⟨ob,h,c⟩
def uJ{Q:Bool->ay->Prop}(h:Q (w.params.followText "set-order") s):aC (aE prog w) A setsByText Q E s:=by
 unfold setsByText;exact ak (Gi (aB h))
def JQ{Q:Option (au×Nat)->ay->Prop}(S:ji κ s.heap a (je w) xs o ep t)(u:m<=xs.length)
  (h1:∀e,(jJ w a ep (xs.map (entry κ)).toArray)[m]?=ai e->Q (ai (e.2,slotAt w t (m+1))) s) (h:m=xs.length->Q aj s) :
  aC (aE prog w) A (setNext a (slotAt w t m) m ep) Q E s:=by
 unfold setNext;refine ak (jy S ?_);dsimp only;refine ak (uJ ?_);by_cases hb:w.params.followText "set-order"=bT;rw[bh6 hb];simp only[bi9,d9,bi4];unfold setWalk;refine ak (ak (jy S ?_));dsimp only;refine ak (uJ ?_);rw[bh6 hb];refine ak (Gi (aB ?_));have d:jJ w a ep (xs.map (entry κ)).toArray=pickOrder (w.params.setOrder a ep) (xs.map (entry κ)).toArray:=by unfold jJ;rw[bh6 hb]
 have k:∀q,slotAt w t q=0:=λq=>by unfold slotAt;rw[bh6 hb]
 have v:(pickOrder (w.params.setOrder a ep) (xs.map (entry κ)).toArray).size=xs.length:=by rw[<- dN,(AH _ _).length_eq];simp
 refine aB ?_;show Q ((pickOrder (w.params.setOrder a ep) (xs.map (entry κ)).toArray)[m]?.map λe=>(e.2,slotAt w t m)) s;cases q:(pickOrder (w.params.setOrder a ep) (xs.map (entry κ)).toArray)[m]? with
 |none=>have:=Oa.mp q;exact h (by lia)
 |some e=>have:=h1 e (by rw[d];exact q);rw[k]at this ⊢;exact this
 rw[bh7 hb];have d:jJ w a ep (xs.map (entry κ)).toArray=(xs.map (entry κ)).toArray:=by unfold jJ;rw[bh7 hb]
 have l:t.led=bT:=by rw[S.Li];unfold je;rw[uu.mpr hb];rfl
 have bl:below t.place (slotAt w t m)=m:=by unfold slotAt;rw[bh7 hb];by_cases c:m=0;rw[bh6 c,c];refine xH (nX S.good.rise 0) λi f g=>?_;rcases Nk (below t.place 0)with z|z;exact z;exact bi8 (f 0 z) (jK _);rw[bh7 c];refine xH (nX S.good.rise (t.place.getD (m-1) 0+1)) λi f g=>?_;rw[S.good.size]at i g;rcases u9 (below t.place (t.place.getD (m-1) 0+1)) m with z|z|z;have:=g (m-1) (by lia) (by lia);lia;exact z;have y:=f m z;have C:=S.good.rise (m-1) m (by lia) (by rw[S.good.size];lia);lia
 refine wpAny_ite ?_;split;rename_i hd;exfalso;have:(!t.plain&&decide ((xs.map (entry κ)).toArray.size > 1))=bT:=hd;rw[S.plain]at this;cases this;refine ak (rf (a:=()) ?_ ?_);show(if(!t.led && !((xs.map (entry κ)).toArray).isEmpty)=bT then(unsupported "set:maker-not-led" : Sem Unit)else pure ())=pure ();rw[l];rfl;refine aB ?_;show Q (match((xs.map (entry κ)).toArray)[below t.place (slotAt w t m)]?,t.place[below t.place (slotAt w t m)]? with
  |some (_,x),ai j=>ai (x,j+1)
  | _,_=>aj) s
 rw[bl];by_cases c:m<xs.length;have b:((xs.map (entry κ)).toArray)[m]?=ai (entry κ xs[m]):=by rw[kR,cU c];rfl
 have n:m<t.place.size:=by rw[S.good.size];exact c
 have p:t.place[m]?=ai (t.place.getD m 0):=by simp[Array.getD,n]
 rw[b,p];have:=h1 (entry κ xs[m]) (by rw[d];exact b);unfold slotAt at this;rw[bh7 hb,bh7 (by lia),Bq]at this;exact this;have r:m=xs.length:=by lia
 have b:((xs.map (entry κ)).toArray)[m]?=aj:=by rw[kR,um (by lia)];rfl
 rw[b];exact h r
end
section
variable {prog:dz}{w:bL}{K:Type}[DecidableEq K]{κ:q9 prog w K}
variable {A:cy}{E:au->ay->Prop}{s:ay}{a I:av}{xs:List (K×av)}{o:Obj}{ep:Nat}{t:iz}
def rQ{Q:Array (Int×au)->ay->Prop}{led:Bool}(S:ji κ s.heap a led xs o ep t)(h:Q (xs.map (entry κ)).toArray s):aC (aE prog w) A (setEntries a) Q E s:=by
 unfold setEntries;exact ak (jy S (aB h))
def Uz{Q:au->ay->Prop}(S:ji κ s.heap a (je w) xs o ep t)(c:xs.length<=50)
  (h:Q (.ref s.heap.objs.size) {s with heap:=s.heap.push {cls:=.type "set_iterator",data:=.fields #[rawInt (slotAt w t 0),rawInt ((0:Nat):Int),.ref a,rawInt xs.length,rawInt ep]}}):aC (aE prog w) A (pyIter (.ref a)) Q E s:=by
 have ty:s.TypeIs (.ref a) "set":=⟨o,S.obj,S.nY.1⟩
 refine Bk ty Oz (iy Oz ty yq ?_ (F.args_set_iter_1 _));unfold Builtin.«frozenset.__iter__» Builtin.Frozenset.slot0 slotArgs;simp only[GQ,j6,d9,bi4,bind_assoc,nQ,bi9];unfold Builtin.Frozenset.addrOf Builtin.Frozenset.sizeOf;refine ak (aB ?_);try dsimp only
 refine ak (aB ?_);refine ak (ak (rQ S (aB ?_)));refine ak ?_;unfold setDrawn;refine ak (jy S ?_);dsimp only;refine ak (uJ (aB ?_));rw[bh7 (by
  intro z;have z:(!(w.params.followText "set-order")&&(!t.plain&&decide ((xs.map (entry κ)).toArray.size > 1)))=bT:=z;rw[S.plain]at z;simp at z)]
 refine ak (aB ?_);have b:slotAt w t 0=0:=by unfold slotAt;split <;> rfl
 rw[b]at h;refine ak ?_;unfold setEpoch;refine ak (jy S (aB ?_));dsimp only;unfold newFields;refine ak (kN (aB ⟨_,rfl,"set_iterator",_,⟨_,eY _ rfl,rfl⟩,iS.lookup,?_⟩));simpa using h
def Qa{Q:Option au->ay->Prop}(S:ji κ s.heap a (je w) xs o ep t)(h:AI s.heap I a xs.length ep (slotAt w t m) m)(g:(jJ w a ep (xs.map (entry κ)).toArray)[m]?=ai e)
  (c:m<xs.length) (i:∀h',AI h' I a xs.length ep (slotAt w t (m+1)) (m+1)->iA I s.heap h'->Q (ai e.2) {s with heap:=h'}):aC (aE prog w) A (pyNext (.ref I)) Q E s:=by
 refine cA (id h) λl b j hd=>?_;unfold pyNext;refine ak (pB (p9 (name:=kI "__next__") h.typeIs iS (iy iS h.typeIs qc ?_ (qW _))));unfold Builtin.«set_iterator.__next__» slotArgs;simp only[GQ,j6,d9,bi4,bind_assoc,nQ,bi9];refine ak (aB ?_);dsimp only;refine ak (tZ b hd ?_);dsimp only[rawInt];refine ak (rQ S ?_);rw[bh7 (by simp)];simp only[kJ];refine ak (JQ S (jc c) (λk U=>?_) (λz=>bi8 z (dM c)));obtain rfl:e=k:=fJ (g.symm.trans U);dsimp only;refine ak (r9 b hd (by simp) ?_);have d:=uw hd (·.setIfInBounds 0 (rawInt (slotAt w t (m+1):Nat)));have g1:=nJ (Obj.mapFields (·.setIfInBounds 0 (rawInt (slotAt w t (m+1):Nat)))) b (BE d);refine ak (r9 g1 d (by simp) ?_);have f:=uw d (·.setIfInBounds 1 (rawInt ((m:Int)+1)));have g2:=nJ (Obj.mapFields (·.setIfInBounds 1 (rawInt ((m:Int)+1)))) g1 (BE f);refine aB ⟨_,rfl,aB (i _ ⟨_,g2,?_,?_⟩ ((fB ..).trans (fB ..)))⟩;rw[Hq,Hq];exact j;rw[f];simp[rawInt]
def UA{Q:Option au->ay->Prop}(d:A.handled=aj)(S:ji κ s.heap a (je w) xs o ep t)(h:AI s.heap I a xs.length ep (slotAt w t xs.length) xs.length)
  (e:∀h',Heap.ExtBut I s.heap h'->Q aj {s with heap:=h'}):aC (aE prog w) A (pyNext (.ref I)) Q E s:=by
 refine cA (id h) λf c g hd=>?_;unfold pyNext;refine ak (pB (p9 (name:=kI "__next__") h.typeIs iS (iy iS h.typeIs qc ?_ (qW _))));unfold Builtin.«set_iterator.__next__» slotArgs;simp only[GQ,j6,d9,bi4,bind_assoc,nQ,bi9];refine ak (aB ?_);dsimp only;refine ak (tZ c hd ?_);dsimp only[rawInt];refine ak (rQ S ?_);rw[bh7 (by simp)];simp only[kJ];have i:(jJ w a ep (xs.map (entry κ)).toArray).size=xs.length:=by rw[<- dN,(uI _ _ _ _).length_eq];simp
 refine ak (JQ S (b9 _) (λj U=>?_) (λz=>?_));rw[rD (by lia)]at U;cases U;dsimp only;refine ak (r9 c hd (by simp) ?_);refine ak ?_;simp only[newExc,newTuple];refine ak (kN ?_ (by size_fits));refine ak (m:=u0 _ _) (rf (a:=eL) (by first|rfl|(simp only[u0];rfl)) ?_);refine kN ?_ (by size_fits);simp only[raiseNew];refine ak (Gj ?_);have b:A.in1.handled=aj:=d;rw[b];refine ak (aB (Gk ?_));refine ak (rg (T:="StopIteration") (b:=bT) ⟨_,eY _ rfl,rfl⟩ Gm ?_);exact aB (e _ (((fB ..).extBut.push _).push _))
def Ll(O:A.handled=aj)(d:L≠I)(u:L≠a)(v:a≠I)(hn:xs.length<=50) :
  ∀(r m:Nat) (s:ay),m+r=xs.length->ji κ s.heap a (je w) xs o ep t->AI s.heap I a xs.length ep (slotAt w t m) m->
   (∃n,s.heap.get? L=ai (fz "list" (((jJ w a ep (xs.map (entry κ)).toArray).toList.take m).map (·.2)).toArray n))->
   (∀h' n,(∀b ob,b≠L->b≠I->s.heap.get? b=ai ob->h'.get? b=ai ob)->h'.get? L=ai (fz "list" ((jJ w a ep (xs.map (entry κ)).toArray).toList.map (·.2)).toArray n)->R (.ok (.ret res)) {s with heap:=h'})->
   codeAny (aE prog w) A (.builtin "list.extend.loop" ⟨[.ref L,.ref I,res],[]⟩) R s:=by
 have sz:(jJ w a ep (xs.map (entry κ)).toArray).size=xs.length:=by rw[<- dN,(uI _ _ _ _).length_eq];simp
 have H:entryFor table "list.extend.loop" =ai Builtin.«list.extend.loop»:=N2 (by kernel_rfl);have y:plainId "list.extend.loop" =bT:=by decide +kernel
 intro r;induction r with
 |zero=>
  intro m s P S h ⟨n,hL⟩ z;have Q:m=xs.length:=by lia
  subst Q;refine mz H ?_;rw[rH y _];refine ak (m:=pyNext (.ref I)) (UA O S h λh' J=>?_);refine aB (z h' n (λb ob _ T e=>J b ob T e) ?_);have:=J L _ d hL;rw[uf (by rw[dN];lia)]at this;exact this
 |succ r X=>
  intro m s P S h ⟨n,hL⟩ z;have C:m<xs.length:=by lia
  have g:m<(jJ w a ep (xs.map (entry κ)).toArray).size:=by lia
  refine mz H ?_;rw[rH y _];refine ak (m:=pyNext (.ref I)) (Qa S h (xw g) C λf U M=>?_);have i:f.get? L=ai (fz "list" (((jJ w a ep (xs.map (entry κ)).toArray).toList.take m).map (·.2)).toArray n):=by rw[M.2 L d];exact hL
  refine ak (Hh i rfl ?_ (by simp;rw[gf];lia) (by simp;rw[gf];lia));refine aB ⟨wV y _,?_⟩;have F:=fB f L (dg λx=>x.push ((jJ w a ep (xs.map (entry κ)).toArray)[m]).2);have tup:∀b ob,s.heap.get? b=ai ob->(b=a\/ob.cls=.type "tuple")->b≠I/\b≠L:=λb ob e c=>by constructor;rintro rfl;rcases c with c|c;exact v c.symm;refine cA h λq j k _=>?_;clear h;obtain rfl:=fJ (e.symm.trans j);rw[k]at c;exact bi8 c (by decide);rintro rfl;rcases c with c|c;exact u c;obtain rfl:=fJ (e.symm.trans hL);exact bi8 (show pH "list"=pH "tuple"from c) (by decide)
  refine X (m+1) _ (by lia) (S.keep λb ob e c=>?_) ?_ ?_ λh' l j k=>?_;obtain⟨Y,Z⟩:=tup b ob e c;show(f.update L _).get? b=_;rw[F.2 b Z,M.2 b Y];exact e;refine aR U λq j k=>?_;clear U;exact⟨q,(by show(f.update L _).get? I=_;rw[F.2 I (eW d)];exact j),k⟩;obtain⟨l,xO⟩:∃l,(f.update L (dg λx=>x.push ((jJ w a ep (xs.map (entry κ)).toArray)[m]).2)).get? L=ai (fz "list" ((((jJ w a ep (xs.map (entry κ)).toArray).toList.take m).map (·.2)).toArray.push ((jJ w a ep (xs.map (entry κ)).toArray)[m]).2) l):=⟨_,Hi i _⟩
  refine⟨l,xO.trans ?_⟩;congr 2;rw[NN,cU (by rw[dN];exact g)];simp;refine z h' l (λb ob p N e=>j b ob p N ?_) k;show(f.update L _).get? b=_;rw[F.2 b p,M.2 b N];exact e
end
section
variable {prog:dz}{w:bL}{K:Type}[DecidableEq K]{κ:q9 prog w K}
variable {A:cy}{E:au->ay->Prop}{s:ay}{a:av}{xs:List (K×av)}{o:Obj}{ep:Nat}{t:iz}
def UB{Q:Bool->ay->Prop}(hT:s.TypeIs (.ref a) "set")(h:∀c tk,Q c {s with toks:=tk}):aC (aE prog w) A (Builtin.List.listLengthHint (.ref a)) Q E s:=by
 unfold Builtin.List.listLengthHint;refine ak (pC hT F.slot_set_len.lookup ?_);have b:splitId "set.__len__"=ai ("set","__len__"):=by kernel_rfl
 dsimp only;rw[b];dsimp only;refine ak (rg hT sub_set_self ?_);rw[j6,bh7 jd];rw[bh6 (by decide +kernel)];refine ak (wR hT ?_);exact aB (h b4 s.toks)
def Es{Q:List au->ay->Prop}(y:A.handled=aj)(S:ji κ s.heap a (je w) xs o ep t)(r:xs.length<=50)
  (h:∀h' tk vs,(∀b ob,s.heap.get? b=ai ob->h'.get? b=ai ob)->vs.Perm (xs.map λx=>f7 x.2)->Q vs {s with heap:=h',toks:=tk}):aC (aE prog w) A (collect (.ref a)) Q E s:=by
 unfold collect;refine ak (wpAny_runValue (mz Y5 ?_));refine ak (m:=newList []) (wU (aB ⟨Hs _ (by decide +kernel),mz Y6 ?_⟩));show aC _ _ (Builtin.List.listExtendWith (.ref s.heap.objs.size) (.ref a) (.ref s.heap.objs.size)) _ _ {s with heap:=s.heap.push (fz "list" #[] 0)};unfold Builtin.List.listExtendWith;have j:a<s.heap.objs.size:=bZ S.obj;have S1:ji κ ({s with heap:=s.heap.push (fz "list" #[] 0)}:ay).heap a (je w) xs o ep t:=S.keep λb ob e _=>bP _ e;have k:Shared.TypeIs {s with heap:=s.heap.push (fz "list" #[] 0)} (.ref a) "set":=⟨o,S1.obj,S1.nY.1⟩
 refine ak (wR k ?_);have z:Builtin.List.listSameRef (.ref s.heap.objs.size) (.ref a)=b4:=by show(s.heap.objs.size==a)=b4;exact bi3.mpr (DH j)
 rw[z,bh7 (by decide)];refine ak (Uz S1 r ?_);have d:(s.heap.push (fz "list" #[] 0)).objs.size=s.heap.objs.size+1:=by rw[Ao]
 generalize l:({cls:=.type "set_iterator",data:=.fields #[rawInt (slotAt w t 0),rawInt ((0:Nat):Int),.ref a,rawInt xs.length,rawInt ep]}:Obj)=ob;have C:((s.heap.push (fz "list" #[] 0)).push ob).get? (s.heap.push (fz "list" #[] 0)).objs.size=ai ob:=eY _ (by rw[<- l];rfl);have Z:((s.heap.push (fz "list" #[] 0)).push ob).get? s.heap.objs.size=ai (fz "list" #[] 0):=bP _ (eY _ rfl);have S2:ji κ ((s.heap.push (fz "list" #[] 0)).push ob) a (je w) xs o ep t:=S1.keep λb ob e _=>bP _ e;refine ak (jb (UB (s:={s with heap:=(s.heap.push (fz "list" #[] 0)).push ob}) ⟨o,S2.obj,S2.nY.1⟩ λc tk=>?_));refine wpAny_ite ?_;split
 ·refine ak (wN ?_);unfold Builtin.List.listTouch;refine ak (ak (Hh Z rfl ?_ (by simp) (by simp)));obtain⟨u,g1⟩:∃u,(((s.heap.push (fz "list" #[] 0)).push ob).update s.heap.objs.size (dg (·.push .none))).get? s.heap.objs.size=ai (fz "list" (#[].push .none) u):=⟨_,Hi Z _⟩
  refine Hh g1 rfl ?_ (by simp;rw[gf];decide) (by simp);obtain⟨m,g2⟩:∃m,((((s.heap.push (fz "list" #[] 0)).push ob).update s.heap.objs.size (dg (·.push .none))).update s.heap.objs.size (dg (·.pop))).get? s.heap.objs.size=ai (fz "list" (#[].push .none).pop m):=⟨_,Hi g1 _⟩
  have i:=(fB ((s.heap.push (fz "list" #[] 0)).push ob) s.heap.objs.size (dg (·.push .none))).trans (fB _ s.heap.objs.size (dg (·.pop)));generalize ((((s.heap.push (fz "list" #[] 0)).push ob).update s.heap.objs.size (dg (·.push .none))).update s.heap.objs.size (dg (·.pop)))=g at g2 i ⊢;have n:s.heap.objs.size≠(s.heap.push (fz "list" #[] 0)).objs.size:=by rw[d];exact dM (Aq _)
  have f:s.heap.objs.size≠a:=DH j;have p:a≠(s.heap.push (fz "list" #[] 0)).objs.size:=by rw[d];exact dM (x8 j)
  refine aB ⟨Hs _ (by decide +kernel),?_⟩;refine Ll (κ:=κ) (a:=a) (xs:=xs) (o:=o) (ep:=ep) (t:=t) (by simp[y]) n f p r xs.length 0 _ (by lia) ?h1 ?h2 ⟨m,g2⟩ λh' L F H=>?_;case h1=>refine S2.keep λb U e c=>?_;show g.get? b=_;rw[i.2 b ?_];exact e;rintro rfl;rcases c with c|c;exact f c;obtain rfl:=fJ (e.symm.trans Z);exact bi8 (show pH "list"=pH "tuple"from c) (by decide)
  case h2=>exact⟨ob,(by show g.get? _=_;rw[i.2 _ (eW n)];exact C),by rw[<- l],by rw[<- l]⟩
  have v:=(uI w a ep (xs.map (entry κ)).toArray).map (·.2);have I:(xs.map (entry κ)).toArray.toList.map (·.2)=xs.map λx=>f7 x.2:=by simp[entry]
  rw[I]at v;show aC _ _ (load s.heap.objs.size>>=λob=>match ob.data with |.seq xs _=>pure xs.toList|_=>unsupported "internal:collect") _ _ _;refine ak (wpAny_load H ?_);refine aB (h h' tk _ (λb U e=>F b U (dM (bZ e)) (by rw[d];exact dM (x8 (bZ e))) ?_) (by simpa using v));show g.get? b=_;rw[i.2 b (dM (bZ e))];exact bP _ (bP _ e)
 rename_i J;refine bi8 ?_ J;rw[kZ];exact .inr (by decide +kernel)
end
end Ts
namespace Dm
open PySem PyProof.Rows L2 PySem.SeqAt
def aG.tup{K:aF}{H b:Hp}{a:av}{xs:List V}(e:aG H b)(h:lT K H a xs):lT K b a xs:=by
 rcases h with(h|⟨o,h⟩)|h;exact .inl (.inl (e _ _ h));exact .inl (.inr ⟨o,e _ _ h⟩);exact .inr h
noncomputable def er(H:Hp)(A:List av):Hp:=λa=>if a∈A then aj else H a
def dG(h:a∈A):er H A a=aj:=bh6 h
def aU(h:a∉A):er H A a=H a:=bh7 h
def aH(H:Hp)(A:List av):aG (er H A) H:=λb o h=>by
 by_cases q:b∈A;rw[dG q]at h;cases h;rwa [aU q]at h
def aJ(e:aG H a):aG (er H A) (er a A):=λb o h=>by
 by_cases q:b∈A;rw[dG q]at h;cases h;rw[aU q]at h ⊢;exact e b o h
structure Cfg where
 ob:Nat->aF->Hp->av->List V->Prop
 mono:∀{t:Nat} {K:aF} {H H':Hp} {a:av} {vs:List V},aG H H'->ob t K H a vs->ob t K H' a vs
 own:aF->Hp->Hp->av->List V->Prop
 JR:∀{K:aF} {F F' H H':Hp} {a:av} {vs:List V},aG F F'->H' a=H a->own K F H a vs->own K F' H' a vs
 XE:∀{K:aF} {F G H:Hp} {a:av} {vs:List V},own K F H a vs->aG F G->G a=H a->ob 2 K G a vs
 aA5:∀{K:aF} {F H:Hp} {a:av} {vs:List V},own K F H a vs->∃φ,H a=ai (.ext φ)
 gl:Hp->Prop
 glM:∀{H H':Hp},aG H H'->gl H->gl H'
structure GL where
 p:Hp->Prop
 m:∀{H H':Hp},aG H H'->p H->p H'
def aA6:Cfg:=⟨λ_ _ _ _ _=>False,λ_ h=>h,λ_ _ _ _ _=>False,λ_ _ h=>h,λh _ _=>h,λh=>h.elim,λ_=>True,λ_ h=>h⟩
mutual
def Rep(K:aF)(C:Cfg):Hp->D->V->Prop
 |_,.cR,v=>v=.cR
 |_,.bl b,v=>v=.bl b
 |_,.int i,v=>v=.int i
 |_,.str x,v=>v=.str x
 |H,.tup d,v=>∃a c,v=.ref a/\lT K H a c/\aM K C H d c
 |H,.lst d,v=>∃a c,v=.ref a/\k9 K H a c/\aM K C (er H [a]) d c
 |H,.bN t d,v=>∃a c,v=.ref a/\C.ob t K H a c/\aM K C H d c
def aM(K:aF)(C:Cfg):Hp->List D->List V->Prop
 |_,[],a=>a=[]
 |H,d::b,a=>∃v r,a=v::r/\Rep K C H d v/\aM K C H b r
end
section
variable {K:aF}{C:Cfg}
mutual
theorem Rep.same:∀{H k:Hp} (e:aG H k) (d:D) {v:V},Rep K C H d v->Rep K C k d v
 |_,_,e,.cR,v,q=>by rw[Rep]at q ⊢;exact q
 |_,_,e,.bl b,v,q=>by rw[Rep]at q ⊢;exact q
 |_,_,e,.int i,v,q=>by rw[Rep]at q ⊢;exact q
 |_,_,e,.str x,v,q=>by rw[Rep]at q ⊢;exact q
 |_,_,e,.tup c,v,q=>by
  rw[Rep]at q ⊢;refine bC q λa f h g j=>?_;clear q;exact⟨a,f,h,aG.tup e g,aM.same e c j⟩
 |_,_,e,.lst c,v,q=>by
  rw[Rep]at q ⊢;refine bC q λa f h g j=>?_;clear q;exact⟨a,f,h,e.seq g,aM.same (aJ e) c j⟩
 |_,_,e,.bN t c,v,q=>by
  rw[Rep]at q ⊢;refine bC q λa f h g j=>?_;clear q;exact⟨a,f,h,C.mono e g,aM.same e c j⟩
theorem aM.same:∀{H c:Hp} (e:aG H c) (ds:List D) {vs:List V},aM K C H ds vs->aM K C c ds vs
 |_,_,e,[],_,q=>by rw[aM]at q ⊢;exact q
 |_,_,e,d::ds,_,q=>by
  rw[aM]at q ⊢;refine bC q λv r f a b=>?_;clear q;exact⟨v,r,f,Rep.same e d a,aM.same e ds b⟩
end
variable {H:Hp}
def Rep.items(q:Rep K C H (.lst ds) v):∃a xs,v=.ref a/\k9 K H a xs/\aM K C H ds xs:=by
 rw[Rep]at q;refine bC q λa xs h b c=>?_;clear q;exact⟨a,xs,h,b,c.same (aH _ _) _⟩
theorem aM.len:∀{ds:List D} {vs:List V},aM K C H ds vs->vs.length=ds.length
 |[],_,e=>by rw[aM]at e;subst e;rfl
 |d::ds,_,e=>by
  rw[aM]at e;refine bC e λv r b _ q=>?_;clear e;obtain rfl:=b;rw[cS,cS,q.len]
theorem aM.get':∀{ds:List D} {vs:List V} {j:Nat} {d:D},aM K C H ds vs->ds[j]?=ai d->∃v,vs[j]?=ai v/\Rep K C H d v
 |[],_,j,v,e,h=>by cases h
 |d::ds,_,j,v,e,h=>by
  rw[aM]at e;refine bC e λu r b a q=>?_;clear e;obtain rfl:=b;cases j with
  |zero=>cases h;exact⟨u,rfl,a⟩
  |succ j=>refine aR (q.get' (j:=j) (by simpa using h)) λz c f=>?_;exact⟨z,by simpa using c,f⟩
def aM.nil:aM K C H [] []:=by rw[aM]
def aM.cons(a:Rep K C H d v)(b:aM K C H ds vs):aM K C H (d::ds) (v::vs):=by rw[aM];exact⟨v,vs,rfl,a,b⟩
theorem aM.app:∀{ds es:List D} {vs ws:List V},aM K C H ds vs->aM K C H es ws->aM K C H (ds++es) (vs++ws)
 |[],_,_,_,a,b=>by rw[aM]at a;subst a;exact b
 |d::ds,_,_,_,a,b=>by
  rw[aM]at a;refine bC a λv r c e f=>?_;clear a;obtain rfl:=c;exact .cons e (f.app b)
theorem aM.take:∀{ds:List D} {vs:List V} (n:Nat),aM K C H ds vs->aM K C H (ds.take n) (vs.take n)
 |[],_,n,a=>by rw[aM]at a;subst a;simp[aM]
 |d::ds,_,0,a=>by simp[aM]
 |d::ds,_,n+1,a=>by
  rw[aM]at a;refine bC a λv r b c e=>?_;clear a;obtain rfl:=b;rw[NO,NO];exact .cons c (e.take n)
theorem aM.drop:∀{ds:List D} {vs:List V} (n:Nat),aM K C H ds vs->aM K C H (ds.drop n) (vs.drop n)
 |[],_,n,a=>by rw[aM]at a;subst a;simp[aM]
 |d::ds,_,0,a=>a
 |d::ds,_,n+1,a=>by
  rw[aM]at a;refine bC a λv r b e c=>?_;clear a;obtain rfl:=b;rw[NP,NP];exact c.drop n
theorem aM.ints:∀ns:List Int,aM K C H (ns.map D.int) (ns.map V.int)
 |[]=>.nil
 |n::ns=>.cons (by rw[Rep]) (aM.ints ns)
end
section
variable {s:ay}
mutual
theorem Inv.dat(I:Inv X l σ H s):∀(d:D) {v:V} {u:au},flat d=bT->Rep X.K C H d v->RelV v u->fL s.heap d u
 |.cR,v,u,_,q,r=>by rw[Rep]at q;subst q;rw[fL];exact r
 |.bl b,v,u,_,q,r=>by rw[Rep]at q;subst q;rw[fL];exact r
 |.int i,v,u,_,q,r=>by rw[Rep]at q;subst q;rw[fL];exact r
 |.str x,v,u,_,q,r=>by rw[Rep]at q;subst q;rw[fL];exact r
 |.tup c,v,u,f,q,r=>by
  rw[Rep]at q;rw[flat]at f;refine bC q λa k e h g=>?_;clear q;obtain rfl:=e;obtain rfl:u=.ref a:=r;refine cA (I.tuple h) λj r1 t _=>?_;rw[fL];exact⟨a,j.toArray,rfl,t,Inv.Et I c f g r1⟩
 |.lst c,v,u,f,q,r=>by
  have q:=q.items;rw[flat]at f;refine bC q λa k e h g=>?_;clear q;obtain rfl:=e;obtain rfl:u=.ref a:=r;refine cA (I.list h) λj r1 t _=>?_;rw[fL];exact⟨a,j.toArray,rfl,t,Inv.Et I c f g r1⟩
 |.bN m c,v,u,f,q,r=>by rw[flat]at f;cases f
theorem Inv.Et(I:Inv X e σ H s):∀(ds:List D) {vs:List V} {u:List au},cC ds=bT->aM X.K C H ds vs->Vals vs u->bH s.heap ds u
 |[],_,_,_,q,r=>by rw[aM]at q;subst q;cases r;rw[bH]
 |d::ds,_,_,f,q,r=>by
  rw[aM]at q;refine bC q λv g c a b=>?_;clear q;obtain rfl:=c;rw[cC,bI]at f;cases r with
  |cons r1 r2=>rw[bH];exact⟨_,_,rfl,Inv.dat I d f.1 a r1,Inv.Et I ds f.2 b r2⟩
end
def Zs(K:aF)(C:Cfg)(n:Bool):R2:=λx y H Q=>∃d e,Rep K C H d x/\Rep K C H e y/\flat d=bT/\flat e=bT/\dep d<=60/\Q (.bl (if n then !iJ d e else iJ d e)) H
def Qc(c:X.A.units+64<cLine):qx X (i0 .Eq) (Zs X.K C b4):=by
 intro f s g H x y v u Q I r a ⟨d,e,h,b,f1,f2,i,q⟩;exact Zk d e f1 f2 (Inv.dat I d f1 h r) (Inv.dat I e f2 b a) (by lia) _ _ _ _ ⟨.bl (iJ d e),H,I,rfl,q⟩
def Qd(c:X.A.units+64<cLine):qx X (i0 .NotEq) (Zs X.K C bT):=by
 intro f s g H x y v u Q I r a ⟨d,e,h,b,f1,f2,i,q⟩;exact PX d e f1 f2 (Inv.dat I d f1 h r) (Inv.dat I e f2 b a) (by lia) _ _ _ _ ⟨.bl (!iJ d e),H,I,rfl,q⟩
def Zt(K:aF)(C:Cfg)(n:Bool):R2:=λx y H Q=>∃d a,Rep K C H d x/\(Rep K C H (.lst a) y\/Rep K C H (.tup a) y)/\flat d=bT/\cC a=bT/\jU a<=60/\Q (.bl (if n then !(a.any λe=>iJ e d)else a.any λe=>iJ e d)) H
def vq(h:aW)(d:D)(y:au):Bool:=@decide (∃e,fL h e y/\iJ e d=bT) (Classical.propDecidable _)
def Eu(q:fL h e y):vq h d y=iJ e d:=by
 unfold vq;cases z:iJ e d with
 |true=>exact @bh8 _ (Classical.propDecidable _) ⟨e,q,z⟩
 |false=>refine @bh9 _ (Classical.propDecidable _) ?_;rintro⟨b,c,a⟩;rw[fL.inj e b q c]at z;rw[z]at a;cases a
theorem n8:∀(es:List D) {ys:List au},bH h es ys->ys.any (vq h d)=es.any λe=>iJ e d
 |[],_,q=>by rw[bH]at q;subst q;rfl
 |e::es,_,q=>by
  rw[bH]at q;refine bC q λv r c a b=>?_;clear q;obtain rfl:=c;rw[pM,pM,Eu a,n8 es b]
def nZ{A:cy}(c:flat d=bT)(h:fL s.heap d x)(f:cC es=bT)(q:bH s.heap es ys)(k:A.units+jU es<cLine):∀y∈ys,EqAt A s y x (vq s.heap d y):=λy g=>by
 obtain⟨j,i,e⟩:=iZ.mp g;obtain⟨a,b⟩:=q.get j i;rw[e]at a;rw[Eu a];have:=iV b;exact pY _ _ (eO f b) c a h (by lia)
def Qe(l:X.A.units+64<cLine):qx X (i0 .In) (Zt X.K C b4):=by
 intro m s n H x y v u Q I i r ⟨d,b,j,c,f1,f2,o,q⟩;have hd:=Inv.dat I d f1 j i;rcases c with c|c;have h:=Inv.dat I (.lst b) (by rw[flat];exact f2) c r;rw[fL]at h;refine bC h λa k f t p=>?_;clear h;obtain rfl:=f;refine in_listAt (vq s.heap d) t.isList (λy g=>nZ f1 hd f2 p (by show X.A.units+1+_<_;lia) y (Ar.mpr g)) ?_;rw[<- BB,n8 b p];exact⟨.bl (b.any λe=>iJ e d),H,I,rfl,q⟩;have h:=Inv.dat I (.tup b) (by rw[flat];exact f2) c r;rw[fL]at h;refine bC h λa k f t p=>?_;clear h;obtain rfl:=f;refine in_tupleAt (vq s.heap d) (aQ t) (λy g=>nZ f1 hd f2 p (by show X.A.units+1+_<_;lia) y (Ar.mpr g)) ?_;rw[<- BB,n8 b p];exact⟨.bl (b.any λe=>iJ e d),H,I,rfl,q⟩
def AJ(l:X.A.units+64<cLine):qx X (i0 .NotIn) (Zt X.K C bT):=by
 intro m s n H x y v u Q I i r ⟨d,b,j,c,f1,f2,o,q⟩;have hd:=Inv.dat I d f1 j i;rcases c with c|c;have h:=Inv.dat I (.lst b) (by rw[flat];exact f2) c r;rw[fL]at h;refine bC h λa k f t p=>?_;clear h;obtain rfl:=f;refine notIn_listAt (vq s.heap d) t.isList (λy g=>nZ f1 hd f2 p (by show X.A.units+1+_<_;lia) y (Ar.mpr g)) ?_;rw[<- BB,n8 b p];exact⟨.bl (!b.any λe=>iJ e d),H,I,rfl,q⟩;have h:=Inv.dat I (.tup b) (by rw[flat];exact f2) c r;rw[fL]at h;refine bC h λa k f t p=>?_;clear h;obtain rfl:=f;refine notIn_tupleAt (vq s.heap d) (aQ t) (λy g=>nZ f1 hd f2 p (by show X.A.units+1+_<_;lia) y (Ar.mpr g)) ?_;rw[<- BB,n8 b p];exact⟨.bl (!b.any λe=>iJ e d),H,I,rfl,q⟩
end
end Dm
namespace Dm
open PySem PyProof.Rows L2 PySem.SeqAt Ts
theorem wz(r:Vals ws vs):∀(p:List Nat),(∀i∈p,i<ws.length)->Vals (p.map λi=>ws.getD i .cR) (p.map λi=>vs.getD i eL)
 |[],_=>.nil
 |i::p,h=>by
  refine .cons ?_ (wz r p λj b=>h j (.tail _ b));have a:=h i (.head _);refine aR (r.get (cU a)) λu c d=>?_;have e:ws.getD i .cR=ws[i]:=by simp[a]
  have f:vs.getD i eL=u:=by simp[c]
  show RelV (ws.getD i .cR) (vs.getD i eL);rw[e,f];exact d
theorem wA{K:aF}{H:Hp}{ws:List V}{ds:List D}(r:aM K C H ds ws):∀(p:List Nat),(∀i∈p,i<ds.length)->aM K C H (p.map λi=>ds.getD i .cR) (p.map λi=>ws.getD i .cR)
 |[],_=>.nil
 |i::p,h=>by
  refine .cons ?_ (wA r p λj b=>h j (.tail _ b));have a:=h i (.head _);refine aR (r.get' (cU a)) λu c d=>?_;have e:ds.getD i .cR=ds[i]:=by simp[a]
  have f:ws.getD i .cR=u:=by simp[c]
  show Rep K C H (ds.getD i .cR) (ws.getD i .cR);rw[e,f];exact d
structure t7(ds:List D):Prop where
 kd:∃kd,Sk ds kd
 lW:ds.length<64
 iu:∀a∈ds,∀b∈ds,iu a b=bT
 nl:∀a∈ds,nl a=bT
 dep:∀a∈ds,dep a<=50
def zP(h:∀a∈ds,∀b∈ds,iu a b=bT):cC ds=bT:=iC λd hd=>(yg d d (h d hd d hd)).1
def Qf(K:aF)(C:Cfg):List V->Hp->VK->Prop:=λx H Q=>∃v d,x=[v]/\Rep K C H (.lst d) v/\t7 d/\∀p ws,H p=aj->aM K C H (fV d) ws->Q (.ref p) (upd H p (.lst ws))
def yt{h1 h':aW}{vs:List au}(I:L2.Inv X a σ H s)(k1:∀b ob,s.heap.get? b=ai ob->h1.get? b=ai ob)(k2:∀b ob,h1.get? b=ai ob->h'.get? b=ai ob)
  (h:h1.objs.size<=L) (d:h'.get? L=ai (cG "list" vs.toArray n)) (r:Vals ws vs) (hz:ws.length<=cH) (q:H L=aj->Q (.ref L) (upd H L (.lst ws))):EP X a σ Q (.ref L) {s with heap:=h',toks:=tk}:=by
 have c:L2.Inv X a σ H {s with heap:=h1,toks:=tk}:=I.kept k1;have e:H L=aj:=c.fE.fresh h;refine⟨.ref L,upd H L (.lst ws),c.laid (t':=tk) k2 h ⟨hz,vs,n,r,d⟩,rfl,q e⟩
def Zu(K:aF)(C:Cfg)(G:List D->Prop):List V->Hp->VK->Prop:=λx H Q=>∃a ws d,x=[.ref a]/\k9 K H a ws/\aM K C H d ws/\G d/\∀(p:av) (b:List Nat),H p=aj->(∀i∈b,i<d.length)->fV d=b.map (λi=>d.getD i .cR)->Q (.ref p) (upd H p (.lst (b.map λi=>ws.getD i .cR)))
def Cp{G:List D->Prop}(v:∀ds,G ds->cC ds=bT/\∃kd,ds.length<=cH->∀c,SG X.prog X.w X.A ds kd c):mX X (.builtin "sorted") (Zu X.K C G):=by
 intro Y s Z H xs us Q I r ⟨a,ws,ds,e,w,h,S,q⟩;subst e;refine aR (vals1 r) λu x y=>?_;obtain rfl:=x;obtain rfl:u=.ref a:=y;refine cA (I.list w) λc r1 z f=>?_;obtain⟨A,kd,E⟩:=v ds S;have ld:c.length=ds.length:=by rw[<- r1.length,h.len]
 have l:ws.length=ds.length:=h.len;refine vo (Pd:=λd g vs=>d=ds/\g=kd/\vs=c) (λd g vs j=>?_) (λR F=>?_) λh1 h' tk d g vs L n p J M j hd N m t O=>?_;obtain⟨rfl,rfl,rfl⟩:=j;exact E (by rw[<- l];exact f) _;refine collect_list (vs:=c) (s:=s) z.isList ?_ (by rw[<- r1.length];exact f);have k:∀b o,s.heap.get? b=ai o->((s.heap.push (cG "list" #[] 0)).update s.heap.objs.size (dg (· ++ c.toArray))).get? b=ai o:=λb o e=>by rw[Gy _ _ _ _ (dM (bZ e))];exact bP _ e
 exact F _ s.toks ds kd c k ⟨rfl,rfl,rfl⟩ ((Inv.Et I ds A h r1).keep k);obtain⟨rfl,rfl,rfl⟩:=j;have P:p.length=d.length:=by have:=congrArg List.length t;rw[bw,(cX d).length_eq]at this;exact this.symm
 exact yt I J M N O (wz r1 p λi T=>by rw[l];exact m i T) (by rw[bw,P,<- l];exact f) λU=>q L p U m t
def Cq(o:X.A.units+64<cLine):mX X (.builtin "sorted") (Qf X.K C):=by
 intro b s c H x u Q I r ⟨v,d,e,f,S,q⟩;subst e;obtain⟨a,ws,rfl,g,h⟩:=f.items;exact Cp (G:=t7) (λd S=>⟨zP S.iu,S.kd.imp λt i _ w=>sgS i S.lW S.iu S.nl λa j=>by have:=S.dep a j;lia⟩) b s c H _ u Q I r ⟨a,ws,d,rfl,g,h,S,λp k l m n=>q p _ l (by rw[n];exact wA h k m)⟩
end Dm
namespace Dm
open PySem PyProof.Rows L2 PySem.SeqAt Ts Tb
def yu(h:ItemsAre (intKind prog w) k vs):∀v∈vs,∃i t,v=Gv i t:=by
 induction h with
 |nil=>intro v a;cases a
 |cons b _ c=>intro v a;rcases cK.mp a with rfl|a;obtain⟨t,e⟩:=an1 b;exact⟨_,t,e⟩;exact c v a
noncomputable def tupS(prog:dz)(w:bL):q9 prog w (List Int) where
 toHeapKind:=tupleKind (intKind prog w)
 Q4:=λ{A E s k a Q} hk h=>by
  have j:=hk.typeIs;refine Tw hk λo c n f _ hd g=>?_;clear hk;unfold ofAClassStatement;refine ak (wR j ?_);dsimp only;rw[bh6 (by decide)];refine ak (aB ?_);simp only[j6,d9,bi4];refine ak (Gn f hd ?_);dsimp only;refine ak ?_;rw[<- xx];refine mw _ (λb r d=>r.1=aj/\d=s/\∀v∈b,∃i t,v=Gv i t) _ ?_ ?_ _ _ ⟨rfl,rfl,yu g⟩;rintro v b r d ⟨hr,rfl,m⟩;refine rJ (m v vd) λi t l=>?_;obtain rfl:=l;unfold ofAClassStatement;refine ak (aB ?_);simp only[d9,bi4];exact aB ⟨rfl,rfl,λu p=>m u (pI _ p)⟩;rintro⟨r1,r2⟩ d ⟨hr,rfl,_⟩;simp only at hr;subst hr;exact aB h
 XA:=λ{A E s k a Q} hk h=>by
  have j:=hk.typeIs;refine Tw hk λo c n f _ hd g=>?_;clear hk;unfold hashByValue;refine ak (pC j OA.lookup ?_);dsimp only;refine ak (Gn f hd ?_);dsimp only[Option.getD];refine ak ?_;rw[<- xx];refine mw _ (λb r d=>r.1=aj/\d=s/\∀v∈b,∃i t,v=Gv i t) _ ?_ ?_ _ _ ⟨rfl,rfl,yu g⟩;rintro v b r d ⟨hr,rfl,m⟩;refine rJ (m v vd) λi t l=>?_;obtain rfl:=l;unfold hashByValue;refine ak (aB ?_);simp only[j6,d9,bi4];exact aB ⟨rfl,rfl,λu p=>m u (pI _ p)⟩;rintro⟨r1,r2⟩ d ⟨hr,rfl,_⟩;simp only at hr;subst hr;exact aB h
 mono:=λhk e=>by
  refine Tw hk λo c n f x hd g=>?_;clear hk;exact⟨o,c,n,e _ _ f x,x,hd,g⟩
theorem Ew:∀{ns:List Int} {vs:List au},bH h (ns.map D.int) vs->ItemsAre (intKind prog w) ns vs
 |[],_,q=>by rw[nM,bH]at q;subst q;exact .nil
 |n::ns,_,q=>by
  rw[bz,bH]at q;refine bC q λv r c a b=>?_;clear q;obtain rfl:=c;rw[fL]at a;obtain⟨t,rfl⟩:=a;exact .cons (by show Value.isInt n (.int n t)=bT;simp[Value.isInt]) (Ew b)
def aA7{ns:List Int}(q:fL h (.tup (ns.map D.int)) (.ref a)):(tupS prog w).is h ns a:=by
 rw[fL]at q;refine bC q λb i e r p=>?_;clear q;obtain⟨o,c,d,n,f⟩:=r;obtain rfl:a=b:=by injection e
 exact⟨o,i,n,c,d,f,Ew p⟩
def Qg(prog:dz)(w:bL)(a:av)(z:List (List Int×av))(h:aW):Prop:=
 ∃o e t,h.get? a=ai o/\o.ExactSet/\o.data=.set (z.map (entry (tupS prog w))).toArray e t/\Good t z.length/\Paths t (λi=>((z.map (entry (tupS prog w))).toArray[i]?.map (·.1)).getD 0) z.length/\
  t.led=je w/\t.plain=bT/\z.length*5<t.mask*3/\(z.map (·.1)).Nodup
def Members(K:aF)(H:Hp)(a:List (List Int×av)):Prop:=∀z∈a,lT K H z.2 (z.1.map V.int)
def JS(X:Cx)(C:Cfg):List V->Hp->VK->Prop:=λx H Q=>∃(v:V) (k:List (List Int)),x=[v]/\Rep X.K C H (.lst (k.map λn=>.tup (n.map D.int))) v/\k.length<=50/\
 ∀p z,H p=aj->Members X.K H z->(z.map (·.1)).Nodup->(∀n,n∈z.map (·.1)↔n∈k)->Q (.ref p) (upd H p (.ext (Qg X.prog X.w p z)))
theorem AK{K:aF}{H:Hp}:∀{k:List (List Int)} {ws:List V},aM K C H (k.map λns=>.tup (ns.map D.int)) ws->∃ys:List (List Int×av),ys.map (·.1)=k/\ws=(ys.map λy=>V.ref y.2)/\Members K H ys
 |[],_,q=>by rw[nM,aM]at q;subst q;exact⟨[],rfl,rfl,λz h=>by cases h⟩
 |ns::k,_,q=>by
  rw[bz,aM]at q;refine bC q λv r c a b=>?_;clear q;obtain rfl:=c;refine cA (AK b) λys f g m=>?_;rw[Rep]at a;refine bC a λi x c t p=>?_;clear a;obtain rfl:=c;have e:x=ns.map V.int:=by
   clear t;induction ns generalizing x with
   |nil=>rw[nM,aM]at p;exact p
   |cons n ns j=>rw[bz,aM]at p;refine bC p λv o c d l=>?_;clear p;obtain rfl:=c;rw[Rep]at d;rw[d,j _ l];rfl
  subst e;refine⟨(ns,i)::ys,by rw[bz,f],by rw[bz,g],λz h=>?_⟩;rcases cK.mp h with rfl|h;exact t;exact m z h
def Qh(I:L2.Inv X a σ H s){z:List Int×av}(h:lT X.K H z.2 (z.1.map V.int)):(tupS X.prog X.w).is s.heap z.1 z.2:=by
 refine aA7 ?_;refine Inv.dat (C:=aA6) I _ (v:=V.ref z.2) ?_ ?_ rfl;rw[flat];exact iC λd hd=>by refine aR (aN.mp hd) λn _ b=>?_;obtain rfl:=b;rw[flat] <;> simp
 rw[Rep];exact⟨z.2,_,rfl,h,aM.ints z.1⟩
theorem AL:∀{ys:List (List Int×av)},Vals (ys.map λy=>V.ref y.2) vs->vs=ys.map λy=>f7 y.2
 |[],r=>by cases r;rfl
 |y::ys,r=>by
  cases r with
  |cons r1 r2=>rw[bz,AL r2];congr 1
def Ln(n:X.A.handled=aj)(Y:X.A.units+64<cLine):mX X (.type "set") (JS X C):=by
 intro Z s σ H xs us Q I r ⟨v,p,e,h,hn,q⟩;subst e;refine aR (vals1 r) λu w x=>?_;obtain rfl:=w;have h:=h.items;refine bC h λa ws b i A=>?_;clear h;obtain rfl:=b;obtain rfl:u=.ref a:=x;refine cA (I.list i) λbx r1 E c=>?_;refine cA (AK A) λys f F m=>?_;subst F;obtain rfl:=AL r1;have ly:ys.length=p.length:=by rw[<- f,bw]
 refine Q8 (κ:=tupS X.prog X.w) (ys:=ys) n (by show X.A.units+1+1+1<cLine;lia) E.isList (by lia) (λy g=>Qh I (m y g)) λh' tk o J t j k S l L=>?_;have M:H s.heap.objs.size=aj:=I.fE.fresh (b9 _);refine⟨.ref s.heap.objs.size,upd H s.heap.objs.size (.ext (Qg X.prog X.w s.heap.objs.size j)),I.laid (t':=tk) k (b9 _) ?_,rfl,q _ j M (λz c=>m z (l z c)) S.keys λns=>?_⟩;refine⟨⟨o,J,t,S.obj,S.nY,S.data,S.good,S.JM,S.Li,S.plain,S.lW,S.keys⟩,⟨o,S.obj⟩,?_⟩;rintro h i ⟨N,O,t',P,T⟩ U;exact⟨N,O,t',U _ P,T⟩;constructor;intro d;refine aR (aN.mp d) λz c b=>?_;obtain rfl:=b;rw[<- f];exact aN.mpr ⟨z,l z c,rfl⟩;intro d;rw[<- f]at d;refine aR (aN.mp d) λy g b=>?_;obtain rfl:=b;exact L y g
def Rows(k:List (List Int)):Prop:=∃n,∀a∈k,a.length=n+1
theorem uK:∀{a b:List Int},a.length=b.length->gk (a.map D.int) (b.map D.int)=bT
 |[],[],_=>by simp[gk]
 |x::a,y::b,h=>by
  rw[bz,bz,gk,uK (by simpa using h)];simp[iu]
theorem Ey:∀a:List Int,Ik (a.map D.int)=bT
 |[]=>by simp[Ik]
 |x::a=>by rw[bz,Ik,Ey a];simp[nl]
def Lo(a:List Int):jU (a.map D.int)=0:=by
 have:jU (a.map D.int)<=0:=nW λd hd=>by refine aR (aN.mp hd) λn _ b=>?_;obtain rfl:=b;rw[dep] <;> simp
 lia
def zQ(h:Rows k)(lW:k.length<64):t7 (k.map λns=>.tup (ns.map D.int)):=by
 obtain⟨n,g⟩:=h;have m:∀d∈k.map (λns=>D.tup (ns.map D.int)),∃ns∈k,d=.tup (ns.map D.int):=λd hd=>by refine aR (aN.mp hd) λns e j=>?_;exact⟨ns,e,j.symm⟩
 refine⟨⟨_,.pT λd hd=>?_⟩,by rw[bw];exact lW,λa f b hb=>?_,λa f=>?_,λa f=>?_⟩;refine aR (m d hd) λns e c=>?_;obtain rfl:=c;have:=g ns e;match ns,this with
 |i::r,_=>exact⟨i,r.map D.int,rfl⟩
 refine aR (m a f) λns e c=>?_;obtain rfl:=c;refine aR (m b hb) λl j c=>?_;obtain rfl:=c;rw[iu];exact uK (by rw[g ns e,g l j]);refine aR (m a f) λns e c=>?_;obtain rfl:=c;rw[nl];exact Ey ns;refine aR (m a f) λns e c=>?_;obtain rfl:=c;rw[dep,Lo];decide
def Iv(X:Cx)(C:Cfg):List V->Hp->VK->Prop:=λx H Q=>∃a z,x=[.ref a]/\H a=ai (.ext (Qg X.prog X.w a z))/\Members X.K H z/\z.length<=50/\Rows (z.map (·.1))/\
 ∀p ws (e:List (List Int)),H p=aj->e.Perm (z.map (·.1))->aM X.K C H (fV (e.map λn=>.tup (n.map D.int))) ws->Q (.ref p) (upd H p (.lst ws))
def Lp:∀{l:List α} {m:List β},m.Perm (l.map f)->∃d:List α,d.Perm l/\m=d.map f:=by
 intro l m h;generalize e:l.map f=k at h;induction h generalizing l with
 |nil=>exact⟨l,.refl _,e.symm⟩
 |cons x _ n=>
  match l,e with
  |a::l,e=>rw[bz]at e;injection e with g c;refine aR (n c) λd p q=>?_;exact⟨a::d,p.cons a,by rw[bz,g,q]⟩
 |swap x y k=>
  match l,e with
  |a::b::l,e=>rw[bz,bz]at e;injection e with g c;injection c with c o;exact⟨b::a::l,.swap a b l,by rw[bz,bz,g,c,o]⟩
 |trans _ _ i j=>refine aR (j e) λw r s=>?_;refine aR (i s.symm) λt u v=>?_;exact⟨t,u.trans r,v⟩
def Cr(hh:X.A.handled=aj)(hu:X.A.units+64<cLine):mX X (.builtin "sorted") (Iv X C):=by
 intro ao s σ H xs us Q I r ⟨a,zs,e,Y,hm,hn,hr,q⟩;subst e;refine aR (vals1 r) λu jh A=>?_;obtain rfl:=jh;obtain rfl:u=.ref a:=A;refine xH (I.fE a _ Y) λE _ _=>?_;obtain⟨o,ep,t,g1,g2,g3,g4,g5,g6,g7,g8,g9⟩:=E;have S:ji (tupS X.prog X.w) s.heap a (je X.w) zs o ep t:=⟨g1,g2,g3,g4,g5,g6,g7,g8,g9,λx hx=>Qh I (hm x hx)⟩
 refine vo (Pd:=λF J v=>J=tuples' bT/\∃l:List (List Int×av),l.Perm zs/\F=(l.map λy=>.tup (y.1.map D.int))/\v=l.map λy=>f7 y.2) (λF J v M=>?_) (λR hR=>?_) λY Z tk F J v L n w k1 k2 M hd hL N O ho=>?_;obtain⟨rfl,l,p,rfl,rfl⟩:=M;obtain⟨m,zL⟩:=hr;have rows:Rows (l.map (·.1)):=⟨m,λns P=>zL ns ((p.map _).mem_iff.mp P)⟩
 have b:=zQ rows (by rw[bw,p.length_eq];lia);rw[dY]at b;refine sgS (.pT λd hd=>?_) b.lW b.iu b.nl λa ha=>by have:=b.dep a ha;lia
 refine aR (aN.mp hd) λy c f=>?_;obtain rfl:=f;have:=zL y.1 (aN.mpr ⟨y,p.mem_iff.mp c,rfl⟩);match h:y.1,this with
 |i::r,_=>exact⟨i,r.map D.int,rfl⟩
 refine Es (κ:=tupS X.prog X.w) hh S hn λZ tk v k pv=>?_;refine aR (Lp pv) λl p f=>?_;obtain rfl:=f;refine hR Z tk _ _ _ k ⟨rfl,l,p,rfl,rfl⟩ (bH.of_map _ _ l λy c=>fL.keep k _ ?_);have t:=hm y (p.mem_iff.mp c);refine Inv.dat (C:=aA6) I _ (v:=V.ref y.2) ?_ ?_ rfl;rw[flat];exact iC λd hd=>by refine aR (aN.mp hd) λn _ f=>?_;obtain rfl:=f;rw[flat] <;> simp
 rw[Rep];exact⟨y.2,_,rfl,t,aM.ints y.1⟩;obtain⟨rfl,l,p,rfl,rfl⟩:=M;have ll:l.length<=50:=by rw[p.length_eq];exact hn
 have lp:w.length=l.length:=by have:=congrArg List.length O;rw[bw,(cX _).length_eq,bw]at this;exact this.symm
 have A:∀l:List (List Int×av),Vals (l.map λy=>V.ref y.2) (l.map λy=>f7 y.2):=λl=>by
  induction l with
  |nil=>exact .nil
  |cons y l T=>exact .cons rfl T
 have g:∀i∈w,i<l.length:=λi U=>by have:=N i U;rwa [bw]at this
 have rp:aM X.K C H (l.map λy=>.tup (y.1.map D.int)) (l.map λy=>V.ref y.2):=by
  have j:∀y∈l,lT X.K H y.2 (y.1.map V.int):=λy c=>hm y (p.mem_iff.mp c);clear O N g lp hd ho p ll;induction l with
  |nil=>exact .nil
  |cons y l T=>refine .cons ?_ (T λz hz=>j z (pI _ hz));rw[Rep];exact⟨y.2,_,rfl,j y vd,aM.ints y.1⟩
 have big:64<=cH:=by rw[gf];decide
 refine yt I k1 k2 hL ho (wz (A l) w λi U=>by rw[bw];exact g i U) (by rw[bw,lp];lia) λxO=>q L _ (l.map (·.1)) xO (p.map _) ?_;rw[dY];show aM X.K C H (fV (l.map λy=>.tup (y.1.map D.int))) _;rw[O];exact wA rp w N
end Dm
namespace Dm
open PySem PySem.Spec PyProof.Rows L2
inductive R(α:Type) where
 |ok (a:α)|ex (c:av) (p:Option Int)|bad
noncomputable def R.bind{b d:Type}(r:R b)(f:b->R d):R d:=match r with |.ok a=>f a |.ex c p=>.ex c p |.bad=>.bad
abbrev gM:=List (Option D)
abbrev DF:=gM->R D
abbrev DA:=gM->R (List D)
inductive Out where
 |nx (st:gM)|rt (d:D)|bk (st:gM)|ct (st:gM)|ex (c:av) (p:Option Int) (st:gM)|bad
abbrev DS:=gM->Out
def JT(E:XK)(c:av)(p:Option Int)(H:Hp):Prop:=match p with
 |none=>E (.ref c) aj H
 |some n=>∀d,H d=ai (.xd [("at",.int n)])->E (.ref c) (ai d) H
noncomputable def vt:Option HO->Bool
 |none=>bT
 |some (.tup _)=>bT
 |some (.DM _ (.tup _))=>bT
 |_=>b4
noncomputable def nw(G H:Hp):Hp:=λa=>if vt (G a)=bT then H a else aj
def cj(G H:Hp):aG (nw G H) H:=λb o h=>by
 unfold nw at h;split at h;exact h;cases h
def bR(e:aG H a):aG (nw G H) (nw G a):=λb o h=>by
 unfold nw at h ⊢;split at h;rename_i q;rw[bh6 q];exact e b o h;cases h
def oh(e:aG G b)(h:vt (b a)=bT):vt (G a)=bT:=by
 cases q:G a with
 |none=>rfl
 |some o=>rw[e a o q]at h;exact h
def oj(e:aG G a):aG (nw a H) (nw G H):=λb o h=>by
 unfold nw at h ⊢;split at h;rename_i q;rw[bh6 (oh e q)];exact h;cases h
def jM(h:G a=aj):nw G H a=H a:=by unfold nw;rw[h];rfl
def jV(H G:Hp):Prop:=aG G H/\∀a x,Rd H a (.tup x)->Rd G a (.tup x)
theorem jV.trans(a:jV H G)(b:jV G F):jV H F:=⟨b.1.trans a.1,λx c h=>b.2 x c (a.2 x c h)⟩
theorem jV.nw(e:aG G H):jV H (nw G H):=⟨cj _ _,λa x h=>by
 have k:vt (G a)=bT:=by
  cases q:G a with
  |none=>rfl
  |some o=>have:=e a o q;rcases h with h|⟨u,h⟩;rw[h]at this;cases this;rfl;rw[h]at this;cases this;rfl
 unfold Rd Dm.nw;rw[bh6 k];exact h⟩
noncomputable def Qi:HO->Bool
 |.lst _=>bT
 |.ext _=>bT
 |_=>b4
theorem jV.er(h:∀a∈A,∃o,H a=ai o/\Qi o=bT):jV H (er H A):=⟨aH _ _,λa x r=>by
 have k:a∉A:=λm=>by obtain⟨o,q,z⟩:=h a m;rcases r with r|⟨u,r⟩;rw[q]at r;cases r;cases z;rw[q]at r;cases r;cases z
 unfold Rd;rw[aU k];exact r⟩
mutual
noncomputable def gq:D->Bool
 |.tup d=>dR d
 |.lst _=>b4
 |.bN _ _=>b4
 |_=>bT
noncomputable def dR:List D->Bool
 |[]=>bT
 |d::a=>gq d&&dR a
end
theorem lE:∀{ds:List D} {d:D},dR ds=bT->d∈ds->gq d=bT
 |_::_,_,h,.head _=>by rw[dR,bI]at h;exact h.1
 |_::ds,_,h,.tail _ m=>by rw[dR,bI]at h;exact lE h.2 m
theorem fY:∀{ds:List D},(∀d∈ds,gq d=bT)->dR ds=bT
 |[],_=>rfl
 |d::ds,h=>by rw[dR,bI];exact⟨h d (.head _),fY λx a=>h x (.tail _ a)⟩
section
variable {K:aF}{C:Cfg}{H G:Hp}
def jV.sq(k:jV H G)(h:lT K H a xs):lT K G a xs:=by
 rcases h with h|h;exact .inl (k.2 a xs h);exact .inr h
mutual
theorem Rep.part(k:jV H G):∀(d:D) {v:V},gq d=bT->Rep K C H d v->Rep K C G d v
 |.cR,v,_,q=>by rw[Rep]at q ⊢;exact q
 |.bl b,v,_,q=>by rw[Rep]at q ⊢;exact q
 |.int i,v,_,q=>by rw[Rep]at q ⊢;exact q
 |.str x,v,_,q=>by rw[Rep]at q ⊢;exact q
 |.tup c,v,n,q=>by
  rw[Rep]at q ⊢;rw[gq]at n;refine bC q λa e h f g=>?_;clear q;exact⟨a,e,h,k.sq f,aM.part k c n g⟩
 |.lst c,v,n,q=>by rw[gq]at n;cases n
 |.bN t c,v,n,q=>by rw[gq]at n;cases n
theorem aM.part(k:jV H G):∀(ds:List D) {vs:List V},dR ds=bT->aM K C H ds vs->aM K C G ds vs
 |[],_,_,q=>by rw[aM]at q ⊢;exact q
 |d::ds,_,n,q=>by
  rw[aM]at q ⊢;rw[dR,bI]at n;refine bC q λv r e a b=>?_;clear q;exact⟨v,r,e,Rep.part k d n.1 a,aM.part k ds n.2 b⟩
end
end
inductive Kd where
 |new|uL|loc|old|uM|jG
inductive SK where
 |par|loc|own (n:Bool)|any|pr|ll|dp
noncomputable def lF:D->Bool
 |.lst _=>bT
 |.bN t _=>t==2
 |_=>b4
def mQ(K:aF)(C:Cfg)(F H:Hp)(p:av):D->Prop
 |.lst d=>∃x,H p=ai (.lst x)/\aM K C F d x
 |.bN t d=>t=2/\∃x,C.own K F H p x/\aM K C F d x
 |_=>False
section
variable {K:aF}{C:Cfg}{F F' H H':Hp}{p:av}
theorem mQ.Qi:∀{d:D},mQ K C F H p d->∃o,H p=ai o/\Dm.Qi o=bT
 |.lst _,h=>let⟨_,e,_⟩:=h;⟨_,e,rfl⟩
 |.bN _ _,h=>let⟨_,_,e,_⟩:=h;let⟨_,q⟩:=C.aA5 e;⟨_,q,rfl⟩
theorem mQ.lF:∀{d:D},mQ K C F H p d->Dm.lF d=bT
 |.lst _,_=>rfl
 |.bN _ _,h=>by rw[Dm.lF,h.1];rfl
theorem mQ.mono(f:aG F F')(e:H' p=H p):∀{d:D},mQ K C F H p d->mQ K C F' H' p d
 |.lst _,h=>let⟨xs,a,b⟩:=h;⟨xs,e.trans a,b.same f _⟩
 |.bN _ _,h=>let⟨t,xs,a,b⟩:=h;⟨t,xs,C.JR f e a,b.same f _⟩
def mQ.later(f:aG F F')(e:aG H H')(h:mQ K C F H p d):mQ K C F' H' p d:=by
 obtain⟨o,q,_⟩:=h.Qi;exact h.mono f ((e _ _ q).trans q.symm)
theorem mQ.rep(f:aG F (er G [p]))(e:G p=H p):∀{d:D},mQ K C F H p d->Rep K C G d (.ref p)
 |.lst _,h=>by obtain⟨x,a,b⟩:=h;rw[Rep];exact⟨p,x,rfl,.of (e.trans a),b.same f _⟩
 |.bN _ _,h=>by obtain⟨rfl,x,a,b⟩:=h;rw[Rep];exact⟨p,x,rfl,C.XE a (f.trans (aH _ _)) e,b.same (f.trans (aH _ _)) _⟩
end
def qd(K:aF)(C:Cfg)(G F:Hp)(d:D)(v:V):Prop:=∀s a,d=.tup [.str s,.lst a]->∃q p x,v=.ref q/\lT K F q [.str s,.ref p]/\G p=aj/\F p=ai (.lst x)/\aM K C (er F [p]) a x
noncomputable def oX:D->Bool
 |.tup [.str _,.lst _]=>b4
 |_=>bT
def qd.not{K:aF}{C:Cfg}{G F:Hp}{d:D}{v:V}(n:oX d=bT):qd K C G F d v:=λs a z=>by subst z;cases n
def qd.mono{K:aF}{C:Cfg}{G F i:Hp}{d:D}{v:V}(f:aG F i)(t:qd K C G F d v):qd K C G i d v:=λs j h=>by
 refine DK (t s j h) λq p x a b c e g=>?_;exact⟨q,p,x,a,aG.tup f b,c,f _ _ e,g.same (aJ f) _⟩
def qd.early{K:aF}{C:Cfg}{G f F:Hp}{d:D}{v:V}(e:aG G f)(t:qd K C f F d v):qd K C G F d v:=λs g h=>by
 refine Ye (t s g h) λq p x a b c=>?_;exact⟨q,p,x,a,b,e.free c.1,c.2⟩
def lH(K:aF)(C:Cfg)(G F:Hp)(d:D)(v:V):Prop:=(lF d=bT->∃p,v=.ref p/\G p=aj/\mQ K C (er F [p]) F p d)/\qd K C G F d v
noncomputable def UD:List α->Option (α×α)
 |[]=>aj
 |a::l=>match l with
  |[]=>aj
  |b::l=>match l with
   |[]=>ai (a,b)
   |_::_=>aj
theorem Cs:∀{l:List α},UD l=ai (a,b)->l=[a,b]
 |[_,_],h=>by cases h;rfl
 |[],h=>by cases h
 |[_],h=>by cases h
 |_::_::_::_,h=>by cases h
def JU:D->Option (List D)
 |.tup d=>ai d
 |.cR |.bl _ |.int _ |.str _ |.lst _ |.bN _ _=>aj
noncomputable def Qj:D->Option Str
 |.str s=>ai s
 |.cR |.bl _ |.int _ |.tup _ |.lst _ |.bN _ _=>aj
noncomputable def yv:D->Option (List D)
 |.lst s=>ai s
 |.cR |.bl _ |.int _ |.tup _ |.str _ |.bN _ _=>aj
def yw{d:D}(h:JU d=ai z):d=.tup z:=by cases d <;> cases h;rfl
def Ez{d:D}(h:Qj d=ai z):d=.str z:=by cases d <;> cases h;rfl
def t8{d:D}(h:yv d=ai z):d=.lst z:=by cases d <;> cases h;rfl
noncomputable def kL(d:D):Option (Str×Str×List D):=((JU d).bind UD).bind λp=>(Qj p.1).bind λs=>((JU p.2).bind UD).bind λq=>(Qj q.1).bind λa=>(yv q.2).map λb=>(s,a,b)
def AM{d:D}(h:kL d=ai z):d=.tup [.str z.1,.tup [.str z.2.1,.lst z.2.2]]:=by
 unfold kL at h;obtain⟨⟨a,b⟩,f,h⟩:=l0.mp h;obtain⟨n,i,f⟩:=l0.mp f;obtain⟨s,j,h⟩:=l0.mp h;obtain⟨⟨c,e⟩,g,h⟩:=l0.mp h;obtain⟨o,k,g⟩:=l0.mp g;obtain⟨p,l,h⟩:=l0.mp h;obtain⟨r,m,rfl⟩:=Hl.mp h;rw[yw i,Cs f,show a=_ from Ez j,show b=_ from yw k,Cs g,show c=_ from Ez l,show e=_ from t8 m]
theorem EA{K:aF}{F:Hp}:∀{ds:List D} {vs:List V},vs.length=ds.length->(∀(j:Nat) (d:D) (v:V),ds[j]?=ai d->vs[j]?=ai v->Rep K C F d v)->aM K C F ds vs
 |[],[],_,_=>.nil
 |d::ds,v::vs,l,h=>.cons (h 0 d v rfl rfl) (EA (by simpa using l) λj d v a b=>h (j+1) d v a b)
 |[],_::_,l,_=>by cases l
 |_::_,[],l,_=>by cases l
def Lns(K:aF)(C:Cfg)(A:List av)(H:Hp)(ds:List D)(xs:List V):Prop:=xs.length=ds.length/\∀(j:Nat) (d:D) (v:V),ds[j]?=ai d->xs[j]?=ai v->∃a y e,d=.lst e/\v=.ref a/\a∈A/\H a=ai (.lst y)/\dR e=bT/\aM K C (er H A) e y
section
variable (K:aF)(C:Cfg)
def Val(κ:Kd)(G0:Hp)(A:List av)(H a:Hp)(d:D)(v:V):Prop:=match κ with
 |.new=>Rep K C (nw H a) d v/\lH K C H (nw H a) d v
 |.uL=>Rep K C (er a A) d v/\lH K C H (er a A) d v
 |.loc=>Rep K C (nw G0 (er a A)) d v/\lH K C G0 (nw G0 (er a A)) d v
 |.old=>Rep K C (er a A) d v
 |.uM=>Rep K C (nw G0 a) d v/\lH K C G0 (nw G0 a) d v
 |.jG=>Rep K C a d v
noncomputable def eh(n:Bool)(G0:Hp)(A:List av)(H:Hp):Hp:=if n=bT then nw G0 (er H A)else er H A
def Slot(k:SK)(G0:Hp)(A:List av)(H:Hp)(d:D)(v:V):Prop:=match k with
 |.par=>Rep K C (er H A) d v
 |.loc=>Rep K C (nw G0 (er H A)) d v/\lH K C G0 (nw G0 (er H A)) d v
 |.own n=>(∃p,v=.ref p/\p∈A/\G0 p=aj/\mQ K C (eh n G0 A H) H p d)\/(lF d=b4/\qd K C G0 (eh n G0 A H) d v/\Rep K C (eh n G0 A H) d v)
 |.any=>Rep K C H d v
 |.pr=>(∃q p s b x,d=.tup [.str s,.lst b]/\v=.ref q/\lT K (er H A) q [.str s,.ref p]/\p∈A/\G0 p=aj/\H p=ai (.lst x)/\aM K C (er H A) b x)\/(oX d=bT/\Rep K C (er H A) d v)
 |.ll=>∃p a x e b c,d=.lst (.lst e::b)/\v=.ref p/\p∈A/\a∈A/\p≠a/\G0 p=aj/\G0 a=aj/\H p=ai (.lst (.ref a::c))/\H a=ai (.lst x)/\aM K C (er H A) e x/\aM K C (er H A) b c
 |.dp=>(∃q r p s f b x,d=.tup [.str s,.tup [.str f,.lst b]]/\v=.ref q/\lT K (er H A) q [.str s,.ref r]/\lT K (er H A) r [.str f,.ref p]/\er H A p=ai (.lst x)/\Lns K C A H b x)\/(kL d=aj/\Rep K C (er H A) d v)
structure RS(G0:Hp)(Γ:List SK)(σ:L2.St)(H:Hp)(A:List av)(st:gM):Prop where
 base:aG G0 (er H A)
 lists:∀a∈A,∃o,H a=ai o/\Qi o=bT
 len:σ.length=st.length
 slot:∀(i:Nat) (d:D),st[i]?=ai (ai d)->∃k v,Γ[i]?=ai k/\σ[i]?=ai (ai v)/\Slot K C k G0 A H d v
 apart:∀(i j:Nat) (n m:Bool) (p:av) (d e:D),i≠j->Γ[i]?=ai (.own n)->Γ[j]?=ai (.own m)->st[i]?=ai (ai d)->st[j]?=ai (ai e)->lF d=bT->lF e=bT->σ[i]?=ai (ai (.ref p))->σ[j]?≠ai (ai (.ref p))
 gl:C.gl G0
end
section
variable {K:aF}{C:Cfg}{G0:Hp}{Γ:List SK}{σ:L2.St}{H H' H'' H1:Hp}{A:List av}{st:gM}{κ:Kd}{d:D}{v:V}
theorem lH.mono(f:aG F e)(t:lH K C G F d v):lH K C G e d v:=⟨λh=>by
 refine cA (t.1 h) λp a b c=>?_;exact⟨p,a,b,c.later (aJ f) f⟩,t.2.mono f⟩
theorem lH.early(e:aG G f)(t:lH K C f F d v):lH K C G F d v:=⟨λh=>by
 refine cA (t.1 h) λp a b c=>?_;exact⟨p,a,e.free b,c⟩,t.2.early e⟩
def Ct(K:aF)(C:Cfg)(G F:Hp)(ds:List D)(vs:List V):Prop:=∀(j:Nat) (d:D) (v:V),ds[j]?=ai d->vs[j]?=ai v->lH K C G F d v
theorem Ct.mono{K:aF}(f:aG F a)(t:Ct K C G F ds vs):Ct K C G a ds vs:=λj d v h b=>(t j d v h b).mono f
def Ct.snoc{K:aF}(l:vs.length=ds.length)(t:Ct K C G F ds vs)(h:lH K C G F d v):Ct K C G F (ds++[d]) (vs++[v]):=λj f g a b=>by
 by_cases c:j<ds.length;rw[mE c]at a;rw[mE (by rw[l];exact c)]at b;exact t j f g a b;rw[kG (mC c)]at a;rw[kG (by rw[l];exact mC c),l]at b;have e:j-ds.length=0:=by have:=(eN.mp a).1;rw[xg]at this;lia
 rw[e]at a b;cases a;cases b;exact h
def Dst(ds:List D)(vs:List V):Prop:=∀(j k:Nat) (d a:D) (v:V),j≠k->ds[j]?=ai d->ds[k]?=ai a->lF d=bT->lF a=bT->vs[j]?=ai v->vs[k]?≠ai v
def wB{b:Type}{l:List b}{x y:b}{j:Nat}(h:(l++[x])[j]?=ai y):(j<l.length/\l[j]?=ai y)\/(j=l.length/\y=x):=by
 by_cases a:j<l.length;rw[mE a]at h;exact .inl ⟨a,h⟩;rw[kG (mC a)]at h;have e:j-l.length=0:=by have:=(eN.mp h).1;rw[xg]at this;lia
 rw[e]at h;cases h;exact .inr ⟨by lia,rfl⟩
def Dst.snoc(l:vs.length=ds.length)(t:Dst ds vs)(h:lF d=bT->∀(j:Nat) (d':D),ds[j]?=ai d'->lF d'=bT->vs[j]?≠ai v):Dst (ds++[d]) (vs++[v]):=λj k b c u e f g o1 o2 i m=>by
 rcases wB f with⟨n,g1⟩|⟨n,g1⟩ <;> rcases wB g with⟨o,g2⟩|⟨o,g2⟩ <;> rcases wB i with⟨p,w⟩|⟨p,w⟩ <;> rcases wB m with⟨r,a⟩|⟨r,a⟩ <;> first
  |exact t j k b c u e g1 g2 o1 o2 w a
  |exact h (g2▸o2) j b g1 o1 (a▸w)
  |exact h (g1▸o1) k c g2 o2 (w▸a)
  |lia
def oN(K:aF)(C:Cfg)(G F:Hp)(d:D)(v:V):Prop:=∀a,d=.lst a->∃p x,v=.ref p/\F p=ai (.lst x)/\Ct K C G (er F [p]) a x/\Dst a x
theorem oN.mono{K:aF}(f:aG F e)(t:oN K C G F d v):oN K C G e d v:=λg h=>by
 obtain⟨p,x,a,b,c⟩:=t g h;exact⟨p,x,a,f _ _ b,c.1.mono (aJ f),c.2⟩
theorem oN.early{K:aF}(e:aG G f)(t:oN K C f F d v):oN K C G F d v:=λg h=>by
 obtain⟨p,x,a,b,c⟩:=t g h;exact⟨p,x,a,b,λj d v i k=>(c.1 j d v i k).early e,c.2⟩
def qe(K:aF)(C:Cfg)(G F:Hp)(d:D)(v:V):Prop:=oN K C G F d v/\∀z,kL d=ai z->∃q r p x,v=.ref q/\lT K F q [.str z.1,.ref r]/\lT K F r [.str z.2.1,.ref p]/\oN K C G F (.lst z.2.2) (.ref p)/\G p=aj/\F p=ai (.lst x)/\aM K C (er F [p]) z.2.2 x
theorem qe.mono{K:aF}(f:aG F a)(t:qe K C G F d v):qe K C G a d v:=⟨t.1.mono f,λz h=>by
 obtain⟨q,r,p,x,b,c,e,g,i,j,k⟩:=t.2 z h;exact⟨q,r,p,x,b,aG.tup f c,aG.tup f e,g.mono f,i,f _ _ j,k.same (aJ f) _⟩⟩
theorem qe.early{K:aF}(e:aG G a)(t:qe K C a F d v):qe K C G F d v:=⟨t.1.early e,λz h=>by
 obtain⟨q,r,p,x,b,c,f,g,i,j,k⟩:=t.2 z h;exact⟨q,r,p,x,b,c,f,g.early e,e.free i,j,k⟩⟩
def qe.not(h:∀ds,d≠.lst ds)(h':kL d=aj):qe K C G F d v:=⟨λds z=>(h ds z).elim,λz w=>by rw[h']at w;cases w⟩
def oN.deep{K:aF}{ds:List D}(t:oN K C G F (.lst ds) v):qe K C G F (.lst ds) v:=⟨t,λz w=>by cases w⟩
theorem Qk:∀{d:D},gq d=bT->lF d=b4
 |.lst _,h=>by rw[gq]at h;cases h
 |.bN _ _,h=>by rw[gq]at h;cases h
 |.cR,_=>rfl
 |.bl _,_=>rfl
 |.int _,_=>rfl
 |.str _,_=>rfl
 |.tup _,_=>rfl
theorem lH.not(n:lF d=b4)(m:oX d=bT):lH K C G F d v:=⟨λh=>(by rw[n]at h;cases h),.not m⟩
theorem lH.gq(n:gq d=bT):lH K C G F d v:=⟨λh=>(by rw[Qk n]at h;cases h),λs a z=>by subst z;simp[Dm.gq,dR]at n⟩
def Val.later(e:aG H' H'')(q:Val K C κ G0 A H H' d v):Val K C κ G0 A H H'' d v:=by
 cases κ with
 |new=>exact⟨q.1.same (bR e) _,q.2.mono (bR e)⟩
 |uL=>exact⟨q.1.same (aJ e) _,q.2.mono (aJ e)⟩
 |loc=>exact⟨q.1.same (bR (aJ e)) _,q.2.mono (bR (aJ e))⟩
 |old=>exact Rep.same (aJ e) _ q
 |uM=>exact⟨q.1.same (bR e) _,q.2.mono (bR e)⟩
 |jG=>exact Rep.same e _ q
theorem Val.early(e:aG H H1)(q:Val K C κ G0 A H1 H' d v):Val K C κ G0 A H H' d v:=by
 cases κ with
 |new=>exact⟨q.1.same (oj e) _,(q.2.early e).mono (oj e)⟩
 |uL=>exact⟨q.1,q.2.early e⟩
 |loc=>exact q
 |old=>exact q
 |uM=>exact q
 |jG=>exact q
def Val.rep(q:Val K C κ G0 A H H' d v):Rep K C H' d v:=by
 cases κ with
 |new=>exact q.1.same (cj _ _) _
 |uL=>exact q.1.same (aH _ _) _
 |loc=>exact q.1.same ((cj _ _).trans (aH _ _)) _
 |old=>exact Rep.same (aH _ _) _ q
 |uM=>exact q.1.same (cj _ _) _
 |jG=>exact q
def Slot.move{k:SK}(e:aG H H')(i:aG (er H A) (er H' u))(m:∀a∈A,a∈u)(l:Slot K C k G0 A H d v):Slot K C k G0 u H' d v:=by
 have U:∀n,aG (eh n G0 A H) (eh n G0 u H'):=λn=>by unfold eh;cases n;exact i;exact bR i
 cases k with
 |par=>exact Rep.same i _ l
 |loc=>exact⟨l.1.same (bR i) _,l.2.mono (bR i)⟩
 |own n=>rcases l with⟨p,b,c,f,g⟩|⟨a,b⟩;exact .inl ⟨p,b,m _ c,f,g.later (U n) e⟩;exact .inr ⟨a,b.1.mono (U n),b.2.same (U n) _⟩
 |pr=>rcases l with⟨q,p,s,o,x,a,b,c,f,g,h,j⟩|⟨a,b⟩;exact .inl ⟨q,p,s,o,x,a,b,aG.tup i c,m _ f,g,e _ _ h,j.same i _⟩;exact .inr ⟨a,Rep.same i _ b⟩
 |ll=>obtain⟨p,a,x,w,o,P,y,z,E,F,I,t,J,L,M,N,O⟩:=l;exact⟨p,a,x,w,o,P,y,z,m _ E,m _ F,I,t,J,e _ _ L,e _ _ M,N.same i _,O.same i _⟩
 |dp=>
  rcases l with⟨q,r,p,s,Q,o,x,y,z,E,F,I,t⟩|⟨a,b⟩;exact .inl ⟨q,r,p,s,Q,o,x,y,z,aG.tup i E,aG.tup i F,i _ _ I,t.1,λj d v g1 g2=>by
   obtain⟨a,S,w,T,X,Y,Z,k5,k6⟩:=t.2 j d v g1 g2;exact⟨a,S,w,T,X,m _ Y,e _ _ Z,k5,k6.same i _⟩⟩
  exact .inr ⟨a,Rep.same i _ b⟩
 |any=>exact Rep.same e _ l
def RS.mono(r:RS K C G0 Γ σ H A st)(e:aG H H'):RS K C G0 Γ σ H' A st where
 base:=r.base.trans (aJ e)
 lists:=λa m=>let⟨o,h,z⟩:=r.lists a m;⟨o,e _ _ h,z⟩
 len:=r.len
 slot:=λi d h=>bC (r.slot i d h) λk v b c f=>⟨k,v,b,c,f.move e (aJ e) λ_ m=>m⟩
 apart:=r.apart
 gl:=r.gl
def RS.g0(r:RS K C G0 Γ σ H A st):aG G0 H:=r.base.trans (aH _ _)
def RS.JV(r:RS K C G0 Γ σ H A st):jV H (er H A):=.er r.lists
def RS.vt(r:RS K C G0 Γ σ H A st):jV H (nw G0 (er H A)):=r.JV.trans (.nw r.base)
def Val.flat(r:RS K C G0 Γ σ H A st)(e:aG H H')(n:gq d=bT)(q:Rep K C H' d v)(κ:Kd):Val K C κ G0 A H H' d v:=by
 have a:=r.mono e;cases κ with
 |new=>exact⟨q.part (.nw e) _ n,.gq n⟩
 |uL=>exact⟨q.part a.JV _ n,.gq n⟩
 |loc=>exact⟨q.part a.vt _ n,.gq n⟩
 |old=>exact Rep.part a.JV _ n q
 |uM=>exact⟨q.part (.nw a.g0) _ n,.gq n⟩
 |jG=>exact q
def RS.yx(r:RS K C G0 Γ σ H A st)(e:aG H H'):aG (nw H H') (er H' A):=λb o h=>by
 unfold nw at h;split at h;rename_i q;have:b∉A:=λm=>by
  obtain⟨o,a,z⟩:=r.lists b m;rw[a]at q;cases o with
  |lst _=>cases q
  |ext _=>cases q
  |_=>cases z
 rw[aU this];exact h;cases h
def RS.UG(r:RS K C G0 Γ σ H A st)(e:aG H H'):aG (nw H H') (nw G0 (er H' A)):=λb o h=>by
 have a:=r.yx e b o h;unfold nw at h;split at h;rename_i q;unfold nw;rw[bh6 (oh r.g0 q)];exact a;cases h
noncomputable def Kd.le:Kd->Kd->Bool
 |.new,_=>bT
 |.uL,.uL=>bT |.uL,.old=>bT |.uL,.jG=>bT
 |.loc,.loc=>bT |.loc,.old=>bT |.loc,.uM=>bT |.loc,.jG=>bT
 |.old,.old=>bT |.old,.jG=>bT
 |.uM,.uM=>bT |.uM,.jG=>bT
 |.jG,.jG=>bT
 |_,_=>b4
theorem Val.le(r:RS K C G0 Γ σ H A st)(e:aG H H'){κ:Kd}(l:κ.le κ'=bT)(q:Val K C κ G0 A H H' d v):Val K C κ' G0 A H H' d v:=by
 have n:=r.yx e;have nl:=r.UG e;cases κ <;> cases κ' <;> first
  |exact q
  |(cases l;done)
  |exact q.rep
  |exact⟨q.1.same n _,q.2.mono n⟩
  |exact⟨q.1.same nl _,(q.2.early r.g0).mono nl⟩
  |exact q.1.same n _
  |exact⟨q.1.same (nl.trans (bR (aH _ _))) _,(q.2.early r.g0).mono (nl.trans (bR (aH _ _)))⟩
  |exact q.1
  |exact q.1.same (cj _ _) _
  |exact⟨q.1.same (bR (aH _ _)) _,q.2.mono (bR (aH _ _))⟩
end
noncomputable def Kd.hp(κ:Kd)(G0:Hp)(A:List av)(H a:Hp):Hp:=match κ with
 |.new=>nw H a |.uL=>er a A |.loc=>nw G0 (er a A) |.old=>er a A |.uM=>nw G0 a |.jG=>a
noncomputable def SK.kd:SK->Kd
 |.par=>.old |.loc=>.loc |.own bT=>.uM |.own b4=>.jG |.any=>.jG |.pr=>.jG |.ll=>.jG |.dp=>.jG
noncomputable def SK.takes:SK->Kd->Bool
 |.par,κ=>κ.le .old
 |.loc,κ=>κ.le .loc
 |.own bT,κ=>κ.le .new
 |.own b4,κ=>κ.le .uL
 |.any,_=>bT
 |.pr,κ=>κ.le .new
 |.ll,_=>b4
 |.dp,_=>b4
theorem Kd.Ql:∀{κ:Kd},κ.le .new=bT->κ=.new
 |.new,_=>rfl
section
variable {K:aF}{C:Cfg}{G0:Hp}{Γ:List SK}{σ:L2.St}{H H':Hp}{A:List av}{st:gM}{κ:Kd}{d:D}{v:V}
theorem Val.hp(q:Val K C κ G0 A H H' d v):Rep K C (κ.hp G0 A H H') d v:=by
 cases κ with
 |new=>exact q.1
 |uL=>exact q.1
 |loc=>exact q.1
 |old=>exact q
 |uM=>exact q.1
 |jG=>exact q
def Kd.t9(e:aG H' a):aG (κ.hp G0 A H H') (κ.hp G0 A H a):=by
 cases κ with
 |new=>exact bR e
 |uL=>exact aJ e
 |loc=>exact bR (aJ e)
 |old=>exact aJ e
 |uM=>exact bR e
 |jG=>exact e
def Kd.Qm(e:aG H H1):aG (κ.hp G0 A H1 H') (κ.hp G0 A H H'):=by
 cases κ with
 |new=>exact oj e
 |uL=>exact .refl _
 |loc=>exact .refl _
 |old=>exact .refl _
 |uM=>exact .refl _
 |jG=>exact .refl _
def Kd.uN:aG (κ.hp G0 A H H') H':=by
 cases κ with
 |new=>exact cj _ _
 |uL=>exact aH _ _
 |loc=>exact(cj _ _).trans (aH _ _)
 |old=>exact aH _ _
 |uM=>exact cj _ _
 |jG=>exact .refl _
def cI(h:H p=aj):aG H (upd H p o):=λb u q=>by rw[aS (bg q h)];exact q
def AN(r:RS K C G0 Γ σ H A st)(e:aG H H')(h:H' p=aj):κ.hp G0 A H (upd H' p o) p=ai o:=by
 have a:H p=aj:=e.free h;have g0:G0 p=aj:=r.g0.free a;have n:p∉A:=λm=>by obtain⟨x,q,_⟩:=r.lists p m;rw[a]at q;cases q
 have u:upd H' p o p=ai o:=bM;cases κ with
 |new=>show nw H _ p=_;rw[jM a];exact u
 |uL=>show er _ A p=_;rw[aU n];exact u
 |loc=>show nw G0 _ p=_;rw[jM g0,aU n];exact u
 |old=>show er _ A p=_;rw[aU n];exact u
 |uM=>show nw G0 _ p=_;rw[jM g0];exact u
 |jG=>exact u
theorem Val.tup(r:RS K C G0 Γ σ H A st)(e:aG H H')(h:H' p=aj)(n:oX (.tup ds)=bT)(q:aM K C (κ.hp G0 A H H') ds xs):Val K C κ G0 A H (upd H' p (.tup xs)) (.tup ds) (.ref p):=by
 have R:Rep K C (κ.hp G0 A H (upd H' p (.tup xs))) (.tup ds) (.ref p):=by rw[Rep];exact⟨p,xs,rfl,.of (AN r e h),q.same (Kd.t9 (cI h)) _⟩
 have T:∀G F,lH K C G F (.tup ds) (.ref p):=λG F=>.not rfl n;cases κ with
 |new=>exact⟨R,T _ _⟩
 |uL=>exact⟨R,T _ _⟩
 |loc=>exact⟨R,T _ _⟩
 |old=>exact R
 |uM=>exact⟨R,T _ _⟩
 |jG=>exact R
theorem Val.lst(r:RS K C G0 Γ σ H A st)(e:aG H H')(h:H' p=aj)(q:aM K C (κ.hp G0 A H H') ds xs):Val K C κ G0 A H (upd H' p (.lst xs)) (.lst ds) (.ref p):=by
 have a:H p=aj:=e.free h;have c:aM K C (er (κ.hp G0 A H (upd H' p (.lst xs))) [p]) ds xs:=by
  refine q.same (λb u z=>?_) _;have n:b≠p:=λw=>by have:=Kd.uN _ _ z;rw[w,h]at this;cases this
  rw[aU (by simpa using n)];exact Kd.t9 (cI h) _ _ z
 have R:Rep K C (κ.hp G0 A H (upd H' p (.lst xs))) (.lst ds) (.ref p):=by rw[Rep];exact⟨p,xs,rfl,.of (AN r e h),c⟩
 have T:∀G,G p=aj->lH K C G (κ.hp G0 A H (upd H' p (.lst xs))) (.lst ds) (.ref p):=λG g=>⟨λ_=>⟨p,rfl,g,xs,AN r e h,c⟩,.not rfl⟩
 cases κ with
 |new=>exact⟨R,T _ a⟩
 |uL=>exact⟨R,T _ a⟩
 |loc=>exact⟨R,T _ (r.g0.free a)⟩
 |old=>exact R
 |uM=>exact⟨R,T _ (r.g0.free a)⟩
 |jG=>exact R
def UH(h:oX d=b4):∃s ds,d=.tup [.str s,.lst ds]:=by
 unfold oX at h;split at h;exact⟨_,_,rfl⟩;cases h
theorem Qn:∀{d:D},lF d=bT->oX d=bT
 |.lst _,_=>rfl
 |.bN _ _,_=>rfl
 |.tup _,h=>by cases h
def RS.read(r:RS K C G0 Γ σ H A st){i:Nat}(hk:Γ[i]?=ai k)(h:st[i]?=ai (ai d)):∃v,σ[i]?=ai (ai v)/\Val K C k.kd G0 A H H d v:=by
 refine bC (r.slot i d h) λk' v T h2 l=>?_;rw[hk]at T;cases T;refine⟨v,h2,?_⟩;cases k with
 |par=>exact l
 |loc=>exact l
 |any=>exact l
 |pr=>
  show Rep K C H d v;rcases l with⟨q,p,s,U,x,rfl,rfl,c,f,g,h,j⟩|⟨_,b⟩;have S:aG (er H A) (er H [p]):=λb u w=>by
   have nb:b≠p:=λz=>by rw[z,dG f]at w;cases w
   rw[aU (by simpa using nb)];exact aH _ _ _ _ w
  rw[Rep];refine⟨q,_,rfl,aG.tup (aH _ _) c,.cons (by rw[Rep]) (.cons ?_ (by rw[aM]))⟩;rw[Rep];exact⟨p,x,rfl,.of h,j.same S _⟩;exact b.same (aH _ _) _
 |ll=>
  obtain⟨p,a,x,es,U,vs,rfl,rfl,E,J,y,L,h10,M,N,O,P⟩:=l;show Rep K C H _ _;have S:∀{B:List av},(∀b∈B,b∈A)->aG (er H A) (er H B):=λsb b u w=>by by_cases o:b∈A;rw[dG o]at w;cases w;rw[aU (λz=>o (sb b z))];rw[aU o]at w;exact w
  have S1:aG (er H A) (er H [p]):=S λb m=>by rw[gC.mp m];exact E
  rw[Rep];refine⟨p,_,rfl,.of M,.cons ?_ (P.same S1 _)⟩;rw[Rep];refine⟨a,x,rfl,.of (by rw[aU (by simpa using eW y)];exact N),O.same (λb u w=>?_) _⟩;have o:b∉A:=λm=>by rw[dG m]at w;cases w
  rw[aU o]at w;rw[aU (by simp;exact λz=>o (z▸J)),aU (by simp;exact λz=>o (z▸E))];exact w
 |dp=>
  rcases l with⟨q,t,p,s,s',U,x,rfl,rfl,E,J,y,L⟩|⟨_,b⟩;show Rep K C H _ _;have Q:p∉A:=λm=>by rw[dG m]at y;cases y
  have X:=aH _ _ _ _ y;rw[Rep];refine⟨q,_,rfl,aG.tup (aH _ _) E,.cons (by rw[Rep]) (.cons ?_ (by rw[aM]))⟩;rw[Rep];refine⟨t,_,rfl,aG.tup (aH _ _) J,.cons (by rw[Rep]) (.cons ?_ (by rw[aM]))⟩;rw[Rep];refine⟨p,x,rfl,.of X,EA L.1 λj d v g1 g2=>?_⟩;obtain⟨a,ys,es,rfl,rfl,k3,Y,k5,k6⟩:=L.2 j d v g1 g2;have ap:a≠p:=λz=>Q (z▸k3);rw[Rep];refine⟨a,ys,rfl,.of (by rw[aU (by simpa using ap)];exact Y),?_⟩;refine(k6.same (aH _ _) _).part ((jV.er λb m=>?_).trans (.er λb m=>?_)) _ k5;rw[gC.mp m];exact⟨_,X,rfl⟩;rw[gC.mp m,aU (by simpa using ap)];exact⟨_,Y,rfl⟩;exact b.same (aH _ _) _
 |own n=>
  rcases l with⟨p,rfl,c,f,g⟩|⟨a,b⟩;have Q:∀b u,eh n G0 A H b=ai u->b≠p:=λb u w w'=>by
   subst w';unfold eh at w;cases n with
   |true=>have:=cj _ _ _ _ w;rw[dG c]at this;cases this
   |false=>rw[bh7 (by decide),dG c]at w;cases w
  have S:∀F:Hp,aG (eh n G0 A H) F->aG (eh n G0 A H) (er F [p]):=λF e b u w=>by rw[aU (by simpa using Q b u w)];exact e _ _ w
  cases n with
  |true=>
   have I:aG (eh bT G0 A H) (nw G0 H):=by unfold eh;exact bR (aH _ _)
   have Z:nw G0 H p=H p:=jM f;exact⟨g.rep (S _ I) Z,λ_=>⟨p,rfl,f,g.mono (S _ I) Z⟩,.not (Qn g.lF)⟩
  |false=>
   have I:aG (eh b4 G0 A H) H:=by unfold eh;exact aH _ _
   exact g.rep (S _ I) rfl
  cases n with
  |true=>exact⟨b.2.same (by unfold eh;exact bR (aH _ _)) _,λh=>(by rw[a]at h;cases h),b.1.mono (by unfold eh;exact bR (aH _ _))⟩
  |false=>exact b.2.same (by unfold eh;exact aH _ _) _
theorem RS.set(r:RS K C G0 Γ σ H A st)(e:aG H H')(hk:Γ[i]?=ai k)(l:k.takes κ=bT)(q:Val K C κ G0 A H H' d v) :
  ∃O,RS K C G0 Γ (σ.set i (ai v)) H' O (st.set i (ai d))/\aG (er H A) (er H' O)/\∀a∈A,a∈O:=by
 have r':=r.mono e;have t:(∀n,k=.own n->lF d=b4)->Slot K C k G0 A H' d v->∃O,RS K C G0 Γ (σ.set i (ai v)) H' O (st.set i (ai d))/\aG (er H A) (er H' O)/\∀a∈A,a∈O:=λnl s=>by
  refine⟨A,⟨r'.base,r'.lists,by simp[r.len],λj d' h=>?_,λa b n m p Y es Z g1 g2 y E o1 o2 F I=>?_,r.gl⟩,aJ e,λ_ m=>m⟩;by_cases N:i=j;subst N;have x:i<st.length:=by have:=(eN.mp h).1;simpa using this
  rw[iQ x]at h;cases h;exact⟨k,v,hk,iQ (by rw[r.len];exact x),s⟩;rw[i7 N]at h ⊢;exact r'.slot j d' h;have P:a≠i:=λz=>by
   subst z;have x:a<st.length:=by have:=(eN.mp y).1;simpa using this
   rw[iQ x]at y;rw[hk]at g1;cases y;rw[nl n (fJ g1)]at o1;cases o1
  have hb:b≠i:=λz=>by
   subst z;have x:b<st.length:=by have:=(eN.mp E).1;simpa using this
   rw[iQ x]at E;rw[hk]at g2;cases E;rw[nl m (fJ g2)]at o2;cases o2
  rw[i7 (eW P)]at y F;rw[i7 (eW hb)]at E I;exact r.apart a b n m p Y es Z g1 g2 y E o1 o2 F I
 cases k with
 |par=>exact t (λ_ z=>by cases z) (Val.le r e (κ':=.old) l q)
 |loc=>exact t (λ_ z=>by cases z) (Val.le r e (κ':=.loc) l q)
 |any=>exact t (λ_ z=>by cases z) q.rep
 |ll=>cases l
 |dp=>cases l
 |pr=>
  obtain rfl:=Kd.Ql (κ:=κ) l;have qo:Rep K C (er H' A) d v:=Val.le r e (κ:=.new) (κ':=.old) rfl q;by_cases hd:oX d=bT;exact t (λ_ z=>by cases z) (.inr ⟨hd,qo⟩);obtain⟨s,Y,rfl⟩:∃s Y,d=.tup [.str s,.lst Y]:=UH (uu.mpr hd);obtain⟨M,p,xs,rfl,f,Q,T,i1⟩:=q.2.2 s Y rfl;have hp:H' p=ai (.lst xs):=cj _ _ _ _ T;have pA:p∉A:=λm=>by obtain⟨ys,z,_⟩:=r.lists p m;rw[Q]at z;cases z
  have g0:G0 p=aj:=r.g0.free Q;have J:aG (er H A) (er H' (p::A)):=λb u z=>by
   have S:b≠p:=λw=>by have:=aH _ _ _ _ z;rw[w,Q]at this;cases this
   by_cases g:b∈A;rw[dG g]at z;cases z;rw[aU (by simp[S,g])];rw[aU g]at z;exact e _ _ z
  have UE:∀m,aG (eh m G0 A H) (eh m G0 (p::A) H'):=λm=>by unfold eh;cases m;exact J;exact bR J
  have en:aG (er (nw H H') [p]) (er H' (p::A)):=λb u z=>by by_cases S:b=p;rw[S,dG (by simp)]at z;cases z;rw[aU (by simpa using S)]at z;have:=r.yx e _ _ z;by_cases g:b∈A;rw[dG g]at this;cases this;rw[aU g]at this;rw[aU (by simp[S,g])];exact this
  have sq':lT K (er H' (p::A)) M [.str s,.ref p]:=by
   rcases f with f|f;refine .inl ?_;have nq:M≠p:=λw=>by rcases f with f|⟨u,f⟩;rw[w,T]at f;cases f;rw[w,T]at f;cases f
   have L:nw H H' M=er H' (p::A) M\/nw H H' M=aj:=by
    cases hz:nw H H' M with
    |none=>exact .inr rfl
    |some u=>refine .inl ?_;have:=en M u (by rw[aU (by simpa using nq)];exact hz);rw[this]
   rcases f with f|⟨u,f⟩;rcases L with L|L;exact .inl (by rw[<- L];exact f);rw[L]at f;cases f;rcases L with L|L;exact .inr ⟨u,by rw[<- L];exact f⟩;rw[L]at f;cases f;exact .inr f
  refine⟨p::A,⟨r.base.trans J,λa m=>?_,by simp[r.len],λj d' h=>?_,λa b n' m' p' Iw zG Z g1 g2 y E o1 o2 F I=>?_,r.gl⟩,J,λ_ m=>.tail _ m⟩;rcases cK.mp m with rfl|m;exact⟨_,hp,rfl⟩;exact r'.lists a m;by_cases N:i=j;subst N;have x:i<st.length:=by have:=(eN.mp h).1;simpa using this
  rw[iQ x]at h;cases h;exact⟨.pr,.ref M,hk,iQ (by rw[r.len];exact x),.inl ⟨M,p,s,Y,xs,rfl,rfl,sq',.head _,g0,hp,i1.same en _⟩⟩;rw[i7 N]at h ⊢;exact bC (r.slot j d' h) λk' v' h1 h2 h3=>⟨k',v',h1,h2,h3.move e J λ_ m=>.tail _ m⟩
  have P:a≠i:=λz=>by subst z;rw[hk]at g1;cases g1
  have hb:b≠i:=λz=>by subst z;rw[hk]at g2;cases g2
  rw[i7 (eW P)]at y F;rw[i7 (eW hb)]at E I;exact r.apart a b n' m' p' Iw zG Z g1 g2 y E o1 o2 F I
 |own n=>
  have q1:Val K C .uL G0 A H H' d v:=Val.le r e (κ':=.uL) (by cases n <;> cases κ <;> first|rfl|cases l) q;have q2:n=bT->Val K C .loc G0 A H H' d v:=λz=>by subst z;obtain rfl:=Kd.Ql (κ:=κ) l;exact Val.le r e rfl q
  by_cases hd:lF d=bT;refine cA (q1.2.1 hd) λp b8 Q i1=>?_;obtain rfl:=b8;refine aR i1.Qi λo T hM=>?_;have hp:H' p=ai o:=aH _ _ _ _ T;have pA:p∉A:=λm=>by obtain⟨ys,z,_⟩:=r.lists p m;rw[Q]at z;cases z
  have g0:G0 p=aj:=r.g0.free Q;have J:aG (er H A) (er H' (p::A)):=λb u z=>by
   have S:b≠p:=λw=>by have:=aH _ _ _ _ z;rw[w,Q]at this;cases this
   by_cases g:b∈A;rw[dG g]at z;cases z;rw[aU (by simp[S,g])];rw[aU g]at z;exact e _ _ z
  have UE:∀m,aG (eh m G0 A H) (eh m G0 (p::A) H'):=λm=>by unfold eh;cases m;exact J;exact bR J
  have U:mQ K C (eh n G0 (p::A) H') H' p d:=by
   cases n with
   | false=>exact i1.mono (λb u z=>by
     by_cases g:b∈[p]
     ·rw[dG g]at z;cases z
     ·rw[aU g]at z
      by_cases X:b∈A
      ·rw[dG X]at z;cases z
      ·rw[aU X]at z
       show er H' (p::A) b=_
       rw[aU (by simpa[X]using g)];exact z) (hp.trans T.symm)
   |true=>
    refine cA ((q2 rfl).2.1 hd) λp' e1 _ i2=>?_;cases e1;exact i2.mono (λb u z=>by
     by_cases g:b∈[p];rw[dG g]at z;cases z;rw[aU g]at z;show nw G0 (er H' (p::A)) b=_;unfold nw at z ⊢;split at z;rename_i kk;rw[bh6 kk];by_cases X:b∈A;rw[dG X]at z;cases z;rw[aU X]at z;rw[aU (by simpa[X]using g)];exact z;cases z) (by rw[jM g0];exact hp.trans T.symm)
  refine⟨p::A,⟨r.base.trans J,λa m=>?_,by simp[r.len],λj d' h=>?_,λa b n' m' p' Iw zG Z g1 g2 y E o1 o2 F I=>?_,r.gl⟩,J,λ_ m=>.tail _ m⟩;rcases cK.mp m with rfl|m;exact⟨o,hp,hM⟩;exact r'.lists a m;by_cases N:i=j;subst N;have x:i<st.length:=by have:=(eN.mp h).1;simpa using this
  rw[iQ x]at h;cases h;exact⟨.own n,.ref p,hk,iQ (by rw[r.len];exact x),.inl ⟨p,rfl,.head _,g0,U⟩⟩;rw[i7 N]at h ⊢;exact bC (r.slot j d' h) λk' v' h1 h2 h3=>⟨k',v',h1,h2,h3.move e J λ_ m=>.tail _ m⟩
  
  have old:∀{c:Nat} {nn:Bool} {cd:D},c≠i->Γ[c]?=ai (.own nn)->(st.set i (ai d))[c]?=ai (ai cd)->lF cd=bT->(σ.set i (ai (.ref p)))[c]?≠ai (ai (.ref p)):=λ{c nn cd} hc gc sc oc wc=>by rw[i7 (eW hc)]at sc wc;refine bC (r.slot c _ sc) λk' v' h1 h2 h3=>?_;rw[gc]at h1;cases h1;rw[wc]at h2;cases h2;rcases h3 with⟨p2,b,c',_⟩|⟨a,_⟩;cases b;exact pA c';rw[oc]at a;cases a
  by_cases P:a=i;subst P;have x:a<st.length:=by have:=(eN.mp y).1;simpa using this
  rw[iQ (by rw[r.len];exact x)]at F;cases F;exact old (eW Z) g2 E o2 I;by_cases hb:b=i;subst hb;have x:b<st.length:=by have:=(eN.mp E).1;simpa using this
  rw[iQ (by rw[r.len];exact x)]at I;cases I;exact old P g1 y o1 F;rw[i7 (eW P)]at y F;rw[i7 (eW hb)]at E I;exact r.apart a b n' m' p' Iw zG Z g1 g2 y E o1 o2 F I;have hd:=uu.mpr hd;refine t (λ_ _=>hd) (.inr ⟨hd,?_⟩);cases n with
  |false=>exact⟨q1.2.2.early r.g0,q1.1⟩
  |true=>exact⟨(q2 rfl).2.2,(q2 rfl).1⟩
end
section
variable (K:aF)(C:Cfg)(G0:Hp)(Γ:List SK)(E:L2.St->XK)
def tD(f:DF)(κ:Kd):TE:=λb H Q=>∃A st,RS K C G0 Γ b H A st/\match f st with
 |.ok d=>∀v a,aG H a->Val K C κ G0 A H a d v->Q v a
 |.ex c p=>∀a,aG H a->JT (E b) c p a
 |.bad=>False
def Cu(f:DA)(κ:Kd):TA:=λb H Q=>∃A st,RS K C G0 Γ b H A st/\match f st with
 |.ok d=>∀v a,aG H a->aM K C (κ.hp G0 A H a) d v->Q v a
 |.ex c p=>∀a,aG H a->JT (E b) c p a
 |.bad=>False
def wC(f:DF):TT:=λd H Q=>∃A st,RS K C G0 Γ d H A st/\match f st with
 |.ok (.bl b)=>∀a,aG H a->Q b a
 |.ex c p=>∀a,aG H a->JT (E d) c p a
 |_=>False
end
def _root_.L2.PE.imp(h:PE X e t)(i:∀a H Q,t' a H Q->t a H Q):PE X e t':=λb s a H Q I q=>h b s a H Q I (i a H Q q)
def _root_.L2.PT.imp(h:PT X e t)(i:∀a H Q,t' a H Q->t a H Q):PT X e t':=λb s a H Q I q=>h b s a H Q I (i a H Q q)
def _root_.L2.PW.imp(h:PW X e t)(i:∀a H Q,t' a H Q->t a H Q):PW X e t':=λw b s a H Q I q=>h w b s a H Q I (i a H Q q)
def _root_.L2.PA.imp(h:PA X e t)(i:∀a H Q,t' a H Q->t a H Q):PA X e t':=λp b s a H Q I q=>h p b s a H Q I (i a H Q q)
def _root_.L2.PS.imp(h:PS X e t)(i:∀D a H,t' D a H->t D a H):PS X e t':=λb s a H D I q=>h b s a H D I (i D a H q)
def _root_.L2.qL.imp(h:qL X e t)(i:∀D a H,t' D a H->t D a H):qL X e t':=λb s a H D I q=>h b s a H D I (i D a H q)
noncomputable def ah(i:Nat):DF:=λst=>match st[i]? with|some (ai d)=>.ok d|_=>.bad
noncomputable def dC(d:D):DF:=λ_=>.ok d
noncomputable def aX(f:DF):DF:=λst=>(f st).bind λd=>if gq d=bT then .ok d else .bad
noncomputable def aL(g:D->D->R D)(f c:DF):DF:=λst=>(f st).bind λa=>(c st).bind λb=>g a b
def oY(g:D->R D)(f:DF):DF:=λst=>(f st).bind g
noncomputable def az:DA:=λ_=>.ok []
noncomputable def af(f:DF)(g:DA):DA:=λst=>(f st).bind λd=>(g st).bind λa=>.ok (d::a)
noncomputable def bh(g:List D->R D)(f:DA):DF:=λst=>(f st).bind g
noncomputable def j8(f b:DF):DF:=λst=>(f st).bind λa=>match a with |.bl bT=>b st |.bl b4=>.ok (.bl b4)|_=>.bad
noncomputable def Ga(f b:DF):DF:=λst=>(f st).bind λa=>match a with |.bl bT=>.ok (.bl bT) |.bl b4=>b st|_=>.bad
noncomputable def om(f:DF):DF:=λst=>(f st).bind λa=>match a with |.bl b=>.ok (.bl (!b))|_=>.bad
section
variable {X:Cx}{C:Cfg}{G0:Hp}{Γ:List SK}{E:L2.St->XK}{a b c:bq}{fa fb:DF}{κ jH DC:Kd}
def Cv(i:Nat)(h:PE X e (rK i))(hk:autoParam (Γ[i]?=ai k) b5):PE X e (tD X.K C G0 Γ E (ah i) k.kd):=h.imp λl H Q z=>by
 refine dW z λA st r q=>?_;clear z;unfold ah at q;cases f:st[i]? with
 |none=>rw[f]at q;exact q.elim
 |some o=>
  cases o with
  |none=>rw[f]at q;exact q.elim
  |some d=>rw[f]at q;refine aR (r.read hk f) λv g j=>?_;exact⟨v,g,q v H (.refl _) j⟩
def UI(h:PE X e (tC v))(n:gq d=bT)(q:∀H,Rep X.K C H d v):PE X e (tD X.K C G0 Γ E (dC d) .new):=h.imp λf H Q l=>l.elim λA o=>o.elim λst s=>s.elim λr k=>k v H (.refl _) (.flat r (.refl _) n (q H) _)
def Zv{j}:PE X (.Constant (.int i) j pos) (tD X.K C G0 Γ E (dC (.int i)) .new):=UI Yq (by rw[gq] <;> simp) λH=>by rw[Rep]
def aB0{j}:PE X (.Constant (.bool i) j pos) (tD X.K C G0 Γ E (dC (.bl i)) .new):=UI ao0 (by rw[gq] <;> simp) λH=>by rw[Rep]
def Zw{j}:PE X (.Constant (.str i) j pos) (tD X.K C G0 Γ E (dC (.str i)) .new):=UI HC (by rw[gq] <;> simp) λH=>by rw[Rep]
def Cw(h:Gl X x)(d:X.mg x=ai (.int i t))(hd:autoParam ((x==("__debug__" : Str))=b4) cT):PE X (.Name x pos) (tD X.K C G0 Γ E (dC (.int i)) .new):=UI (TJ h d (v:=.int i) ⟨t,rfl⟩ hd) (by rw[gq] <;> simp) λH=>by rw[Rep]
def UJ(h:PE X e (tD X.K C G0 Γ E f κ)):PE X e (tD X.K C G0 Γ E (aX f) .new):=h.imp λl H Q i=>i.elim λA J=>J.elim λst j=>j.elim λr q=>⟨A,st,r,by
 unfold aX R.bind at q;cases g:f st with
 |ok d=>rw[g]at q;dsimp only at q ⊢;by_cases n:gq d=bT;rw[bh6 n]at q;exact λv k e w=>q v k e (.flat r e n w.rep _);rw[bh7 n]at q;exact q.elim
 |ex c p=>rw[g]at q;exact q
 | bad=>rw[g]at q;exact q⟩
def uO(K:aF)(C:Cfg)(r2:R2)(g:D->D->R D)(κ:Kd):Prop:=∀(G0:Hp) (Γ:List SK) (E:XK) (f:L2.St) (A:List av) (st:gM) (H:Hp) (a b:D) (x y:V) (Q:VK),RS K C G0 Γ f H A st->Rep K C H a x->Rep K C H b y->
 (match g a b with |.ok d=>∀v e,aG H e->Val K C κ G0 A H e d v->Q v e |.ex c p=>∀e,aG H e->JT E c p e |.bad=>False)->r2 x y H Q
def two(m:uO X.K C r2 g κ):∀f H Q,tD X.K C G0 Γ E (aL g fa fb) κ f H Q->tOp r2 (tD X.K C G0 Γ E fa jH) (tD X.K C G0 Γ E fb DC) f H Q:=λf H Q z=>by
 refine dW z λA st r q=>?_;clear z;refine⟨A,st,r,?_⟩;unfold aL R.bind at q;cases k:fa st with
 |bad=>rw[k]at q;exact q
 |ex c p=>rw[k]at q;exact q
 |ok a=>
  rw[k]at q;intro x H1 e n;refine⟨A,st,r.mono e,?_⟩;dsimp only at q;cases hb:fb st with
  |bad=>rw[hb]at q;exact q
  |ex c p=>rw[hb]at q;exact λh i=>q h (e.trans i)
  |ok b=>
   rw[hb]at q;intro y o j s;refine m G0 Γ (E f) f A st o a b x y Q ((r.mono e).mono j) (n.rep.same j _) s.rep ?_;dsimp only at q;cases l:g a b with
   |bad=>rw[l]at q;exact q
   |ex c p=>rw[l]at q;exact λh i=>q h ((e.trans j).trans i)
   |ok d=>rw[l]at q;exact λv h i w=>q v h ((e.trans j).trans i) (w.early (e.trans j))
def AO(hr:qx X (binaryOp op) r2)(h:uO X.K C r2 g κ)(d:PE X a (tD X.K C G0 Γ E fa jH))(hb:PE X b (tD X.K C G0 Γ E fb DC)):PE X (.BinOp a op b pos) (tD X.K C G0 Γ E (aL g fa fb) κ):=(aq9 hr d hb).imp (two h)
def Cy(hr:qx X (i0 op) r2)(h:uO X.K C r2 g κ)(d:PE X a (tD X.K C G0 Γ E fa jH))(hb:PE X b (tD X.K C G0 Γ E fb DC))(e:behindInMarks op b=b4):PE X (.Compare a [op] [b] pos) (tD X.K C G0 Γ E (aL g fa fb) κ):=(TV hr d hb e).imp (two h)
theorem uO.flat{K:aF}{r2:R2}{g:D->D->R D}(h:∀(H:Hp) (a b:D) (x y:V) (Q:VK),Rep K C H a x->Rep K C H b y->(match g a b with | .ok d=>gq d=bT/\∀v,Rep K C H d v->Q v H|_=>False)->r2 x y H Q)(f:∀a b,(∀c p,g a b≠.ex c p)/\∀d,g a b=.ok d->gq d=bT):uO K C r2 g κ:=λG0 Γ E k A st H a b x y Q r i j q=>h H a b x y Q i j (by
 cases e:g a b with
 |bad=>rw[e]at q;exact q
 |ex c p=>exact bi8 e ((f a b).1 c p)
 | ok d=>rw[e]at q;exact⟨(f a b).2 d e,λv w=>q v H (.refl _) (.flat r (.refl _) ((f a b).2 d e) w _)⟩)
noncomputable def Iz(d:Int->Int->Bool)(g:Int->Int->D):D->D->R D:=λa b=>match a,b with |.int i,.int j=>if d i j=bT then .ok (g i j)else .bad|_,_=>.bad
def Qo{e:Int->Int->Bool}{g:Int->Int->D}{a b d:D}(h:Iz e g a b=.ok d):∃i j,a=.int i/\b=.int j/\e i j=bT/\d=g i j:=by
 unfold Iz at h;split at h;split at h;rename_i q;cases h;exact⟨_,_,rfl,rfl,q,rfl⟩;cases h;cases h
def Qp{d:Int->Int->Bool}{g:Int->Int->D}{a b:D}{c:av}{p:Option Int}:Iz d g a b≠.ex c p:=by
 unfold Iz;split;split <;> exact λh=>by cases h
 exact λh=>by cases h
def kW{K:aF}{r2:R2}{f:Int->Int->Bool}{g:Int->Int->D}(h:∀(H:Hp) (i j:Int) (Q:VK),f i j=bT->(∀v,Rep K C H (g i j) v->Q v H)->r2 (.int i) (.int j) H Q)(n:∀i j,gq (g i j)=bT):uO K C r2 (Iz f g) κ:=.flat (λH a b x y Q k l q=>by
  cases e:Iz f g a b with
  |bad=>rw[e]at q;exact q.elim
  |ex c p=>exact bi8 e Qp
  | ok d=>rw[e]at q;refine ux (Qo e) λi j m r o U=>?_;obtain rfl:=m;obtain rfl:=r;obtain rfl:=U;rw[Rep]at k l;subst k;subst l;exact h H i j Q o q.2) λa b=>⟨λc p=>Qp,λd hd=>by obtain⟨i,j,_,_,_,rfl⟩:=Qo hd;exact n i j⟩
noncomputable def iE:=Iz (λ_ _=>bT) λi j=>.int (i+j)
noncomputable def mO:=Iz (λ_ _=>bT) λi j=>.int (i-j)
noncomputable def sm(i:Int):Bool:=decide (-(2 ^ 64)<i)&&decide (i<2 ^ 64)
noncomputable def ou:=Iz (λi j=>sm i || sm j) λi j=>.int (i*j)
noncomputable def n9:=Iz (λ_ j=>decide (0<j)&&decide (j<1073741824)) λi j=>.int (i / j)
noncomputable def gw:=Iz (λ_ j=>decide (0<j)) λi j=>.int (i % j)
noncomputable def gLt:=Iz (λ_ _=>bT) λi j=>.bl (decide (i<j))
noncomputable def XG:=Iz (λ_ _=>bT) λi j=>.bl (decide (i<=j))
noncomputable def yy:=Iz (λ_ _=>bT) λi j=>.bl (decide (j<i))
noncomputable def gGe:=Iz (λ_ _=>bT) λi j=>.bl (decide (j<=i))
def yz{K:aF}{H:Hp}{i:Int}:Rep K C H (.int i) (.int i):=by rw[Rep]
def vN{K:aF}{H:Hp}{i:Bool}:Rep K C H (.bl i) (.bl i):=by rw[Rep]
def UK{K:aF}:uO K C (Ju λi j=>.int (i+j)) iE .new:=kW (λH i j Q _ q=>⟨i,j,rfl,rfl,q _ yz⟩) λi j=>by rw[gq] <;> simp
def UL{K:aF}:uO K C (Ju λi j=>.int (i-j)) mO .new:=kW (λH i j Q _ q=>⟨i,j,rfl,rfl,q _ yz⟩) λi j=>by rw[gq] <;> simp
def UM{K:aF}:uO K C (rI TR λi j=>.int (i*j)) ou .new:=kW (λH i j Q c q=>⟨i,j,rfl,rfl,by
 rcases kZ _ _ |>.mp c with c|c;simp[sm]at c;exact .inl ⟨by lia,by lia⟩;simp[sm]at c;exact .inr ⟨by lia,by lia⟩,q _ yz⟩) λi j=>by rw[gq] <;> simp
def UN{K:aF}:uO K C (rI ar2 λi j=>.int (i / j)) n9 .new:=kW (λH i j Q c q=>⟨i,j,rfl,rfl,by simp at c;exact⟨c.1,c.2⟩,q _ yz⟩) λi j=>by rw[gq] <;> simp
def UO{K:aF}:uO K C (rI (λ_ j=>0<j) λi j=>.int (i % j)) gw .new:=kW (λH i j Q c q=>⟨i,j,rfl,rfl,by simpa using c,q _ yz⟩) λi j=>by rw[gq] <;> simp
def Zx{K:aF}:uO K C (Ju λi j=>.bl (decide (i<j))) gLt .new:=kW (λH i j Q _ q=>⟨i,j,rfl,rfl,q _ vN⟩) λi j=>by rw[gq] <;> simp
def uP{K:aF}:uO K C (Ju λi j=>.bl (decide (i<=j))) XG .new:=kW (λH i j Q _ q=>⟨i,j,rfl,rfl,q _ vN⟩) λi j=>by rw[gq] <;> simp
def Zy{K:aF}:uO K C (Ju λi j=>.bl (decide (j<i))) yy .new:=kW (λH i j Q _ q=>⟨i,j,rfl,rfl,q _ vN⟩) λi j=>by rw[gq] <;> simp
def Zz{K:aF}:uO K C (Ju λi j=>.bl (decide (j<=i))) gGe .new:=kW (λH i j Q _ q=>⟨i,j,rfl,rfl,q _ vN⟩) λi j=>by rw[gq] <;> simp
noncomputable def i9(n:Bool):D->D->R D:=λa b=>if(Dm.flat a&&Dm.flat b&&decide (dep a<=60))=bT then .ok (.bl (if n then !iJ a b else iJ a b))else .bad
def Cz{K:aF}{n:Bool}:uO K C (Zs K C n) (i9 n) .new:=.flat (λH a b x y Q f g q=>by
  unfold i9 at q;split at q;rename_i c;split at c;rename_i e;cases c;simp only[bI,bi1]at e;exact⟨a,b,f,g,e.1.1,e.1.2,e.2,q.2 _ vN⟩;cases c;exact q.elim) λa b=>⟨λc p=>(by unfold i9;split <;> exact λh=>(by cases h)),λd h=>by unfold i9 at h;split at h <;> cases h;rw[gq] <;> simp⟩
noncomputable def iT(n:Bool):D->D->R D:=λa b=>match b with
 |.lst d=>if(Dm.flat a&&cC d&&decide (jU d<=60))=bT then .ok (.bl (if n then !(d.any λe=>iJ e a)else d.any λe=>iJ e a))else .bad
 |.tup d=>if(Dm.flat a&&cC d&&decide (jU d<=60))=bT then .ok (.bl (if n then !(d.any λe=>iJ e a)else d.any λe=>iJ e a))else .bad
 |_=>.bad
def CA{K:aF}{n:Bool}:uO K C (Zt K C n) (iT n) .new:=.flat (λH a b x y Q g i q=>by
  cases b with
  |lst f=>unfold iT at q;dsimp only at q;split at q;rename_i c;split at c;rename_i e;cases c;simp only[bI,bi1]at e;exact⟨a,f,g,.inl i,e.1.1,e.1.2,e.2,q.2 _ vN⟩;cases c;exact q.elim
  |tup f=>unfold iT at q;dsimp only at q;split at q;rename_i c;split at c;rename_i e;cases c;simp only[bI,bi1]at e;exact⟨a,f,g,.inr i,e.1.1,e.1.2,e.2,q.2 _ vN⟩;cases c;exact q.elim
  | _=>exact q.elim) λa b=>⟨λc p=>(by unfold iT;split <;> (try split) <;> exact λh=>(by cases h)),λd h=>by unfold iT at h;split at h <;> (try split at h) <;> cases h <;> (rw[gq] <;> simp)⟩
noncomputable def dh:D->D->R D:=λa b=>match a,b with
 |.lst e,.int i=>match E5 e i with|some d=>.ok d|none=>.bad
 |.tup e,.int i=>match E5 e i with|some d=>.ok d|none=>.bad
 |_,_=>.bad
def EB{K:aF}{H:Hp}{ds:List D}{xs:List V}{i:Int}{d:D}(q:aM K C H ds xs)(h:E5 ds i=ai d):∃v,E5 xs i=ai v/\Rep K C H d v:=by
 unfold E5 at h ⊢;rw[q.len];cases e:Td ds.length i with
 |none=>rw[e]at h;cases h
 |some j=>rw[e]at h;exact q.get' h
end
section
variable {X:Cx}{C:Cfg}{G0:Hp}{Γ:List SK}{E:L2.St->XK}{a b c:bq}{fa fb:DF}{κ jH:Kd}{rest:List bq}{pos:Pos}
def ZA{K:aF}{H:Hp}{a d:D}{x:V}{i:Int}(f:Rep K C H a x)(h:dh a (.int i)=.ok d):(∃p xs v,x=.ref p/\(k9 K H p xs\/lT K H p xs)/\E5 xs i=ai v/\Rep K C H d v):=by
 cases a with
 |lst g=>
  unfold dh at h;dsimp only at h;cases e:E5 g i with
  |none=>rw[e]at h;cases h
  |some o=>rw[e]at h;cases h;refine bC f.items λp xs j k l=>?_;obtain rfl:=j;refine aR (EB l e) λv m n=>?_;exact⟨p,xs,v,rfl,.inl k,m,n⟩
 |tup g=>
  unfold dh at h;dsimp only at h;cases e:E5 g i with
  |none=>rw[e]at h;cases h
  |some o=>rw[e]at h;cases h;rw[Rep]at f;refine bC f λp xs j k l=>?_;clear f;obtain rfl:=j;refine aR (EB l e) λv m n=>?_;exact⟨p,xs,v,rfl,.inr k,m,n⟩
 |_=>cases h
def aB2(K:aF):R2:=λx y H Q=>aw8 K x y H Q\/aw9 K x y H Q
def aX9:U5 X (aB2 X.K):=U6.or YS
def k9.part{K:aF}{G H:Hp}(e:aG G H){p:av}{xs:List V}(h:k9 K G p xs\/lT K G p xs):k9 K H p xs\/lT K H p xs:=h.imp (λh=>e.seq h) λh=>aG.tup e h
noncomputable def Kd.item:Kd->Kd
 |.uL=>.old
 |.new=>.old
 |.loc=>.old
 |.old=>.old
 |_=>.jG
def UP{a b d:D}(h:dh a b=.ok d):∃i,b=.int i:=by
 cases b with
 |int i=>exact⟨i,rfl⟩
 |_=>cases a <;> cases h
def ZC{a b:D}{c:av}{p:Option Int}:dh a b≠.ex c p:=by
 unfold dh;split;split <;> exact λh=>(by cases h)
 split <;> exact λh=>(by cases h)
 exact λh=>(by cases h)
def CB(h:PE X a (tD X.K C G0 Γ E fa jH))(hb:PE X b (tD X.K C G0 Γ E fb DC))(hs:qz b):PE X (.Subscript a b pos) (tD X.K C G0 Γ E (aL dh fa fb) jH.item):=(Xi aX9 h hb hs).imp λO H Q n=>by
 refine dW n λA st r q=>?_;clear n;refine⟨A,st,r,?_⟩;unfold aL R.bind at q;cases h:fa st with
 |bad=>rw[h]at q;exact q
 |ex c p=>rw[h]at q;exact q
 |ok a=>
  rw[h]at q;intro x H1 m F;refine⟨A,st,r.mono m,?_⟩;dsimp only at q;cases hb:fb st with
  |bad=>rw[hb]at q;exact q
  |ex c p=>rw[hb]at q;exact λI J=>q I (m.trans J)
  |ok b=>
   rw[hb]at q;intro y f o L;dsimp only at q;cases g:dh a b with
   |bad=>rw[g]at q;exact q.elim
   |ex c p=>exact bi8 g ZC
   |ok d=>
    rw[g]at q;obtain⟨i,rfl⟩:=UP g;have j:=m.trans o;have w:=F.later o;obtain rfl:y=.int i:=by have:=L.rep;rw[Rep]at this;exact this
    have fin:∀G:Hp,aG G f->Rep X.K C G a x->(∀v,Rep X.K C G d v->Val X.K C jH.item G0 A H f d v)->aB2 X.K x (.int i) f Q:=λG e M k=>by refine Tw (ZA M g) λp t v N s l u=>?_;obtain rfl:=N;rcases k9.part e s with s|s;exact .inl ⟨p,t,i,v,rfl,rfl,s,l,q v f j (k v u)⟩;exact .inr ⟨p,t,i,v,rfl,rfl,s,l,q v f j (k v u)⟩
    cases jH with
    |new=>exact fin _ (aH _ _) (w.le r j (κ':=.old) rfl) λv z=>z
    |uL=>exact fin _ (aH _ _) (w.le r j (κ':=.old) rfl) λv z=>z
    |loc=>exact fin _ (aH _ _) (w.le r j (κ':=.old) rfl) λv z=>z
    |old=>exact fin _ (aH _ _) w λv z=>z
    |uM=>exact fin _ (.refl _) w.rep λv z=>z
    |jG=>exact fin _ (.refl _) w λv z=>z
def IA:PA X [] (Cu X.K C G0 Γ E az κ):=l7.imp λd H Q l=>l.elim λA o=>o.elim λst s=>s.elim λr q=>q [] H (.refl _) .nil
def wD(i:PE X e (tD X.K C G0 Γ E f jH))(hr:PA X es (Cu X.K C G0 Γ E fs κ))(l:autoParam (jH.le κ=bT) b5)(hs:autoParam (bF (e::es) X.env=(b4,eval e X.env)::bF es X.env) b5):PA X (e::es) (Cu X.K C G0 Γ E (af f fs) κ):=(gF i hr hs).imp λo H Q z=>by
 refine dW z λA st r q=>?_;clear z;refine⟨A,st,r,?_⟩;unfold af R.bind at q;cases h:f st with
 |bad=>rw[h]at q;exact q
 |ex c p=>rw[h]at q;exact q
 |ok a=>
  rw[h]at q;intro x H1 d w;refine⟨A,st,r.mono d,?_⟩;dsimp only at q;cases hb:fs st with
  |bad=>rw[hb]at q;exact q
  |ex c p=>rw[hb]at q;exact λj k=>q j (d.trans k)
  |ok b=>rw[hb]at q;intro y m g n;exact q (x::y) m (d.trans g) (.cons ((w.le r d l).hp.same (Kd.t9 g) _) (n.same (Kd.Qm d) _))
def yC{l:List α}(h:l.length<=100):l.length<=cH:=cz h (by rw[gf];decide)
noncomputable def bY(n:Nat)(f:DA):DF:=λst=>(f st).bind λd=>if d.length<=n/\oX (.tup d)=bT then .ok (.tup d)else .bad
def CC{x}(h:PA X es (Cu X.K C G0 Γ E fs κ)):PE X (.Tuple es x pos) (tD X.K C G0 Γ E (bY 100 fs) κ):=(BU h).imp λj H Q z=>by
 refine dW z λA st r q=>?_;clear z;refine⟨A,st,r,?_⟩;unfold bY R.bind at q;cases f:fs st with
 |bad=>rw[f]at q;exact q
 |ex c p=>rw[f]at q;exact q
 |ok k=>
  rw[f]at q;dsimp only at q;split at q;rename_i d e;split at e;rename_i hl;cases e;exact λv H1 g w=>⟨yC (by rw[w.len];exact hl.1),λp i=>q _ _ (g.trans (cI i)) (.tup r g i hl.2 w)⟩
  cases e;rename_i e;split at e <;> cases e;exact q.elim
noncomputable def cF(n:Nat)(f:DA):DF:=λst=>(f st).bind λd=>if d.length<=n then .ok (.lst d)else .bad
def Qq(h:PA X es (Cu X.K C G0 Γ E fs κ)):PE X (.List es pos) (tD X.K C G0 Γ E (cF 100 fs) κ):=(YM h).imp λj H Q z=>by
 refine dW z λA st r q=>?_;clear z;refine⟨A,st,r,?_⟩;unfold cF R.bind at q;cases f:fs st with
 |bad=>rw[f]at q;exact q
 |ex c p=>rw[f]at q;exact q
 |ok k=>
  rw[f]at q;dsimp only at q;split at q;rename_i d e;split at e;rename_i hl;cases e;exact λv H1 g w=>⟨yC (by rw[w.len];exact hl),λp i=>q _ _ (g.trans (cI i)) (.lst r g i w)⟩
  cases e;rename_i e;split at e <;> cases e;exact q.elim
def XH(K:aF)(C:Cfg)(r1:List V->Hp->VK->Prop)(g:List D->R D)(κ:Kd):Prop:=∀(G0:Hp) (Γ:List SK) (E:XK) (h:L2.St) (A:List av) (st:gM) (H:Hp) (f:List D) (x:List V) (Q:VK),RS K C G0 Γ h H A st->aM K C H f x->
 (match g f with |.ok d=>∀v e,aG H e->Val K C κ G0 A H e d v->Q v e |.ex c p=>∀e,aG H e->JT E c p e |.bad=>False)->r1 x H Q
def vz(o:XH X.K C r1 g κ)(h:PE X e (tCB r1 (Cu X.K C G0 Γ E fs jH))):PE X e (tD X.K C G0 Γ E (bh g fs) κ):=h.imp λm H Q z=>by
 refine dW z λA st r q=>?_;clear z;refine⟨A,st,r,?_⟩;unfold bh R.bind at q;cases i:fs st with
 |bad=>rw[i]at q;exact q
 |ex c p=>rw[i]at q;exact q
 |ok n=>
  rw[i]at q;dsimp only at q;intro s H1 f t;refine o G0 Γ (E m) m A st H1 n s Q (r.mono f) (t.same Kd.uN _) ?_;cases j:g n with
  |bad=>rw[j]at q;exact q
  |ex c p=>rw[j]at q;exact λk l=>q k (f.trans l)
  |ok d=>rw[j]at q;exact λv k l w=>q v k (f.trans l) (w.early f)
def oO{K:aF}{H:Hp}{d:D}{xs:List V}(h:aM K C H [d] xs):∃v,xs=[v]/\Rep K C H d v:=by
 rw[aM]at h;refine bC h λv r e q z=>?_;clear h;obtain rfl:=e;rw[aM]at z;subst z;exact⟨v,rfl,q⟩
noncomputable def gQ:List D->R D:=λd=>match d with |[.lst x]=>.ok (.int x.length) |[.tup x]=>.ok (.int x.length)|_=>.bad
def UQ{K:aF}:XH K C (λxs H Q=>∃p ys,xs=[.ref p]/\(k9 K H p ys\/lT K H p ys)/\Q (.int ys.length) H) gQ .new:=λG0 Γ E f A st H g xs Q r w q=>by
 unfold gQ at q;split at q;rename_i z;split at z;cases z;refine aR (oO w) λv j d=>?_;obtain rfl:=j;refine bC d.items λp ys e s t=>?_;obtain rfl:=e;exact⟨p,ys,rfl,.inl s,q _ H (.refl _) (.flat r (.refl _) (by rw[gq] <;> simp) (by rw[t.len];exact yz) _)⟩;cases z;refine aR (oO w) λv j d=>?_;obtain rfl:=j;rw[Rep]at d;refine bC d λp ys e s t=>?_;clear d;obtain rfl:=e;exact⟨p,ys,rfl,.inr s,q _ H (.refl _) (.flat r (.refl _) (by rw[gq] <;> simp) (by rw[t.len];exact yz) _)⟩;cases z;rename_i z;split at z <;> cases z;exact q.elim
noncomputable def lJ:List D->R D:=λd=>match d with |[.lst x]=>if dR x=bT then .ok (.lst x)else .bad |[.tup x]=>if dR x=bT then .ok (.lst x)else .bad|_=>.bad
def EC{K:aF}:XH K C (λxs H Q=>∃p ys,xs=[.ref p]/\(k9 K H p ys\/lT K H p ys)/\∀l,H l=aj->Q (.ref l) (upd H l (.lst ys))) lJ .new:=λG0 Γ E i A st H k xs Q r w q=>by
 have fin:∀(e:List D) (p:av) (ys:List V),(k9 K H p ys\/lT K H p ys)->aM K C H e ys->dR e=bT->(∀v f,aG H f->Val K C .new G0 A H f (.lst e) v->Q v f)->∃g J,[V.ref p]=[.ref g]/\(k9 K H g J\/lT K H g J)/\∀l,H l=aj->Q (.ref l) (upd H l (.lst J)):=λe p ys s t n q=>
  ⟨p,ys,rfl,s,λl hl=>q _ _ (cI hl) (.lst r (.refl _) hl (t.part (.nw (.refl _)) _ n))⟩
 unfold lJ at q;split at q;rename_i z;split at z;split at z;rename_i n;cases z;refine aR (oO w) λv j d=>?_;obtain rfl:=j;refine bC d.items λp ys h s t=>?_;obtain rfl:=h;exact fin _ _ _ (.inl s) t n q;cases z;split at z;rename_i n;cases z;refine aR (oO w) λv j d=>?_;obtain rfl:=j;rw[Rep]at d;refine bC d λp ys h s t=>?_;clear d;obtain rfl:=h;exact fin _ _ _ (.inr s) t n q;cases z;cases z
 ·rename_i z;split at z <;> (try split at z) <;> cases z
 exact q.elim
def XI(h:PE X e (tD X.K C G0 Γ E f κ))(j:autoParam (∀g,isTrue e X.env g=(do let v <- g;standAt e.pos;holding [v] (truthy v))) dF):PT X e (wC X.K C G0 Γ E f):=(Yr h j).imp λm H Q z=>by
 refine dW z λA st r q=>?_;clear z;refine⟨A,st,r,?_⟩;cases i:f st with
 |bad=>rw[i]at q;exact q
 |ex c p=>rw[i]at q;exact q
 |ok d=>
  rw[i]at q;cases d with
  |bl b=>exact λv k l w=>⟨b,by have:=w.rep;rw[Rep]at this;exact this,q k l⟩
  |_=>exact q.elim
def mR(hr:qx X (i0 op) r2)(e:uO X.K C r2 g .new)(f:PE X a (tD X.K C G0 Γ E fa jH))(hb:PE X b (tD X.K C G0 Γ E fb DC))(i:behindInMarks op b=b4):PT X (.Compare a [op] [b] pos) (wC X.K C G0 Γ E (aL g fa fb)):=(TX hr f hb i).imp λj H Q z=>by
 refine dW z λA st r q=>?_;clear z;refine two (κ:=.new) e j H _ ⟨A,st,r,?_⟩;cases h:aL g fa fb st with
 |bad=>rw[h]at q;exact q
 |ex c p=>rw[h]at q;exact q
 |ok d=>
  rw[h]at q;cases d with
  |bl b=>exact λv k l w=>⟨b,by have:=w.rep;rw[Rep]at this;exact this,q k l⟩
  |_=>exact q.elim
def ZD(h:PT X a (wC X.K C G0 Γ E fa)):PT X (.UnaryOp .Not a pos) (wC X.K C G0 Γ E (om fa)):=(Ys h).imp λf H Q z=>by
 refine dW z λA st r q=>?_;clear z;refine⟨A,st,r,?_⟩;unfold om R.bind at q;cases e:fa st with
 |bad=>rw[e]at q;exact q
 |ex c p=>rw[e]at q;exact q
 |ok d=>
  rw[e]at q;cases d with
  |bl b=>exact q
  |_=>exact q.elim
def UR(h:PT X a (wC X.K C G0 Γ E fa)):PW X (.BoolOp .And [a] pos) (wC X.K C G0 Γ E fa):=pw_and1 h
def ZE(h:PT X a (wC X.K C G0 Γ E fa)):PW X (.BoolOp .Or [a] pos) (wC X.K C G0 Γ E fa):=pw_or1 h
def ZF(i:PT X a (wC X.K C G0 Γ E fa))(hb:PW X (.BoolOp .And (b::rest) pos) (wC X.K C G0 Γ E fb)):PW X (.BoolOp .And (a::b::rest) pos) (wC X.K C G0 Γ E (j8 fa fb)):=(pw_and i hb).imp λj H Q z=>by
 refine dW z λA st r q=>?_;clear z;refine⟨A,st,r,?_⟩;unfold j8 R.bind at q;cases h:fa st with
 |bad=>rw[h]at q;exact q
 |ex c p=>rw[h]at q;exact q
 |ok d=>
  rw[h]at q;cases d with
  |bl b=>
   intro H1 e;cases b with
   |false=>rw[bh7 jd];exact q H1 e
   |true=>
    rw[bh6 rfl];refine⟨A,st,r.mono e,?_⟩;dsimp only at q;cases hb:fb st with
    |bad=>rw[hb]at q;exact q
    |ex c p=>rw[hb]at q;exact λf g=>q f (e.trans g)
    |ok d=>
     rw[hb]at q;cases d with
     |bl b=>exact λf g=>q f (e.trans g)
     |_=>exact q.elim
  |_=>exact q.elim
def aB3(i:PT X a (wC X.K C G0 Γ E fa))(hb:PW X (.BoolOp .Or (b::rest) pos) (wC X.K C G0 Γ E fb)):PW X (.BoolOp .Or (a::b::rest) pos) (wC X.K C G0 Γ E (Ga fa fb)):=(pw_or i hb).imp λj H Q z=>by
 refine dW z λA st r q=>?_;clear z;refine⟨A,st,r,?_⟩;unfold Ga R.bind at q;cases h:fa st with
 |bad=>rw[h]at q;exact q
 |ex c p=>rw[h]at q;exact q
 |ok d=>
  rw[h]at q;cases d with
  |bl b=>
   intro H1 e;cases b with
   |true=>rw[bh6 rfl];exact q H1 e
   |false=>
    rw[bh7 jd];refine⟨A,st,r.mono e,?_⟩;dsimp only at q;cases hb:fb st with
    |bad=>rw[hb]at q;exact q
    |ex c p=>rw[hb]at q;exact λf g=>q f (e.trans g)
    |ok d=>
     rw[hb]at q;cases d with
     |bl b=>exact λf g=>q f (e.trans g)
     |_=>exact q.elim
  |_=>exact q.elim
def ZG{op}(h:PE X a (tD X.K C G0 Γ E fa κ)):PE X (.BoolOp op [a] pos) (tD X.K C G0 Γ E fa κ):=Yt h
def vbl{K:aF}{A:List av}{H d:Hp}{b:Bool}{v:V}(w:Val K C κ G0 A H d (.bl b) v):v=.bl b:=by have:=w.rep;rw[Rep]at this;exact this
def ZH(i:PE X a (tD X.K C G0 Γ E fa jH))(hb:PE X (.BoolOp .And (b::rest) pos) (tD X.K C G0 Γ E fb κ)):PE X (.BoolOp .And (a::b::rest) pos) (tD X.K C G0 Γ E (j8 fa fb) κ):=(Yu i hb).imp λk H Q z=>by
 refine dW z λA st r q=>?_;clear z;refine⟨A,st,r,?_⟩;unfold j8 R.bind at q;cases h:fa st with
 |bad=>rw[h]at q;exact q
 |ex c p=>rw[h]at q;exact q
 |ok d=>
  rw[h]at q;cases d with
  |bl b=>
   intro v H1 e j;refine⟨b,vbl j,?_⟩;cases b with
   |false=>rw[bh7 jd];exact q _ H1 e (.flat r e (by rw[gq] <;> simp) vN _)
   |true=>
    rw[bh6 rfl];refine⟨A,st,r.mono e,?_⟩;dsimp only at q;cases hb:fb st with
    |bad=>rw[hb]at q;exact q
    |ex c p=>rw[hb]at q;exact λf g=>q f (e.trans g)
    |ok d=>rw[hb]at q;exact λv f g w=>q v f (e.trans g) (w.early e)
  |_=>exact q.elim
end
def US(K:aF)(C:Cfg)(i:Option Bool)(G0 H:Hp)(d:D)(v:V):Prop:=match i with
 |some bT=>Rep K C (nw G0 H) d v/\lH K C G0 (nw G0 H) d v
 |some b4=>Rep K C H d v
 |none=>(Rep K C (nw G0 H) d v/\lH K C G0 (nw G0 H) d v)/\qe K C G0 (nw G0 H) d v
section
variable (K:aF)(C:Cfg)(G0:Hp)(Γ:List SK)(E:L2.St->XK)(iU:Option Bool)
def lV(F:DS):TS:=λD f H=>∃A st,RS K C G0 Γ f H A st/\match F st with
 |.nx s=>∀b a e,RS K C G0 Γ b a e s->aG (er H A) (er a e)->D.nx b a
 |.bk s=>∀b a e,RS K C G0 Γ b a e s->aG (er H A) (er a e)->D.bk b a
 |.ct s=>∀b a e,RS K C G0 Γ b a e s->aG (er H A) (er a e)->D.ct b a
 |.rt d=>∀v a,aG G0 a->US K C iU G0 a d v->D.rt v a
 |.ex c p s=>∀b a e,RS K C G0 Γ b a e s->aG (er H A) (er a e)->JT (E b) c p a
 |.bad=>False
end
noncomputable def aZ(F G:DS):DS:=λst=>match F st with |.nx s=>G s|o=>o
def bf:DS:=λst=>.nx st
noncomputable def cB(i:Nat)(f:DF):DS:=λst=>match f st with |.ok d=>.nx (st.set i (ai d)) |.ex c p=>.ex c p st |.bad=>.bad
noncomputable def oQ(f:DF):DS:=λst=>match f st with |.ok _=>.nx st |.ex c p=>.ex c p st |.bad=>.bad
noncomputable def cP(f:DF):DS:=λst=>match f st with |.ok d=>.rt d |.ex c p=>.ex c p st |.bad=>.bad
noncomputable def bS(f:DF)(F G:DS):DS:=λst=>match f st with |.ok (.bl bT)=>F st |.ok (.bl b4)=>G st |.ok _=>.bad |.ex c p=>.ex c p st |.bad=>.bad
section
variable {X:Cx}{C:Cfg}{G0:Hp}{Γ:List SK}{E:L2.St->XK}{iU:Option Bool}{c:bq}{κ:Kd}{pos:Pos}
def ZI:qL X [] (lV X.K C G0 Γ E iU bf):=TM.imp λD a H l=>l.elim λA o=>o.elim λst s=>s.elim λr q=>q a H A r (.refl _)
def UT(h1:PS X s (lV X.K C G0 Γ E iU F))(k:qL X ss (lV X.K C G0 Γ E iU G)):qL X (s::ss) (lV X.K C G0 Γ E iU (aZ F G)):=(DV h1 k).imp λD o H z=>by
 refine dW z λA st r q=>?_;clear z;refine⟨A,st,r,?_⟩;unfold aZ at q;cases h:F st with
 |nx a=>
  rw[h]at q;intro t u l n j;refine⟨l,a,n,?_⟩;dsimp only at q;cases i:G a with
  |nx m=>rw[i]at q;exact λb e f r2 g=>q b e f r2 (j.trans g)
  |bk m=>rw[i]at q;exact λb e f r2 g=>q b e f r2 (j.trans g)
  |ct m=>rw[i]at q;exact λb e f r2 g=>q b e f r2 (j.trans g)
  |rt d=>rw[i]at q;exact q
  |ex c p m=>rw[i]at q;exact λb e f r2 g=>q b e f r2 (j.trans g)
  |bad=>rw[i]at q;exact q
 |bk a=>rw[h]at q;exact q
 |ct a=>rw[h]at q;exact q
 |rt d=>rw[h]at q;exact q
 |ex c p a=>rw[h]at q;exact q
 |bad=>rw[h]at q;exact q
def ZJ(h1:PS X s (lV X.K C G0 Γ E iU F)):qL X [s] (lV X.K C G0 Γ E iU F):=vZ h1
def ZK(g:X.N.Nodup)(j:PE X e (tD X.K C G0 Γ E f κ))(hk:autoParam (Γ[i]?=ai k) b5)(hl:autoParam (k.takes κ=bT) b5)(l:autoParam (X.N[i]?=ai x) b5)(m:autoParam (Loc X.env.scope x) ef)(hs:autoParam (swapsWith e (ai (.Name x pos')) pos.line X.env=pure b4) b5)
  (h:autoParam (X.fn x=bT\/X.env.scope.names.lookup x=ai .local) ef):PS X (.Assign [.Name x pos'] e pos) (lV X.K C G0 Γ E iU (cB i f)):=(HG g l m j hs h).imp λD n H z=>by
 refine dW z λA st r q=>?_;clear z;refine⟨A,st,r,?_⟩;unfold cB at q;cases h:f st with
 |bad=>rw[h]at q;exact q
 |ex c p=>rw[h]at q;exact λb a=>q n b A (r.mono a) (aJ a)
 |ok d=>rw[h]at q;intro v b a w;refine cA (r.set a hk hl w) λo s t _=>?_;exact q _ _ o s t
def UU(i:PE X e (tD X.K C G0 Γ E f κ))(hs:autoParam (swapsWith e aj pos.line X.env=pure b4) b5):PS X (.Expr e pos) (lV X.K C G0 Γ E iU (oQ f)):=(sH i hs).imp λD g H z=>by
 refine dW z λA st r q=>?_;clear z;refine⟨A,st,r,?_⟩;unfold oQ at q;cases h:f st with
 |bad=>rw[h]at q;exact q
 |ex c p=>rw[h]at q;exact λb a=>q g b A (r.mono a) (aJ a)
 |ok d=>rw[h]at q;exact λv b a w=>q g b A (r.mono a) (aJ a)
def aY0:Bool->Kd|true=>.uM|false=>.jG
def ZL(j:PE X e (tD X.K C G0 Γ E f κ))(l:autoParam (κ.le (aY0 b)=bT) b5):PS X (.Return (ai e) pos) (lV X.K C G0 Γ E (ai b) (cP f)):=(HF j).imp λD k H z=>by
 refine dW z λA st r q=>?_;clear z;refine⟨A,st,r,?_⟩;unfold cP at q;cases h:f st with
 |bad=>rw[h]at q;exact q
 |ex c p=>rw[h]at q;exact λg a=>q k g A (r.mono a) (aJ a)
 |ok d=>
  rw[h]at q;intro v g a w;have i:=w.le r a l;refine q v g (r.g0.trans a) ?_;cases b with
  |true=>exact i
  |false=>exact i
def To(K:aF)(C:Cfg)(G0:Hp)(Γ:List SK)(E:L2.St->XK)(f:DF):TE:=λb H Q=>∃A st,RS K C G0 Γ b H A st/\match f st with
 |.ok d=>∀v a,aG H a->Val K C .new G0 A H a d v/\qe K C H (nw H a) d v->Q v a
 |.ex c p=>∀a,aG H a->JT (E b) c p a
 |.bad=>False
def JW(g:PE X e (To X.K C G0 Γ E f)):PS X (.Return (ai e) pos) (lV X.K C G0 Γ E aj (cP f)):=(HF g).imp λD i H z=>by
 obtain⟨A,st,r,q⟩:=z;refine⟨A,st,r,?_⟩;unfold cP at q;cases h:f st with
 |bad=>rw[h]at q;exact q
 |ex c p=>rw[h]at q;exact λb a=>q i b A (r.mono a) (aJ a)
 |ok d=>rw[h]at q;intro v b a w;exact q v b (r.g0.trans a) ⟨w.1.le r a (κ':=.uM) rfl,(w.2.early r.g0).mono (oj r.g0)⟩
noncomputable def AQ(d:D):Bool:=match d with |.lst _=>b4|d=>(kL d).isNone
theorem qe.AQ{K:aF}:∀{d:D},AQ d=bT->qe K C G F d v
 |.lst _,h=>by cases h
 |.cR,_=>.not (λ_ z=>by cases z) rfl
 |.bl _,_=>.not (λ_ z=>by cases z) rfl
 |.int _,_=>.not (λ_ z=>by cases z) rfl
 |.str _,_=>.not (λ_ z=>by cases z) rfl
 |.bN _ _,_=>.not (λ_ z=>by cases z) rfl
 |.tup _,h=>.not (λ_ z=>by cases z) (Om.mp h)
noncomputable def vA(f:DF):DS:=λst=>match f st with
 |.ok d=>if AQ d=bT then .rt d else .bad
 |.ex c p=>.ex c p st
 |.bad=>.bad
def JX(i:PE X e (tD X.K C G0 Γ E f κ))(l:autoParam (κ.le .uM=bT) b5):PS X (.Return (ai e) pos) (lV X.K C G0 Γ E aj (vA f)):=(HF i).imp λD j H z=>by
 obtain⟨A,st,r,q⟩:=z;refine⟨A,st,r,?_⟩;unfold vA at q;cases h:f st with
 |bad=>rw[h]at q;exact q
 |ex c p=>rw[h]at q;exact λb a=>q j b A (r.mono a) (aJ a)
 |ok d=>rw[h]at q;intro v b a w;dsimp only at q;by_cases g:Dm.AQ d=bT;rw[bh6 g]at q;exact q v b (r.g0.trans a) ⟨w.le r a (κ':=.uM) l,.AQ g⟩;rw[bh7 g]at q;exact q.elim
def aB5(y:PT X c (wC X.K C G0 Γ E u))(I:qL X ss (lV X.K C G0 Γ E iU F))(hb:qL X n (lV X.K C G0 Γ E iU G)):PS X (.If c ss n pos) (lV X.K C G0 Γ E iU (Dm.bS u F G)):=(ao4 y I hb).imp λD w H z=>by
 refine dW z λA st r q=>?_;clear z;refine⟨A,st,r,?_⟩;unfold Dm.bS at q;have m:∀{H1:Hp} (g:aG H H1) {G:DS},(match G st with
   |.nx s=>∀e a f,RS X.K C G0 Γ e a f s->aG (er H A) (er a f)->D.nx e a
   |.bk s=>∀e a f,RS X.K C G0 Γ e a f s->aG (er H A) (er a f)->D.bk e a
   |.ct s=>∀e a f,RS X.K C G0 Γ e a f s->aG (er H A) (er a f)->D.ct e a
   |.rt d=>∀v a,aG G0 a->US X.K C iU G0 a d v->D.rt v a
   |.ex c p s=>∀e a f,RS X.K C G0 Γ e a f s->aG (er H A) (er a f)->JT (E e) c p a
   | .bad=>False)->lV X.K C G0 Γ E iU G D w H1:=λ{H1} g {G} q=>by
  refine⟨A,st,r.mono g,?_⟩
  cases l:G st with
  |nx o=>rw[l]at q;exact λh i j r2 k=>q h i j r2 ((aJ g).trans k)
  |bk o=>rw[l]at q;exact λh i j r2 k=>q h i j r2 ((aJ g).trans k)
  |ct o=>rw[l]at q;exact λh i j r2 k=>q h i j r2 ((aJ g).trans k)
  |rt d=>rw[l]at q;exact q
  |ex c p o=>rw[l]at q;exact λh i j r2 k=>q h i j r2 ((aJ g).trans k)
  |bad=>rw[l]at q;exact q
 cases t:u st with
 |bad=>rw[t]at q;exact q
 |ex c p=>rw[t]at q;exact λa x=>q w a A (r.mono x) (aJ x)
 |ok d=>
  rw[t]at q;cases d with
  |bl b=>
   intro H1 g;cases b with
   |true=>rw[bh6 rfl];exact m g q
   |false=>rw[bh7 jd];exact m g q
  |_=>exact q.elim
noncomputable def nc:List SK->Bool:=λΓ=>Γ.all λk=>match k with |.any=>b4 |.pr=>b4 |.ll=>b4 |.dp=>b4|_=>bT
def Qs(h:nc Γ=bT){i:Nat}:Γ[i]?≠ai .any:=λz=>by
 unfold nc at h;have:=dZ.mp h _ (iK z);cases this
def Qt(h:nc Γ=bT){i:Nat}:Γ[i]?≠ai .pr:=λz=>by
 unfold nc at h;have:=dZ.mp h _ (iK z);cases this
def Qu(h:nc Γ=bT){i:Nat}:Γ[i]?≠ai .ll:=λz=>by
 unfold nc at h;have:=dZ.mp h _ (iK z);cases this
def Qv(h:nc Γ=bT){i:Nat}:Γ[i]?≠ai .dp:=λz=>by
 unfold nc at h;have:=dZ.mp h _ (iK z);cases this
def RS.ZM{K:aF}{u:L2.St}{H:Hp}{A:List av}{st:gM}(r:RS K C G0 Γ u H A st)(s:nc Γ=bT){i:Nat}{n:Bool}{p:av}{ob:HO}{d' t:D}(hk:Γ[i]?=ai (.own n))(hs:st[i]?=ai (ai t))(O:u[i]?=ai (ai (.ref p)))(P:p∈A)(g0:G0 p=aj)
  (Q:lF t=bT) (hM:Qi ob=bT) (q:mQ K C (eh n G0 A H) (upd H p ob) p d'):RS K C G0 Γ u (upd H p ob) A (st.set i (ai d'))/\aG (er H A) (er (upd H p ob) A):=by
 have l:er (upd H p ob) A=er H A:=by funext b;by_cases o:b∈A;rw[dG o,dG o];rw[aU o,aU o,aS (λz:b=p=>o (by rw[z];exact P))]
 have U:∀m,eh m G0 A (upd H p ob)=eh m G0 A H:=λm=>by unfold eh;rw[l]
 refine⟨⟨by rw[l];exact r.base,λa m=>?_,by simp[r.len],λj d h=>?_,λa b n' m' p' ds es su g1 g2 w F o1 o2 w1 w2=>?_,r.gl⟩,by rw[l];exact .refl _⟩;by_cases S:a=p;subst S;exact⟨ob,bM,hM⟩;rw[aS S];exact r.lists a m;by_cases I:i=j;subst I;rw[iQ (eN.mp hs).1]at h;cases h;exact⟨_,_,hk,O,.inl ⟨p,rfl,P,g0,by rw[U];exact q⟩⟩;rw[i7 I]at h;refine bC (r.slot j d h) λk v g T J=>?_;refine⟨k,v,g,T,?_⟩;cases k with
 |par=>show Rep K C (er _ A) d v;rw[l];exact J
 |loc=>show _/\_;rw[l];exact J
 |any=>exact bi8 g (Qs s)
 |pr=>exact bi8 g (Qt s)
 |ll=>exact bi8 g (Qu s)
 |dp=>exact bi8 g (Qv s)
 |own m=>
  rcases J with⟨L,b,c,f,Y⟩|⟨a,b⟩;subst b;have np:L≠p:=λz=>by subst z;exact r.apart i j n m L t d I hk g hs h Q Y.lF O T
  exact .inl ⟨L,rfl,c,f,by rw[U];exact Y.mono (.refl _) (aS np)⟩;exact .inr ⟨a,by rw[U];exact b⟩
 have e:∀{c:Nat} {x:D},(st.set i (ai d'))[c]?=ai (ai x)->lF x=bT->∃y,st[c]?=ai (ai y)/\lF y=bT:=λ{c x} h ho=>by by_cases Z:i=c;subst Z;exact⟨t,hs,Q⟩;rw[i7 Z]at h;exact⟨_,h,ho⟩
 obtain⟨M,w,o1⟩:=e w o1;obtain⟨N,F,o2⟩:=e F o2;exact r.apart a b n' m' p' M N su g1 g2 w F o1 o2 w1 w2
def RS.mut{K:aF}{b:L2.St}{H:Hp}{A:List av}{st:gM}(r:RS K C G0 Γ b H A st)(e:nc Γ=bT){i:Nat}{n:Bool}{p:av}{I:List D}{a:List V}{d:D}(hk:Γ[i]?=ai (.own n))(hs:st[i]?=ai (ai d))(h:b[i]?=ai (ai (.ref p)))(f:p∈A)(g0:G0 p=aj)
  (v:∃ds,d=.lst ds) (q:aM K C (eh n G0 A H) I a):RS K C G0 Γ b (upd H p (.lst a)) A (st.set i (ai (.lst I)))/\aG (er H A) (er (upd H p (.lst a)) A):=by
 obtain⟨ds,rfl⟩:=v;exact r.ZM e hk hs h f g0 rfl rfl ⟨a,bM,q⟩
def RS.IB{K:aF}{e:L2.St}{H:Hp}{A:List av}{st:gM}(r:RS K C G0 Γ e H A st){i:Nat}{n:Bool}{d:D}(hk:Γ[i]?=ai (.own n))(hs:st[i]?=ai (ai d))(hd:lF d=bT) :
  ∃p,e[i]?=ai (ai (.ref p))/\p∈A/\G0 p=aj/\mQ K C (eh n G0 A H) H p d:=by
 refine bC (r.slot i _ hs) λk v h g j=>?_;rw[hk]at h;cases h;rcases j with⟨l,b,c,f,m⟩|⟨a,b⟩;cases b;exact⟨l,g,c,f,m⟩;rw[hd]at a;cases a
def RS.owned{K:aF}{d:L2.St}{H:Hp}{A:List av}{st:gM}(r:RS K C G0 Γ d H A st){i:Nat}{n:Bool}{ds:List D}(hk:Γ[i]?=ai (.own n))(hs:st[i]?=ai (ai (.lst ds))) :
  ∃p xs,d[i]?=ai (ai (.ref p))/\p∈A/\G0 p=aj/\H p=ai (.lst xs)/\aM K C (eh n G0 A H) ds xs:=by
 refine aN7 (r.IB hk hs rfl) λp a b c q=>?_;exact aR q λxs e w=>⟨p,xs,a,b,c,e,w⟩
noncomputable def ZN:Bool->Kd|true=>.loc|false=>.old
theorem Val.ZN{K:aF}{b:L2.St}{H a:Hp}{A:List av}{st:gM}{n:Bool}{d:D}{v:V}(r:RS K C G0 Γ b H A st)(e:aG H a)(l:κ.le (ZN n)=bT)(w:Val K C κ G0 A H a d v):Rep K C (eh n G0 A a) d v:=by
 have:=w.le r e l;cases n with
 |true=>exact this.1
 |false=>exact this
noncomputable def jI(i:Nat)(f:DF):DS:=λst=>match st[i]? with
 |some (ai (.lst a))=>match f st with
  |.ok d=>if a.length<=5000 then .nx (st.set i (ai (.lst (a++[d]))))else .bad
  |.ex c p=>.ex c p st
  |.bad=>.bad
 |_=>.bad
def ZO{i:Nat}{n:Bool}{to:TE}(h:PE X e (tBM X.K "list" BX (rK i) (vg (tD X.K C G0 Γ E f κ) HS)))(F:nc Γ=bT)(hk:autoParam (Γ[i]?=ai (.own n)) b5)(hl:autoParam (κ.le (ZN n)=bT) b5)(hs:autoParam (swapsWith e aj pos.line X.env=pure b4) b5):PS X (.Expr e pos) (lV X.K C G0 Γ E iU (jI i f)):=(sH h hs).imp λD I H o=>by
 refine dW o λA st r q=>?_;clear o;unfold jI at q;split at q;all_goals first
  |(rename_i z;split at z <;> (try split at z) <;> (try split at z) <;> cases z;done)
  |skip
 rename_i s z;split at z;rename_i k hs;cases a:f st with
 |bad=>rw[a]at z;cases z
 |ex c p=>rw[a]at z;cases z
 |ok d=>
  rw[a]at z;dsimp only at z;split at z;rename_i t;cases z;refine Hy (r.owned hk hs) λp x g u y j l=>?_;refine⟨_,g,.inl ⟨rfl,x,.of j⟩,A,st,r,?_⟩;rw[a];intro v m b w;have J:=r.mono b;have L:aM X.K C (eh n G0 A m) k x:=l.same (by
   unfold eh;cases n;exact aJ b;exact bR (aJ b)) _
  refine⟨p,x,v,rfl,rfl,b _ _ j,?_,?_⟩;rw[l.len];have:5001<=cH:=by rw[gf];decide
  lia;obtain⟨r2,M⟩:=J.mut F hk hs g u y ⟨k,rfl⟩ (L.app (.cons (w.ZN r b hl) .nil));exact q _ _ A r2 ((aJ b).trans M);cases z
 cases z;rename_i c p s z;split at z;rename_i k hs;cases a:f st with
 |bad=>rw[a]at z;cases z
 |ok d=>rw[a]at z;dsimp only at z;split at z <;> cases z
 |ex c p=>rw[a]at z;cases z;refine Hy (r.owned hk hs) λN x g u y j l=>?_;refine⟨_,g,.inl ⟨rfl,x,.of j⟩,A,st,r,?_⟩;rw[a];exact λm b=>q I m A (r.mono b) (aJ b)
 cases z;exact q.elim
end
def spD(K:aF)(C:Cfg)(n:Nat)(F:List D->R D)(i:Option Bool):Sp:=λe H Q E=>∃b,b.length=n/\(aM K C H b e/\C.gl H)/\match F b with
 |.ok d=>∀v a,aG H a->US K C i H a d v->Q v a
 |.ex c p=>∀a,aG H a->JT E c p a
 |.bad=>False
noncomputable def bQ (m:Nat) (F:DS):List D->R D:=λa=>match F (a.map ai++kE (m - a.length) aj) with
 |.rt d=>.ok d |.nx _=>.ok .cR |.ex c p _=>.ex c p|_=>.bad
section
variable {K:aF}{C:Cfg}{Γ:List SK}{H:Hp}
def jN:er H []=H:=by funext a;exact aU (by simp)
def Qw{ds:List D}(o:ds.length=n)(f:∀i,i<n->Γ[i]?=ai .par)(q:aM K C H ds vs)(c:C.gl H):RS K C H Γ (L2.start N vs) H [] (ds.map ai++kE (N.length-ds.length) aj) where
 base:=by rw[jN];exact .refl _
 lists:=λa m=>by cases m
 len:=by unfold L2.start;simp[q.len]
 slot:=λi d h=>by
  have e:i<ds.length:=by apply Hv;intro g;rw[kG (by simp;lia)]at h;simp at h;rw[nK]at h;split at h <;> cases h
  rw[mE (by simpa using e),d8]at h;cases hd:ds[i]? with
  |none=>rw[hd]at h;cases h
  |some r=>rw[hd]at h;cases h;refine aR (q.get' hd) λv k l=>?_;refine⟨.par,v,f i (by lia),?_,?_⟩;unfold L2.start;rw[mE (by rw[bw,q.len];exact e),d8,k];rfl;show Rep K C (er H []) d v;rw[jN];exact l
 gl:=c
 apart:=λi j a b p I t u g1 g2 s w x y=>by
  have e:i<ds.length:=by apply Hv;intro g;rw[kG (by simp;lia)]at s;simp at s;rw[nK]at s;split at s <;> cases s
  rw[f i (by lia)]at g1;cases g1
def ZP{P:dz}{w:bL}{mg:Str->Option au}{base:aW}{x a:Str}{st:aY}{f:av}{m:gV}{N ps:List Str}{k n:Nat}{r:Option Bool}{t:DS}(F:ME K x a st f m)(S:kQ N ps (bG st))(I:ps.length=n)(J:∀i,i<n->Γ[i]?=ai .par)
  (body:∀(e:au),m.code=e->∀(A:cy) (o:List Env) (s:ay) (H:Hp) (E:XK),j7 k (A.deeper (envOfC a (bG st) s.heap.objs.size f e))->
   qL ((oS (oU P w) P w K mg base N a (bG st) f e A o s H E).dJ (kj (oS (oU P w) P w K mg base N a (bG st) f e A o s H E) λ_=>E)) (fu st) (lV K C H Γ (λ_=>E) r t)) :
  jT P w K mg base (oU P w) (k+1) f m ps (spD K C n (bQ N.length t) r):=by
 refine AD F S (λL H Q E M=>by obtain⟨j,u,l,_⟩:=M;rw[l.1.len,u,I]) λe O A o s H L Q E hr y=>?_;refine cA y λj u l q=>?_;clear y;refine⟨_,body e O A o s H E hr,[],_,Qw u J l.1 l.2,?_⟩;unfold bQ at q;cases h:t (j.map ai++kE (N.length-j.length) aj)with
 |nx b=>
  rw[h]at q;intro T g U v X;refine q .cR g (v.g0) ?_;have R:∀H:Hp,Rep K C H .cR .cR:=λH=>by rw[Rep]
  match r with
  |none=>exact⟨⟨R (nw H g),.not rfl rfl⟩,.not (λj z=>by cases z) rfl⟩
  |some bT=>exact⟨R (nw H g),.not rfl rfl⟩
  |some b4=>exact R g
 |bk b=>rw[h]at q;exact q.elim
 |ct b=>rw[h]at q;exact q.elim
 |rt d=>rw[h]at q;exact q
 |ex c p b=>rw[h]at q;exact λT g U v X=>q g v.g0
 |bad=>rw[h]at q;exact q.elim
end
def Qx:Bool->Kd|true=>.new|false=>.jG
def Qy{n:Nat}{F:List D->R D}{Gb:Bool}{K:aF}:∀f H Q,tD K C G0 j E (bh F fs) (Qx Gb) f H Q->(∀st ds,fs st=.ok ds->ds.length=n)->HZ (spD K C n F (ai Gb)) E (Cu K C G0 j E fs κ) f H Q:=λf H Q s h=>by
 refine dW s λA st r q=>?_;clear s;refine⟨A,st,r,?_⟩;unfold bh R.bind at q;cases a:fs st with
 |bad=>rw[a]at q;exact q
 |ex c p=>rw[a]at q;exact q
 |ok ds=>
  rw[a]at q;dsimp only at q;intro m H1 e k;refine⟨ds,h st ds a,⟨k.same Kd.uN _,C.glM (r.g0.trans e) r.gl⟩,?_⟩;cases g:F ds with
  |bad=>rw[g]at q;exact q
  |ex c p=>rw[g]at q;exact λb i=>q b (e.trans i)
  |ok d=>
   rw[g]at q;refine λv b i w=>q v b (e.trans i) ?_;cases Gb with
   |true=>have l:Val K C .new G0 A H1 b d v:=w;exact l.early e
   |false=>exact w
def Lq{n:Nat}{F:List D->R D}{K:aF}:∀f H Q,To K C G0 j E (bh F fs) f H Q->(∀st ds,fs st=.ok ds->ds.length=n)->HZ (spD K C n F aj) E (Cu K C G0 j E fs κ) f H Q:=λf H Q s h=>by
 refine dW s λA st r q=>?_;clear s;refine⟨A,st,r,?_⟩;unfold bh R.bind at q;cases a:fs st with
 |bad=>rw[a]at q;exact q
 |ex c p=>rw[a]at q;exact q
 |ok ds=>
  rw[a]at q;dsimp only at q;intro m H1 e k;refine⟨ds,h st ds a,⟨k.same Kd.uN _,C.glM (r.g0.trans e) r.gl⟩,?_⟩;cases g:F ds with
  |bad=>rw[g]at q;exact q
  |ex c p=>rw[g]at q;exact λb i=>q b (e.trans i)
  |ok d=>rw[g]at q;refine λv b i w=>q v b (e.trans i) ?_;have l:Val K C .new G0 A H1 b d v:=w.1;exact⟨l.early e,(w.2.early e).mono (oj e)⟩
def wF:∀st ds,az st=.ok ds->ds.length=0:=λst ds h=>by cases h;rfl
def ng(h:∀st ds,fs st=.ok ds->ds.length=n):∀st ds,af f fs st=.ok ds->ds.length=n+1:=λst ds q=>by
 unfold af R.bind at q;cases b:f st with
 |bad=>rw[b]at q;cases q
 |ex c p=>rw[b]at q;cases q
 |ok d=>
  rw[b]at q;dsimp only at q;cases a:fs st with
  |bad=>rw[a]at q;cases q
  |ex c p=>rw[a]at q;cases q
  |ok I=>rw[a]at q;cases q;rw[cS,h st _ a]
def UW{X:Cx}(F:jT X.prog X.w X.K X.mg X.base (oU X.prog X.w) k f fd ps (spD X.K C n a (ai Gb)))(hr:j7 k X.A)(b:X.mg x=ai (.ref f))(hk:rj X.K (.ref f)=bT)(hb:Binds X.K fd ps [])
  (c:PA (X.dJ (kj X E)) (e::es) (Cu X.K C G0 d E fs κ)) (h:∀st ds,fs st=.ok ds->ds.length=n) (g:autoParam (Gl X x) b5) (A:autoParam ((x==("__debug__" : Str))=b4) cT) (i:autoParam (bF (e::es) X.env=(b4,eval e X.env)::bF es X.env) b5) (v:autoParam ((backTo pos (bF es X.env)).any (·.1)=b4) b5) :
  PE (X.dJ (kj X E)) (.Call (.Name x p) (e::es) [] pos) (tD X.K C G0 d E (bh a fs) (Qx Gb)):=(Eb F hr g b hk hb c A i v).imp λj H Q q=>Qy j H Q q h
def Qz{X:Cx}(F:jT X.prog X.w X.K X.mg X.base (oU X.prog X.w) k f fd ps (spD X.K C n a aj))(hr:j7 k X.A)(b:X.mg x=ai (.ref f))(hk:rj X.K (.ref f)=bT)(hb:Binds X.K fd ps [])
  (c:PA (X.dJ (kj X E)) (e::es) (Cu X.K C G0 d E fs κ)) (h:∀st ds,fs st=.ok ds->ds.length=n) (g:autoParam (Gl X x) b5) (A:autoParam ((x==("__debug__" : Str))=b4) cT) (i:autoParam (bF (e::es) X.env=(b4,eval e X.env)::bF es X.env) b5) (v:autoParam ((backTo pos (bF es X.env)).any (·.1)=b4) b5) :
  PE (X.dJ (kj X E)) (.Call (.Name x p) (e::es) [] pos) (To X.K C G0 d E (bh a fs)):=(Eb F hr g b hk hb c A i v).imp λj H Q q=>Lq j H Q q h
abbrev DB:=D->gM->Option gM
noncomputable def fW(bind:DB)(F:DS):List D->gM->Out
 |[],st=>.nx st
 |d::a,st=>match bind d st with
  |none=>.bad
  |some k=>match F k with
   |.nx s=>fW bind F a s
   |.ct s=>fW bind F a s
   |.bk s=>.nx s
   |o=>o
abbrev DI:=gM->R (List D)
noncomputable def cZ(g:DI)(bind:DB)(F:DS):DS:=λst=>match g st with |.ok d=>fW bind F d st |.ex c p=>.ex c p st |.bad=>.bad
def qX(K:aF)(C:Cfg)(G0:Hp)(c:List SK)(t:TG)(bind:DB):Prop:=∀(e:L2.St) (H:Hp) (A:List av) (st k:gM) (d:D) (v:V) (Q:L2.St->Hp->Prop),RS K C G0 c e H A st->Rep K C (er H A) d v->bind d st=ai k->
 (∀f b,RS K C G0 c f H b k->aG (er H A) (er H b)->(∀a∈A,a∈b)->Q f H)->t v e H Q
noncomputable def br(i:Nat):DB:=λd st=>ai (st.set i (ai d))
noncomputable def gy(i j:Nat):DB:=λd st=>match d with |.tup [a,b]=>ai ((st.set i (ai a)).set j (ai b))|_=>aj
def wG{K:aF}{i:Nat}{k:SK}(hk:autoParam (a[i]?=ai k) b5)(l:autoParam (k.takes .old=bT) b5):qX K C G0 a (xR i) (br i):=λf H A st g d v Q r w hb q=>by
 cases hb;refine cA (r.set (.refl _) hk l (κ:=.old) w) λb c e s=>?_;exact q _ b c e s
def wH{K:aF}{i j:Nat}{k k':SK}(hk:autoParam (c[i]?=ai k) b5)(f:autoParam (c[j]?=ai k') b5)(l:autoParam (k.takes .old=bT) b5)(g:autoParam (k'.takes .old=bT) b5):qX K C G0 c (ap0 K 2 (OW (xR i) (OW (xR j) ao8))) (gy i j):=λM H A st N d v Q r w hb q=>by
 unfold gy at hb;split at hb;rename_i a b;cases hb;rw[Rep]at w;refine bC w λp O n o h=>?_;clear w;obtain rfl:=n;have s:=aG.tup (aH _ _) o;rw[aM]at h;obtain⟨x,r1,rfl,t,h⟩:=h;rw[aM]at h;obtain⟨y,r2,rfl,u,h⟩:=h;rw[aM]at h;subst h;refine⟨p,_,rfl,s,rfl,x,[y],rfl,y,[],rfl,rfl,?_⟩;refine cA (r.set (.refl _) hk l (κ:=.old) t) λP z e E=>?_;refine cA (z.set (.refl _) f g (κ:=.old) (u.same e _)) λF I J L=>?_;exact q _ F I (e.trans J) λa m=>L a (E a m);cases hb
def Lr(K:aF)(C:Cfg)(A:List av)(H1:Hp)(J:It)(ds:List D):Prop:=∀(i:Nat) (H:Hp) (b:List av),aG (er H1 A) (er H b)->(∀a∈b,H a≠aj)->
 (∀d,ds[i]?=ai d->J.go i H/\∀x c,J.yld i H x c->aG H c/\Rep K C (er c b) d x)/\(ds[i]?=aj->J.stop i H)
def uQ{K:aF}{J:It}{ds:List D}{bind:DB}{g:TG}{A:List av}{H H1:Hp}{o:L2.St}{st:gM}{D:Ends}(hB:qX K C G0 j g bind)(hJ:Lr K C A H1 J ds)(r:RS K C G0 j o H A st)(w:aG H H1)(q:match fW bind F ds st with
   |.nx st'=>∀e b f,RS K C G0 j e b f st'->aG (er H A) (er b f)->D.nx e b
   |.bk st'=>∀e b f,RS K C G0 j e b f st'->aG (er H A) (er b f)->D.bk e b
   |.ct st'=>∀e b f,RS K C G0 j e b f st'->aG (er H A) (er b f)->D.ct e b
   |.rt d=>∀v b,aG G0 b->US K C iU G0 b d v->D.rt v b
   |.ex c p st'=>∀e b f,RS K C G0 j e b f st'->aG (er H A) (er b f)->JT (E e) c p b
   | .bad=>False) :
  ∃W:Nat->Nat->L2.St->Hp->Prop,(∃m,W 0 m o H1)/\∀i m o H,W i m o H->
   (J.stop i H/\D.nx o H)\/(J.go i H/\∃N:L2.St->Hp->Prop,(∀e b,N e b->∃M,M<m/\W (i+1) M e b)/\∀x b,J.yld i H x b->g x o b λBQ H2=>lV K C G0 j E iU F {D with nx:=N,ct:=N,bk:=D.nx} BQ H2):=by
 refine⟨λi m e b=>m=ds.length-i/\i<=ds.length/\∃f st',RS K C G0 j e b f st'/\aG (er H1 A) (er b f)/\fW bind F (ds.drop i) st'=fW bind F ds st,⟨ds.length,rfl,eS _,A,st,r.mono w,.refl _,rfl⟩,?_⟩;rintro i m O P ⟨rfl,hi,y,Q,z,I,h⟩;obtain⟨nH,tV⟩:=hJ i P y I (λa m=>by obtain⟨xs,q,_⟩:=z.lists a m;rw[q];simp);cases hd:ds[i]? with
 |none=>have:ds.drop i=[]:=List.drop_eq_nil_iff.mpr (nR.mp hd);rw[this]at h;rw[<- h]at q;exact .inl ⟨tV hd,q O P y z ((aJ w).trans I)⟩
 |some d=>
  obtain⟨go,yl⟩:=nH d hd;have S:i<ds.length:=(eN.mp hd).1;have L:ds.drop i=d::ds.drop (i+1):=by rw[ud S];congr 1;exact(eN.mp hd).2
  refine .inr ⟨go,λe b=>∃f st',RS K C G0 j e b f st'/\aG (er H1 A) (er b f)/\fW bind F (ds.drop (i+1)) st'=fW bind F ds st,λe b G7=>G7.elim λf I0=>I0.elim λst' Jy=>Jy.elim λh1 HE=>HE.elim λh2 h3=>⟨ds.length-(i+1),by lia,rfl,S,f,st',h1,h2,h3⟩,λx b hy=>?_⟩;obtain⟨X,wx⟩:=yl x b hy;rw[L,fW]at h;cases hb:bind d Q with
  |none=>rw[hb]at h;rw[<- h]at q;exact q.elim
  |some T=>
   rw[hb]at h;dsimp only at h;refine hB O b y Q T d x _ (z.mono X) wx hb λσ5 Z r5 e5 _=>⟨Z,T,r5,?_⟩
   have U:aG (er H1 A) (er b Z):=(I.trans (aJ X)).trans e5;cases s:F T with
   |nx t=>rw[s]at h;exact λY u k l n=>⟨k,t,l,U.trans n,h⟩
   |ct t=>rw[s]at h;exact λY u k l n=>⟨k,t,l,U.trans n,h⟩
   |bk t=>rw[s]at h;rw[<- h]at q;exact λY u k l n=>q Y u k l (((aJ w).trans U).trans n)
   |rt d=>rw[s]at h;rw[<- h]at q;exact q
   |ex c p t=>rw[s]at h;rw[<- h]at q;exact λY u k l n=>q Y u k l (((aJ w).trans U).trans n)
   |bad=>rw[s]at h;rw[<- h]at q;exact q.elim
noncomputable def di(f:DF):DI:=λst=>match f st with |.ok (.lst d)=>.ok d |.ok _=>.bad |.ex c p=>.ex c p |.bad=>.bad
def vB{t iter:bq}{bind:DB}{g:TG}(J:PassesOwn (aE X.prog X.w) X.A X.env X.xe)(L:X.calm=bT)(M:PE X iter (tD X.K C G0 e E f κ))(l:κ.le .old=bT)(N:PG X t g)(O:qX X.K C G0 e g bind)(hb:qL X ss (lV X.K C G0 e E P F))(hs:autoParam (∀x,oM iter X.env x=pure x) dF) :
  PS X (.For t iter ss [] pos) (lV X.K C G0 e E P (cZ (di f) bind F)):=(xU J L (w6 M) N hb hs).imp λD Q H z=>by
 refine dW z λA st r q=>?_;clear z;refine⟨A,st,r,?_⟩;unfold cZ di at q;cases h:f st with
 |bad=>rw[h]at q;exact q.elim
 |ex c p=>rw[h]at q;exact λn o=>q Q n A (r.mono o) (aJ o)
 |ok d=>
  rw[h]at q;cases d with
  |lst S=>dsimp only at q;intro v H1 s w;have j:Rep X.K C (er H1 A) (.lst S) v:=w.le r s (κ':=.old) l;rw[Rep]at j;refine bC j λa b T k u=>?_;clear j;obtain rfl:=T;refine⟨a,rfl,⟨b,(aH _ _).seq k⟩,?_⟩;refine uQ O (λi U A3 m _=>⟨λd hd=>?_,λhd=>?_⟩) r s q;refine aR (u.get' hd) λv y Y=>?_;have I:k9 X.K U a b:=(m.trans (aH _ _)).seq k;refine⟨⟨b,v,I,y⟩,λx n Z=>?_⟩;obtain⟨hH,hx⟩:=Z;subst hH;have:=hx b I;rw[y]at this;cases this;exact⟨.refl _,Y.same ((aH _ _).trans m) _⟩;exact⟨b,(m.trans (aH _ _)).seq k,by rw[u.len];exact nR.mp hd⟩
  |_=>exact q.elim
noncomputable def qM(f:DA):DI:=λst=>match f st with |.ok [.int j]=>if(decide (-(2 ^ 62)<=j)&&decide (j<2 ^ 62))=bT then .ok ((cY j.toNat).map λi=>.int (i:Nat))else .bad |.ok _=>.bad |.ex c p=>.ex c p |.bad=>.bad
def CD{t:bq}{bind:DB}{g:TG}{p:Pos}(y:PassesOwn (aE X.prog X.w) X.A X.env X.xe)(b:X.calm=bT)(I:X.mg "range"=aj)(J:PA X [a] (Cu X.K C G0 f E fs κ))(h:PG X t g)(L:qX X.K C G0 f g bind)(hb:qL X ss (lV X.K C G0 f E M F))(k:autoParam (Gl X "range") b5)
  (l:autoParam (bF [a] X.env=[(b4,eval a X.env)]) b5) (hs:autoParam (∀x,oM (.Call (.Name "range" p) [a] [] pos) X.env x=pure x) dF) {e:Pos} :
  PS X (.For t (.Call (.Name "range" p) [a] [] pos) ss [] e) (lV X.K C G0 f E M (cZ (qM fs) bind F)):=(xU y b (KW k I J l) h hb hs).imp λD N H n=>by
 refine dW n λA st r q=>?_;clear n;refine⟨A,st,r,?_⟩;unfold cZ at q;cases h:qM fs st with
 |bad=>rw[h]at q;exact q.elim
 |ex c p=>
  rw[h]at q;have m:fs st=.ex c p:=by unfold qM at h;split at h;split at h <;> cases h;cases h;rename_i z;rw[z];cases h;rfl;cases h
  rw[m];exact λo s=>q N o A (r.mono s) (aJ s)
 |ok Z=>
  rw[h]at q;unfold qM at h;split at h;rename_i j m;rw[m];split at h;rename_i b;cases h;simp only[bI,bi1]at b;intro vs H1 O P;refine aR (oO P) λv Q w=>?_;obtain rfl:=Q;obtain rfl:v=.int j:=by rw[Rep]at w;exact w
  refine⟨j,rfl,b.1,b.2,?_⟩;refine uQ L (λi H3 A3 e3 _=>⟨λd hd=>?_,λhd=>?_⟩) r O q;rw[d8]at hd;have u:i<j.toNat:=by apply Hv;intro S;rw[um (by simpa using S)]at hd;cases hd
  rw[NJ u]at hd;cases hd;refine⟨u,λx o T=>?_⟩;obtain⟨U,Y⟩:=T;subst U;subst Y;refine⟨.refl _,?_⟩;rw[Rep,Int.zero_add];show j.toNat<=i;have:=nR.mp hd;simpa using this;cases h;cases h;cases h;cases h
noncomputable def oz(g g':D->D->R D)(f d e:DF):DF:=λst=>(f st).bind λa=>(d st).bind λb=>(g a b).bind λz=>match z with
 |.bl bT=>(e st).bind λc=>g' b c
 |.bl b4=>.ok (.bl b4)
 |_=>.bad
def AR{K:aF}{r2 j:R2}{g g':D->D->R D}(S:uO K C r2 g .new)(T:uO K C j g' .new):∀i H Q,tD K C G0 l E (oz g g' I J L) .new i H Q->HL r2 j (tD K C G0 l E I jH) (tD K C G0 l E J DC) (tD K C G0 l E L Gb) i H Q:=λi H Q M=>by
 refine dW M λA st r q=>?_;clear M;refine⟨A,st,r,?_⟩;unfold oz R.bind at q;cases n:I st with
 |bad=>rw[n]at q;exact q
 |ex c p=>rw[n]at q;exact q
 |ok a=>
  rw[n]at q;intro x H1 o U;refine⟨A,st,r.mono o,?_⟩;dsimp only at q;cases hb:J st with
  |bad=>rw[hb]at q;exact q
  |ex c p=>rw[hb]at q;exact λe f=>q e (o.trans f)
  |ok b=>
   rw[hb]at q;intro y X N O;dsimp only at q;have s:=o.trans N;refine S G0 l (E i) i A st X a b x y _ (r.mono s) (U.rep.same N _) O.rep ?_;cases t:g a b with
   |bad=>rw[t]at q;exact q
   |ex c p=>rw[t]at q;exact λe f=>q e (s.trans f)
   |ok z=>
    rw[t]at q;cases z with
    |bl k=>
     intro v Y P Z;refine⟨k,vbl Z,?_⟩;have h:=s.trans P;cases k with
     |false=>rw[bh7 jd];exact q _ Y h (.flat r h (by rw[gq] <;> simp) vN _)
     |true=>
      rw[bh6 rfl];refine⟨A,st,r.mono h,?_⟩;dsimp only at q;cases u:L st with
      |bad=>rw[u]at q;exact q
      |ex c p=>rw[u]at q;exact λe f=>q e (h.trans f)
      |ok c=>
       rw[u]at q;intro w' H4 m w4;dsimp only at q;refine T G0 l (E i) i A st H4 b c y w' Q (r.mono (h.trans m)) (O.rep.same (P.trans m) _) w4.rep ?_;cases F:g' b c with
       |bad=>rw[F]at q;exact q
       |ex c p=>rw[F]at q;exact λe f=>q e ((h.trans m).trans f)
       |ok d=>rw[F]at q;exact λv e f w=>q v e ((h.trans m).trans f) (w.early (h.trans m))
    |_=>exact q.elim
def ED(hr:qx X (i0 op) r2)(Q:qx X (i0 P) r)(h:uO X.K C r2 g .new)(e:uO X.K C r g' .new)(f:PE X a (tD X.K C G0 d E i jH))(hb:PE X b (tD X.K C G0 d E j DC))(k:PE X c (tD X.K C G0 d E l Gb))
  (m:autoParam (lastMarks [op,P] [b,c]=b4) eu):PE X (.Compare a [op,P] [b,c] pos) (tD X.K C G0 d E (oz g g' i j l) .new):=(P8 hr Q f hb k m).imp (AR h e)
def QB(hr:qx X (i0 op) r2)(l:qx X (i0 P) e)(m:uO X.K C r2 g .new)(n:uO X.K C e g' .new)(o:PE X a (tD X.K C G0 f E i jH))(hb:PE X b (tD X.K C G0 f E j DC))(s:PE X c (tD X.K C G0 f E k Gb))
  (t:autoParam (lastMarks [op,P] [b,c]=b4) eu):PT X (.Compare a [op,P] [b,c] pos) (wC X.K C G0 f E (oz g g' i j k)):=(Pa hr l o hb s t).imp λu H Q z=>by
 refine dW z λA st r q=>?_;clear z;refine AR m n u H _ ⟨A,st,r,?_⟩;cases h:oz g g' i j k st with
 |bad=>rw[h]at q;exact q
 |ex c p=>rw[h]at q;exact q
 |ok d=>
  rw[h]at q;cases d with
  |bl b=>exact λv x y w=>⟨b,vbl w,q x y⟩
  |_=>exact q.elim
noncomputable def UY:D->R D:=λa=>match a with |.int i=>.ok (.int (-i))|_=>.bad
def ZQ(h:PE X a (tD X.K C G0 b E f jH)):PE X (.UnaryOp .USub a pos) (tD X.K C G0 b E (oY UY f) .new):=(ar0 YI h).imp λd H Q z=>by
 refine dW z λA st r q=>?_;clear z;refine⟨A,st,r,?_⟩;unfold oY R.bind at q;cases h:f st with
 |bad=>rw[h]at q;exact q
 |ex c p=>rw[h]at q;exact q
 |ok a=>
  rw[h]at q;intro x H1 e w;cases a with
  |int i=>have:=w.rep;rw[Rep]at this;exact⟨i,this,q _ H1 e (.flat r e (by rw[gq] <;> simp) yz _)⟩
  |_=>exact q.elim
noncomputable def cutD(ds:List D)(lo h:Option Int):List D:=(ds.drop (HT.jj ds.length 0 lo)).take (HT.jj ds.length ds.length h-HT.jj ds.length 0 lo)
noncomputable def m6(o:Option DF):gM->R (Option Int):=λst=>match o with
 |none=>.ok aj
 |some f=>(f st).bind λd=>match d with |.int i=>.ok (ai i)|_=>.bad
noncomputable def ML(f:DF)(lo b:Option DF):DF:=λst=>(f st).bind λa=>(m6 lo st).bind λl=>(m6 b st).bind λh=>match a with
 |.lst d=>if dR d=bT then .ok (.lst (cutD d l h))else .bad
 |_=>.bad
def tDO(K:aF)(C:Cfg)(G0:Hp)(d:List SK)(E:L2.St->XK)(o:Option DF):TO:=λb H Q=>∃A st,RS K C G0 d b H A st/\match m6 o st with
 |.ok i=>∀a,aG H a->Q i a
 |.ex c p=>∀a,aG H a->JT (E b) c p a
 |.bad=>False
def JY:PO X aj (tDO X.K C G0 d E aj):=λa s b H Q I l=>l.elim λA o=>o.elim λst c=>c.elim λr q=>U1 a s b H Q I (q H (.refl _))
def UZ(h:PE X e (tD X.K C G0 b E f κ)):PO X (ai e) (tDO X.K C G0 b E (ai f)):=λg s j H Q I k=>k.elim λA l=>l.elim λst J=>J.elim λr q=>U3 h g s j H Q I ⟨A,st,r,by
 unfold m6 R.bind at q;cases a:f st with
 |bad=>simp only[a]at q
 |ex c p=>simp only[a]at q;exact q
 |ok d=>
  simp only[a]at q;cases d with
  |int i=>exact λv m n w=>⟨i,by have:=w.rep;rw[Rep]at this;exact this,q m n⟩
  | _=>exact q.elim⟩
def EE{K:aF}{H:Hp}{ds:List D}{xs:List V}{lo h:Option Int}(q:aM K C H ds xs):aM K C H (cutD ds lo h) (E4 xs lo h):=by
 unfold cutD E4;rw[q.len];exact(q.drop _).take _
def Ls:∀{ds:List D} (n:Nat),dR ds=bT->dR (ds.take n)=bT:=λn h=>fY λd hd=>lE h (pJ hd)
def Lu:∀{ds:List D} (n:Nat),dR ds=bT->dR (ds.drop n)=bT:=λn h=>fY λd hd=>lE h (ug hd)
def QC{ds es:List D}(h:dR ds=bT)(h':dR es=bT):dR (ds++es)=bT:=fY λd hd=>(i6.mp hd).elim (lE h) (lE h')
def QD{lo o:Option bq}{fl f:Option DF}{w:Pos}(y:PE X e (tD X.K C G0 g E s jH))(hl:PO X lo (tDO X.K C G0 g E fl))(F:PO X o (tDO X.K C G0 g E f)):PE X (.Subscript e (.Slice lo o aj w) pos) (tD X.K C G0 g E (ML s fl f) .new):=(E3 U8 y hl F).imp λP H Q t=>by
 refine dW t λA st r q=>?_;clear t;refine⟨A,st,r,?_⟩;unfold ML R.bind at q;cases i:s st with
 |bad=>rw[i]at q;exact q
 |ex c p=>rw[i]at q;exact q
 |ok a=>
  rw[i]at q;intro x H1 b I;refine⟨A,st,r.mono b,?_⟩;dsimp only at q;cases hb:m6 fl st with
  |bad=>rw[hb]at q;exact q
  |ex c p=>rw[hb]at q;exact λj k=>q j (b.trans k)
  |ok l=>
   rw[hb]at q;intro S d;refine⟨A,st,r.mono (b.trans d),?_⟩;dsimp only at q;cases m:m6 f st with
   |bad=>rw[m]at q;exact q
   |ex c p=>rw[m]at q;exact λj k=>q j ((b.trans d).trans k)
   |ok h=>
    rw[m]at q;intro T u;dsimp only at q;cases a with
    |lst J=>dsimp only at q;by_cases n:dR J=bT;rw[bh6 n]at q;refine bC ((I.rep.same (d.trans u) _).items) λp L M N O=>?_;obtain rfl:=M;have z:=(b.trans d).trans u;refine⟨p,L,rfl,N,λU v=>q _ _ (z.trans (cI v)) (.lst r z v ?_)⟩;exact(EE O).part (.nw z) _ (Ls _ (Lu _ n));rw[bh7 n]at q;exact q.elim
    |_=>exact q.elim
def XJ(K:aF):R2:=λx y H Q=>∃l b a z,x=.ref l/\y=.ref b/\k9 K H l a/\k9 K H b z/\a.length+z.length<=cH/\∀p,H p=aj->Q (.ref p) (upd H p (.lst (a++z)))
def V0:qx X (binaryOp .Add) (XJ X.K):=by
 intro L s N H x y v u Q I m o h;refine aO2 h λl b O S P U p t T q=>?_;clear h;obtain rfl:=P;obtain rfl:=U;cases m;cases o;refine cA (I.list p) λc r w _=>?_;refine cA (I.list t) λZ r2 z _=>?_;obtain⟨⟨A,dd,g,C⟩,i,j,n,hd⟩:=id w.isList;obtain⟨⟨E,d,e,f⟩,k,M,F,a⟩:=id z.isList;simp only at j hd M a;subst j hd M a;have Y:=r.length;have l2:=r2.length;refine concat_meets ⟨_,i,rfl⟩ ⟨_,k,rfl⟩ noFill_list_add seq_list_add PySem.F.slot_list_add PySem.F.entry_list_add (PySem.F.args_list_add_2 _ _) (list_addW l b c.toArray Z.toArray n F dd d C f (by simp;lia)) ⟨i,k,?_⟩;have J:c.toArray++Z.toArray=(c++Z).toArray:=by simp
 rw[J];exact⟨.ref _,_,I.aV7 (t':=s.toks) (r.append r2) (by rw[bX];lia),rfl,q _ I.fresh⟩
noncomputable def qN:D->D->R D:=λa b=>match a,b with
 |.lst d,.lst e=>if(dR d&&dR e&&decide (d.length+e.length<=5000))=bT then .ok (.lst (d++e))else .bad
 |_,_=>.bad
def V1{K:aF}:uO K C (XJ K) qN .new:=λu v E w A st H a b x y Q r j k q=>by
 cases h:qN a b with
 |bad=>rw[h]at q;exact q.elim
 |ex c p=>unfold qN at h;split at h <;> (try split at h) <;> cases h
 |ok d=>
  rw[h]at q;unfold qN at h;split at h;rename_i z F;split at h;rename_i f;cases h;simp only[bI,bi1]at f;refine bC j.items λp m g n i=>?_;obtain rfl:=g;refine bC k.items λo s g t e=>?_;obtain rfl:=g;refine⟨p,o,m,s,rfl,rfl,n,t,?_,λl hl=>q _ _ (cI hl) (.lst r (.refl _) hl ?_)⟩;rw[i.len,e.len];have:5000<=cH:=by rw[gf];decide
  lia;exact(i.app e).part (.nw (.refl _)) _ (QC f.1.1 f.1.2);cases h;cases h
noncomputable def Lv:D->Option (List Int)
 |.tup a=>a.mapM λd=>match d with |.int i=>ai i|_=>aj
 |_=>aj
theorem V2:∀{d:D} {ns:List Int},Lv d=ai ns->d=.tup (ns.map D.int)
 |.tup a,ns,h=>by
  rw[Lv]at h;congr 1;revert ns;induction a with
  |nil=>intro ns h;simp at h;subst h;rfl
  |cons d a c=>
   intro ns h;rw[GR]at h;cases d with
   |int i=>
    dsimp only at h;cases b:a.mapM λd=>match d with |.int i=>ai i|_=>(aj:Option Int)with
    |none=>rw[b]at h;cases h
    |some m=>rw[b]at h;have e:i::m=ns:=fJ h;subst e;rw[bz,<- c m b]
   |_=>cases h
noncomputable def AS(ds:List D):Option (List (List Int)):=ds.mapM Lv
theorem EF:∀{ds:List D} {k:List (List Int)},AS ds=ai k->ds=k.map λns=>.tup (ns.map D.int)
 |[],k,h=>by
  have a:ai []=ai k:=h;cases a;rfl
 |d::ds,k,h=>by
  unfold AS at h;rw[GR]at h;cases hd:Lv d with
  |none=>rw[hd]at h;cases h
  |some ns=>
   rw[hd]at h;cases b:ds.mapM Lv with
   |none=>rw[b]at h;cases h
   |some m=>rw[b]at h;have a:ns::m=k:=fJ h;subst a;rw[bz,<- EF (ds:=ds) b,V2 hd]
noncomputable def nh(k:List (List Int)):Bool:=match k with |[]=>bT|n::_=>decide (n.length≠0)&&k.all λm=>decide (m.length=n.length)
def EG(h:nh k=bT):Rows k:=by
 cases k with
 |nil=>exact⟨0,λn a=>by cases a⟩
 |cons n k=>
  unfold nh at h;rw[bI]at h;have b:n.length≠0:=by simpa using h.1
  refine⟨n.length-1,λm a=>?_⟩;have:=dZ.mp h.2 m a;have:m.length=n.length:=by simpa using this
  lia
noncomputable def qO(ns:List Int):D:=.tup (ns.map D.int)
def V3(ns:List Int):gq (qO ns)=bT:=by
 unfold qO;rw[gq];exact fY λd hd=>by refine aR (aN.mp hd) λn _ b=>?_;obtain rfl:=b;rw[gq] <;> simp
def Lw(k:List (List Int)):dR (k.map qO)=bT:=fY λd hd=>by
 refine aR (aN.mp hd) λn _ b=>?_;obtain rfl:=b;exact V3 n
noncomputable def be5:List D->R D:=λd=>match d with
 |[.lst e]=>match AS e with
  |some k=>if(nh k&&decide (k.length<64))=bT then .ok (.lst (fV e))else .bad
  |none=>.bad
 |_=>.bad
noncomputable def dd{a:Type}[DecidableEq a]:List a->List a
 |[]=>[]
 |x::b=>if x∈b then dd b else x::dd b
theorem uR[DecidableEq α]:∀{xs:List α},x∈dd xs↔x∈xs
 |[]=>Iff.rfl
 |y::a=>by
  rw[dd];split;rename_i h;rw[uR,cK];constructor;exact .inr;rintro(rfl|q);exact h;exact q;rw[cK,cK,uR]
theorem tu[DecidableEq α]:∀(xs:List α),(dd xs).Nodup
 |[]=>.nil
 |y::a=>by
  rw[dd];split;exact tu a;rename_i h;exact kX.mpr ⟨λq=>h (uR.mp q),tu a⟩
noncomputable def lK:D->R D:=λa=>match a with
 |.lst e=>match AS e with
  |some k=>if(nh k&&decide (k.length<=50))=bT then .ok (.lst (fV ((dd k).map qO)))else .bad
  |none=>.bad
 |_=>.bad
def EH{es:List D}(hs:∀a∈ds,∀b∈ds,iu a b=bT)(h:es.Perm ds):fV es=fV ds:=jx hs ((cX es).trans h) (n6 es)
def ZS:jR "set"=ai (.type "set"):=by decide +kernel
def AU:jR "sorted"=ai (.builtin "sorted"):=by decide +kernel
def QE(h:Rows k):∀a∈k.map qO,∀b∈k.map qO,iu a b=bT:=λa e b hb=>by
 obtain⟨n,d⟩:=h;refine aR (aN.mp e) λx f c=>?_;obtain rfl:=c;refine aR (aN.mp hb) λy g c=>?_;obtain rfl:=c;unfold qO;rw[iu];exact uK (by rw[d x f,d y g])
def ZT(l:List (List Int)):(dd l).length<=l.length:=by
 induction l with
 |nil=>exact b9 _
 |cons x l i=>rw[dd];split;exact Nat.le_succ_of_le i;rw[cS,cS];lia
def IC(J:X.A.handled=aj)(L:X.A.units+64<cLine)(S:X.mg "sorted"=aj)(j:X.mg "set"=aj)(l:PE X e (tD X.K C G0 m E f κ))(a:autoParam (Gl X "sorted") b5)(o:autoParam (Gl X "set") b5)
  (h1:autoParam (bF [Expr.Call (.Name "set" i) [e] [] I] X.env=[(b4,eval (.Call (.Name "set" i) [e] [] I) X.env)]) b5) (M:autoParam (bF [e] X.env=[(b4,eval e X.env)]) b5) :
  PE X (.Call (.Name "sorted" U) [.Call (.Name "set" i) [e] [] I] [] pos) (tD X.K C G0 m E (oY lK f) .new):=by
 have Y:PE X (.Call (.Name "set" i) [e] [] I) (tCB (JS X C) (vg (tD X.K C G0 m E f κ) HS)):=qy (Ln J L) o j ZS (gF l l7 M) (by decide) (by decide) M;have P2:PE X (.Call (.Name "sorted" U) [.Call (.Name "set" i) [e] [] I] [] pos) (tCB (Iv X C) (vg (tCB (JS X C) (vg (tD X.K C G0 m E f κ) HS)) HS)):=l8 (Cr J L) a S AU (gF Y l7 h1) (by decide) (by decide) h1;refine P2.imp λσ H Q lS=>lS.elim λA oV=>oV.elim λst sQ=>sQ.elim λr q=>⟨A,st,r,?_⟩
 unfold oY R.bind at q;cases s:f st with
 |bad=>rw[s]at q;exact q
 |ex c p=>rw[s]at q;exact q
 |ok d=>
  rw[s]at q;dsimp only at q;intro v H1 e1 w1;show JS X C [v] H1 (λx H2=>Iv X C [x] H2 Q);cases a:lK d with
  |bad=>rw[a]at q;exact q.elim
  |ex c p=>unfold lK at a;split at a <;> (try split at a) <;> (try split at a) <;> cases a
  |ok d'=>
   rw[a]at q;unfold lK at a;split at a;rename_i es;split at a;rename_i k hr;split at a;rename_i t;cases a;simp only[bI,bi1]at t;have l:=EF hr;have Z:=EG t.1;refine⟨v,k,rfl,by rw[<- l];exact w1.rep,t.2,λp b hp Co u N=>?_⟩;have O:(b.map (·.1)).Perm (dd k):=(Bv u (tu k)).mpr λg=>by rw[N g,uR]
   have hl:b.length<=50:=by have h1:=O.length_eq;rw[bw]at h1;have:=ZT k;lia
   have hR:Rows (b.map (·.1)):=by obtain⟨n,w⟩:=Z;exact⟨n,λg h=>w g ((N g).mp h)⟩
   have P:aG H1 (upd H1 p (.ext (Qg X.prog X.w p b))):=cI hp;refine⟨p,b,rfl,bM,λz hz=>aG.tup P (Co z hz),hl,hR,λp' ws zG T zM OZ=>?_⟩;have y:=e1.trans P;refine q _ _ (y.trans (cI T)) (.lst r y T ?_);have hs:fV (zG.map qO)=fV ((dd k).map qO):=EH (QE (by obtain⟨n,w⟩:=Z;exact⟨n,λg h=>w g (uR.mp h)⟩)) ((zM.trans O).map _);have F:aM X.K C (upd H1 p (.ext (Qg X.prog X.w p b))) (fV ((dd k).map qO)) ws:=by rw[<- hs];exact OZ
   exact F.part (.nw y) _ (fY λd hd=>lE (Lw _) ((cX _).mem_iff.mp hd));cases a;cases a;cases a
noncomputable def bg6(i:Nat)(b f:DF):DS:=λst=>match f st with
 |.ok d=>match st[i]? with
  |some (ai (.lst a))=>match b st with
   |.ok (.int k)=>match Td a.length k with
    |some j=>.nx (st.set i (ai (.lst (a.set j d))))
    |none=>.bad
   |.ok _=>.bad
   |.ex c p=>.ex c p st
   |.bad=>.bad
  |_=>.bad
 |.ex c p=>.ex c p st
 |.bad=>.bad
noncomputable def EI(i j:Nat)(f:DA):DS:=λst=>match f st with |.ok [a,b]=>.nx ((st.set i (ai a)).set j (ai b)) |.ok _=>.bad |.ex c p=>.ex c p st |.bad=>.bad
def QF{kt k2 Y}(u:X.calm=bT)(F:X.N.Nodup)(I:PA X [a,b] (Cu X.K C G0 f E fs .new))(J:i≠j)(hk:autoParam (f[i]?=ai k) b5)(h:autoParam (f[j]?=ai k') b5)
  (hl:autoParam (k.takes .old=bT) b5) (L:autoParam (k'.takes .old=bT) b5) (M:autoParam (X.N[i]?=ai x) b5) (N:autoParam (X.N[j]?=ai y) b5) (O:autoParam (X.env.scope.names.lookup x=ai .local) b5) (P:autoParam (X.env.scope.names.lookup y=ai .local) b5)
  (Q:autoParam (swappedStores [.Tuple [.Name x o,.Name y py] kt pt] (.Tuple [a,b] k2 Y) X.env=pure (ai [x,y])) b5)
  (hs:autoParam (swapsWithSole [.Tuple [.Name x o,.Name y py] kt pt] (.Tuple [a,b] k2 Y) pos.line X.env=pure b4) b5) :
  PS X (.Assign [.Tuple [.Name x o,.Name y py] kt pt] (.Tuple [a,b] k2 Y) pos) (lV X.K C G0 f E iU (EI i j fs)):=(Yx u F M N J O P I Q hs).imp λD S H z=>by
 refine dW z λA st r q=>?_;clear z;refine⟨A,st,r,?_⟩;unfold EI at q;cases g:fs st with
 |bad=>rw[g]at q;exact q
 |ex c p=>rw[g]at q;exact λT s=>q S T A (r.mono s) (aJ s)
 |ok U=>
  rw[g]at q;match U,q with
  |[a,b],q=>intro vs H1 d w;rw[aM]at w;obtain⟨v,r1,rfl,Z,w⟩:=w;obtain⟨t,rfl,wb⟩:=oO w;refine⟨v,t,rfl,?_⟩;have l:Rep X.K C (er H1 A) a v:=Z.same (r.yx d) _;have m:Rep X.K C (er H1 A) b t:=wb.same (r.yx d) _;refine cA ((r.mono d).set (.refl _) hk hl (κ:=.old) l) λA1 s1 e _=>?_;refine cA (s1.set (.refl _) h L (κ:=.old) (m.same e _)) λA2 s2 n _=>?_;exact q _ _ A2 s2 (((aJ d).trans e).trans n)
  |[],q=>exact q.elim
  |[_],q=>exact q.elim
  |_::_::_::_,q=>exact q.elim
noncomputable def AV(bind:DB)(f:DF):DS:=λst=>match f st with |.ok d=>(match bind d st with|some s=>.nx s|none=>.bad) |.ex c p=>.ex c p st |.bad=>.bad
def V4{t:bq}{g:TG}{bind:DB}(k:PE X e (tD X.K C G0 i E f κ))(l:κ.le .old=bT)(m:PG X t g)(n:qX X.K C G0 i g bind)(hs:autoParam (swapsWithSole [t] e pos.line X.env=pure b4) b5)(o:autoParam (swappedStores [t] e X.env=pure aj) b5)
  (h1:autoParam ((v9 [t] X.env).map (·.2)=[assign t X.env]) b5):PS X (.Assign [t] e pos) (lV X.K C G0 i E I (AV bind f)):=(OY k m hs o h1).imp λD j H z=>by
 refine dW z λA st r q=>?_;clear z;refine⟨A,st,r,?_⟩;unfold AV at q;cases h:f st with
 |bad=>rw[h]at q;exact q
 |ex c p=>rw[h]at q;exact λu a=>q j u A (r.mono a) (aJ a)
 |ok d=>
  rw[h]at q;dsimp only at q;intro v H1 b w;cases hb:bind d st with
  |none=>rw[hb]at q;exact q.elim
  |some s=>rw[hb]at q;exact n j H1 A st s d v _ (r.mono b) (w.le r b (κ':=.old) l) hb λx y F a _=>q x H1 y F ((aJ b).trans a)
def zR(X:Cx)(P:L2.St->Prop)(n:Nat)(e:bq):Prop:=∀(b:List (av×Obj)) (s:ay) (a:L2.St) (H:Hp) (Q:au->ay->Prop) (E:au->ay->Prop),L2.Inv X b a H s->P a->(∀x t c,L2.Inv X b a H c->x.length<=n->Q (.str x t) c)->aC (aE X.prog X.w) X.A (eval e X.env) Q E s
def AW{x:Str}{j}(h:autoParam (x.length<=n) cT):zR X P n (.Constant (.str x) j pos):=λa s b H Q E I p q=>X7 (q _ _ _ (I.tok _) h)
def yD(h:X.mg x=ai (.int i t))(hs:i.natAbs.log2<1920)(hl:(toString i:Str).length<=n)(a:autoParam (Gl X x) b5)(hd:autoParam ((x==("__debug__" : Str))=b4) cT):zR X P n (.FormattedValue (.Name x p) (-1) aj pos):=λb s c H Q E I d q=>
 FormattedValue_plain (sG I a h (formatField_int_small hs (q _ _ _ (I.tok _) hl)) hd)
end Dm
namespace Dm
open PySem PySem.Spec PyProof.Rows L2 PySem.W
def V5(c:av):Nat:=c+3
end Dm
namespace Dm
open PySem PySem.Spec PyProof.Rows L2
noncomputable abbrev yE(X:Cx)(a:iP)(c:List (Str×av))(N':List Str)(fp:List av)(s:ay)(H:Hp)(L:av):Cx:=
 {X with N:=N',jq:=s,OU:=H,env:=compEnvC a c L X.env,outer:=X.stack,ex:=fp,fn:=λ_=>b4,pn:=[],xe:=λ_ _=>False}
def Cap(X:Cx)(s:iP)(c:List (Str×av)):List (Nat×Str)->Prop
 |[]=>True
 |(i,x)::r=>(X.N[i]?=ai x/\X.env.kindOf x=ai .cell/\c.lookup x=X.env.cells.lookup x/\(relabel s X.env).names.lookup x=ai .cell)/\Cap X s c r
theorem Cap.get:∀{l:List (Nat×Str)} {p:Nat×Str},Cap X scope cl l->p∈l->X.N[p.1]?=ai p.2/\X.env.kindOf p.2=ai .cell/\cl.lookup p.2=X.env.cells.lookup p.2/\(relabel scope X.env).names.lookup p.2=ai .cell
 |_::_,_,h,.head _=>h.1
 |_::_,_,h,.tail _ m=>h.2.get m
def ZV(I:L2.Inv X g σ H s)(hk:scope.kind=.function)(f:s.heap.objs.size<=L)(A:∀x c,cl.lookup x=ai c->X.env.cells.lookup x=ai c)(i:∀x,((relabel scope X.env).names.lookup x=ai .cell\/(relabel scope X.env).names.lookup x=ai .free)->∃c,cl.lookup x=ai c)
  (a:∀b∈fp,BP X g H b) (d:∀b∈fp,b<s.heap.objs.size):(yE X scope cl N' fp s H L).Ok where
 mod:=I.ok.mod
 kind:=hk
 glob:=I.ok.glob
 blt:=I.ok.blt
 above:=f
 inj:=λx y c j k=>I.ok.inj x y c (A _ _ j) (A _ _ k)
 has:=i
 cab:=λx c z=>(nomatch z)
 hd:=I.ok.hd
 frames:=I.ok.frames
 OV:=.inl rfl
 exf:=λb hb=>⟨dM (gO (d b hb) f),λx c h=>(a b hb).2.2.2.2.1 x c (A _ _ h)⟩
 bs:=I.bs
 T7:=cz I.ok.T7 I.sz
 KN:=λb o e hb=>by
  rcases(a b hb).2.2.2.1 with z|z;exact I.ok.KN b o e z;exact bi8 (gO (bZ e) (cz I.ok.T7 z)) (sC _)
 KP:=λb hb z=>by
  rcases cK.mp (I.HA b z)with e|e;exact(a b hb).2.1 e;exact(a b hb).2.2.1 e
 uy:=I.stack
 Xb:=I.Jp
noncomputable def qg{a:Type}(k:Nat)(f:List Nat)(b:List (Option a)):List (Option a):=kE k aj++f.map λi=>(b[i]?).join
def EJ(h:(qg k fr σ)[j]?=ai (ai v)):∃i,k<=j/\fr[j-k]?=ai i/\σ[i]?=ai (ai v):=by
 unfold qg at h;by_cases a:j<k;rw[mE (by simpa using a),nK,bh6 a]at h;cases h;rw[kG (by simpa using mC a),GG,d8]at h;cases c:fr[j-k]? with
 |none=>rw[c]at h;cases h
 |some i=>
  rw[c]at h;have b:(σ[i]?).join=ai v:=fJ h;refine⟨i,mC a,rfl,?_⟩;cases d:σ[i]? with
  |none=>rw[d]at b;cases b
  |some o=>rw[d]at b;rw[show o=ai v from b]
def QG{f:List Nat}{a:List (Option α)}(b:k<=j)(c:f[j-k]?=ai i)(h:a[i]?=ai (ai v)):(qg k f a)[j]?=ai (ai v):=by
 unfold qg;rw[kG (by simpa using b),GG,d8,c];show ai ((a[i]?).join)=_;rw[h];rfl
def V6{a:ay}{caps:List (Nat×Str)}(I:L2.Inv X ao σ H s)(ok:(yE X scope cl (gU++caps.map (·.2)) fp s H L).Ok)(t:Cap X scope cl caps)(A:∀x c,cl.lookup x=ai c->X.env.cells.lookup x=ai c)
  (w:a.os=s.os) (hb:AllBare a.gens) (y:Un (xN X.stack) fp H H1 s.heap a.heap) (l:∀b o,s.heap.get? b=ai o->a.heap.get? b=ai o) (C:a.heap.Ns L m) (E:H1 L=aj) (J:∀x c,cl.lookup x=ai c->H1 c=aj) (F:sj X.prog X.w H1 a.heap) :
  L2.Inv (yE X scope cl (gU++caps.map (·.2)) fp s H L) [] (qg gU.length (caps.map (·.1)) σ) H1 a:=by
 refine⟨ok,w,hb,y,⟨m,C,λj x v d M h3=>?_⟩,λx c h=>?_,E,J,λp N=>(by cases N),F,(by unfold qg;simp)⟩;refine cA (EJ M) λi O e P=>?_;rw[kG O,d8]at d;rw[d8]at e;cases f:caps[j-gU.length]? with
 |none=>rw[f]at d;cases d
 |some p=>rw[f]at d e;cases d;cases e;refine Hx (t.get (iK f)) λQ n S T=>?_;refine aR I.loc λm0 U Z=>?_;refine aR (Z p.1 p.2 v Q P (.inr (.inl n))) λu Y lk=>?_;refine⟨u,Y,.inr ⟨.inl T,?_⟩⟩;rcases lk with⟨z,_⟩|⟨_,c,e1,r⟩;rw[n]at z;cases z;refine aR r λo g k=>?_;clear r;exact⟨c,S.trans e1,o,l _ _ g,k⟩
 obtain⟨v,q⟩:=I.cell x c (A _ _ h);refine aR q λo g k=>?_;clear q;exact⟨v,o,l _ _ g,k⟩
abbrev vC:L2.St->XK:=λ_ _ _ _=>False
def tw(h:kj X vC e s):False:=by
 obtain⟨_,_,_,_,_,_,_,_,q,_⟩:=h;exact q
noncomputable def j9(bind:DB)(t a:DF):List D->gM->R (List D)
 |[],_=>.ok []
 |d::b,st=>match bind d st with
  |none=>.bad
  |some k=>match t k with
   | .ok (.bl bT)=>(match a k with
    |.ok e=>(match j9 bind t a b k with |.ok r=>.ok (e::r)|_=>.bad)
    | _=>.bad)
   |.ok (.bl b4)=>j9 bind t a b k
   |_=>.bad
def CF(a:List SK):Prop:=∀(i:Nat) (k:SK),a[i]?=ai k->k=SK.par
section
variable {K:aF}{C:Cfg}{G0:Hp}{Γ:List SK}{σ:L2.St}{H:Hp}{A B:List av}{st:gM}
def IE(h:∀a∈B,a∈A):aG (er H A) (er H B):=λb o e=>by
 by_cases c:b∈A;rw[dG c]at e;cases e;rw[aU c]at e;rw[aU λz=>c (h b z)];exact e
def RS.aC1(r:RS K C G0 Γ σ H A st)(b:CF Γ)(sub:∀a∈B,a∈A):RS K C G0 Γ σ H B st where
 base:=r.base.trans (IE sub)
 lists:=λa m=>r.lists a (sub a m)
 len:=r.len
 slot:=λi d h=>by
  refine bC (r.slot i d h) λk v c e f=>?_;obtain rfl:=b i k c;exact⟨.par,v,c,e,Rep.same (IE sub) _ f⟩
 apart:=λi j n m p g l o g1=>by have:=b i _ g1;cases this
 gl:=r.gl
def RS.ZW(r:RS K C G0 Γ σ H A st)(e:CF Γ)(l:a∈A):RS K C G0 Γ σ (upd H a (.lst ys)) A st:=by
 have f:er (upd H a (.lst ys)) A=er H A:=by funext b;by_cases c:b∈A;rw[dG c,dG c];rw[aU c,aU c,aS (λz:b=a=>c (by rw[z];exact l))]
 refine⟨by rw[f];exact r.base,λb m=>?_,r.len,λi d h=>?_,λi j n m p t u w g1=>(by have:=e i _ g1;cases this),r.gl⟩;by_cases hb:b=a;subst hb;exact⟨_,bM,rfl⟩;rw[aS hb];exact r.lists b m;refine bC (r.slot i d h) λk v g o s=>?_;obtain rfl:=e i k g;exact⟨.par,v,g,o,by show Rep K C (er _ A) d v;rw[f];exact s⟩
end
noncomputable def part(n:Bool)(H2:Hp)(a:av)(B:List av)(H:Hp):Hp:=if n=bT then nw H2 (er H [a])else er H (a::B)
def qB(e:aG H a):aG (part n H2 acc B H) (part n H2 acc B a):=by
 unfold part;cases n;exact aJ e;exact bR (aJ e)
def QH:part n H2 a B (upd H a o)=part n H2 a B H:=by
 have e:∀A:List av,a∈A->er (upd H a o) A=er H A:=λA m=>by funext b;by_cases c:b∈A;rw[dG c,dG c];rw[aU c,aU c,aS (λz:b=a=>c (by rw[z];exact m))]
 unfold part;rw[e [a] (.head _),e (a::B) (.head _)]
def Lz{ft:DF}:∀(b:List (av×Obj)) (s:ay) (a:L2.St) (H:Hp) (Q:Bool->Hp->Prop),L2.Inv X b a H s->wC X.K C G0 e E (dC (.bl bT)) a H Q->
  aC (aE X.prog X.w) X.A (forIn ([]:List bq) bT λc r=>if r=bT then do let ok <- isTrue c X.env (eval c X.env);pure (mK ok)else pure (mK r)) (TP X b a Q) X.xe s:=λb s a H Q I l=>l.elim λA o=>o.elim λst d=>d.elim λr q=>wpAny_tests_nil ⟨H,I,q H (.refl _)⟩
def gr(h:PT X c (wC X.K C G0 d E ft)):∀(b:List (av×Obj)) (s:ay) (a:L2.St) (H:Hp) (Q:Bool->Hp->Prop),L2.Inv X b a H s->wC X.K C G0 d E ft a H Q->
  aC (aE X.prog X.w) X.A (forIn [c] bT λc r=>if r=bT then do let ok <- isTrue c X.env (eval c X.env);pure (mK ok)else pure (mK r)) (TP X b a Q) X.xe s:=λb s a H Q I q=>wpAny_tests_one (h b s a H Q I q)
section
variable {X:Cx}{C:Cfg}{G0:Hp}{Γ:List SK}{tg iter elt:bq}{ifs:List bq}{scope:iP}{pos:Pos}{fp:List av}{it acc:av}{tn:Nat->aW->Prop}{J:It}{g:TG}{bind:DB}{ft fe:DF}{oZ:Kd}{n:Bool}{H2:Hp}{B:List av}{ds total:List D}{R:Result->ay->Prop}
def yF(X:Cx)(C:Cfg)(G0:Hp)(Γ:List SK)(acc:av)(bind:DB)(ft fe:DF)(n:Bool)(H2:Hp)(B:List av)(ds total:List D)(i:Nat)(s:ay)(a:L2.St)(H:Hp):Prop:=
 ∃st y e,L2.Inv X [] a H s/\H acc=ai (.lst y)/\RS X.K C G0 Γ a H (acc::B) st/\aG H2 (er H [acc])/\(aM X.K C (part n H2 acc B H) e y/\(n=bT->Ct X.K C H2 (part n H2 acc B H) e y/\Dst e y))/\e.length<=i/\
  ∃r,j9 bind ft fe (ds.drop i) st=.ok r/\e++r=total
def LA(T:Turn X.prog X.w X.K tg J fp it tn)(JZ:X.calm=bT)(N:∀b∈fp,b∈X.ex/\b≠X.env.locals/\b∉X.fs/\(∀x c,X.env.cells.lookup x=ai c->c≠b))(hpn:X.pn=[])(BZ:CF Γ)(hJ:Lr X.K C B H2 J ds)(hB:qX X.K C G0 Γ g bind)(hG:PG (X.dJ (kj X vC)) tg g)
  (hT:∀(ao:List (av×Obj)) (s:ay) (k:L2.St) (H:Hp) (Q:Bool->Hp->Prop),L2.Inv (X.dJ (kj X vC)) ao k H s->wC X.K C G0 Γ vC ft k H Q->
   aC (aE X.prog X.w) X.A (forIn ifs bT λc r=>if r=bT then do let ok <- isTrue c X.env (eval c X.env);pure (mK ok)else pure (mK r)) (TP (X.dJ (kj X vC)) ao k Q) (kj X vC) s)
  (hE:PE (X.dJ (kj X vC)) elt (tD X.K C G0 Γ vC fe oZ)) (hn:n=bT->oZ=.new) (xO:n=b4->oZ.le .old=bT) (IF:H2 acc=aj) (lW:ds.length<=5000)
  (fin:∀s k H,yF X C G0 Γ acc bind ft fe n H2 B ds total ds.length s k H->R (.ok .next) s) :
  ∀s k H,yF X C G0 Γ acc bind ft fe n H2 B ds total 0 s k H->tn 0 s.heap->(∀b∈fp,H b=aj)->codeAny (aE X.prog X.w) X.A (.compLoop (.ListComp elt [⟨tg,iter,ifs,0⟩] scope pos) 0 (.ref it) (.ref acc) X.env) R s:=λs0 σ0 H0 h0 t0 f0=>by
 refine codeAny_loop rfl (λm s=>∃i k H,m=ds.length-i/\i<=ds.length/\yF X C G0 Γ acc bind ft fe n H2 B ds total i s k H/\tn i s.heap/\∀b∈fp,H b=aj) (λm s G7=>?_) ds.length ⟨0,σ0,H0,rfl,eS _,h0,t0,f0⟩;refine DK G7 λi k H hm hi iv htn hfn=>?_;clear G7;subst hm;show aC _ X.A ((compTurn (.ListComp elt [⟨tg,iter,ifs,0⟩] scope pos) 0 (.ref it) (.ref acc) X.env).onRaise (λx=>do noteFrame x X.env;theTreesLotGoes x)) _ _ s;refine wpAny_noted ?_;rw[compTurn_list];obtain⟨st,U,es,I,hH,r,e2,y,hl,Y,f,ZX⟩:=id iv;have ZY:∀{H':Hp},(∀b∈fp,H' b=aj)->∀b∈fp,BP X [] H' b:=λhn b hb=>⟨hn b hb,(N b hb).2.1,(N b hb).2.2.1,.inl (N b hb).1,(N b hb).2.2.2,λp hp=>by rw[hpn]at hp;cases hp⟩
 have hJi:=hJ i H (acc::B) (λb o e=>by
  by_cases hb:b∈B;rw[dG hb]at e;cases e;rw[aU hb]at e;have z:=e2 b o e;by_cases ha:b=acc;subst ha;rw[IF]at e;cases e;rw[aU (by simpa using ha)]at z;rw[aU (by simp[ha,hb])];exact z) (λa m=>by obtain⟨xs,q,_⟩:=r.lists a m;rw[q];simp)
 cases hd:ds[i]? with
 |none=>have Xy:=nR.mp hd;obtain rfl:i=ds.length:=Nl hi Xy;refine ak (Am (ak (iw (T.done X rfl rfl rfl JZ _ [] s k H _ I (ZY hfn) htn (hJi.2 hd)) (λrr s1 I0=>?_) λ_ _ h=>h)));obtain⟨hr,I1⟩:=I0;subst hr;exact aB (fin s1 k H ⟨st,U,es,I1,hH,r,e2,y,hl,Y,f,ZX⟩)
 |some d=>
  have gK:i<ds.length:=(eN.mp hd).1;have hdr:ds.drop i=d::ds.drop (i+1):=by rw[ud gK];congr 1;exact(eN.mp hd).2
  rw[hdr,j9]at f;obtain⟨go,yl⟩:=hJi.1 d hd;refine ak (Am (ak (iw (T.item X rfl rfl rfl JZ i [] s k H _ I (ZY hfn) htn go) (λrr s1 Jy=>?_) λ_ _ h=>h)));refine aR Jy λu hr h1=>?_;clear Jy;subst hr;refine ak (iw h1 (λ_ s3 HE=>?_) λ_ _ h=>h);refine Hy HE λx H3 I3 rx hy tn3 fn3=>?_;clear HE;obtain⟨Z,wx⟩:=yl x H3 hy;have I3p:=I3.pinned (ZY fn3) (T.obj _ _ tn3);cases hb:bind d st with
  |none=>rw[hb]at f;cases f
  |some L=>
   rw[hb]at f;dsimp only at f;have r3:=r.mono Z;refine ak (iw (hG _ s3 k H3 x u (λMM H4=>H4=H3/\∃A4,RS X.K C G0 Γ MM H3 A4 L/\∀a∈acc::B,a∈A4) (I3p.dJ _) rx (hB k H3 (acc::B) st L d x _ r3 wx hb λMM A4 r4 _ sb=>⟨rfl,A4,r4,sb⟩)) (λ_ s4 Jr=>?_) λ_ _ h=>(tw h).elim);obtain⟨MM,H4,I4,hH4,A4,r4,sb⟩:=Jr;subst hH4;have A:=r4.aC1 BZ sb;have hH3:H4 acc=ai (.lst U):=Z _ _ hH;have E:∀{s9:ay} {O:L2.St} {H9:Hp},L2.Inv X ([]++xS fp s3.heap) O H9 s9->yF X C G0 Γ acc bind ft fe n H2 B ds total (i+1) s9 O H9->∃m,m<ds.length-i/\∃i' cV H',m=ds.length-i'/\i'<=ds.length/\yF X C G0 Γ acc bind ft fe n H2 B ds total i' s9 cV H'/\tn i' s9.heap/\∀b∈fp,H' b=aj:=λ{s9 O H9} I9 c9=>by refine⟨ds.length-(i+1),by lia,i+1,O,H9,rfl,gK,c9,T.keep _ _ _ tn3 λb hb o e=>(I9.pin (b,o) (mW _ (mW _ (nV hb e)))).1,λb hb=>?_⟩;refine aR (T.obj _ _ tn3 b hb) λo e _=>?_;exact(I9.pin (b,o) (mW _ (mW _ (nV hb e)))).2.1
   have ep:aG H2 (er H4 [acc]):=e2.trans (aJ Z);refine ak (iw (hT _ s4 MM H4 (λb H5=>aG H4 H5/\ft L=.ok (.bl b)) I4 ⟨acc::B,L,A,?_⟩) (λok s5 Js=>Js.elim λH5 BN=>BN.elim λI5 I8=>I8.elim λM fE=>?_) λ_ _ h=>(tw h).elim);cases hf:ft L with
   |bad=>rw[hf]at f;cases f
   |ex c p=>rw[hf]at f;cases f
   |ok t=>
    rw[hf]at f;cases t with
    |bl b=>exact λH' e'=>⟨e',rfl⟩
    |_=>cases f
   rw[fE]at f;have ep5:=ep.trans (aJ M);cases ok with
   |false=>dsimp only at f;exact aB ⟨rfl,E I5.iO ⟨L,U,es,(I5.iO).sE (λp hp=>by cases hp),M _ _ hH3,A.mono M,ep5,⟨y.1.same (qB (Z.trans M)) _,λz=>⟨(y.2 z).1.mono (qB (Z.trans M)),(y.2 z).2⟩⟩,by lia,Y,f,ZX⟩⟩
   |true=>
    dsimp only at f;cases P:fe L with
    |bad=>rw[P]at f;cases f
    |ex c p=>rw[P]at f;cases f
    |ok de=>
     rw[P]at f;dsimp only at f;refine ak (ak (iw (hE _ s5 MM H5 (λv l=>aG H5 l/\Val X.K C oZ G0 (acc::B) H5 l de v) I5 ⟨acc::B,L,A.mono M,?_⟩) (λue s6 Ia=>Ia.elim λv Ib=>Ib.elim λl Pr=>Pr.elim λI6 Z1=>Z1.elim λrv Pu=>Pu.elim λe6 wv=>?_) λ_ _ h=>(tw h).elim));rw[P];exact λv H' e' w=>⟨e',w⟩
     have F:=M.trans e6;have hH6:l acc=ai (.lst U):=F _ _ hH3;have sn:aG (nw H5 l) (nw H2 (er l [acc])):=λb o z=>by
      unfold nw at z;split at z;rename_i kk;have hb:b≠acc:=λw=>by subst w;rw[M _ _ hH3]at kk;cases kk
      show nw H2 (er l [acc]) b=_;unfold nw;rw[bh6 (oh (ep5.trans (aH _ _)) kk),aU (by simpa using hb)];exact z;cases z
     have wp:Rep X.K C (part n H2 acc B l) de v/\(n=bT->lH X.K C H2 (part n H2 acc B l) de v):=by
      cases n with
      |true=>obtain rfl:=hn rfl;exact⟨wv.1.same sn _,λ_=>(wv.2.early (ep5.trans (aH _ _))).mono sn⟩
      |false=>exact⟨Val.le (A.mono M) e6 (κ':=.old) (xO rfl) wv,λz=>by cases z⟩
     refine ak (iw (uD (X:=X.dJ (kj X vC)) _ s6 MM l (.ref acc) [v] (.ref acc) [ue] (λz H7=>H7=upd l acc (.lst (U++[v]))) I6 rfl (.cons rv .nil) ⟨acc,U,v,rfl,rfl,hH6,?_,rfl⟩) (λ_ s7 Pw=>Pw.elim λz ZZ=>ZZ.elim λH7 aa0=>aa0.elim λI7w Yv=>Yv.elim λ_ hH7=>?_) λ_ _ h=>(tw h).elim);rw[y.1.len];have:5001<=cH:=by rw[gf];decide
     lia;subst hH7;have I7:=I7w.iO;refine aB (aB ⟨rfl,E I7 ?_⟩);cases S:j9 bind ft fe (ds.drop (i+1)) L with
     |bad=>rw[S]at f;cases f
     |ex c p=>rw[S]at f;cases f
     |ok aC2=>
      rw[S]at f;cases f;refine⟨L,U++[v],es++[de],I7.sE (λp hp=>by cases hp),bM,((A.mono F)).ZW BZ (.head _),?_,?_,by simp;lia,aC2,S,by simpa using ZX⟩;have:er (upd l acc (.lst (U++[v]))) [acc]=er l [acc]:=by funext b;by_cases mb:b∈[acc];rw[dG mb,dG mb];rw[aU mb,aU mb,aS (by simpa using mb)]
      rw[this];exact ep.trans (aJ F);rw[QH];exact⟨(y.1.same (qB (Z.trans F)) _).app (.cons wp.1 .nil),λz=>⟨((y.2 z).1.mono (qB (Z.trans F))).snoc y.1.len (wp.2 z),(y.2 z).2.snoc y.1.len λod j d' hj od' hv=>by
       subst z;obtain rfl:=hn rfl;obtain⟨a,ra,ga,_⟩:=wv.2.1 od;subst ra;obtain⟨b,rb,_,ob⟩:=((y.2 rfl).1 j d' _ hj hv).1 od';cases rb;obtain⟨o,q,_⟩:=ob.Qi;have q:nw H2 (er H [acc]) a=ai o:=q;have:=(Z.trans M) _ _ (aH _ _ _ _ (cj _ _ _ _ q));rw[ga]at this;cases this⟩⟩
end
noncomputable def zB(z:Bool)(A:List av):List av:=if z=bT then A else []
def IG(K:aF)(C:Cfg)(G0:Hp)(d:List SK)(E:L2.St->XK)(z:Bool)(g:DI):TI:=λb H e=>∃A st,RS K C G0 d b H A st/\match g st with
 |.ok f=>∀J a,aG H a->Lr K C (zB z A) a J f->e J a
 |.ex c p=>∀a,aG H a->JT (E b) c p a
 |.bad=>False
def _root_.L2.PI.imp(h:PI X b e t)(i:∀a H Q,t' a H Q->t a H Q):PI X b e t':=λc s a H Q I q=>h c s a H Q I (i a H Q q)
def QI:∀a∈zB z A,a∈A:=λa h=>by unfold zB at h;cases z with|true=>exact h|false=>cases h
def V7(t:PE X iter (tD X.K C G0 u E f κ))(l:z=bT->κ.le .old=bT):PI X O iter (IG X.K C G0 u E z (di f)):=(w6 t).imp λP H Q k=>by
 refine dW k λA st r q=>?_;clear k;refine⟨A,st,r,?_⟩;unfold di at q;cases h:f st with
 |bad=>rw[h]at q;exact q
 |ex c p=>rw[h]at q;exact q
 |ok d=>
  rw[h]at q;cases d with
  |lst y=>
   dsimp only at q;intro v H1 m w;have e:Rep X.K C (er H1 (zB z A)) (.lst y) v:=by
    unfold zB;cases z with
    |true=>exact w.le r m (κ':=.old) (l rfl)
    |false=>rw[bh7 (by decide),jN];exact w.rep
   rw[Rep]at e;refine bC e λa b F g n=>?_;clear e;obtain rfl:=F;refine⟨a,rfl,⟨b,(aH _ _).seq g⟩,q _ _ m λi I S j _=>⟨λd hd=>?_,λhd=>?_⟩⟩;refine aR (n.get' hd) λv o J=>?_;have s:k9 X.K I a b:=(j.trans (aH _ _)).seq g;refine⟨⟨b,v,s,o⟩,λx T L=>?_⟩;obtain⟨M,N⟩:=L;subst M;have:=N b s;rw[o]at this;cases this;exact⟨.refl _,J.same ((aH _ _).trans j) _⟩;exact⟨b,(j.trans (aH _ _)).seq g,by rw[n.len];exact nR.mp hd⟩
  |_=>exact q.elim
def EK(I:L2.Inv X d σ H s)(h:H L=aj)(f:L≠X.env.locals)(hS:X.jq.heap.objs.size<=L)(g:∀x c,X.env.cells.lookup x=ai c->c≠L)(i:∀p∈X.pn++d,p.1≠L)(hs:iA L s.heap h'):L2.Inv X d σ H {s with heap:=h'}:=by
 have k:∀b o,b≠L->s.heap.get? b=ai o->h'.get? b=ai o:=λb o hb e=>(hs.2 b hb).trans e;refine Inv.DU I (s':={s with heap:=h'}) (ch:=[L]) rfl ⟨λb o e n j nx=>k b o (by simpa using nx) e,λb o e n j nx=>⟨o.slots,k b o (by simpa using nx) e⟩,λb o e n nx=>n,λb o e nx=>⟨o,k b o (by simpa using nx) e⟩,λb l q=>q,λb o u q=>q,λ_ _ _ e=>e⟩ (λb u e=>?_) I.bare (λb hb=>?_);refine(I.fE b u e).zI (λc v a q=>k c v ?_ q) (λ_ q=>q) (λ_ _ q=>q) λ_ z _ q=>q;rintro rfl;rcases a with rfl|a;rw[h]at e;cases e;rw[h]at a;cases a;obtain rfl:b=L:=by simpa using hb
 exact⟨.inr hS,f,g,i⟩
section
variable {X:Cx}{C:Cfg}{G0:Hp}{Γ:List SK}{E0:au->ay->Prop}{ao:List (av×Obj)}{σ:L2.St}{H2:Hp}{s2:ay}{A:List av}{st:gM}{tg iter elt:bq}{ifs:List bq}{scope:iP}{cl:List (Str×av)}{pos:Pos}{fp:List av}{it:av}{tn:Nat->aW->Prop}{J:It}{g:TG}{bind:DB}{ft fe:DF}{oZ:Kd}{n z:Bool}{ds total:List D}{gU:List Str}{caps:List (Nat×Str)}{RR:au->av->Result->ay->Prop}
def jW(m:Nat):List SK:=kE m .par
def qC(m:Nat):CF (jW m):=λi k h=>by unfold jW at h;rw[nK]at h;split at h <;> cases h;rfl
structure yG(X:Cx)(C:Cfg)(ao:List (av×Obj))(σ:L2.St)(n:Bool)(H2:Hp)(B:List av)(total:List D)(acc L:av)(s':ay)(H':Hp)(ys:List V):Prop where
 inv:L2.Inv X ao σ H' s'
 ns:∃m,s'.heap.Ns L m
 hL:H' L=aj
 lL:L≠X.env.locals
 sL:X.jq.heap.objs.size<=L
 cL:∀x c,X.env.cells.lookup x=ai c->c≠L
 pL:∀p∈X.pn++ao,p.1≠L
 new:H2 acc=aj
 at':H' acc=ai (.lst ys)
 same:aG H2 (er H' [acc])
 aa1:aM X.K C (part n H2 acc B H') total ys/\(n=bT->Ct X.K C H2 (part n H2 acc B H') total ys/\Dst total ys)
def yH(I:L2.Inv X ao σ H2 s2)(JZ:X.calm=bT)(r2:RS X.K C G0 Γ σ H2 A st)(T:Turn X.prog X.w X.K tg J fp it tn)(E:tn 0 s2.heap)(O:∀b∈fp,BP X ao H2 b)(hJ:Lr X.K C (zB z A) H2 J ds)(hz:z=bT->∀p∈caps,Γ[p.1]?=ai .par\/Γ[p.1]?=ai .loc)
  (nH:j9 bind ft fe ds (qg gU.length (caps.map (·.1)) st)=.ok total) (lW:ds.length<=5000) (hk:scope.kind=.function) (xP:∀y∈scope.names,y.2≠.cell) (AB:∀x c,cl.lookup x=ai c->X.env.cells.lookup x=ai c)
  (Lx:∀x,((relabel scope X.env).names.lookup x=ai .cell\/(relabel scope X.env).names.lookup x=ai .free)->∃c,cl.lookup x=ai c) (Ly:Cap X scope cl caps)
  (hB:qX X.K C G0 (jW (gU.length+caps.length)) g bind)
  (hG:∀s H L,PG ((yE X scope cl (gU++caps.map (·.2)) fp s H L).dJ (kj (yE X scope cl (gU++caps.map (·.2)) fp s H L) vC)) tg g)
  (hT:∀Y Z L (ao:List (av×Obj)) (s:ay) (σ:L2.St) (H:Hp) (Q:Bool->Hp->Prop),L2.Inv ((yE X scope cl (gU++caps.map (·.2)) fp Y Z L).dJ (kj (yE X scope cl (gU++caps.map (·.2)) fp Y Z L) vC)) ao σ H s->wC X.K C G0 (jW (gU.length+caps.length)) vC ft σ H Q->
   aC (aE X.prog X.w) X.A (forIn ifs bT λc r=>if r=bT then do let ok <- isTrue c (compEnvC scope cl L X.env) (eval c (compEnvC scope cl L X.env));pure (mK ok)else pure (mK r)) (TP ((yE X scope cl (gU++caps.map (·.2)) fp Y Z L).dJ (kj (yE X scope cl (gU++caps.map (·.2)) fp Y Z L) vC)) ao σ Q) (kj (yE X scope cl (gU++caps.map (·.2)) fp Y Z L) vC) s)
  (hE:∀s H L,PE ((yE X scope cl (gU++caps.map (·.2)) fp s H L).dJ (kj (yE X scope cl (gU++caps.map (·.2)) fp s H L) vC)) elt (tD X.K C G0 (jW (gU.length+caps.length)) vC fe oZ)) (hn:n=bT->oZ=.new) (xO:n=b4->oZ.le .old=bT)
  (hRR:∀l L s' H' ys,yG X C ao σ n H2 (zB z A) total l L s' H' ys->RR (.ref l) L (.ok .next) s') :
  aC (aE X.prog X.w) X.A (newList []) (λl aa2=>aC (aE X.prog X.w) X.A (newFunctionEnv scope X.env.globals cl [] X.env.qual aj .none (ai X.env)) (λaC4 aY3=>
   codeAny (aE X.prog X.w) X.A (.compStart (.ListComp elt [⟨tg,iter,ifs,0⟩] scope pos) 0 (.ref it) l {aC4 with scope:=relabel scope X.env}) (RR l aC4.locals) aY3) E0 aa2) E0 s2:=by
 refine kN (wpAny_newFunctionEnv xP (by intro y hy;simp at hy) (λP II CG=>?_) hk);dsimp only at II CG ⊢;generalize F:s2.heap.push {cls:=.type "list",dict:=aj,data:=.seq ([]:List au).toArray}=t at II CG ⊢;have hC:t.objs.size=s2.heap.objs.size+1:=by rw[<- F,Ao]
 have hDC:s2.heap.objs.size≠t.objs.size:=by rw[hC];exact dM (Aq _)
 have f:∀b,b<s2.heap.objs.size->b≠t.objs.size/\b≠s2.heap.objs.size:=λb hb=>⟨by rw[hC];exact dM (x8 hb),dM hb⟩
 have old:∀b o,s2.heap.get? b=ai o->P.get? b=ai o:=λb o e=>CG.extBut b o (f b (bZ e)).1 (bP _ (F▸bP _ e));have IF:P.get? s2.heap.objs.size=ai {cls:=.type "list",data:=.seq ([]:List au).toArray 0}:=CG.extBut _ _ hDC (bP _ (F▸eY _ rfl));have S:H2 s2.heap.objs.size=aj:=I.fE.fresh (b9 _);have M:s2.heap.objs.size<=t.objs.size:=by rw[hC];exact wY _
 have nL:H2 t.objs.size=aj:=I.fE.fresh M;have hfs:∀b∈fp,b<s2.heap.objs.size:=λb hb=>by obtain⟨o,e,_⟩:=T.obj _ _ E b hb;exact bZ e
 have ok:=ZV (N':=gU++caps.map (·.2)) (L:=t.objs.size) I hk M AB Lx O hfs;have un:Un (xN X.stack) fp H2 (upd H2 s2.heap.objs.size (.lst [])) s2.heap P:=Un.laid old (b9 _) S;have fE:sj X.prog X.w (upd H2 s2.heap.objs.size (.lst [])) P:=I.fE.laid old (b9 _) ⟨eS _,[],0,.nil,IF⟩;have inn:L2.Inv (yE X scope cl (gU++caps.map (·.2)) fp s2 H2 t.objs.size) [] (qg gU.length (caps.map (·.1)) σ) (upd H2 s2.heap.objs.size (.lst [])) {s2 with heap:=P,toks:=s2.toks+([]:List (Str×au)).length}:=by
  refine V6 I ok Ly AB rfl I.bare un old II (by rw[aS (eW hDC)];exact nL) (λx c h=>?_) fE;have hc:=I.qS x c (AB _ _ h);have MH:c≠s2.heap.objs.size:=λw=>by obtain⟨v,q⟩:=I.cell x c (AB _ _ h);exact bi8 q.lt (by rw[w];exact sC _)
  rw[aS MH];exact hc
 have e2:aG H2 (upd H2 s2.heap.objs.size (.lst [])):=cI S;have ee:aG H2 (er (upd H2 s2.heap.objs.size (.lst [])) [s2.heap.objs.size]):=λb o e=>by
  have:b≠s2.heap.objs.size:=λw=>by rw[w,S]at e;cases e
  rw[aU (by simpa using this)];exact e2 b o e
 have eB:aG (er H2 (zB z A)) (er (upd H2 s2.heap.objs.size (.lst [])) (s2.heap.objs.size::zB z A)):=λb o e=>by
  by_cases mb:b∈zB z A;rw[dG mb]at e;cases e;rw[aU mb]at e;have:b≠s2.heap.objs.size:=λw=>by rw[w,S]at e;cases e
  rw[aU (by simp[this,mb])];exact e2 b o e
 have rin:RS X.K C G0 (jW (gU.length+caps.length)) (qg gU.length (caps.map (·.1)) σ) (upd H2 s2.heap.objs.size (.lst [])) (s2.heap.objs.size::zB z A) (qg gU.length (caps.map (·.1)) st):=by
  refine⟨(r2.base.trans (IE QI)).trans eB,λa m=>?_,by unfold qg;simp,λj d h=>?_,λi j n' m' p Iw es lU g1=>(by have:=qC _ i _ g1;cases this),r2.gl⟩;rcases cK.mp m with rfl|m;exact⟨_,bM,rfl⟩;obtain⟨o,q,hM⟩:=r2.lists a (QI a m);exact⟨o,e2 _ _ q,hM⟩;refine cA (EJ h) λi hj N hs=>?_;refine bC (r2.slot i d hs) λk v h1 h2 h3=>?_;have gK:j-gU.length<caps.length:=by have:=(eN.mp N).1;simpa using this
  refine⟨.par,v,?_,QG hj N h2,?_⟩;unfold jW;rw[nK,bh6 (by lia)];refine Rep.same eB _ ?_;refine aR (r2.read h1 hs) λv' w1 w2=>?_;rw[h2]at w1;cases w1;unfold zB;cases z with
  |false=>rw[bh7 (by decide),jN];exact w2.rep
  |true=>
   rw[d8]at N;cases hc:caps[j-gU.length]? with
   |none=>rw[hc]at N;cases N
   |some p=>rw[hc]at N;cases N;rcases hz rfl p (iK hc)with q|q;rw[h1]at q;cases q;exact h3;rw[h1]at q;cases q;exact h3.1.same (cj _ _) _
 have u:∀s3:ay,s3={s2 with heap:=P,toks:=s2.toks+([]:List (Str×au)).length}->
   codeAny (aE X.prog X.w) X.A (.compLoop (.ListComp elt [⟨tg,iter,ifs,0⟩] scope pos) 0 (.ref it) (.ref s2.heap.objs.size) (compEnvC scope cl t.objs.size X.env)) (RR (.ref s2.heap.objs.size) t.objs.size) s3:=by
  rintro s3 rfl
  refine LA (X:=yE X scope cl (gU++caps.map (·.2)) fp s2 H2 t.objs.size) (C:=C) (G0:=G0) (B:=zB z A) (H2:=H2) (total:=total) T JZ (λb hb=>⟨hb,(ok.exf b hb).1,ok.KP b hb,(ok.exf b hb).2⟩) rfl (qC _) hJ hB (hG _ _ _) (hT _ _ _) (hE _ _ _) hn xO S lW
   (λs' cV H' sQ=>sQ.elim λst' G7=>G7.elim λys I0=>I0.elim λes Jy=>Jy.elim λU HE=>HE.elim λhy Jr=>Jr.elim λr' Js=>Js.elim λe' BN=>BN.elim λrp I8=>I8.elim λhl Ia=>Ia.elim λrest Ib=>Ib.elim λhg ht=>?_) _ _ _ ⟨_,[],[],inn,bM,rin,ee,⟨.nil,λ_=>⟨λj d v h=>(by cases h),λj k d d' v _ h=>(by cases h)⟩⟩,eS _,total,by simpa using nH,rfl⟩ (T.keep _ _ _ E λb hb o e=>old b o e) (λb hb=>by rw[aS (f b (hfs b hb)).2];exact(O b hb).1)
  have hr:rest=[]:=by
   rw[Br]at hg
   exact(R.ok.inj hg).symm
  subst hr
  rw[kC]at ht
  subst ht
  have aY4:L2.Inv X ao σ H' s':=Inv.DU I U.os U.base U.fE U.bare λb hb=>⟨(O b hb).2.2.2.1,(O b hb).2.1,(O b hb).2.2.2.2.1,(O b hb).2.2.2.2.2⟩
  refine hRR _ _ s' H' ys ⟨aY4,U.loc.imp λm h=>h.1,U.free,?_,cz I.sz M,λx c h w=>?_,λp hp w=>?_,S,hy,e',rp⟩
  ·exact eW (f _ I.lt).1
  ·obtain⟨v,q⟩:=I.cell x c h
   exact(f _ q.lt).1 w
  ·exact(f _ (bZ (I.pin p hp).1)).1 w
 exact codeAny_compStart_list (u _ rfl) (T.self X.A 0 _ _ _ (T.keep _ _ _ E λb hb o e=>old b o e) (u _ rfl))
end
noncomputable def vD(z n:Bool):Kd:=if n=bT then .new else if z=bT then .uL else .jG
noncomputable def dm(g:DI)(k:Nat)(f:List Nat)(bind:DB)(ft a:DF):DF:=λst=>match g st with
 |.ok d=>if d.length<=5000 then(match j9 bind ft a d (qg k f st)with |.ok e=>.ok (.lst e)|_=>.bad)else .bad
 |.ex c p=>.ex c p
 |.bad=>.bad
section
variable {X:Cx}{C:Cfg}{G0:Hp}{Γ:List SK}{E:L2.St->XK}{iU:Option Bool}{tg iter elt:bq}{ifs:List bq}{scope:iP}{cl:List (Str×av)}{pos:Pos}{g:TG}{bind:DB}{gi:DI}{ft fe:DF}{oZ:Kd}{n z:Bool}{gU:List Str}{caps:List (Nat×Str)}
def yG.val{x:List (av×Obj)}{u:L2.St}{H H2:Hp}{A:List av}{total:List D}{a L:av}{s':ay}{f:Hp}{ys:List V}{st:gM}(b:yG X C x u n H2 (zB z A) total a L s' f ys)(r:RS X.K C G0 Γ u H A st)(e:aG H H2):aG H f/\Val X.K C (vD z n) G0 A H f (.lst total) (.ref a)/\(n=bT->qe X.K C H (nw H f) (.lst total) (.ref a)):=by
 have y:aG H2 f:=b.same.trans (aH _ _);have F:=e.trans y;refine⟨F,?_,λz=>oN.deep λJ w=>?_⟩;rotate_left;subst z;cases w;refine⟨a,ys,rfl,by rw[jM (e.free b.new)];exact b.at',λj d v p s=>(((b.aa1.2 rfl).1 j d v p s).early e).mono λc o z=>?_,(b.aa1.2 rfl).2⟩;unfold part at z;rw[bh6 rfl]at z;by_cases h:c=a;subst h;have:=cj _ _ _ _ z;rw[dG (.head _)]at this;cases this;rw[aU (by simpa using h)];exact oj e _ _ (bR (aH _ _) _ _ z);have l:H a=aj:=e.free b.new;have t:=b.aa1.1;unfold vD;cases n with
 |true=>
  rw[bh6 rfl];have i:aM X.K C (er (nw H f) [a]) total ys:=t.same (λc o z=>by
   unfold part at z;rw[bh6 rfl]at z;by_cases h:c=a;subst h;have:=cj _ _ _ _ z;rw[dG (.head _)]at this;cases this;rw[aU (by simpa using h)];exact oj e _ _ (bR (aH _ _) _ _ z)) _
  have k:nw H f a=ai (.lst ys):=by rw[jM l];exact b.at'
  exact⟨by rw[Rep];exact⟨a,ys,rfl,.of k,i⟩,⟨λ_=>⟨a,rfl,l,ys,k,i⟩,.not rfl⟩⟩
 |false=>
  rw[bh7 (by decide)];cases z with
  |true=>
   rw[bh6 rfl];have I:a∉A:=λm=>by obtain⟨M,q,_⟩:=r.lists a m;rw[l]at q;cases q
   have i:aM X.K C (er (er f A) [a]) total ys:=t.same (λc o z=>by
    unfold part zB at z;rw[bh7 (by decide),bh6 rfl]at z;by_cases h:c∈a::A;rw[dG h]at z;cases z;rw[aU h]at z;have p:c≠a:=λw=>h (by rw[w];exact .head _);have s:c∉A:=λw=>h (.tail _ w);rw[aU (by simpa using p),aU s];exact z) _
   have k:er f A a=ai (.lst ys):=by rw[aU I];exact b.at'
   exact⟨by rw[Rep];exact⟨a,ys,rfl,.of k,i⟩,⟨λ_=>⟨a,rfl,l,ys,k,i⟩,.not rfl⟩⟩
  |false=>rw[bh7 (by decide)];show Rep X.K C f _ _;rw[Rep];refine⟨a,ys,rfl,.of b.at',t.same (λc o z=>?_) _⟩;unfold part zB at z;rw[bh7 (by decide),bh7 (by decide)]at z;exact z
structure Blk(X:Cx)(C:Cfg)(G0:Hp)(Γ:List SK)(tg elt:bq)(ifs:List bq)(scope:iP)(cl:List (Str×av))(g:TG)(bind:DB)(ft fe:DF)(oZ:Kd)(n z:Bool)(gU:List Str)(caps:List (Nat×Str)):Prop where
 calm:X.calm=bT:=by rfl
 hk:scope.kind=.function:=by rfl
 xP:∀y∈scope.names,y.2≠.cell:=by decide +kernel
 XM:closureFor scope X.env=pure cl:=by with_unfolding_all rfl
 AB:∀x c,cl.lookup x=ai c->X.env.cells.lookup x=ai c:=by exact aa4 (XN (by repeat' first|exact trivial|refine⟨rfl,?_⟩))
 Lx:∀x,((relabel scope X.env).names.lookup x=ai .cell\/(relabel scope X.env).names.lookup x=ai .free)->∃c,cl.lookup x=ai c:=by exact V8 (by rfl)
 QJ:∀y∈scope.names,y.2=.local->scope.names.lookup y.1=ai .local:=by decide +kernel
 Ly:Cap X scope cl caps:=by repeat' first|exact trivial|refine⟨⟨rfl,rfl,rfl,rfl⟩,?_⟩
 hz:z=bT->∀p∈caps,Γ[p.1]?=ai .par\/Γ[p.1]?=ai .loc:=by exact λ_=>XN (by repeat' first|exact trivial|refine⟨.inl rfl,?_⟩|refine⟨.inr rfl,?_⟩)
 hB:qX X.K C G0 (jW (gU.length+caps.length)) g bind:=by first|exact wG (i:=0) (k:=.par)|exact wH (i:=0) (j:=1) (k:=.par) (k':=.par)
 hG:∀fp s H L,PG ((yE X scope cl (gU++caps.map (·.2)) fp s H L).dJ (kj (yE X scope cl (gU++caps.map (·.2)) fp s H L) vC)) tg g:=by intro _ _ _ _;first|exact dX (i:=0) (bi2 (by kernel_rfl)) rfl (gD rfl) (iN rfl)|exact BO rfl (jS (dX (i:=0) (bi2 (by kernel_rfl)) rfl (gD rfl) (iN rfl)) (jS (dX (i:=1) (bi2 (by kernel_rfl)) rfl (gD rfl) (iN rfl)) w5))
 hT:∀fp s0 H0 L (ao:List (av×Obj)) (s:ay) (σ:L2.St) (H:Hp) (Q:Bool->Hp->Prop),L2.Inv ((yE X scope cl (gU++caps.map (·.2)) fp s0 H0 L).dJ (kj (yE X scope cl (gU++caps.map (·.2)) fp s0 H0 L) vC)) ao σ H s->wC X.K C G0 (jW (gU.length+caps.length)) vC ft σ H Q->
   aC (aE X.prog X.w) X.A (forIn ifs bT λc r=>if r=bT then do let ok <- isTrue c (compEnvC scope cl L X.env) (eval c (compEnvC scope cl L X.env));pure (mK ok)else pure (mK r)) (TP ((yE X scope cl (gU++caps.map (·.2)) fp s0 H0 L).dJ (kj (yE X scope cl (gU++caps.map (·.2)) fp s0 H0 L) vC)) ao σ Q) (kj (yE X scope cl (gU++caps.map (·.2)) fp s0 H0 L) vC) s:=by exact λ_ _ _ _=>Lz (ft:=dC (.bl bT))
 hE:∀fp s H L,PE ((yE X scope cl (gU++caps.map (·.2)) fp s H L).dJ (kj (yE X scope cl (gU++caps.map (·.2)) fp s H L) vC)) elt (tD X.K C G0 (jW (gU.length+caps.length)) vC fe oZ)
 hn:n=bT->oZ=.new:=by first|exact λ_=>rfl|exact λh=>nomatch h
 xO:n=b4->oZ.le .old=bT:=by first|exact λ_=>rfl|exact λh=>nomatch h
def tDc(K:aF)(C:Cfg)(G0:Hp)(Γ:List SK)(E:L2.St->XK)(f:DF)(z n:Bool):TE:=λb H Q=>∃A st,RS K C G0 Γ b H A st/\match f st with
 |.ok d=>∀v a,aG H a->Val K C (vD z n) G0 A H a d v/\(n=bT->qe K C H (nw H a) d v)->Q v a
 |.ex c p=>∀a,aG H a->JT (E b) c p a
 |.bad=>False
def EL(N:PI X tg iter (IG X.K C G0 Γ E z gi))(b:Blk X C G0 Γ tg elt ifs scope cl g bind ft fe oZ n z gU caps)(hs:autoParam (∀x,oM iter X.env x=pure x) dF) :
  PE X (.ListComp elt [⟨tg,iter,ifs,0⟩] scope pos) (tDc X.K C G0 Γ E (dm gi gU.length (caps.map (·.1)) bind ft fe) z n):=λu s y H Q I F=>by
 refine dW F λA st r q=>?_;clear F;rw[eval_ListComp];unfold dm at q;refine N3 (use:=aj) rfl hs b.XM b.hk b.QJ (iw (N u s y H (λJ a=>∃d t,aG H a/\Lr X.K C (zB z A) a J d/\d.length<=5000/\j9 bind ft fe d (qg gU.length (caps.map (·.1)) st)=.ok t/\∀v a,aG H a->Val X.K C (vD z n) G0 A H a (.lst t) v/\(n=bT->qe X.K C H (nw H a) (.lst t) v)->Q v a) I ⟨A,st,r,?_⟩) (λxv s1 O=>iw O (λP s2 S=>?_) λ_ _ e=>e) λ_ _ e=>e);cases j:gi st with
 |bad=>rw[j]at q;exact q
 |ex c p=>rw[j]at q;exact q
 |ok d=>
  rw[j]at q;dsimp only at q;by_cases hl:d.length<=5000;rw[bh6 hl]at q;cases i:j9 bind ft fe d (qg gU.length (caps.map (·.1)) st)with
  |bad=>rw[i]at q;exact q.elim
  |ex c p=>rw[i]at q;exact q.elim
  |ok t=>rw[i]at q;exact λJ a k l=>⟨d,t,k,l,hl,i,q⟩
  rw[bh7 hl]at q;exact q.elim
 obtain⟨it,fp,tn,J,H2,rfl,U,T,Y,Z,d,t,M,l,hl,nH,hq⟩:=S;refine yH (RR:=λh L=>compPost (aE X.prog X.w) X.A X.xe aj (EP X u y Q) h L) U b.calm (r.mono M) T Y Z l b.hz nH hl b.hk b.xP b.AB b.Lx b.Ly b.hB (b.hG fp) (b.hT fp) (b.hE fp) b.hn b.xO λh L s' a ys f=>?_;obtain⟨k,w⟩:=f.val r M;obtain⟨m,hm⟩:=f.ns;exact⟨m,hm,λh' o=>⟨.ref h,a,EK f.inv f.hL f.lL f.sL f.cL f.pL o,rfl,hq _ _ k w⟩⟩
def V9(y:PI X tg iter (IG X.K C G0 Γ E z gi))(b:Blk X C G0 Γ tg elt ifs scope cl g bind ft fe oZ n z gU caps)(hs:autoParam (∀x,oM iter X.env x=pure x) dF) :
  PE X (.ListComp elt [⟨tg,iter,ifs,0⟩] scope pos) (tD X.K C G0 Γ E (dm gi gU.length (caps.map (·.1)) bind ft fe) (vD z n)):=(EL y b hs).imp λi H Q a=>by
 obtain⟨A,st,r,q⟩:=a;refine⟨A,st,r,?_⟩;cases h:dm gi gU.length (caps.map (·.1)) bind ft fe st with
 |bad=>rw[h]at q;exact q
 |ex c p=>rw[h]at q;exact q
 |ok d=>rw[h]at q;exact λv f e w=>q v f e w.1
def QK(y:PI X tg iter (IG X.K C G0 Γ E z gi))(b:Blk X C G0 Γ tg elt ifs scope cl g bind ft fe oZ bT z gU caps)(hs:autoParam (∀x,oM iter X.env x=pure x) dF) :
  PE X (.ListComp elt [⟨tg,iter,ifs,0⟩] scope pos) (To X.K C G0 Γ E (dm gi gU.length (caps.map (·.1)) bind ft fe)):=(EL y b hs).imp λi H Q a=>by
 obtain⟨A,st,r,q⟩:=a;refine⟨A,st,r,?_⟩;cases h:dm gi gU.length (caps.map (·.1)) bind ft fe st with
 |bad=>rw[h]at q;exact q
 |ex c p=>rw[h]at q;exact q
 |ok d=>rw[h]at q;exact λv f e w=>q v f e ⟨w.1,w.2 rfl⟩
def Va{S:Pos}(hN:X.N.Nodup)(yI:PI X tg iter (IG X.K C G0 Γ E z gi))(b:Blk X C G0 Γ tg elt ifs scope cl g bind ft fe oZ n z gU caps)(hk:autoParam (Γ[i]?=ai k) b5)(hl:autoParam (k.takes (vD z n)=bT) b5)(hi:autoParam (X.N[i]?=ai x) b5)(U:autoParam (X.env.scope.names.lookup x=ai .local) b5)
  (y:autoParam (swapsWith (.ListComp elt [⟨tg,iter,ifs,0⟩] scope pos) (ai (.Name x pos')) S.line X.env=pure bT) b5) (hs:autoParam (∀x,oM iter X.env x=pure x) dF) :
  PS X (.Assign [.Name x pos'] (.ListComp elt [⟨tg,iter,ifs,0⟩] scope pos) S) (lV X.K C G0 Γ E iU (cB i (dm gi gU.length (caps.map (·.1)) bind ft fe))):=λF s Y H D I Z=>by
 refine dW Z λA st r q=>?_;clear Z;rw[exec_Assign_Name_used _ _ _ _ y];refine ak (Am (ak ?_));show aC _ X.A (do let _ <- comprehension (.ListComp elt [⟨tg,iter,ifs,0⟩] scope pos) scope X.env _ (newList []) b4 (eval iter X.env) (ai (assign (.Name x pos') X.env))) _ _ s;unfold cB dm at q;refine ak (iw (N3 (use:=ai (assign (.Name x pos') X.env)) (Q:=λ_ o=>SP X F D .next o) rfl hs b.XM b.hk b.QJ (iw (yI F s Y H (λJ a=>∃f t,aG H a/\Lr X.K C (zB z A) a J f/\f.length<=5000/\j9 bind ft fe f (qg gU.length (caps.map (·.1)) st)=.ok t/\∀cV a v,RS X.K C G0 Γ cV a v (st.set i (ai (.lst t)))->aG (er H A) (er a v)->D.nx cV a) I ⟨A,st,r,?_⟩) (λxv s1 h1=>iw h1 (λitv s2 h2=>?_) λ_ _ e=>e) λ_ _ e=>e))
  (λ_ o M=>aB (aB M)) λ_ _ e=>e)
 cases N:gi st with
 |bad=>rw[N]at q;exact q
 |ex c p=>rw[N]at q;exact λa l=>q Y a A (r.mono l) (aJ l)
 |ok f=>
  rw[N]at q;dsimp only at q;by_cases hl:f.length<=5000;rw[bh6 hl]at q;cases h:j9 bind ft fe f (qg gU.length (caps.map (·.1)) st)with
  |bad=>rw[h]at q;exact q.elim
  |ex c p=>rw[h]at q;exact q.elim
  |ok t=>rw[h]at q;exact λJ a l O=>⟨f,t,l,O,hl,h,q⟩
  rw[bh7 hl]at q;exact q.elim
 obtain⟨it,fp,tn,J,H2,rfl,I2,T,t0,f0,f,t,e2,O,u,nH,M⟩:=h2;refine yH (RR:=λj L=>compPost (aE X.prog X.w) X.A X.xe (ai (assign (.Name x pos') X.env)) (λ_ o=>SP X F D .next o) j L) I2 b.calm (r.mono e2) T t0 f0 O b.hz nH u b.hk b.xP b.AB b.Lx b.Ly b.hB (b.hG fp) (b.hT fp) (b.hE fp) b.hn b.xO λj L o a ys d=>?_;obtain⟨l,w,_⟩:=d.val r e2;obtain⟨m,hm⟩:=d.ns;refine cA (r.set l hk hl w) λv r' ea _=>?_;refine X3 (As d.inv hN hi (.inl U) (v:=.ref j) rfl (λs3 I3 lS=>?_) (.inr U));refine aR lS λc P h=>?_;clear lS;have Q:L≠c:=by rcases h with rfl|h;exact d.lL;exact λz=>d.cL x c h z.symm
 exact⟨m,hm.sameBut P Q,λh' G9=>⟨_,a,EK I3 d.hL d.lL d.sL d.cL d.pL G9,M _ _ v r' ea⟩⟩
end
abbrev DP:=(Int×Int)×av×Int×Tok
noncomputable def dxs(ps:List DP):List (List Int×av×au):=ps.map λp=>([p.1.1,p.1.2],p.2.1,.int p.2.2.1 p.2.2.2)
def DX(a:av)(ps:List DP)(h:aW):Prop:=∃o e b,h.get? a=ai o/\o.ExactDict/\o.data=.dict e b/\(∀(P:dz) (w:bL),e.toList=(dxs ps).map (qQ (tupleKind (intKind P w))))/\((dxs ps).map (·.1)).Nodup
noncomputable def dvs(ps:List DP):List V:=ps.flatMap λp=>[.int p.1.1,.int p.1.2,.int p.2.2.1]
def Vb(K:aF)(H:Hp)(a:av)(vs:List V):Prop:=∃b,vs=dvs b/\H a=ai (.ext (DX a b))/\∀p∈b,lT K H p.2.1 [.int p.1.1,.int p.1.2]
def Vb.mono{K:aF}{H b:Hp}{a:av}{vs:List V}(e:aG H b)(h:Vb K H a vs):Vb K b a vs:=by
 refine cA h λc d f g=>?_;clear h;exact⟨c,d,e _ _ f,λp i=>aG.tup e (g p i)⟩
end Dm
namespace Hk
open PySem
section
variable {K:Type}[DecidableEq K](kh:HeapKind prog w K)
def Refs(h:aW):List K->List au->Prop
 |[],v=>v=[]
 |k::b,v=>∃a r,v=.ref a::r/\kh.is h k a/\Refs h b r
def tE(h:aW)(k:List K)(a:av):Prop:=∃o b n,h.get? a=ai o/\o.cls=.type "tuple" /\o.data=.seq b n/\Refs kh h k b.toList
noncomputable def IJ(k:List K):Int:=reduceHash (BJ (k.map kh.hash))
noncomputable def gG:List K->Nat
 |[]=>0
 |k::a=>kh.draws k+gG a
variable {kh}
theorem Refs.inj:∀{x y:List K} {vs:List au},Refs kh h x vs->Refs kh h y vs->x=y
 |[],[],_,_,_=>rfl
 |[],_::_,_,e,⟨_,_,z,_⟩=>by rw[Refs]at e;rw[e]at z;cases z
 |_::_,[],_,⟨_,_,z,_⟩,e=>by rw[Refs]at e;rw[e]at z;cases z
 |_::_,_::_,_,⟨_,_,z,p,r⟩,⟨_,_,a,b,c⟩=>by rw[z]at a;cases a;rw[kh.inj p b,r.inj c]
theorem Refs.keeps{h:aW}{es ep}(b:h.get? d=ai o)(hd:o.data=.dict es ep)(hs:iA d h h'):∀{x:List K} {vs:List au},Refs kh h x vs->Refs kh h' x vs
 |[],_,e=>e
 |_::_,_,⟨a,r,z,p,q⟩=>⟨a,r,z,kh.keeps p b hd hs,q.keeps b hd hs⟩
theorem AX:∀(x y:List K),gG kh (x++y)=gG kh x+gG kh y
 |[],y=>by rw[gG,mD];rfl
 |k::x,y=>by rw[Bt,gG,gG,AX x y,x6]
theorem tE.tuple{s:ay}(x:tE kh s.heap k a):s.TypeIs (.ref a) "tuple":=x.elim λo z=>z.elim λ_ z=>z.elim λ_ z=>⟨o,z.1,z.2.1⟩
theorem tE.inj(f:tE kh h x a)(g:tE kh h y a):x=y:=by
 obtain⟨o,k,n,e,_,d,r⟩:=f;obtain⟨l,i,m,b,_,c,j⟩:=g;rw[e]at b;cases b;rw[d]at c;cases c;exact r.inj j
theorem tE.keeps{es ep}(x:tE kh h k a)(b:h.get? d=ai o)(hd:o.data=.dict es ep)(hs:iA d h h'):tE kh h' k a:=by
 obtain⟨u,f,n,e,c,q,r⟩:=x;refine⟨u,f,n,(hs.2 a λz=>?_).trans e,c,q,r.keeps b hd hs⟩;rw[z,b]at e;cases e;rw[hd]at q;cases q
def Vc{Q:Int->ay->Prop}(t:A.units<cLine)(hr:kh.room A.in1)(hk:tE kh s.heap f a)(h:Q (IJ kh f) {s with toks:=s.toks+(gG kh f+1)}):aC (aE prog w) A (pyHash (.ref a)) Q E s:=by
 have g:=hk.tuple;have i:=OA;obtain⟨o,H,n,u,_,hd,C⟩:=hk;(unfold pyHash);(first|unfold pyHashByItsType|skip);(first|refine ak (wpAny_cRoomFor_or (.inr t) ?_)|skip);(refine ak (pC g i.lookup ?_));(show aC _ _ (if(ai (Value.builtin "tuple.__hash__")==ai eL)=bT then _ else _) Q E s);(rw[bh7 (by rw[beq_builtin_none];exact jd)]);(refine ak (pC g i.lookup ?_));(show aC _ _ (callSpecialIfBoundUnlessNone? (.ref a) "__hash__" _>>=_) Q E s);refine ak (wpAny_callSpecialIfBoundUnlessNone?_slot g i (iy i g F.entry_tuple_hash ?_ (F.args_tuple_hash_1 _)));(show aC _ _ (Builtin.Tuple.tupleItemsOf (.ref a)>>=_) _ _ s);(refine ak (Gp u hd (ak ?_)));(rw[<- xx]);refine mw _ (λd (b:Array Int) j=>∃x y,f=x++y/\Refs kh s.heap y d/\b.toList=x.map kh.hash/\j={s with toks:=s.toks+gG kh x}) _ ?_ ?_ _ _ ⟨[],f,rfl,C,rfl,rfl⟩;rintro v d b j ⟨x,y,rfl,hl,hb,rfl⟩;cases y with
 |nil=>rw[Refs]at hl;cases hl
 |cons k y=>
  obtain⟨c,r,z,p,q⟩:=hl;cases z;have e:gG kh (x++[k])=gG kh x+kh.draws k:=by rw[AX];rfl
  have nx:∃l m,x++k::y=l++m/\Refs kh s.heap m d/\(b.push (kh.hash k)).toList=l.map kh.hash/\({s with toks:=s.toks+gG kh x+kh.draws k}:ay)={s with toks:=s.toks+gG kh l}:=⟨x++[k],y,by simp,q,by simp[hb],by rw[e,x6]⟩
  refine ak (kh.pyHash (s:={s with toks:=s.toks+gG kh x}) hr p ?_);first
   |exact aB nx
   |exact ak (aB (aB nx))
 rintro b j ⟨x,y,rfl,hl,hb,rfl⟩;cases y with
 |cons k y=>obtain⟨_,_,z,_⟩:=hl;cases z
 |nil=>rw[kC]at h;(show aC _ _ (retInt (BJ b.toList)) _ _ _);(rw[hb]);(refine wpAny_ret_mkInt ?_);show aC _ _ (if(decide (-(2:Int) ^ 63<=BJ (x.map kh.hash))&&decide (BJ (x.map kh.hash)<2 ^ 63))=bT then _ else _) Q E _;unfold IJ reduceHash at h;split;rename_i c;rw[bh6 c]at h;exact aB (by simpa[x6]using h);rename_i c;rw[bh7 c]at h;exact ak (wN (aB (by simpa[x6]using h)))
def aC7{P:Fin->ay->Prop}(hr:kh.room A)(I:tE kh s.heap x a)(C:tE kh s.heap y b)(h:P (.done (.ret (.bool (decide (x=y))))) s):aC (aE prog w) A (Builtin.«tuple.__eq__» ⟨[.ref a,.ref b],[]⟩) P E s:=by
 have J:=C.tuple;obtain⟨oa,l,na,L,_,N,O⟩:=I;obtain⟨ob,m,nb,S,_,T,U⟩:=C;(show aC _ _ (isInstance (.ref b) (.type "tuple")>>=_) _ _ s);(refine ak (rg J N4 ?_));(simp only[j6,d9,bi4]);refine ak (Gp L N (ak (Gp S T (ak ?_))));refine mw _ (λf r n=>r.1=aj/\n=s/\∃j g c X,f=List.zip c X/\Refs kh s.heap j c/\Refs kh s.heap g X/\decide (j=g)=decide (x=y)/\(c.length==X.length)=(l.size==m.size)) _ ?_ ?_ _ _ ⟨rfl,rfl,x,y,l.toList,m.toList,rfl,O,U,rfl,by simp⟩;rintro⟨u,v⟩ f r n ⟨Q,rfl,j,g,c,X,k,i,M,o,d⟩;cases j with
 |nil=>rw[Refs]at i;subst i;simp at k
 |cons t F=>
  obtain⟨Y,r1,Z,p1,q1⟩:=i;subst Z;cases g with
  |nil=>rw[Refs]at M;subst M;simp at k
  |cons p z=>obtain⟨H,r2,z2,p2,q2⟩:=M;subst z2;rw[NG]at k;cases k;refine ak (kh.eqBool (x:=t) (y:=p) hr p1 p2 ?_);by_cases hk:t=p;subst hk;(rw[bh8 rfl]);(simp only[j6,d9,bi4]);exact aB ⟨rfl,rfl,F,z,r1,r2,rfl,q1,q2,by rw[<- o];simp,by simpa using d⟩;(rw[bh9 hk]);(simp only[BC,bi5]);rw[show decide (x=y)=b4 by rw[<- o];simp[hk]]at h;exact ak (aB (aB (aB h)))
 rintro⟨r1,r2⟩ n ⟨Q,rfl,j,g,c,X,k,i,M,o,d⟩;dsimp only at Q;subst Q;refine aB ?_;have e:(l.size==m.size)=decide (x=y):=by
  rw[<- o,<- d];cases j with
  |nil=>
   rw[Refs]at i;subst i;cases g with
   |nil=>rw[Refs]at M;subst M;rfl
   |cons p z=>obtain⟨H,r2,rfl,_⟩:=M;simp
  |cons t F=>
   obtain⟨Y,r1,rfl,_⟩:=i;cases g with
   |nil=>rw[Refs]at M;subst M;simp
   |cons p z=>obtain⟨H,r2,rfl,_⟩:=M;simp at k
 show P (.done (.ret (.bool (l.size==m.size)))) n;rw[e];exact h
def LD{Q:Bool->ay->Prop}(g:A.units<cLine)(hr:kh.room A.in1)(d:tE kh s.heap x a)(f:tE kh s.heap y b)(h:Q (decide (x=y)) s):aC (aE prog w) A (eqBool (.ref a) (.ref b)) Q E s:=by
 (unfold eqBool);(try with_reducible refine jb ?_);(show aC _ _ (if(f7 a==f7 b)=bT then _ else _) Q E s);by_cases c:(f7 a==f7 b)=bT;rw[bh6 c];cases bj1 c;obtain rfl:=d.inj f;exact ak (wN (aB (by simpa using h)));(rw[bh7 c]);(refine ak (wpAny_richCompare_same_room (op:=.Eq) d.tuple f.tuple BH (iy BH d.tuple F.entry_tuple_eq (aC7 hr d f ⟨_,rfl,(λe=>nomatch e),wM h⟩) (F.args_tuple_eq_2 _ _)) g))
def EM{Q:Bool->ay->Prop}(e:s.heap.get? a=ai o)(i:o.cls=.type "tuple")(hd:o.data=.seq c m)(q:∀v∈c.toList,∀{A:cy} {R:Bool->ay->Prop},R bT s->aC (aE prog w) A (eqIsQuiet n v) R E s)(h:Q bT s):aC (aE prog w) A (eqIsQuiet (n+1) (.ref a)) Q E s:=by
 have f:s.TypeIs (.ref a) "tuple":=⟨o,e,i⟩
 (unfold eqIsQuiet);(refine ak (pC f BH.lookup ?_));(show aC _ _ (isInstance (.ref a) (.type "tuple")>>=_) _ _ s);(refine ak (rg f N4 ?_));(simp only[j6,d9,bi4]);(refine ak (Gn e hd (ak ?_)));(show aC _ _ (forIn c _ _) _ _ s);(rw[<- xx]);refine mw _ (λb r d=>r.1=aj/\d=s/\∀v∈b,v∈c.toList) _ ?_ ?_ _ _ ⟨rfl,rfl,λ_ m=>m⟩;rintro v b r d ⟨hr,rfl,g⟩;(refine ak (q v (g v (.head _)) ?_));(simp only[j6,d9,bi4]);exact aB ⟨rfl,rfl,λu m=>g u (.tail _ m)⟩;rintro⟨r1,r2⟩ d ⟨hr,rfl,_⟩;dsimp only at hr;subst hr;exact aB h
end
theorem Refs.mem{prog:dz}{w:bL}{K:Type}[DecidableEq K]{b:HeapKind prog w K}{h:aW}:∀{c:List K} {vs:List au} {v:au},Refs b h c vs->v∈vs->∃k a,v=.ref a/\b.is h k a
 |[],_,_,e,m=>by rw[Refs]at e;rw[e]at m;cases m
 |k::c,_,v,⟨a,r,z,p,q⟩,m=>by
  rw[z]at m;rcases cK.mp m with rfl|m;exact⟨k,a,rfl,p⟩;exact q.mem m
noncomputable def kM{prog:dz}{w:bL}{K:Type}[DecidableEq K](knd:KeyKind prog w K):HeapKind prog w (List (List K)) where
 is:=tE (tupleKind knd)
 hash:=IJ (tupleKind knd)
 draws:=λp=>gG (tupleKind knd) p+1
 room:=λA=>A.units+1<cLine
 inj:=λd e=>d.inj e
 keeps:=λx f hd r=>x.keeps f hd r
 pyHash:=λb hk h=>Vc (u6 b) b hk h
 eqBool:=λb d e h=>LD (u6 b) b d e h
 quiet:=λ{A E s k a Q} hk h=>by
  obtain⟨o,F,n,f,t,hd,u⟩:=hk;refine EM (n:=7) f t hd (λv m H R y=>?_) h;obtain⟨I,c,rfl,o1,z,J,X,g,i,j⟩:=u.mem m;refine EM (n:=6) X g i (λv m C L l=>?_) y;rw[eqIsQuiet_byValue _ (j.byValue v m)];exact aB l
end Hk
namespace Dm
open PySem PySem.Spec PyProof.Rows L2
abbrev SP:=List (List Int)×av×au
def DY(a:av)(o:Obj)(ps:List SP)(h:aW):Prop:=(a==p7)=b4/\ps.length<=cH/\h.get? a=ai o/\o.ExactDict/\∃e b,o.data=.dict e b/\(∀(P:dz) (w:bL),e.toList=ps.map (qQ (Hk.kM (intKind P w))))/\(ps.map (·.1)).Nodup
def lO(K:aF)(H:Hp)(k:List (List Int))(a:av):Prop:=∃c:List av,lT K H a (c.map V.ref)/\c.length=k.length/\∀z∈k.zip c,lT K H z.2 (z.1.map V.int)
noncomputable def nt(ps:List SP)(vs:List V):List V:=(ps.zip vs).flatMap λz=>[.ref z.1.2.1,z.2]
def DYo(K:aF)(F H:Hp)(a:av)(xs:List V):Prop:=∃o b v,xs=nt b v/\Vals v (b.map (·.2.2))/\H a=ai (.ext (DY a o b))/\(∀p∈b,lO K F p.1 p.2.1)/\∀l,V.ref l∈v->∃y,F l=ai (.lst y)
def lO.mono{K:aF}{H b:Hp}{k:List (List Int)}{a:av}(e:aG H b)(h:lO K H k a):lO K b k a:=by
 refine cA h λc d f g=>?_;exact⟨c,aG.tup e d,f,λz m=>aG.tup e (g z m)⟩
theorem DYo.mono{K:aF}{F b H c:Hp}{a:av}{xs:List V}(f:aG F b)(e:c a=H a)(h:DYo K F H a xs):DYo K b c a xs:=by
 refine DK h λo d v g i j k n=>?_;exact⟨o,d,v,g,i,e.trans j,λp m=>(k p m).mono f,λl m=>let⟨y,q⟩:=n l m;⟨y,f _ _ q⟩⟩
def DY.of{ps:List SP}{h:aW}(z:(a==p7)=b4)(hl:ps.length<=cH)(q:h.DictOfH (Hk.kM (intKind P w)) a ps):∃o,DY a o ps h:=by
 refine aO1 q λo e b c d f g _ i=>?_;exact⟨o,z,hl,c,d,e,b,f,λj k=>g,i⟩
def DY.dict(q:DY a o ps h)(k:∀p∈ps,(Hk.kM (intKind P w)).is h p.1 p.2.1):h.DictOfH (Hk.kM (intKind P w)) a ps:=by
 obtain⟨_,_,b,c,e,d,f,g,i⟩:=q;exact⟨o,e,d,b,c,f,g P w,k,i⟩
def DY.keep{h':aW}(q:DY a o ps h)(e:∀o,h.get? a=ai o->h'.get? a=ai o):DY a o ps h':=⟨q.1,q.2.1,e o q.2.2.1,q.2.2.2⟩
def EN(q:DY a o ps h):gP P w H h a (.ext (DY a o ps)):=⟨q,⟨o,q.2.2.1⟩,λb c z e=>z.keep e⟩
def QM(I:L2.Inv X k σ H s){ns:List Int}(h:lT X.K H a (ns.map V.int)):(tupleKind (intKind X.prog X.w)).is s.heap ns a:=by
 refine cA (I.tuple h) λb r d c=>?_;clear c;obtain⟨o,e,f,n,hd⟩:=d;refine⟨o,b.toArray,n,e,f,hd,?_⟩;show ItemsAre _ ns b;clear h e hd;induction ns generalizing b with
 |nil=>cases r;exact .nil
 |cons i ns g=>
  cases r with
  |cons r1 j=>obtain⟨t,rfl⟩:=r1;exact .cons (by simp[intKind,Value.isInt]) (g _ j)
def oA(I:L2.Inv X w σ H s)(h:lO X.K H d a):(Hk.kM (intKind X.prog X.w)).is s.heap d a:=by
 refine cA h λb j f l=>?_;refine cA (I.tuple j) λg r p i=>?_;clear i;obtain⟨o,e,t,n,hd⟩:=p;refine⟨o,g.toArray,n,e,t,hd,?_⟩;show Hk.Refs _ s.heap d g;clear h j e hd;induction d generalizing b g with
 |nil=>
  cases b with
  |nil=>cases r;exact rfl
  |cons c b=>cases f
 |cons k d u=>
  cases b with
  |nil=>cases f
  |cons c b=>
   cases r with
   |cons r1 v=>cases r1;exact⟨c,_,rfl,QM I (l (k,c) (.head _)),u b (by simpa using f) (λz m=>l z (.tail _ m)) _ v⟩
def oB(I:L2.Inv X b σ H s)(h:H a=ai (.ext (DY a o ps)))(hk:∀p∈ps,lO X.K H p.1 p.2.1):s.heap.DictOfH (Hk.kM (intKind X.prog X.w)) a ps/\(a==p7)=b4/\ps.length<=cH:=by
 refine xH ((show gP X.prog X.w H s.heap a (.ext (DY a o ps))from I.fE a _ h)) λd _ _=>?_;exact⟨d.dict λp m=>oA I (hk p m),d.1,d.2.1⟩
end Dm
namespace Dm
open PySem PySem.Spec PyProof.Rows L2 PySem.W
def dH(C:av)(m:GL):Cfg where
 gl:=m.p
 glM:=m.m
 ob:=λt K H a v=>((t=0/\∃d j l,H a=ai (.ins C d j)/\j.lookup ("cells" : Str)=ai (.ref l)/\H l=ai (.lst v))\/(∃c,t=V5 c/\((v=[]/\H a=ai (.ext (ClsAt a (.ref c))))\/∃n d,v=[.int n]/\H a=ai (.ext (Z2 a c d))/\H d=ai (.xd [("at",.int n)]))))\/(t=1/\Vb K H a v)\/(t=2/\DYo K H H a v)
 mono:=λ{t K H r a v} e h=>by
  rcases h with(⟨g,d,j,l,b,i,k⟩|⟨c,g,⟨b,i⟩|⟨n,d,b,i,k⟩⟩)|⟨g,b⟩|⟨g,b⟩;exact .inl (.inl ⟨g,d,j,l,e _ _ b,i,e _ _ k⟩);exact .inl (.inr ⟨c,g,.inl ⟨b,e _ _ i⟩⟩);exact .inl (.inr ⟨c,g,.inr ⟨n,d,b,e _ _ i,e _ _ k⟩⟩);exact .inr (.inl ⟨g,b.mono e⟩);exact .inr (.inr ⟨g,b.mono e (by
   refine DK b λo p v _ _ z _ _=>?_;exact(e _ _ z).trans z.symm)⟩)
 own:=DYo
 JR:=λf e h=>h.mono f e
 XE:=λh f e=>.inr (.inr ⟨rfl,h.mono f e⟩)
 aA5:=λh=>by
  refine DK h λo p v _ _ z _ _=>?_;exact⟨_,z⟩
noncomputable def f9:D->R D:=λa=>match a with |.bN 0 d=>if dR d=bT then .ok (.lst d)else .bad|_=>.bad
def LF{a d:D}(h:f9 a=.ok d):∃ds,a=.bN 0 ds/\dR ds=bT/\d=.lst ds:=by
 unfold f9 at h;split at h;split at h;rename_i n;cases h;exact⟨_,rfl,n,rfl⟩;cases h;cases h
def LG{a:D}{c:av}{p:Option Int}:f9 a≠.ex c p:=by
 unfold f9;split;split <;> exact λh=>(by cases h)
 exact λh=>(by cases h)
def LH{K:Frag}{H:Hp}{ds:List D}{x:V}(n:dR ds=bT)(q:Rep K (dH C gl) H (.bN 0 ds) x):∃a d f l,x=.ref a/\H a=ai (.ins C d f)/\f.lookup ("cells" : Str)=ai (.ref l)/\Rep K (dH C gl) H (.lst ds) (.ref l):=by
 rw[Rep]at q;refine bC q λa e g i j=>?_;clear q;obtain rfl:=g;rcases i with(⟨_,d,f,l,k,o,h⟩|⟨c,z,_⟩)|⟨z,_⟩|⟨z,_⟩;refine⟨a,d,f,l,rfl,k,o,?_⟩;rw[Rep];exact⟨l,e,rfl,.of h,j.part (.er λb m=>by rw[gC.mp m];exact⟨_,h,rfl⟩) _ n⟩;unfold V5 at z;lia;cases z;cases z
def QN(t:MC X.K b)(u:kK X.K b "cells")(h:PE X a (tD X.K (dH b gl) G0 y E o jH))(hb:autoParam (p8 a ("cells" : Str) X.env (eval a X.env)=eval a X.env) b5):PE X (.Attribute a "cells" pos) (tD X.K (dH b gl) G0 y E (oY f9 o) jH.item):=(YK h hb).imp λO H Q s=>by
 refine dW s λA st r q=>?_;clear s;refine⟨A,st,r,?_⟩;unfold oY R.bind at q;cases h:o st with
 |bad=>rw[h]at q;exact q
 |ex c p=>rw[h]at q;exact q
 |ok a=>
  rw[h]at q;dsimp only at q;intro x H1 f w;cases g:f9 a with
  |bad=>rw[g]at q;exact q.elim
  |ex c p=>exact bi8 g LG
  |ok d=>
   rw[g]at q;refine cA (LF g) λj F n I=>?_;obtain rfl:=F;obtain rfl:=I;have fin:∀G:Hp,aG G H1->Rep X.K (dH b gl) G (.bN 0 j) x->(∀v,Rep X.K (dH b gl) G (.lst j) v->Val X.K (dH b gl) jH.item G0 A H H1 (.lst j) v)->∃a C m i v,x=.ref a/\H1 a=ai (.ins C m i)/\MC X.K C/\kK X.K C "cells" /\i.lookup ("cells" : Str)=ai v/\Q v H1:=λG e J k=>by refine an5 (LH n J) λa m i l P L M N=>?_;obtain rfl:=P;exact⟨a,b,m,i,.ref l,rfl,e _ _ L,t,u,M,q _ _ f (k _ N)⟩
   cases jH with
   |new=>exact fin _ (aH _ _) (w.le r f (κ':=.old) rfl) λv z=>z
   |uL=>exact fin _ (aH _ _) (w.le r f (κ':=.old) rfl) λv z=>z
   |loc=>exact fin _ (aH _ _) (w.le r f (κ':=.old) rfl) λv z=>z
   |old=>exact fin _ (aH _ _) w λv z=>z
   |uM=>exact fin _ (.refl _) w.rep λv z=>z
   |jG=>exact fin _ (.refl _) w λv z=>z
def CH(K:Frag)(C:av)(g:GL)(F:List D->R D):Sp:=λf H Q E=>∃x e d v,f=[.ref x,v]/\H x=ai (.ins C e [])/\(Rep K (dH C g) H (.lst d) v/\g.p H)/\match F [.lst d]with
 |.ok _=>dR d=bT/\∀l a y,H l=aj->(∀b o,b≠x->H b=ai o->a b=ai o)->a x=ai (.ins C e [("cells",.ref l)])->a l=ai (.lst y)->aM K (dH C g) a d y->Q .cR a
 |.ex c p=>∀a,aG H a->JT E c p a
 |.bad=>False
def Ve{P:dz}{w:bL}{K:Frag}{mg:Str->Option au}{base:aW}{x g:Str}{st:aY}{f:av}{fd:gV}{k:Nat}{t:List D->R D}(F:ME K x g st f fd)(S:kQ ["self","cells"] ["self","cells"] (bG st))(hC:MC K C)(hA:kK K C "cells")
  (xV:∀(u:au) (A:cy) (e:List Env) (s:ay) (H:Hp) (E:XK),j7 k (A.deeper (envOfC g (bG st) s.heap.objs.size f u))->
   qL ((oS (oU P w) P w K mg base ["self","cells"] g (bG st) f u A e s H E).dJ (kj (oS (oU P w) P w K mg base ["self","cells"] g (bG st) f u A e s H E) λ_=>E)) (fu st)
    (ao3 (Xc (tD K (dH C gl) H [.par,.par] (λ_=>E) (bh t (af (ah 1) az)) κ)) (at0 K (rK 0) (tD K (dH C gl) H [.par,.par] (λ_=>E) (bh lJ (af (ah 1) az)) .new) "cells"))) :
  jT P w K mg base (oU P w) (k+1) f fd ["self","cells"] (CH K C gl t):=by
 refine AD F S (λvs H Q E lS=>by obtain⟨x,L,r,v,h,_⟩:=lS;rw[h];rfl) λu _ A e s H vs Q E hr oV=>?_;refine an5 oV λx L r v N hx hd q=>?_;clear oV;subst N;have r0:RS K (dH C gl) H [.par,.par] [ai (.ref x),ai v] H [] [aj,ai (.lst r)]:=⟨by rw[jN];exact .refl _,λa m=>(by cases m),rfl,λi d h=>(by
  match i,h with
  |1,h=>cases h;exact⟨.par,v,rfl,rfl,by show Rep _ _ (er H []) _ _;rw[jN];exact hd.1⟩),λi j n m p r es lU g1=>(by
  match i,g1 with
  |0,g1=>cases g1
  | 1,g1=>cases g1),hd.2⟩
 refine⟨_,xV u A e s H E hr,[],[aj,ai (.lst r)],r0,?_⟩;have hf:bh t (af (ah 1) az) [aj,ai (.lst r)]=t [.lst r]:=rfl;rw[hf];cases O:t [.lst r]with
 |bad=>rw[O]at q;exact q
 |ex c p=>rw[O]at q;exact q
 |ok d0=>
  rw[O]at q;obtain⟨n,q⟩:=q;intro v1 H1 M w1;refine⟨[],[aj,ai (.lst r)],r0.mono M,?_⟩;have hg:bh lJ (af (ah 1) az) [aj,ai (.lst r)] =.ok (.lst r):=by show lJ [.lst r]=_;unfold lJ;dsimp only;rw[bh6 n]
  rw[hg];intro y I e2 w2;refine cA (w2.2.1 rfl) λl b8 nl ow=>?_;refine aR ow λT hl rl=>?_;obtain rfl:=b8;have U:I l=ai (.lst T):=cj _ _ _ _ hl;have qf:=M.trans e2;have X:I x=ai (.ins C L []):=qf _ _ hx;have Y:l≠x:=λz=>by rw[z,M _ _ hx]at nl;cases nl
  refine⟨.ref x,rfl,x,C,L,[],rfl,X,hC,hA,by show 0<1000;decide,?_⟩;have J:aG (er I [x]) (upd I x (.ins C L (pV "cells" (.ref l) []))):=λb o z=>by by_cases hb:b=x;rw[hb,dG (.head _)]at z;cases z;rw[aS hb];rw[aU (by simpa using hb)]at z;exact z
  refine q l _ T (M.free nl) (λb o hb z=>by rw[aS hb];exact qf _ _ z) bM (by rw[aS Y];exact U) ?_;have Z:aM K (dH C gl) I r T:=rl.same ((aH _ _).trans (cj _ _)) _;refine aM.same J _ (Z.part ⟨aH _ _,λb xs z=>?_⟩ _ n);unfold Rd;have:b≠x:=λw=>by subst w;rcases z with z|⟨o,z⟩;rw[X]at z;cases z;rw[X]at z;cases z
  rw[aU (by simpa using this)];exact z
noncomputable def rS(F:List D->R D):List D->R D:=λd=>match d with
 |[.lst e]=>(match F [.lst e]with |.ok _=>if dR e=bT then .ok (.bN 0 e)else .bad |.ex c p=>.ex c p |.bad=>.bad)
 |_=>.bad
def QO{X:Cx}(M:Mk X.K C N)(O:jT X.prog X.w X.K X.mg X.base (oU X.prog X.w) k N fd ["self","cells"] (CH X.K C gl F))(hr:j7 (k+1) X.A)(P:X.mg x=ai (.ref C))(hb:Binds X.K fd ["self","cells"] [])
  (S:PA (X.dJ (kj X E)) [e] (Cu X.K (dH C gl) G0 T E fs κ)) (U:autoParam (Gl X x) b5) (Y:autoParam ((x==("__debug__" : Str))=b4) cT) (Z:autoParam (bF [e] X.env=[(b4,eval e X.env)]) b5) :
  PE (X.dJ (kj X E)) (.Call (.Name x p) [e] [] pos) (tD X.K (dH C gl) G0 T E (bh (rS F) fs) .new):=(Pq M O hr U P hb S Y Z).imp λσ H Q I=>by
 refine dW I λA st r q=>?_;clear I;refine⟨A,st,r,?_⟩;unfold bh R.bind at q;cases h:fs st with
 |bad=>rw[h]at q;exact q
 |ex c p=>rw[h]at q;exact q
 |ok ds=>
  rw[h]at q;dsimp only at q;intro vs H1 a w y d f g hne;have s:aG H1 (upd (upd H1 d (.own y)) y (.ins C d [])):=λb o z=>by rw[aS (bg z f),aS (bg z g)];exact z
  match ds,q,w with
  |[.lst i],q,w=>
   refine aR (oO w) λv jh wv=>?_;obtain rfl:=jh;refine⟨y,d,i,v,rfl,bM,⟨(wv.same Kd.uN _).same s _,gl.m ((r.g0.trans a).trans s) r.gl⟩,?_⟩;unfold rS at q;dsimp only at q;cases j:F [.lst i]with
   |bad=>rw[j]at q;exact q
   |ex c p=>rw[j]at q;exact λm t=>q m ((a.trans s).trans t)
   |ok d0=>rw[j]at q;dsimp only at q;by_cases n:dR i=bT;rw[bh6 n]at q;refine⟨n,λl m ys nl kp qT Er rp=>⟨rfl,?_⟩⟩;have t:aG H1 m:=λb o z=>kp b o (bg z f) (s b o z);have J:=a.trans t;have u:H y=aj:=a.free f;have Zr:H l=aj:=a.free (s.free nl);refine q _ _ J ⟨?_,.not rfl rfl⟩;rw[Rep];refine⟨y,ys,rfl,.inl (.inl ⟨rfl,d,_,l,by rw[jM u];exact qT,rfl,by rw[jM Zr];exact Er⟩),rp.part (.nw J) _ n⟩;rw[bh7 n]at q;exact q.elim
  |[],q,_=>exact q.elim
  |[.cR],q,_=>exact q.elim
  |[.bl _],q,_=>exact q.elim
  |[.int _],q,_=>exact q.elim
  |[.str _],q,_=>exact q.elim
  |[.tup _],q,_=>exact q.elim
  |[.bN _ _],q,_=>exact q.elim
  |L::d2::dr,q,_=>
   have:rS F (L::d2::dr)=.bad:=by unfold rS;cases L <;> rfl
   rw[this]at q;exact q.elim
section
variable {X:Cx}{e:bq}{rest:List bq}{pos:Pos}{s:aY}
theorem yJ:∀(es:List bq) (o:Str) (m:Nat),(∀e∈es,zR X P n e)->o.length+es.length*n<=m->m<=100000->∀(c:List (av×Obj)) (s:ay) (b:L2.St) (H:Hp) (Q:au->ay->Prop) (E:au->ay->Prop),L2.Inv X c b H s->P b->(∀x t s',L2.Inv X c b H s'->x.length<=m->Q (.str x t) s')->aC (aE X.prog X.w) X.A (joinParts o (evalEach es X.env)) Q E s
 |[],o,m,_,hl,d,c,s,b,H,Q,E,I,p,q=>joinParts_nil (q _ _ _ (I.tok _) (by simp at hl;lia)) (by rw[gf];simp at hl;lia)
 |e::es,o,m,h,hl,d,c,s,b,H,Q,E,I,p,q=>by
  show aC _ _ (joinParts o (eval e X.env::evalEach es X.env)) Q E s;refine joinParts_cons (h e (.head _) c s b H _ E I p λx t s' f j=>?_);have a:(o++x).length=o.length+x.length:=strLen_append o x;rw[cS,Nat.add_mul,Nat.one_mul]at hl;refine⟨by rw[a,gf];lia,?_⟩;exact yJ es (o++x) m (λg i=>h g (.tail _ i)) (by rw[a];lia) d c s' b H Q E f p q
def QS(h:∀e∈v::v2::rest,zR X P n e)(a:(v::v2::rest).length*n<=100000):zR X P ((v::v2::rest).length*n) (.JoinedStr (v::v2::rest) pos):=λb s c H Q E I p q=>
 JoinedStr_many (yJ (v::v2::rest) Str.empty _ h (by show 0+_<=_;lia) a b s c H Q E I p q)
def all_nil:∀e∈([]:List bq),zR X P n e:=λe h=>by cases h
def all_cons(h:zR X P n e)(t:∀e∈es,zR X P n e):∀a∈e::es,zR X P n a:=λa m=>by
 rcases cK.mp m with rfl|m;exact h;exact t a m
def iG(c:av):DS:=λst=>.ex c aj st
def LJ{X:Cx}(F:ExcBaseFacts B newId o bm)(d:X.A.handled=aj)(f:X.mg x=ai (.ref c))(g:exB X.K c bm newId=bT)(i:zR (X.dJ (kj X E)) (λ_=>True) n a)(j:autoParam (Gl X x) b5)
  (h:autoParam (bF [a] X.env=[(b4,eval a X.env)]) b5) (hd:autoParam ((x==("__debug__" : Str))=b4) cT) :
  PS (X.dJ (kj X E)) (.Raise (ai (.Call (.Name x np) [a] [] p)) aj pos) (lV X.K C G0 u E v (iG c)):=by
 have P:PE (X.dJ (kj X E)) a (λb H Q=>∀x:Str,Q (.str x) H):=λk s b H Q I q=>i k s b H _ _ I trivial λx t w m _=>⟨.str x,H,m,⟨t,rfl⟩,q x⟩
 refine(Pp F d f g j (gF P l7 h) h rfl hd).imp λD b H l=>?_;refine dW l λA st r q=>?_;clear l;intro x;exact⟨yC (by show 1<=100;decide),q b H A r (.refl _)⟩
noncomputable def tyD:D->Option String
 |.cR=>ai "NoneType" |.bl _=>ai "bool" |.int _=>ai "int" |.str _=>ai "str" |.tup _=>ai "tuple" |.lst _=>ai "list" |.bN _ _=>aj
def aC9{m:List (av×Obj)}{p:L2.St}{H:Hp}{s:ay}{d:D}{x:V}{u c:au}{t:String}{b:Bool}{Q:au->ay->Prop}{E:au->ay->Prop}(I:L2.Inv X m p H s)(q:Rep X.K C H d x)(r:RelV x u)(f:tyD d=ai t)(e:kitOne X.K (.type t) c=ai b)(h:∀tk,Q (.bool b) {s with toks:=tk}) :
  aC (aE X.prog X.w) X.A (call (.builtin "isinstance") [u,c]) Q E s:=by
 cases d with
 |cR=>rw[Rep]at q;subst q;cases f;cases(show u=eL from r);exact u5 kitx_none I.BK True.intro e (λz=>nomatch z) h
 |bl y=>rw[Rep]at q;subst q;cases f;cases(show u=Value.bool y from r);exact u5 kitx_bool I.BK True.intro e (λz=>nomatch z) h
 |int i=>rw[Rep]at q;subst q;cases f;obtain⟨t,q⟩:=(show ∃t,u=Gv i t from r);cases q;exact u5 kitx_int I.BK True.intro e (λz=>nomatch z) h
 |str y=>rw[Rep]at q;subst q;cases f;obtain⟨t,q⟩:=(show ∃t,u=Tr y t from r);cases q;exact u5 kitx_str I.BK True.intro e (λz=>nomatch z) h
 |tup v=>rw[Rep]at q;refine bC q λa w g j _=>?_;clear q;obtain rfl:=g;cases f;cases(show u=f7 a from r);refine cA (I.tuple j) λA _ g _=>?_;obtain⟨o,k,l,_⟩:=g;exact u5 kitx_tuple I.BK ⟨o,k,l⟩ e (λz=>nomatch z) h
 |lst v=>refine bC q.items λa w g j _=>?_;obtain rfl:=g;cases f;cases(show u=f7 a from r);refine cA (I.list j) λA _ g _=>?_;obtain⟨o,n,k,l,_⟩:=g;exact u5 kitx_list I.BK ⟨o,k,l⟩ e (λz=>nomatch z) h
 |bN _ _=>cases f
noncomputable def EO(a:String->Option Bool):D->R D:=λd=>match tyD d with|some t=>(match a t with|some b=>.ok (.bl b)|none=>.bad)|none=>.bad
def yK{T:String}{f:Str}{L h:Pos}{g:String->Option Bool}(k:∀t b,g t=ai b->kitOne X.K (.type t) (.type T)=ai b)(M:X.mg "isinstance"=aj)(l:X.mg f=aj)(m:jR f=ai (.type T))(N:PE X a (tD X.K C G0 O E y jH))
  (P:autoParam (Gl X "isinstance") b5) (n:autoParam (Gl X f) b5) (o:autoParam (f≠ "__name__") cT) (v:autoParam ((f==("__debug__" : Str))=b4) cT)
  (h1:autoParam (bF [a,Expr.Name f h] X.env=[(b4,eval a X.env),(b4,eval (.Name f h) X.env)]) b5) (j:autoParam (bF [Expr.Name f h] X.env=[(b4,eval (.Name f h) X.env)]) b5) :
  PE X (.Call (.Name "isinstance" L) [a,.Name f h] [] pos) (tD X.K C G0 O E (oY (EO g) y) .new):=by
 have S:mX X (.builtin "isinstance") (λz H Q=>∃x d t b,z=[x,.ty T]/\Rep X.K C H d x/\tyD d=ai t/\g t=ai b/\Q (.bl b) H):=λao s U H z us Q I r F=>by refine Yg F λx d t b Y hr i hb q=>?_;clear F;subst Y;refine bC (vals2 r) λu Z b8 ru OZ=>?_;obtain rfl:=b8;cases(show Z=pH T from OZ);exact aC9 I hr ru i (k t b hb) λtk=>⟨.bl b,H,I.tok _,rfl,q⟩
 have P2:PE X (.Name f h) (tC (.ty T)):=TL n l m rfl o v;refine(l8 S P M (by decide +kernel) (gF N (gF P2 l7 j) (by rw[h1,j])) (by decide) (by decide) (by rw[h1,j]) (by rw[j];rfl)).imp λU H Q sQ=>sQ.elim λA G7=>G7.elim λst I0=>I0.elim λr q=>⟨A,st,r,?_⟩
 unfold oY R.bind at q;cases w:y st with
 |bad=>rw[w]at q;exact q
 |ex c p=>rw[w]at q;exact q
 |ok d=>
  rw[w]at q;dsimp only at q;intro x H1 J w1;unfold EO at q;cases i:tyD d with
  |none=>rw[i]at q;exact q.elim
  |some t=>
   rw[i]at q;dsimp only at q;cases hb:g t with
   |none=>rw[hb]at q;exact q.elim
   |some b=>rw[hb]at q;exact⟨x,d,t,b,rfl,w1.rep,i,hb,q _ H1 J (.flat r J (by rw[gq] <;> simp) vN _)⟩
end
def CI{a:List SK}(i:Nat)(h:PE X e (rK i))(hk:autoParam (a[i]?=ai .par) b5):PE X e (tD X.K C G0 a E (ah i) .old):=Cv i h hk
def Vf{a:List SK}(i:Nat)(h:PE X e (rK i))(hk:autoParam (a[i]?=ai .loc) b5):PE X e (tD X.K C G0 a E (ah i) .loc):=Cv i h hk
def Vg{a:List SK}(i:Nat)(h:PE X e (rK i))(hk:autoParam (a[i]?=ai (.own bT)) b5):PE X e (tD X.K C G0 a E (ah i) .uM):=Cv i h hk
def aa5(h:PE X a (tD X.K C G0 c E f jH))(hb:PE X b (tD X.K C G0 c E d DC))(hs:qz b)(hk:autoParam (jH.item=.old) b5):PE X (.Subscript a b pos) (tD X.K C G0 c E (aL dh f d) .old):=hk▸CB h hb hs
def aa6(h:PE X a (tD X.K C G0 c E f jH))(hb:PE X b (tD X.K C G0 c E d DC))(hs:qz b)(hk:autoParam (jH.item=.jG) b5):PE X (.Subscript a b pos) (tD X.K C G0 c E (aL dh f d) .jG):=hk▸CB h hb hs
def QU{X:Cx}(h:MC X.K C)(b:kK X.K C "cells")(c:PE X a (tD X.K (dH C gl) G0 d E f jH))(hb:autoParam (p8 a ("cells" : Str) X.env (eval a X.env)=eval a X.env) b5)(hk:autoParam (jH.item=.old) b5):PE X (.Attribute a "cells" pos) (tD X.K (dH C gl) G0 d E (oY f9 f) .old):=hk▸QN h b c hb
def oR(K:Frag)(mg:Str->Option au)(x b:Str)(st:aY)(ps:List Str):Prop:=∃a f,ME K x b st a f/\mg x=ai (.ref a)/\Binds K f ps []
def LK(n:Nat)(P:List au->Prop):Prop:=match n with|0=>P []|n+1=>∀u,LK n λa=>P (u::a)
noncomputable def jA(h:LK n P){a:List au}(hl:a.length=n):P a:=by
 subst hl;induction a generalizing P with
 |nil=>exact h
 |cons u a i=>exact i (h u)
def AY{K:Frag}{x a:Str}{st:aY}{f:av}{e:gV}{ps:List Str}(F:ME K x a st f e)(h:∀(kV d p:au) (b:Option av) (c ct:au),LK ps.length λu=>bindArgs (nI x a (jr st) (fu st) (bG st) .none kV d p b c ct) ⟨u,[]⟩=pure (ps.zip u)):Binds K e ps []:=F.binds λkV d p b c ct u hl=>jA (h kV d p b c ct) hl
def aa7{K:Frag}{h:aW}{mg:Str->Option au}{x:Str}{st:aY}{ps:List Str}{f:av}{o:au}{od e:Option av}{g:Array (Option au)}{kV d p b ct:au}(X:K.In h)(G:h.Ns dS mg)(a:nsIn K dS x=ai (ai (.ref f)))(l:K.lookup f=ai ⟨o,od,.func (nI x x (jr st) (fu st) (bG st) .none kV d p e b ct),g⟩)
  (c:PySem.W.codeIn K b x=bT) (k:rj K (.ref f)=bT) (hb:∀(kV d p:au) (e:Option av) (b ct:au),LK ps.length λu=>bindArgs (nI x x (jr st) (fu st) (bG st) .none kV d p e b ct) ⟨u,[]⟩=pure (ps.zip u)):oR K mg x x st ps:=
 ⟨_,_,BY (st:=st) l c k,mg_of X G a,AY (BY (st:=st) l c k) hb⟩
structure FD(P:dz)(w:bL)(K:Frag)(mg:Str->Option au)(base:aW)(C:Cfg)(k:Nat)(x:Str)(ps:List Str)(n:Nat)(F:List D->R D)(κ:Option Bool):Prop where
 ex:∃a fd,jT P w K mg base (oU P w) k a fd ps (spD K C n F κ)/\mg x=ai (.ref a)/\keepIn K (.ref a)=bT/\Binds K fd ps []/\∃o,K.lookup a=ai o/\o.data=.func fd
def yL{K:Frag}{x b:Str}{st:aY}{a:av}{f:gV}(F:ME K x b st a f):∃o,K.lookup a=ai o/\o.data=.func f:=by
 refine Yh F.ex λc od kV d p g h ct i e lk H=>?_;exact⟨_,lk,rfl⟩
def aD0{P:dz}{w:bL}{K:Frag}{mg:Str->Option au}{base:aW}{C:Cfg}{x b:Str}{st:aY}{N ps:List Str}{g:List SK}{k n:Nat}{h:Option Bool}{j:DS}(T:oR K mg x b st ps)(S:kQ N ps (bG st))(m:ps.length=n)(p:∀i,i<n->g[i]?=ai .par)
  (body:∀(f:av) (d:au),(mg x=ai (.ref f)/\∃o e,K.lookup f=ai o/\o.data=.func e/\e.code=d)->∀(A:cy) (c:List Env) (s:ay) (H:Hp) (E:XK),j7 k (A.deeper (envOfC b (bG st) s.heap.objs.size f d))->
   qL ((oS (oU P w) P w K mg base N b (bG st) f d A c s H E).dJ (kj (oS (oU P w) P w K mg base N b (bG st) f d A c s H E) λ_=>E)) (fu st) (lV K C H g (λ_=>E) h j)) :
  FD P w K mg base C (k+1) x ps n (bQ N.length j) h:=by
 refine bC T λa e F l hb=>?_;clear T;exact⟨a,e,ZP F S m p (λd r=>body a d ⟨l,let⟨o,t,u⟩:=yL F;⟨o,e,t,u,r⟩⟩),l,F.kp,hb,yL F⟩
def ER{X:Cx}(d:FD X.prog X.w X.K X.mg X.base C k x ps n F (ai Gb))(hr:j7 j X.A)(f:k<=j)
  (g:PA (X.dJ (kj X E)) (e::es) (Cu X.K C G0 i E fs κ)) (h:∀st ds,fs st=.ok ds->ds.length=n) (b:autoParam (Qx Gb=c) b5) (l:autoParam (Gl X x) b5) (A:autoParam ((x==("__debug__" : Str))=b4) cT) (m:autoParam (bF (e::es) X.env=(b4,eval e X.env)::bF es X.env) b5) (v:autoParam ((backTo pos (bF es X.env)).any (·.1)=b4) b5) :
  PE (X.dJ (kj X E)) (.Call (.Name x p) (e::es) [] pos) (tD X.K C G0 i E (bh F fs) c):=by
 refine Hy d.ex λa u o r s t _=>?_;subst b;exact UW o (hr.mono f) r s t g h l A m v
def AZ{X:Cx}(b:FD X.prog X.w X.K X.mg X.base C k x ps n F aj)(hr:j7 j X.A)(c:k<=j)
  (d:PA (X.dJ (kj X E)) (e::es) (Cu X.K C G0 f E fs κ)) (h:∀st ds,fs st=.ok ds->ds.length=n) (g:autoParam (Gl X x) b5) (A:autoParam ((x==("__debug__" : Str))=b4) cT) (i:autoParam (bF (e::es) X.env=(b4,eval e X.env)::bF es X.env) b5) (v:autoParam ((backTo pos (bF es X.env)).any (·.1)=b4) b5) :
  PE (X.dJ (kj X E)) (.Call (.Name x p) (e::es) [] pos) (To X.K C G0 f E (bh F fs)):=by
 refine Hy b.ex λa s l m o r _=>?_;exact Qz l (hr.mono c) m o r d h g A i v
def Al{b:Type}(P:b->Prop):List b->Prop
 |[]=>True
 |a::l=>P a/\Al P l
def XN{b:Type}{P:b->Prop}{l:List b}(h:Al P l):∀p∈l,P p:=by
 induction l with
 |nil=>exact λ_ m=>nomatch m
 |cons a l i=>exact λp m=>(cK.mp m).elim (λe=>e▸h.1) (i h.2 p)
def aa4{b f:List (Str×av)}(h:∀p∈b,f.lookup p.1=ai p.2):∀x c,b.lookup x=ai c->f.lookup x=ai c:=λx c e=>by
 induction b with
 |nil=>cases e
 |cons p b i=>obtain⟨n,a⟩:=p;rw[nS]at e;by_cases d:(x==n)=bT;rw[d]at e;cases e;rw[bi0.mp d];exact h (n,c) (.head _);rw[Oi]at d;rw[d]at e;exact i (λq m=>h q (.tail _ m)) e
theorem lookup_mem:∀{a:List (Str×β)},a.lookup x=ai k->(x,k)∈a
 |[],e=>by cases e
 |(n,k')::b,e=>by
  rw[nS]at e;by_cases h:(x==n)=bT;rw[h]at e;cases e;rw[bi0.mp h];exact .head _;rw[Oi]at h;rw[h]at e;exact .tail _ (lookup_mem e)
def V8{n:List (Str×NameKind)}{a:List (Str×av)}(h:(n.all λp=>(p.2 != .cell&&p.2 != .free) || (a.lookup p.1).isSome)=bT):∀x,(n.lookup x=ai .cell\/n.lookup x=ai .free)->∃c,a.lookup x=ai c:=λx e=>by
 have g:∀{k:NameKind},n.lookup x=ai k->(k != .cell&&k != .free)=b4->∃c,a.lookup x=ai c:=λ{k} e hk=>by have:=dZ.mp h _ (lookup_mem e);dsimp only at this;rw[hk,BD]at this;exact Oj.mp this
 rcases e with e|e;exact g e rfl;exact g e rfl
def jB{X:Cx}{C:Cfg}{G0:Hp}{a:List SK}{E:L2.St->XK}{t iter e:bq}{i:List bq}{s:iP}{h:List (Str×av)}{p:Pos}{g:TG}{bind:DB}{c:DI}{ft f:DF}{oZ Gb:Kd}{n z:Bool}{gU:List Str}{caps:List (Nat×Str)}{k:Nat}{d:List Nat}
  (y:PI X t iter (IG X.K C G0 a E z c)) (b:Blk X C G0 a t e i s h g bind ft f oZ n z gU caps) (hs:autoParam (∀x,oM iter X.env x=pure x) dF) (hk:autoParam (vD z n=Gb) b5) (h1:autoParam (gU.length=k) b5) (j:autoParam (caps.map (·.1)=d) b5) :
  PE X (.ListComp e [⟨t,iter,i,0⟩] s p) (tD X.K C G0 a E (dm c k d bind ft f) Gb):=by
 subst hk;subst h1;subst j;exact V9 y b hs
def nv{X:Cx}{C:Cfg}{G0:Hp}{d:List SK}{E:L2.St->XK}{o:Option Bool}{t iter e:bq}{a:List bq}{s:iP}{r:List (Str×av)}{c:Pos}{g:TG}{bind:DB}{f:DI}{ft j:DF}{oZ:Kd}{n z:Bool}{gU:List Str}{caps:List (Nat×Str)}{l:Nat}{m:List Nat}
  {i:Nat} {k:SK} {x:Str} {p Q:Pos} (u:X.N.Nodup) (y:PI X t iter (IG X.K C G0 d E z f)) (b:Blk X C G0 d t e a s r g bind ft j oZ n z gU caps) (hk:autoParam (d[i]?=ai k) b5) (hl:autoParam (k.takes (vD z n)=bT) b5) (v:autoParam (X.N[i]?=ai x) b5) (w:autoParam (X.env.scope.names.lookup x=ai .local) b5)
  (h:autoParam (swapsWith (.ListComp e [⟨t,iter,a,0⟩] s c) (ai (.Name x p)) Q.line X.env=pure bT) b5) (hs:autoParam (∀x,oM iter X.env x=pure x) dF) (h1:autoParam (gU.length=l) b5) (A:autoParam (caps.map (·.1)=m) b5) :
  PS X (.Assign [.Name x p] (.ListComp e [⟨t,iter,a,0⟩] s c) Q) (lV X.K C G0 d E o (cB i (dm f l m bind ft j))):=by
 subst h1;subst A;exact Va u y b hk hl v w h hs
end Dm
namespace Dm
open PySem PySem.Spec PyProof.Rows L2
noncomputable def Ite(K:aF)(a:av):It:=
 ⟨λi H=>∃b x,k9 K H a b/\b[i]?=ai x,λi H x c=>∃T y,H T=aj/\c=upd H T (.tup [.int i,y])/\x=.ref T/\∀b,k9 K H a b->b[i]?=ai y,λi H=>∃b,k9 K H a b/\b.length<=i⟩
def LL{P:dz}{w:bL}{K:aF}{r:List bq}{x1}{O:Pos}(a e f:av)(t:e≠f):Turn P w K (.Tuple r x1 O) (Ite K a) [e,f] e (λi h=>(∃old,IsEnum h e f i old)/\h.IsListIter f a i) where
 mem:=by simp
 obj:=λi h st b hb=>by
  obtain⟨⟨old,g⟩,o,Q,c,d⟩:=st;rcases cK.mp hb with rfl|hb;exact⟨_,g,λv z=>by cases z⟩;obtain rfl:b=f:=by simpa using hb
  exact⟨o,Q,λv z=>by rw[d]at z;cases z⟩
 keep:=λi h y st k=>⟨st.1.imp λold g=>k e (by simp) _ g,st.2.at λo z=>k f (by simp) o z⟩
 item:=by
  intro X S T U hc i Y s Z H E I A st C;subst S T U;obtain⟨⟨old,g⟩,j⟩:=st;refine dW C λxs x L hx=>?_;clear C;refine cA (I.list L) λbx rv p hz=>?_;refine aR (rv.get hx) λu hu ru=>?_;have M:=A e (by simp);have fi:=A f (by simp);have m:H s.heap.objs.size=aj:=I.fE.fresh (b9 _);refine wpAny_pyNext_enum_item g j p.isList (x:=u) (by simpa using hu) t λy Q CJ hT hsz hk=>⟨_,rfl,?_⟩
  have N:∀b o,b∉[e,f]->s.heap.get? b=ai o->y.get? b=ai o:=λb o hb q=>hk b o (λz=>hb (by simp[z])) (λz=>hb (by simp[z])) q;have lt:∀b o,s.heap.get? b=ai o->b≠s.heap.objs.size:=λb o q=>dM (bZ q);have I1:L2.Inv X Y Z (upd H s.heap.objs.size (.tup [.int i,x])) {s with heap:=y,toks:=s.toks+1}:=by
   refine Inv.DU I (s':={s with heap:=y,toks:=s.toks+1}) (ch:=[e,f]) rfl ⟨λb o q n nf nx=>N b o nx q,λb o q n nf nx=>⟨o.slots,N b o nx q⟩,λb o q n nx=>?_,λb o q nx=>⟨o,N b o nx q⟩,λb ys q=>?_,λb o u' q=>?_,λb zp zr q=>?_⟩ (λb o q=>?_) I.bare (λb hb=>?_);rw[aS (lt b o q)];exact n;rw[aS (bg q m)];exact q;rw[aS (bg q m)];exact q;rw[aS (bg q m)];exact q;by_cases hb:b=s.heap.objs.size;subst hb;rw[bM]at q;cases q;exact⟨by simp only[cS,nQ];rw[gf];decide,[.int i s.toks,u],.cons ⟨_,rfl⟩ (.cons ru .nil),⟨_,hT,rfl,0,rfl⟩⟩;rw[aS hb]at q;refine(I.fE b o q).zI (λc v l z=>N c v ?_ z) (λc z=>by rw[aS (bg z m)];exact z) (λc ys z=>by rw[aS (bg z m)];exact z) λc zo ys z=>by rw[aS (bg z m)];exact z
   intro hm;rcases cK.mp hm with rfl|hm;rcases l with rfl|l;rw[M.1]at q;cases q;rw[M.1]at l;cases l;obtain rfl:c=f:=by simpa using hm
   rcases l with rfl|l;rw[fi.1]at q;cases q;rw[fi.1]at l;cases l;refine vL (A b hb) λF f1 f2 f3 f4 J=>?_;exact⟨f3,f1,f4,J⟩
  have ne:e≠s.heap.objs.size:=lt e _ g;have ni:f≠s.heap.objs.size:=by obtain⟨o,z,_⟩:=j;exact lt f _ z
  refine vL M λF f1 f2 f3 f4 J=>?_;clear M;refine wpAny_letOwnedTupleGo_enum Q λh2 Tp YJ=>?_;have I2:L2.Inv X Y Z (upd H s.heap.objs.size (.tup [.int i,x])) {s with heap:=h2,toks:=s.toks+1}:=I1.turned (t':=s.toks+1) (λb o hb q=>(YJ.2 b hb).trans q) (by rw[aS ne];exact F) f1 f3 f4 J;refine⟨.ref s.heap.objs.size,_,I2,rfl,⟨_,x,m,rfl,rfl,λys hy=>by rw[I.xQ hy L];exact hx⟩,⟨⟨u,by simpa using Tp⟩,CJ.at λo z=>(YJ.2 f (eW t)).trans z⟩,λb hb=>?_⟩;rcases cK.mp hb with rfl|hb;rw[aS ne];exact F;obtain rfl:b=f:=by simpa using hb
  rw[aS ni];exact fi.1
 done:=by
  intro X S T U hc i Y s Z H E I A st C;subst S T U;obtain⟨⟨old,g⟩,j⟩:=st;refine aR C λxs L hx=>?_;clear C;refine cA (I.list L) λbx rv p hz=>?_;refine vL (A f (by simp)) λF f1 f2 f3 f4 J=>?_;have hl:=rv.length;exact wpAny_pyNext_enum_end (I.ok.hd hc) g j p.isList (rD (by simp;lia)) λy eb=>⟨rfl,I.turned (t':=s.toks) (λb o hb e=>eb b o hb e) F f1 f3 f4 J⟩
 self:=λ_ _ _ _ _ st h=>by
  obtain⟨⟨old,g⟩,_⟩:=st;exact N5 g h
def iEn(K:aF)(t:TA):TI:=λb H R=>t b H λv H1=>∃a,v=[.ref a]/\(∃x,k9 K H1 a x)/\R (Ite K a) H1
def LM:jR "enumerate"=ai (.type "enumerate"):=by decide +kernel
def Vh{p d n:Pos}{t:TA}(u:Gl X "enumerate")(v:X.mg "enumerate"=aj)(w:PA X [a] t)(hs:autoParam (bF [a] X.env=[(b4,eval a X.env)]) b5):PI X (.Tuple elts F n) (.Call (.Name "enumerate" p) [a] [] d) (iEn X.K t):=by
 intro i s j H R I h;refine Call_ (uA I u v LM (Oe (ig (w d i s j H _ I h) λJ c l=>?_) hs rfl));refine bC l λL H1 f r1 k=>?_;clear l;refine cA k λa e x q=>?_;clear k;obtain⟨M,y⟩:=x;subst e;cases r1 with
 |cons r z=>
  cases z;cases r;refine cA (f.list y) λN O p P=>?_;refine call_enumerate_list p.isList λA m g C hk=>N5 m ?_;have E:L2.Inv X i j H1 {c with heap:=A}:=f.kept (t':=c.toks) hk;refine⟨c.heap.objs.size+1,[c.heap.objs.size+1,c.heap.objs.size],_,_,H1,rfl,E,LL a _ _ (Nat.succ_ne_self _),⟨⟨.none,m⟩,g⟩,λb hb=>?_,q⟩;have o:c.heap.objs.size<=b:=by
   rcases cK.mp hb with rfl|hb;exact wY _;obtain rfl:b=c.heap.objs.size:=by simpa using hb
   exact b9 _
  exact f.KR o (f.fE.fresh o)
noncomputable def enD(ds:List D):List D:=ds.mapIdx λi d=>.tup [.int i,d]
noncomputable def CK(f:DF):DI:=λst=>match f st with |.ok (.lst d)=>.ok (enD d) |.ok _=>.bad |.ex c p=>.ex c p |.bad=>.bad
def Vi(P:X.mg "enumerate"=aj)(S:PE X a (tD X.K C G0 U E f κ))(l:z=bT->κ.le .old=bT)(g:autoParam (Gl X "enumerate") b5)(h:autoParam (bF [a] X.env=[(b4,eval a X.env)]) b5):PI X (.Tuple elts x1 tp) (.Call (.Name "enumerate" p) [a] [] pos) (IG X.K C G0 U E z (CK f)):=(Vh g P (gF S l7 h) h).imp λσ H Q I=>by
 refine dW I λA st r q=>?_;clear I;refine⟨A,st,r,?_⟩;unfold CK at q;cases j:f st with
 |bad=>rw[j]at q;exact q
 |ex c p=>rw[j]at q;exact q
 |ok d=>
  rw[j]at q;cases d with
  |lst k=>
   dsimp only at q;intro v H1 J w;have n:Rep X.K C (er H1 (zB z A)) (.lst k) v:=by
    unfold zB;cases z with
    |true=>exact w.le r J (κ':=.old) (l rfl)
    |false=>rw[bh7 (by decide),jN];exact w.rep
   rw[Rep]at n;refine bC n λa b Y o L=>?_;clear n;obtain rfl:=Y;refine⟨a,rfl,⟨b,(aH _ _).seq o⟩,q _ _ J λi s t u Z=>⟨λd hd=>?_,λhd=>?_⟩⟩;unfold enD at hd;rw[GS]at hd;cases e:k[i]? with
   |none=>rw[e]at hd;cases hd
   |some d0=>rw[e]at hd;cases hd;refine aR (L.get' e) λv M rv=>?_;have N:k9 X.K s a b:=(u.trans (aH _ _)).seq o;refine⟨⟨b,v,N,M⟩,λx H' O=>?_⟩;refine ux O λT y F hH ex hx=>?_;clear O;subst hH ex;have:=hx b N;rw[M]at this;cases this;have nT:T∉t:=λm=>Z T m F;refine⟨cI F,?_⟩;have up:aG (er s t) (er (upd s T (.tup [.int i,v])) t):=aJ (cI F);rw[Rep];refine⟨T,_,rfl,.inl (.inl (by rw[aU nT,bM])),?_⟩;rw[aM];refine⟨.int i,[v],rfl,yz,?_⟩;rw[aM];refine⟨v,[],rfl,rv.same ((aH _ _).trans (u.trans up)) _,?_⟩;rw[aM]
   unfold enD at hd;rw[GS]at hd;refine⟨b,(u.trans (aH _ _)).seq o,by rw[L.len];exact nR.mp (by cases e:k[i]? with|none=>rfl|some d=>rw[e]at hd;cases hd)⟩
  |_=>exact q.elim
def K2{bind:DB}{g:TG}{a:DI}(d:PassesOwn (aE X.prog X.w) X.A X.env X.xe)(f:X.calm=bT)(i:PI X t iter (IG X.K C G0 b E bT a))(h:PG X t g)(j:qX X.K C G0 b g bind)(hb:qL X ss (lV X.K C G0 b E k F))(hs:autoParam (∀x,oM iter X.env x=pure x) dF) :
  PS X (.For t iter ss [] pos) (lV X.K C G0 b E k (cZ a bind F)):=(xU d f i h hb hs).imp λD l H z=>by
 refine dW z λA st r q=>?_;clear z;refine⟨A,st,r,?_⟩;unfold cZ at q;cases h:a st with
 |bad=>rw[h]at q;exact q.elim
 |ex c p=>rw[h]at q;exact λm e=>q l m A (r.mono e) (aJ e)
 |ok s=>rw[h]at q;intro J H1 n o;exact uQ j o r n q
end Dm
namespace Dm
open PySem PySem.Spec PyProof.Rows L2 PySem.W
def Vj:DS:=λ_=>.bad
def Vk:qL X ss (lV X.K C G0 b E i Vj):=λc s d H D I l=>l.elim λA o=>o.elim λst a=>a.elim λr q=>q.elim
noncomputable def bg8:D->D->R D:=λa b=>match a,b with
 |.lst d,.int k=>if(dR d&&decide (0<=k)&&decide (k<5000)&&decide (d.length*k.toNat<=5000))=bT then .ok (.lst (kE k.toNat d).flatten)else .bad
 |_,_=>.bad
noncomputable def tF:List D->R D:=λd=>match d with |[.int i]=>.ok (.int (if i<0 then -i else i))|_=>.bad
def aa8:jR "abs"=ai (.builtin "abs"):=by decide +kernel
def QV:jR "tuple"=ai (.type "tuple"):=by decide +kernel
def Vl{K:Frag}:XH K C (λxs H Q=>∃i,xs=[.int i]/\Q (.int (if i<0 then -i else i)) H) tF .new:=λb c E d A st H e xs Q r w q=>by
 unfold tF at q;split at q;rename_i z;split at z;rename_i i;cases z;refine aR (oO w) λv j a=>?_;obtain rfl:=j;rw[Rep]at a;subst a;exact⟨i,rfl,q _ H (.refl _) (.flat r (.refl _) (by rw[gq] <;> simp) yz _)⟩;cases z;rename_i z;split at z <;> cases z;exact q.elim
def isI:D->Bool |.int _=>bT|_=>b4
noncomputable def aD1:D->Bool |.tup (.int _::_)=>bT|_=>b4
noncomputable def aD2:D->Bool |.tup (.tup _::_)=>bT|_=>b4
noncomputable def qY(ds:List D):Bool:=decide (ds.length<64)&&dR ds&&ds.all (λd=>nl d&&decide (dep d<=50))&&ds.all (λa=>ds.all λb=>iu a b)&&(ds.all isI || ds.all aD1 || ds.all aD2)
def QW(h:qY ds=bT):t7 ds:=by
 unfold qY at h;simp only[bI,kZ,bi1,dZ]at h;obtain⟨⟨⟨⟨g,j⟩,f⟩,i⟩,c⟩:=h;refine⟨?_,g,λa e b hb=>i a e b hb,λa e=>(f a e).1,λa e=>(f a e).2⟩;rcases c with(c|c)|c;exact⟨_,.nums λd hd=>by have:=c d hd;unfold isI at this;split at this;exact⟨_,rfl⟩;cases this⟩;exact⟨_,.pT λd hd=>by have:=c d hd;unfold aD1 at this;split at this;exact⟨_,_,rfl⟩;cases this⟩;exact⟨_,.Zi λd hd=>by have:=c d hd;unfold aD2 at this;split at this;exact⟨_,_,rfl⟩;cases this⟩
noncomputable def gu:List D->R D:=λd=>match d with
 |[.lst e]=>if qY e=bT then .ok (.lst (fV e))else .bad
 |_=>.bad
def LN{K:Frag}:XH K C (Qf K C) gu .new:=λi k E l A st H f x Q r w q=>by
 cases h:gu f with
 |bad=>rw[h]at q;exact q.elim
 |ex c p=>unfold gu at h;split at h <;> (try split at h) <;> cases h
 |ok d=>
  rw[h]at q;unfold gu at h;split at h;rename_i e;split at h;rename_i a;cases h;refine aR (oO w) λv j g=>?_;obtain rfl:=j;have n:dR e=bT:=by unfold qY at a;simp only[bI]at a;exact a.1.1.1.2
  refine⟨v,e,rfl,g,QW a,λp ws b O=>q _ _ (cI b) (.lst r (.refl _) b (O.part (.nw (.refl _)) _ ?_))⟩;exact fY λd hd=>lE n ((cX e).mem_iff.mp hd);cases h;cases h
def aa9{K:Frag}{a b:String}{r:Bool}(h:(pH a==pH b)=b4)(h1:kitMeta b=bT)(c:(fastBuiltinMro a).map (·.contains (.type b))=ai r):kitOne K (.type a) (.type b)=ai r:=by
 unfold kitOne;rw[bh7 (by rw[h];exact jd)];unfold kitCls;dsimp only;rw[bh6 h1];exact c
noncomputable def gW:List D->R D:=λd=>match d with |[.lst e]=>if dR e=bT then .ok (.tup e)else .bad|_=>.bad
def LO{K:Frag}:XH K C (λxs H Q=>∃p ys,xs=[.ref p]/\((k9 K H p ys/\∀l,H l=aj->Q (.ref l) (upd H l (.tup ys)))\/(lT K H p ys/\Q (.ref p) H))) gW .new:=λc d E e A st H f xs Q r w q=>by
 unfold gW at q;split at q;rename_i z;split at z;rename_i g;split at z;rename_i n;cases z;refine aR (oO w) λv j a=>?_;obtain rfl:=j;refine bC a.items λp ys b s t=>?_;obtain rfl:=b;refine⟨p,ys,rfl,.inl ⟨s,λl hl=>q _ _ (cI hl) (.flat r (cI hl) (by rw[gq];exact n) ?_ _)⟩⟩;rw[Rep];exact⟨l,ys,rfl,.inl (.inl bM),t.same (cI hl) _⟩;cases z;cases z;rename_i z;split at z;split at z <;> cases z;cases z;exact q.elim
noncomputable def iTp(f:DF):DI:=λst=>match f st with |.ok (.tup d)=>.ok d |.ok _=>.bad |.ex c p=>.ex c p |.bad=>.bad
def ab0(J:PE X iter (tD X.K C G0 L E f κ))(l:z=bT->κ.le .old=bT):PI X Y iter (IG X.K C G0 L E z (iTp f)):=(YA J).imp λZ H Q n=>by
 refine dW n λA st r q=>?_;clear n;refine⟨A,st,r,?_⟩;unfold iTp at q;cases g:f st with
 |bad=>rw[g]at q;exact q
 |ex c p=>rw[g]at q;exact q
 |ok d=>
  rw[g]at q;cases d with
  |tup M=>
   dsimp only at q;intro v H1 o w;have j:Rep X.K C (er H1 (zB z A)) (.tup M) v:=by
    unfold zB;cases z with
    |true=>exact w.le r o (κ':=.old) (l rfl)
    |false=>rw[bh7 (by decide),jN];exact w.rep
   rw[Rep]at j;refine bC j λa b N k t=>?_;clear j;obtain rfl:=N;have s:∀{F u:Hp},aG F u->lT X.K F a b->lT X.K u a b:=λe h=>aG.tup e h;refine⟨a,rfl,⟨b,s (aH _ _) k⟩,q _ _ o λi O A3 m _=>⟨λd hd=>?_,λhd=>?_⟩⟩;refine aR (t.get' hd) λv y P=>?_;have I:lT X.K O a b:=s (m.trans (aH _ _)) k;refine⟨⟨b,v,I,y⟩,λx H' S=>?_⟩;obtain⟨T,U⟩:=S;subst T;have:=U b I;rw[y]at this;cases this;exact⟨.refl _,P.same m _⟩;exact⟨b,s (m.trans (aH _ _)) k,by rw[t.len];exact nR.mp hd⟩
  |_=>exact q.elim
def all_range(bs:List Bool)(n:Nat)(c:n=bs.length):(cY n).all (λi=>bs.getD i b4)=bs.all id:=by
 subst c;rw[mH,dZ,dZ];constructor;intro h b hb;obtain⟨i,a,rfl⟩:=iZ.mp hb;have:=h i (kO.mpr a);simpa[a]using this;intro h i a;have a:=kO.mp a;have:=h bs[i] (nP a);simpa[a]using this
def QX(l:X.A.handled=aj):mX X (.builtin "all") (λxs H Q=>∃(p:av) (bs:List Bool),xs=[.ref p]/\k9 X.K H p (bs.map V.bl)/\Q (.bl (bs.all id)) H):=by
 intro y s z H xs A Q I r ⟨p,bs,e,m,q⟩;subst e;refine aR (vals1 r) λu n t=>?_;obtain rfl:=n;cases t;refine cA (I.list m) λa f c C=>?_;have hl:a.length=bs.length:=by rw[<- f.length,bw]
 have w:p<s.heap.objs.size:=by obtain⟨o,h,_⟩:=c.isList;exact bZ h
 have k:∀b o,s.heap.get? b=ai o->(s.heap.push {cls:=.type "list_iterator",data:=.fields #[.ref p,.int 0 0]}).get? b=ai o:=λb o e=>bP _ e;refine call_all_walk (MT c.isList ?_);refine⟨s.heap.objs.size,_,_,_,_,_,λi=>bs.getD i b4,rfl,Walks.list (A:=X.A.in1) l _ p (dM w) a.toArray,⟨⟨_,eY _ rfl,rfl,rfl⟩,c.isList.at λo e=>k p o e⟩,λi v E F J g d=>?_,λL tk hk=>?_⟩;have M:i<a.length:=by
  have:a[i]?=ai v:=by simpa using g
  exact(eN.mp this).1
 have hb:(bs.map V.bl)[i]?=ai (.bl (bs.getD i b4)):=by
  rw[d8,cU (by lia)];have:i<bs.length:=by lia
  simp[this]
 refine aR (f.get hb) λu h x=>?_;have j:a[i]?=ai v:=by simpa using g
 rw[h]at j;cases j;cases(show v=Value.bool _ from x);exact aB d;rw[all_range bs _ (by simp[hl])];exact⟨.bl (bs.all id),H,I.kept λb o e=>hk b o (by simpa using dM (bZ e)) (k b o e),rfl,q⟩
noncomputable def boolsOf:List D->Option (List Bool)
 |[]=>ai []
 |.bl b::d=>(boolsOf d).map (b :: ·)
 |_::_=>aj
theorem yM:∀{ds:List D} {bs:List Bool},boolsOf ds=ai bs->ds=bs.map D.bl
 |[],bs,h=>by cases h;rfl
 |.bl b::ds,bs,h=>by
  rw[boolsOf]at h;cases hb:boolsOf ds with
  |none=>rw[hb]at h;cases h
  |some c=>rw[hb]at h;cases h;rw[bz,<- yM hb]
 |.cR::_,bs,h=>by cases h
 |.int _::_,bs,h=>by cases h
 |.str _::_,bs,h=>by cases h
 |.tup _::_,bs,h=>by cases h
 |.lst _::_,bs,h=>by cases h
 |.bN _ _::_,bs,h=>by cases h
@[simp] theorem ES:∀bs:List Bool,boolsOf (bs.map D.bl)=ai bs
 |[]=>rfl
 |b::bs=>by rw[bz,boolsOf,ES bs];rfl
noncomputable def QY:List D->R D:=λd=>match d with |[.lst e]=>(match boolsOf e with|some b=>.ok (.bl (b.all id))|none=>.bad)|_=>.bad
def ab1:jR "all"=ai (.builtin "all"):=by decide +kernel
theorem K3{K:Frag}{H:Hp}:∀{bs:List Bool} {xs:List V},aM K C H (bs.map D.bl) xs->xs=bs.map V.bl
 |[],xs,h=>by rw[nM,aM]at h;exact h
 |b::bs,xs,h=>by
  rw[bz,aM]at h;refine bC h λv r a q t=>?_;clear h;obtain rfl:=a;rw[Rep]at q;subst q;rw[K3 t];rfl
def Vm{K:Frag}:XH K C (λxs H Q=>∃(p:av) (bs:List Bool),xs=[.ref p]/\k9 K H p (bs.map V.bl)/\Q (.bl (bs.all id)) H) QY .new:=λc d E e A st H f xs Q r w q=>by
 unfold QY at q;split at q;rename_i z;split at z;rename_i g;split at z;rename_i bs hb;cases z;refine aR (oO w) λv j a=>?_;obtain rfl:=j;refine bC a.items λp y b s t=>?_;obtain rfl:=b;rw[yM hb]at t;have:=K3 t;subst this;exact⟨p,bs,rfl,s,q _ H (.refl _) (.flat r (.refl _) (by rw[gq] <;> simp) vN _)⟩;cases z;cases z;rename_i z;split at z;split at z <;> cases z;cases z;exact q.elim
end Dm
namespace Dm
open PySem PySem.Spec PyProof.Rows L2
noncomputable def cellsOf:List D->Option (List (Int×Int))
 |[]=>ai []
 |.tup [.int r,.int c]::d=>(cellsOf d).map ((r,c) :: ·)
 |_=>aj
noncomputable def intsOf:List D->Option (List Int)
 |[]=>ai []
 |.int i::d=>(intsOf d).map (i :: ·)
 |_=>aj
section
variable {K:aF}{C:Cfg}{H:Hp}
theorem B0:∀{ds:List D} {c:List Int},intsOf ds=ai c->ds=c.map D.int
 |[],c,h=>by cases h;rfl
 |.int r::ds,c,h=>by
  rw[intsOf]at h;refine aR (Hl.mp h) λa b d=>?_;obtain rfl:=d;rw[B0 b];rfl
theorem B3:∀{ns:List Int} {vs:List V},aM K C H (ns.map D.int) vs->vs=ns.map V.int
 |[],_,h=>by rw[nM,aM]at h;exact h
 |n::ns,_,h=>by
  rw[bz,aM]at h;refine bC h λv r b q t=>?_;clear h;obtain rfl:=b;rw[Rep]at q;subst q;rw[B3 t];rfl
end
noncomputable def gIs(n:Bool):D->D->R D:=λa b=>match a,b with |.bl x,.bl y=>.ok (.bl (if n then x !=y else x==y))|_,_=>.bad
def aD3(n:Bool):R2:=λx y H Q=>∃a b,x=.bl a/\y=.bl b/\Q (.bl (if n then a !=b else a==b)) H
def LP:qx X (i0 .IsNot) (aD3 bT):=by
 intro c s d H x y v u Q I r e h;refine bC h λa b f g q=>?_;clear h;obtain rfl:=f;obtain rfl:=g;cases r;cases e;have fin:EP X c d Q (.bool (a !=b)) s:=⟨.bl (a !=b),H,I,rfl,q⟩
 cases a <;> cases b <;> exact rf (a:=.bool _) rfl fin
def ab2{K:aF}{n:Bool}:uO K C (aD3 n) (gIs n) .new:=λf g E h A st H a b x y Q r c e q=>by
 unfold gIs at q;split at q;rename_i d hd;split at hd;cases hd;rw[Rep]at c e;subst c e;exact⟨_,_,rfl,rfl,q _ H (.refl _) (.flat r (.refl _) (by rw[gq] <;> simp) vN _)⟩;cases hd;rename_i hd;split at hd <;> cases hd;exact q.elim
end Dm
namespace Dm
def uS(h:u+64<c):u+2<c:=by lia
def ab3(h:u+64<c):u+1<c:=by lia
end Dm
namespace Dm
open PySem PySem.Spec PyProof.Rows L2
def KL(K:aF)(H:Hp)(ps:List SP)(v:List (List (List Int))):Prop:=v.length=ps.length/\∀z∈ps.zip v,lO K H z.2 z.1.2.1
theorem keys_eq(I:L2.Inv X a σ H s):∀{ps:List SP} {v:List (List (List Int))},(∀p∈ps,lO X.K H p.1 p.2.1)->KL X.K H ps v->ps.map (·.1)=v
 |[],[],_,_=>rfl
 |[],_::_,_,h=>by cases h.1
 |_::_,[],_,h=>by cases h.1
 |p::ps,k::v,hk,h=>by
  rw[bz,keys_eq I (λq m=>hk q (.tail _ m)) ⟨by simpa using h.1,λz m=>h.2 z (.tail _ m)⟩];rw[(Hk.kM (intKind X.prog X.w)).inj (oA I (hk p (.head _))) (oA I (h.2 (p,k) (.head _)))]
def ab4(K:aF)(n:Bool):R2:=λx y H Q=>∃a b o c k v,x=.ref b/\y=.ref a/\H a=ai (.ext (DY a o c))/\(∀p∈c,lO K H p.1 p.2.1)/\KL K H c v/\lO K H k b/\(c.map (·.1)=v->Q (.bl (if n then !(atKey c k).isSome else(atKey c k).isSome)) H)
def ab5(d:X.A.units+2<cLine):qx X (i0 .In) (ab4 X.K b4):=by
 intro g s i H x y v u Q I r e h;obtain⟨a,b,o,p,k,j,rfl,rfl,f,hk,c,hb,q⟩:=h;cases r;cases e;have q:=q (keys_eq I hk c);obtain⟨dd,hd,_⟩:=oB I f hk;exact wpAny_in_heap (show X.A.units+1+1<cLine from d) (oA I hb) hd dd ⟨.bl (atKey p k).isSome,H,I.tok _,rfl,q⟩
def LQ(d:X.A.units+2<cLine):qx X (i0 .NotIn) (ab4 X.K bT):=by
 intro g s i H x y v u Q I r e h;obtain⟨a,b,o,p,k,j,rfl,rfl,f,hk,c,hb,q⟩:=h;cases r;cases e;have q:=q (keys_eq I hk c);obtain⟨dd,hd,_⟩:=oB I f hk;exact wpAny_notIn_heap (show X.A.units+1+1<cLine from d) (oA I hb) hd dd ⟨.bl (!(atKey p k).isSome),H,I.tok _,rfl,q⟩
def aD5(K:aF):R2:=λx y H Q=>∃a b o c k d,x=.ref a/\y=.ref b/\H a=ai (.ext (DY a o c))/\(∀p∈c,lO K H p.1 p.2.1)/\KL K H c d/\lO K H k b/\(c.map (·.1)=d->(∀l e f,k9 K H l e->k9 K H l f->e=f)->∃p v,atKey c k=ai p/\RelV v p.2/\Q v H)
def aZ6(i:X.A.units+2<cLine):U5 X (aD5 X.K):=by
 intro c d j s k H x y v u Q I m n h o;obtain⟨a,b,F,J,L,M,rfl,rfl,t,hk,e,hb,q⟩:=h;cases m;cases n;obtain⟨p,z,w,A,q⟩:=q (keys_eq I hk e) λl N O C E=>I.xQ C E;obtain⟨dd,hd,_⟩:=oB I t hk;have g:s.TypeIs (.ref a) "dict":=dd.typeIs;unfold subscriptTail;refine ak ?_;rw[getitemInPython_of_ne g.not_modules];refine ak (pC g PySem.F.slot_dict_getitem.lookup ?_);have fin:aC (aE X.prog X.w) X.A (subscripted d b4 (.ref a) (.ref b)) (λr f=>aC (aE X.prog X.w) X.A (letTemporaryGo c (.ref a) r>>=λ_=>pure r) (EP X j k Q) X.xe f) X.xe s:=by rw[o];refine wpAny_operating (wpAny_getItem_heap (show X.A.units+1+1<cLine from i) (oA I hb) dd w ?_);exact ak (wpAny_letTemporaryGo (aB ⟨z,H,I.tok _,A,q⟩))
 first
  |exact aB (ak fin)
  |exact ak (aB (ak fin))
  |exact ak fin
def aD6(K:aF):V->V->V->Hp->(Hp->Prop)->Prop:=λo i v H Q=>∃a b e c k d,o=.ref a/\i=.ref b/\H a=ai (.ext (DY a e c))/\(∀p∈c,lO K H p.1 p.2.1)/\KL K H c d/\lO K H k b/\c.length<cH/\∀u U,RelV v u->c.map (·.1)=d->Q (upd H a (.ext (DY a U (storedH c k b u))))
def IK{ps:List SP}{k:List (List Int)}{b:av}{u:au}:(storedH ps k b u).length<=ps.length+1:=by
 unfold storedH;split;rw[bw];exact wY _;rw[bX];exact b9 _
def aD7(g:X.A.units+2<cLine):ao7 X (aD6 X.K):=by
 intro A s C H o i v E F u Q I r j k h;obtain⟨a,b,J,L,M,N,rfl,rfl,f,hk,e,hb,hl,q⟩:=h;cases r;cases j;obtain⟨dd,hd,l⟩:=oB I f hk;refine wpAny_setItem_heap (hsz:=l) (show X.A.units+1+1<cLine from g) (oA I hb) dd λm d n=>?_;have p:∃q,m.get? a=ai q:=let⟨q,_,_,t,_⟩:=d;⟨q,t⟩;obtain⟨U,x⟩:=DY.of hd (cz IK hl) d;exact⟨_,I.write (x:=a) (e:=a) (by rw[f];trivial) (.inl rfl) (λc w y z=>(n.2 c y).trans z) p (EN x),q u _ k (keys_eq I hk e)⟩
def Inv.aD8(I:L2.Inv X a σ H s):p7<s.heap.objs.size:=
 Nat.lt_trans (by decide) (show dS<s.heap.objs.size from(I.mod.glob.keeps I.bk).lt)
def aD9:TE:=λa H Q=>∀p o,H p=aj->Q (.ref p) (upd H p (.ext (DY p o [])))
def QZ{h:aW}(hb:(h.objs.size==p7)=b4):DY h.objs.size {cls:=.type "dict",data:=.dict #[]} [] (h.push {cls:=.type "dict",data:=.dict #[]}):=
 ⟨hb,eS _,eY _ rfl,⟨rfl,rfl,rfl⟩,#[],0,rfl,λ_ _=>rfl,GP⟩
def Vn:PE X (.Dict [] [] pos) aD9:=λa s b H Q I h=>
 wpAny_Dict_empty ⟨.ref s.heap.objs.size,_,I.laid (a:=s.heap.objs.size) (o:=.ext (DY s.heap.objs.size _ [])) (t':=s.toks) (λ_ _ q=>bP _ q) (b9 _) (EN (QZ (bi3.mpr (eW (dM (Inv.aD8 I)))))),rfl,h _ _ (I.fE.fresh (b9 _))⟩
noncomputable def ET:D->Option (List Int) |.tup ds=>intsOf ds|_=>aj
noncomputable def mS:List D->Option (List (List Int))
 |[]=>ai []
 |d::b=>match ET d,mS b with|some a,ai r=>ai (a::r)|_,_=>aj
noncomputable def uT:D->Option (List (List Int)) |.tup ds=>mS ds|_=>aj
noncomputable def fC:List D->Option (List (List (List Int)×D×D))
 |[]=>ai []
 |k::v::r=>match uT k,fC r with|some a,ai l=>ai ((a,k,v)::l)|_,_=>aj
 |_=>aj
section
variable {K:aF}{C:Cfg}{H:Hp}
def EU(h:ET d=ai a):d=.tup (a.map D.int):=by
 cases d with
 |tup b=>rw[ET]at h;rw[B0 h]
 |_=>cases h
theorem vF:∀{ds:List D} {k:List (List Int)} {xs:List V},mS ds=ai k->aM K C H ds xs->∃b:List av,xs=b.map V.ref/\b.length=k.length/\∀z∈k.zip b,lT K H z.2 (z.1.map V.int)
 |[],k,xs,h,q=>by cases h;rw[aM]at q;subst q;exact⟨[],rfl,rfl,λz m=>nomatch m⟩
 |d::ds,k,xs,h,q=>by
  rw[mS]at h;cases f:ET d with
  |none=>rw[f]at h;cases h
  |some a=>
   cases hr:mS ds with
   |none=>rw[f,hr]at h;cases h
   |some r=>
    rw[f,hr]at h;cases h;rw[aM]at q;obtain⟨v,n,rfl,g,i⟩:=q;obtain⟨b,rfl,hl,j⟩:=vF hr i;rw[EU f,Rep]at g;obtain⟨c,y,rfl,s,l⟩:=g;have e:=B3 l;subst e;exact⟨c::b,rfl,by simp[hl],λz m=>by
     rcases cK.mp (show z∈(a,c)::r.zip b from m)with rfl|m;exact s;exact j z m⟩
def oE(h:Rep K C H d v)(hk:uT d=ai k):∃b,v=.ref b/\lO K H k b:=by
 cases d with
 |tup f=>rw[Rep]at h;obtain⟨a,x,rfl,s,r⟩:=h;obtain⟨c,rfl,hl,e⟩:=vF hk r;exact⟨a,rfl,c,s,hl,e⟩
 |_=>cases hk
def LR(p:SP)(ps:List SP)(v:V)(vs:List V):nt (p::ps) (v::vs)=.ref p.2.1::v::nt ps vs:=rfl
def tG(h:Vals vs us):vs.length=us.length:=h.length
theorem qh:∀{ps:List SP} {vs:List V} {ds:List D} {l:List (List (List Int)×D×D)},vs.length=ps.length->aM K C H ds (nt ps vs)->fC ds=ai l->
  ds=l.flatMap (λz=>[z.2.1,z.2.2])/\KL K H ps (l.map (·.1))/\aM K C H (l.map (·.2.2)) vs/\aM K C H (l.map (·.2.1)) (ps.map λp=>.ref p.2.1)
 |[],[],ds,l,_,q,h=>by
  have:nt [] []=[]:=rfl;rw[this]at q;cases ds with
  |nil=>cases h;exact⟨rfl,⟨rfl,λz m=>nomatch m⟩,by rw[nM,aM],by rw[nM,aM];rfl⟩
  |cons d ds=>rw[aM]at q;obtain⟨_,_,z,_⟩:=q;cases z
 |[],_::_,_,_,e,_,_=>by cases e
 |_::_,[],_,_,e,_,_=>by cases e
 |p::ps,v::vs,ds,l,e,q,h=>by
  rw[LR]at q;cases ds with
  |nil=>rw[aM]at q;cases q
  |cons k ds=>
   cases ds with
   |nil=>rw[aM]at q;obtain⟨_,_,z,_,q⟩:=q;cases z;rw[aM]at q;cases q
   |cons w ds=>
    rw[fC]at h;cases c:uT k with
    |none=>rw[c]at h;cases h
    |some a=>
     cases hr:fC ds with
     |none=>rw[c,hr]at h;cases h
     |some r=>rw[c,hr]at h;cases h;rw[aM]at q;obtain⟨_,_,z,f,q⟩:=q;cases z;rw[aM]at q;obtain⟨_,_,z,g,q⟩:=q;cases z;obtain⟨j,i,n,o⟩:=qh (by simpa using e) q hr;obtain⟨b,z,hb⟩:=oE f c;cases z;refine⟨by rw[rC,<- j];rfl,⟨by simpa using i.1,λz m=>?_⟩,?_,?_⟩;rcases cK.mp (show z∈(p,a)::ps.zip (r.map (·.1))from m)with rfl|m;exact hb;exact i.2 z m;rw[bz];exact .cons g n;rw[bz,bz];exact .cons f o
def ny(h:Rep K (dH b gl) H (.bN 2 ds) v)(e:fC ds=ai l):∃a o ps vs,v=.ref a/\Vals vs (ps.map (·.2.2))/\H a=ai (.ext (DY a o ps))/\(∀p∈ps,lO K H p.1 p.2.1)/\(∀l,V.ref l∈vs->∃ys,H l=ai (.lst ys))/\
  KL K H ps (l.map (·.1))/\aM K (dH b gl) H (l.map (·.2.2)) vs/\aM K (dH b gl) H (l.map (·.2.1)) (ps.map λp=>.ref p.2.1):=by
 rw[Rep]at h;obtain⟨a,x,rfl,f,r⟩:=h;rcases f with(⟨z,_⟩|⟨c,z,_⟩)|⟨z,_⟩|⟨_,o,ps,vs,rfl,d,g,i,j⟩;cases z;unfold V5 at z;lia;cases z;obtain⟨_,k,m,n⟩:=qh (by rw[tG d,bw]) r e;exact⟨a,o,ps,vs,rfl,d,g,i,j,k,m,n⟩
end
def R4{ps:List SP}(h:ps.map (·.1)=v)(a:List (List Int)):(atKey ps a).isSome=v.any (λk=>decide (k=a)):=by
 subst h;unfold atKey;rw[Option.isSome_map];induction ps with
 |nil=>rfl
 |cons p ps i=>
  rw[GU,bz,pM];cases decide (p.1=a)with
  |true=>rfl
  |false=>rw[BD];exact i
noncomputable def mT(n:Bool):D->D->R D:=λa b=>match uT a,b with
 |some c,.bN 2 d=>(match fC d with|some l=>.ok (.bl (if n then !(l.map (·.1)).any (λk=>decide (k=c))else(l.map (·.1)).any (λk=>decide (k=c))))|none=>.bad)
 |_,_=>.bad
def Vo(h:mT neg a b=.ok d):∃c ds l,uT a=ai c/\b=.bN 2 ds/\fC ds=ai l/\d=.bl (if neg then !(l.map (·.1)).any (λk=>decide (k=c))else(l.map (·.1)).any (λk=>decide (k=c))):=by
 unfold mT at h;split at h;rename_i c ds hk;split at h;rename_i l hl;cases h;exact⟨c,ds,l,hk,rfl,hl,rfl⟩;cases h;cases h
def Vp:mT neg a b≠.ex c p:=by
 unfold mT;split;split <;> exact λh=>(by cases h)
 exact λh=>(by cases h)
section
variable {Cb:av}{gl:GL}{G0:Hp}{Γ:List SK}{E:L2.St->XK}{a b:bq}
def K4{K:aF}{n:Bool}:uO K (dH Cb gl) (ab4 K n) (mT n) .new:=λG0 Γ E u A st H a b x y Q r e f q=>by
 cases h:mT n a b with
 |bad=>rw[h]at q;exact q.elim
 |ex c p=>exact bi8 h Vp
 |ok d=>rw[h]at q;obtain⟨k,g,l,hk,rfl,hl,rfl⟩:=Vo h;obtain⟨p,o,i,v,rfl,w,j,m,_,s,_⟩:=ny (show Rep K (dH Cb gl) H (.bN 2 g) y from f) hl;obtain⟨t,rfl,hb⟩:=oE e hk;refine⟨p,t,o,i,k,_,rfl,rfl,j,m,s,hb,λz=>?_⟩;rw[R4 z];exact q _ H (.refl _) (.flat r (.refl _) (by rw[gq] <;> simp) (by rw[Rep]) _)
end
noncomputable def vP(f:DF)(F:DS):Nat->DS
 |0,_=>.bad
 |n+1,st=>match f st with
  | .ok (.bl bT)=>(match F st with
   |.nx s=>vP f F n s
   |.ct s=>vP f F n s
   |.bk s=>.nx s
   | o=>o)
  |.ok (.bl b4)=>.nx st
  |.ok _=>.bad
  |.ex c p=>.ex c p st
  |.bad=>.bad
def R5(n:Nat)(N:PassesOwn (aE X.prog X.w) X.A X.env X.xe)(P:PT X c (wC X.K C G0 t E f))(hb:qL X ss (lV X.K C G0 t E Q F)):PS X (.While c ss [] pos) (lV X.K C G0 t E Q (vP f F n)):=(P0 N P hb).imp λD Y H z=>by
 refine dW z λA st r q=>?_;clear z;refine⟨λm O H1=>∃a k,RS X.K C G0 t O H1 a k/\aG (er H A) (er H1 a)/\vP f F m k=vP f F n st,⟨n,A,st,r,.refl _,rfl⟩,?_⟩;intro m O H1 x;refine bC x λa k r1 j g1=>?_;clear x;refine⟨a,k,r1,?_⟩;rw[<- g1]at q;cases m with
 |zero=>exact q.elim
 |succ m=>
  rw[vP]at q g1;cases u:f k with
  |bad=>rw[u]at q;exact q
  |ex S p=>rw[u]at q;exact λT y=>q O T a (r1.mono y) (j.trans (aJ y))
  |ok d=>
   rw[u]at q g1;cases d with
   |bl b=>
    intro U e;cases b with
    |false=>rw[bh7 jd];exact q O U a (r1.mono e) (j.trans (aJ e))
    |true=>
     rw[bh6 rfl];refine⟨λI v=>∃J L,RS X.K C G0 t I v J L/\aG (er H A) (er v J)/\vP f F m L=vP f F n st,λI v w=>⟨m,Aq m,w⟩,a,k,r1.mono e,?_⟩;dsimp only at q g1;cases l:F k with
     |nx o=>rw[l]at g1;exact λM s g h i=>⟨g,o,h,(j.trans (aJ e)).trans i,g1⟩
     |ct o=>rw[l]at g1;exact λM s g h i=>⟨g,o,h,(j.trans (aJ e)).trans i,g1⟩
     |bk o=>rw[l]at q;exact λM s g h i=>q M s g h ((j.trans (aJ e)).trans i)
     |rt d=>rw[l]at q;exact q
     |ex S p o=>rw[l]at q;exact λM s g h i=>q M s g h ((j.trans (aJ e)).trans i)
     |bad=>rw[l]at q;exact q
   |_=>exact q.elim
section
variable {K:aF}{Cb:av}{gl:GL}{G0:Hp}{Γ:List SK}{σ:L2.St}{H H':Hp}{A:List av}{st:gM}{κ:Kd}
def Val.gR(r:RS K (dH Cb gl) G0 Γ σ H A st)(e:aG H H'){ps:List SP}(h:H' p=aj)(c:Vals vs (ps.map (·.2.2)))(hk:∀q∈ps,lO K (κ.hp G0 A H H') q.1 q.2.1)
  (hl:∀l,V.ref l∈vs->∃ys,κ.hp G0 A H H' l=ai (.lst ys)) (q:aM K (dH Cb gl) (κ.hp G0 A H H') ds (nt ps vs)):Val K (dH Cb gl) κ G0 A H (upd H' p (.ext (DY p o ps))) (.bN 2 ds) (.ref p):=by
 have a:H p=aj:=e.free h;have S:aG (κ.hp G0 A H H') (er (κ.hp G0 A H (upd H' p (.ext (DY p o ps)))) [p]):=λb u z=>by
  have n:b≠p:=λw=>by have:=Kd.uN _ _ z;rw[w,h]at this;cases this
  rw[aU (by simpa using n)];exact Kd.t9 (cI h) _ _ z
 have d:κ.hp G0 A H (upd H' p (.ext (DY p o ps))) p=ai (.ext (DY p o ps)):=AN r e h;have own:mQ K (dH Cb gl) (er (κ.hp G0 A H (upd H' p (.ext (DY p o ps)))) [p]) (κ.hp G0 A H (upd H' p (.ext (DY p o ps)))) p (.bN 2 ds):=
  ⟨rfl,nt ps vs,⟨o,ps,vs,rfl,c,d,λx m=>(hk x m).mono S,λl m=>let⟨ys,z⟩:=hl l m;⟨ys,S _ _ z⟩⟩,q.same S _⟩
 have R:Rep K (dH Cb gl) (κ.hp G0 A H (upd H' p (.ext (DY p o ps)))) (.bN 2 ds) (.ref p):=own.rep (.refl _) rfl;have T:∀G,G p=aj->lH K (dH Cb gl) G (κ.hp G0 A H (upd H' p (.ext (DY p o ps)))) (.bN 2 ds) (.ref p):=λG g=>⟨λ_=>⟨p,rfl,g,own⟩,.not rfl⟩
 cases κ with
 |new=>exact⟨R,T _ a⟩
 |uL=>exact⟨R,T _ a⟩
 |loc=>exact⟨R,T _ (r.g0.free a)⟩
 |old=>exact R
 |uM=>exact⟨R,T _ (r.g0.free a)⟩
 |jG=>exact R
end
def CL:PE X (.Dict [] [] pos) (tD X.K (dH C gl) G0 a E (dC (.bN 2 [])) .new):=Vn.imp λb H Q z=>by
 obtain⟨A,st,r,q⟩:=z;intro p o h;exact q _ _ (cI h) (Val.gR (ps:=[]) (vs:=[]) r (.refl _) h .nil (λ_ m=>nomatch m) (λ_ m=>nomatch m) (by rw[aM];rfl))
noncomputable def gv(o:Option (Option D)):Option (List D×List (List (List Int)×D×D)):=match o with
 |some (ai (.bN 2 d))=>(fC d).map λl=>(d,l)
 |_=>aj
def nB(h:gv o=ai z):o=ai (ai (.bN 2 z.1))/\fC z.1=ai z.2:=by
 unfold gv at h;split at h;rename_i d;cases a:fC d with
 |none=>rw[a]at h;cases h
 |some l=>rw[a]at h;cases h;exact⟨rfl,a⟩
 cases h
def rT(h:o=ai (ai (.bN 2 ds)))(a:fC ds=ai l):gv o=ai (ds,l):=by
 subst h;show(fC ds).map _=_;rw[a];rfl
def okV:D->Bool
 |.lst _=>bT
 |.int _=>bT
 |.bl _=>bT
 |_=>b4
noncomputable def LS(i:Nat)(st:gM)(z:List D×List (List (List Int)×D×D))(kd d:D):Out:=match uT kd with
 |some a=>if z.2.length<=5000/\(z.2.map (·.1)).any (λk=>decide (k=a))=b4/\okV d=bT then .nx (st.set i (ai (.bN 2 (z.1++[kd,d]))))else .bad
 |none=>.bad
noncomputable def zS(i:Nat)(a f:DF):DS:=λst=>match f st with
 | .ok d=>(match gv st[i]? with
  | some z=>(match a st with
   |.ok k=>LS i st z k d
   |.ex c p=>.ex c p st
   | .bad=>.bad)
  | none=>.bad)
 |.ex c p=>.ex c p st
 |.bad=>.bad
def CM(h:uT kd=ai k):gq kd=bT:=by
 cases kd with
 |tup e=>
  rw[gq];refine fY ?_;replace h:mS e=ai k:=h;induction e generalizing k with
  |nil=>intro x m;cases m
  |cons y e i=>
   intro x m;rw[mS]at h;cases b:ET y with
   |none=>rw[b]at h;cases h
   |some a=>
    cases c:mS e with
    |none=>rw[b,c]at h;cases h
    |some r=>
     rcases cK.mp m with rfl|m;rw[EU b,gq];exact fY λz d=>by obtain⟨w,_,rfl⟩:=aN.mp d;rw[gq] <;> simp
     exact i c x m
 |_=>cases h
theorem aM.LU{K:aF}{C:Cfg}{H:Hp}:∀{ds es:List D} {xs ys:List V},aM K C H ds xs->aM K C H es ys->aM K C H (ds++es) (xs++ys)
 |[],es,xs,ys,h,a=>by rw[aM]at h;subst h;exact a
 |d::ds,es,xs,ys,h,a=>by
  rw[aM]at h;obtain⟨v,r,rfl,q,t⟩:=h;exact .cons q (aM.LU t a)
def LV{ps:List SP}{vs:List V}(h:vs.length=ps.length):nt (ps++[p]) (vs++[v])=nt ps vs++[.ref p.2.1,v]:=by
 unfold nt;rw[NQ h.symm,pN];rfl
theorem Vals.snoc:∀{vs:List V} {a:List au} {v:V} {u:au},Vals vs a->RelV v u->Vals (vs++[v]) (a++[u])
 |_,_,v,u,.nil,h=>.cons h .nil
 |_,_,v,u,.cons r t,h=>.cons r (Vals.snoc t h)
def R6{i:Nat}{n:Bool}{x:Str}{h y:Pos}{j:bq}{fi:DF}(hu:X.A.units+2<cLine)(hx:PE X (.Name x h) (rK i))(O:PE X j (tD X.K (dH I gl) G0 Γ E fi κ'))(he:PE X e (tD X.K (dH I gl) G0 Γ E f κ))(na:nc Γ=bT)(hk:autoParam (Γ[i]?=ai (.own n)) b5)(hl:autoParam (κ=.new) b5)
  (ha:autoParam (∀v,assign (.Subscript (.Name x h) j y) X.env v=(do
   let ov <- holding [v] (eval (.Name x h) X.env)
   let iv <- holding [v,ov] (eval j X.env)
   standAt y
   holding [v,ov,iv] (setItem ov iv v)
   release [v,ov,iv] [])) dF)
  (hs:autoParam (swapsWithSole [Hw (.Name x h) j y] e pos.line X.env=pure b4) b5) (hw:autoParam (swappedStores [Hw (.Name x h) j y] e X.env=pure aj) b5)
  (h1:autoParam ((v9 [Hw (.Name x h) j y] X.env).map (·.2)=[assign (.Subscript (.Name x h) j y) X.env]) b5) :
  PS X (.Assign [.Subscript (.Name x h) j y] e pos) (lV X.K (dH I gl) G0 Γ E iU (zS i fi f)):=(OY he (Yw hx O (aD7 hu) ha) hs hw h1).imp λD σ H zz=>by
 subst hl;obtain⟨A,st,r,q⟩:=zz;refine⟨A,st,r,?_⟩;unfold zS at q;cases hf:f st with
 |bad=>rw[hf]at q;exact q
 |ex c p=>rw[hf]at q;exact λH' P=>q σ H' A (r.mono P) (aJ P)
 |ok d=>
  rw[hf]at q;dsimp only at q;cases C:gv st[i]? with
  |none=>rw[C]at q;exact q.elim
  |some z=>
   obtain⟨C,F⟩:=nB C;obtain⟨ds,l⟩:=z;rw[rT C F]at q;dsimp only at q C F;intro v H1 e1 w1;obtain⟨p,h1,h2,h3,t2,xs,ow,h5⟩:=r.IB hk C rfl;refine⟨_,h1,A,st,r.mono e1,?_⟩;cases O:fi st with
   |bad=>rw[O]at q;exact q
   |ex c p=>rw[O]at q;exact λH' P=>q σ H' A (r.mono (e1.trans P)) (aJ (e1.trans P))
   |ok kd=>
    rw[O]at q;dsimp only at q;intro vi a e2 w2;unfold LS at q;cases M:uT kd with
    |none=>rw[M]at q;exact q.elim
    |some J=>
     rw[M]at q;dsimp only at q;by_cases Q:l.length<=5000/\(l.map (·.1)).any (λk=>decide (k=J))=b4/\okV d=bT;rw[bh6 Q]at q;have L:=e1.trans e2;have r':=r.mono L;have S:aG (eh n G0 A H) (eh n G0 A a):=by unfold eh;cases n;exact aJ L;exact bR (aJ L)
     have S2:aG (eh n G0 A a) a:=by unfold eh;cases n;exact aH _ _;exact(cj _ _).trans (aH _ _)
     obtain⟨ob,s,vs,rfl,T,hp,kp,pl⟩:=ow;have q5:aM X.K (dH I gl) (eh n G0 A a) ds (nt s vs):=h5.same S _;have t:vs.length=s.length:=by rw[tG T,bw]
     obtain⟨_,i2,_,_⟩:=qh t q5 F;have U:∀x∈s,lO X.K (eh n G0 A a) x.1 x.2.1:=λx m=>(kp x m).mono S;obtain⟨b,rfl,hb⟩:=oE w2.rep M;have wk:Rep X.K (dH I gl) (eh n G0 A a) kd (.ref b):=by unfold eh;cases n;exact Rep.part r'.JV _ (CM M) w2.rep;exact Rep.part r'.vt _ (CM M) w2.rep
     obtain⟨b2,hb2,hbk⟩:=oE wk M;cases hb2;have Y:=w1.later e2;have Z:Rep X.K (dH I gl) (eh n G0 A a) d v:=Y.ZN r L (by cases n <;> rfl);have plv:∀g,v=.ref g->∃N,eh n G0 A a g=ai (.lst N):=λg zl=>by
      cases d with
      |lst es=>
       obtain⟨p',z,h0,N,hy,_⟩:=Y.2.1 rfl;rw[zl]at z;cases z;have nA:g∉A:=λm=>by obtain⟨o,w,_⟩:=r.lists g m;rw[h0]at w;cases w
       have hy2:a g=ai (.lst N):=cj _ _ _ _ hy;refine⟨N,?_⟩;unfold eh;cases n;show er a A g=_;rw[aU nA];exact hy2;show nw G0 (er a A) g=_;rw[jM (r.g0.free h0),aU nA];exact hy2
      |int k=>rw[Rep]at Z;rw[Z]at zl;cases zl
      |bl k=>rw[Rep]at Z;rw[Z]at zl;cases zl
      |_=>cases Q.2.2
     have hlp:l.length=s.length:=by have:=i2.1;rw[bw]at this;exact this
     refine⟨p,b,ob,s,J,_,rfl,rfl,L _ _ hp,λx m=>(U x m).mono S2,⟨i2.1,λz m=>(i2.2 z m).mono S2⟩,hb,?_,λu UC ru zk=>?_⟩;rw[gf];have:=Q.1;lia;have hn:atKey s J=aj:=by have:=R4 zk J;rw[Q.2.1]at this;exact Option.isSome_eq_false_iff.mp this |> Om.mp
     rw[Gq hn];have own:mQ X.K (dH I gl) (eh n G0 A a) (upd a p (.ext (DY p UC (s++[(J,b,u)])))) p (.bN 2 (ds++[kd,d])):=by refine⟨rfl,nt (s++[(J,b,u)]) (vs++[v]),⟨_,_,_,rfl,by rw[j4];exact Vals.snoc T ru,bM,λx m=>?_,λg m=>?_⟩,?_⟩;rcases i6.mp m with m|m;exact U x m;obtain rfl:=gC.mp m;exact hbk;rcases i6.mp m with m|m;obtain⟨N,z⟩:=pl g m;exact⟨N,S _ _ z⟩;exact plv g (gC.mp m).symm;rw[LV t];exact aM.LU q5 (.cons wk (.cons Z (by rw[aM])))
     obtain⟨r2,e3⟩:=r'.ZM na hk C h1 h2 h3 rfl rfl own;exact q _ _ A r2 ((aJ L).trans e3);rw[bh7 Q]at q;exact q.elim
def LW:mX X (.builtin "len") (λxs H Q=>∃a o ps,xs=[V.ref a]/\H a=ai (.ext (DY a o ps))/\Q (.int ps.length) H):=by
 intro n s p H xs t Q I r h;obtain⟨a,o,ps,rfl,d,q⟩:=h;obtain⟨u,rfl,e⟩:=vals1 r;cases e;obtain⟨f,_,_⟩:=(show gP X.prog X.w H s.heap a (.ext (DY a o ps))from I.fE a _ d)
 obtain⟨hd,g,b,i,j,v,k,l,w⟩:=f;have c:s.TypeIs (.ref a) "dict":=⟨o,b,i.1⟩
 have m:j.size=ps.length:=by rw[<- dN,l X.prog X.w,bw]
 rw[gf] at g;refine PySem.Calls.call_function_entry kind_len plain_len entry_len (args_len1 _) ?_;(unfold Builtin.«len»);(refine ak (m:=oneArg "len" _) (aB ?_));refine ak (m:=callSpecial? (.ref a) (kI "__len__")) (p9 (name:=kI "__len__") c OB (iy OB c PySem.F.entry_dict_len ?_ (PySem.F.args_dict_len_1 _)));(show aC _ _ (dictSize a>>=_) _ _ s);(unfold dictSize);(refine ak (ak (kB b k (aB ?_))));(show aC _ _ (Builtin.Dict.pendingCount a>>=_) _ _ s);(refine ak (wpAny_pendingCount_other hd (wpAny_ret_mkInt ?_)));rw[GA,m];(refine ak (jb (aB ?_)));(refine ak (Gr ?_));(show aC _ _ (if ((ps.length:Nat):Int) < 0 then _ else _) _ _ _);(rw[bh7 (by lia)]);(show aC _ _ (if ((ps.length:Nat):Int) ≥ 2 ^ 63 then _ else _) _ _ _);(rw[bh7 (by lia)]);exact ak (wpAny_mkInt (aB ⟨_,rfl,.int ps.length,H,(I.tok _).tok _,⟨_,rfl⟩,q⟩))
noncomputable def qZ:List D->R D:=λd=>match d with
 |[.bN 2 x]=>(match fC x with|some l=>.ok (.int l.length)|none=>.bad)
 |_=>.bad
def R7(h:qZ ds=.ok d):∃xs l,ds=[.bN 2 xs]/\fC xs=ai l/\d=.int l.length:=by
 unfold qZ at h;split at h;rename_i xs;split at h;rename_i l hl;cases h;exact⟨xs,l,rfl,hl,rfl⟩;cases h;cases h
def R8:qZ ds≠.ex c p:=by
 unfold qZ;split;split <;> exact λh=>(by cases h)
 exact λh=>(by cases h)
def R9{K:aF}:XH K (dH C gl) (λxs H Q=>∃a o ps,xs=[V.ref a]/\H a=ai (.ext (DY a o ps))/\Q (.int ps.length) H) qZ .new:=λi j E k A st H b xs Q r w q=>by
 cases h:qZ b with
 |bad=>rw[h]at q;exact q.elim
 |ex c p=>exact bi8 h R8
 |ok d=>rw[h]at q;obtain⟨y,l,rfl,hl,rfl⟩:=R7 h;obtain⟨v,rfl,e⟩:=oO w;obtain⟨p,o,ps,m,rfl,_,f,_,_,g,_⟩:=ny e hl;refine⟨p,o,ps,rfl,f,?_⟩;rw[show ps.length=l.length by rw[<- g.1,bw]];exact q _ H (.refl _) (.flat r (.refl _) (by rw[gq] <;> simp) yz _)
noncomputable def r8:D->D->R D:=λa b=>match a,uT b with
 | .bN 2 d,ai k=>(match fC d with
  |some l=>(match l.find? (λz=>decide (z.1=k))with|some z=>if okV z.2.2=bT then .ok z.2.2 else .bad|none=>.bad)
  | none=>.bad)
 |_,_=>.bad
def Ra{a b d:D}(h:r8 a b=.ok d):∃ds k l z,a=.bN 2 ds/\uT b=ai k/\fC ds=ai l/\l.find? (λz=>decide (z.1=k))=ai z/\okV z.2.2=bT/\d=z.2.2:=by
 unfold r8 at h;split at h;rename_i ds k hk;split at h;rename_i l hl;split at h;rename_i z c;split at h;rename_i e;cases h;exact⟨ds,k,l,z,rfl,hk,hl,c,e,rfl⟩;cases h;cases h;cases h;cases h
def Rb{a b:D}{c:av}{p:Option Int}:r8 a b≠.ex c p:=by
 unfold r8;split;split;split;split <;> exact λh=>(by cases h)
 exact λh=>(by cases h)
 exact λh=>(by cases h)
 exact λh=>(by cases h)
theorem K5:∀{ps:List SP} {vs:List V} {l:List (List (List Int)×D×D)} {K:aF} {C:Cfg} {H:Hp} {k:List (List Int)} {z:List (List Int)×D×D},ps.map (·.1)=l.map (·.1)->Vals vs (ps.map (·.2.2))->aM K C H (l.map (·.2.2)) vs->l.find? (λz=>decide (z.1=k))=ai z->
  ∃p v,atKey ps k=ai p/\RelV v p.2/\Rep K C H z.2.2 v/\v∈vs
 |[],_,[],_,_,_,_,_,_,_,_,h=>by cases h
 |[],_,_::_,_,_,_,_,_,h,_,_,_=>by cases h
 |_::_,_,[],_,_,_,_,_,h,_,_,_=>by cases h
 |p::ps,vs,y::l,K,C,H,k,z,h,a,c,b=>by
  rw[bz,bz]at h;injection h with d e;rw[bz]at a;rw[bz,aM]at c;obtain⟨v,r,rfl,f,g⟩:=c;cases a with
  |cons r1 t=>
   rw[GU]at b;unfold atKey;rw[GU,d];cases hd:decide (y.1=k)with
   |true=>rw[hd]at b;cases b;exact⟨p.2,v,rfl,r1,f,.head _⟩
   |false=>rw[hd]at b;obtain⟨i,j,m,n,o,s⟩:=K5 e t g b;exact⟨i,j,m,n,o,.tail _ s⟩
def Vq(Z:X.A.units+2<cLine)(ha:PE X a (tD X.K (dH J gl) G0 L E M .loc))(hb:PE X b (tD X.K (dH J gl) G0 L E N DC))(hs:qz b):PE X (.Subscript a b pos) (tD X.K (dH J gl) G0 L E (aL r8 M N) .loc):=(Xi (aZ6 Z) ha hb hs).imp λσ H Q zz=>by
 obtain⟨A,st,r,q⟩:=zz;refine⟨A,st,r,?_⟩;unfold aL R.bind at q;cases e:M st with
 |bad=>rw[e]at q;exact q
 |ex c p=>rw[e]at q;exact q
 |ok da=>
  rw[e]at q;intro x H1 t w1;refine⟨A,st,r.mono t,?_⟩;dsimp only at q;cases f:N st with
  |bad=>rw[f]at q;exact q
  |ex c p=>rw[f]at q;exact λH' e'=>q H' (t.trans e')
  |ok db=>
   rw[f]at q;intro y w O w2;dsimp only at q;cases j:r8 da db with
   |bad=>rw[j]at q;exact q.elim
   |ex c p=>exact bi8 j Rb
   |ok d=>
    rw[j]at q;obtain⟨ds,ks,l,z,rfl,hk,hl,hz,n,rfl⟩:=Ra j;have P:=t.trans O;have C:=w1.later O;obtain⟨p,o,ps,vs,rfl,e,f,h3,h5,T,h6,_⟩:=ny C.1 hl;obtain⟨b',rfl,hb⟩:=oE w2.rep hk;have S:aG (nw G0 (er w A)) w:=(cj _ _).trans (aH _ _);refine⟨p,b',o,ps,ks,_,rfl,rfl,S _ _ f,λx m=>(h3 x m).mono S,⟨T.1,λz m=>(T.2 z m).mono S⟩,hb,λzk lu=>?_⟩;obtain⟨pv,v,g1,g2,F,g4⟩:=K5 zk e h6 hz;refine⟨pv,v,g1,g2,q v w P ⟨F,?_,?_⟩⟩;intro s;cases hd:z.2.2 with
    |lst es=>
     rw[hd,Rep]at F;obtain⟨g,U,rfl,sq,rs⟩:=F;obtain⟨I,h⟩:=h5 g g4;have g0:G0 g=aj:=by
      unfold nw at h;split at h;rename_i Y;cases i:G0 g with
      |none=>rfl
      |some u=>rw[i]at Y;have:=(r.mono P).base _ _ i;rw[h]at this;cases this;cases Y
      cases h
     refine⟨g,rfl,g0,I,h,?_⟩;have:I=U:=lu g I U (.of (S _ _ h)) (aG.seq S sq);rw[this];exact rs
    |int k=>rw[hd]at s;cases s
    |bl k=>rw[hd]at s;cases s
    |_=>rw[hd]at n;cases n
    refine qd.not ?_;cases hd:z.2.2 with
    |tup es=>rw[hd]at n;cases n
    |_=>rfl
end Dm
namespace Hk
open PySem
section
variable {K:Type}[DecidableEq K]{knd:HeapKind prog w K}{s:ay}
def zT{Q:Unit->ay->Prop}(m:knd.room A)(i:knd.is s.heap k a)(n:s.heap.DictOfH knd d xs)(Y:k∉xs.map (·.1))(hsz:xs.length<=cH)
  (o:∀h',h'.DictOfH knd d (xs++[(k,a,v)])->iA d s.heap h'->Q () {s with heap:=h'}):aC (aE prog w) A (dictSetHashed d (.ref a) (knd.hash k) v) Q E s:=by
 obtain⟨od,C,r,b,t,hd,f,c,l⟩:=n;(unfold dictSetHashed);(try with_reducible refine jb ?_);refine ak (wpAny_dictFind_heap m i b hd f c l (λ_=>?_) (λj p u=>?_));refine ak (wN (wpAny_updateDictKeys (hz:=by have e:=pD f;omega) b hd (o _ ⟨_,_,r+1,nJ _ b (Oo (BF hd _)),t.mapDictKeys _,BF hd _,?_,?_,?_⟩ (fB ..))));simp[f,qQ];intro x h;rcases i6.mp h with h|h;exact knd.keeps (c x h) b hd (fB ..);obtain rfl:=gC.mp h;exact knd.keeps i b hd (fB ..);rw[j4,xq];exact⟨l,by simp,λx h y g z=>by
  have g:y=k:=by simpa using g
  rw[z,g]at h;exact Y h⟩
 exact bi8 (aN.mpr ⟨(k,p),iK u,rfl⟩) Y
def LX{Q:Array pF->ay->Prop}(d:s.heap.DictOfH knd o ys)(lW:ys.length<=1)(t:∀y∈ys,s.TypeIs (.ref y.2.1) "tuple")(f:∀es:Array pF,es.toList=ys.map (qQ knd)->Q es s):aC (aE prog w) A (Builtin.Dict.entriesForEmpty nm o) Q E s:=by
 obtain⟨l,es,n,g,v,i,h,x,z⟩:=d;unfold Builtin.Dict.entriesForEmpty;refine ak (kB g i (ak ?_));rw[<- xx];refine mw _ (λr _ a=>a=s/\∀e∈r,e∈es.toList) _ ?_ ?_ _ _ ⟨rfl,λ_ m=>m⟩;rintro e r b a ⟨rfl,c⟩;have m:=c e (.head _);rw[h]at m;obtain⟨y,j,rfl⟩:=aN.mp m;have k:∀p:pF->Bool,(es.filter p).size<=1:=λp=>cz (Array.size_filter_le ..) (by rw[pD h];exact lW);(show aC _ _ (Builtin.Dict.quietEq (.ref y.2.1)>>=_) _ _ _);(unfold Builtin.Dict.quietEq);(refine ak (ak (pC (t y j) BH.lookup (aB ?_))));rw[bh6 (by decide)];rw[bh7 (GB.mpr (k _))];first
  |exact aB ⟨rfl,λu m=>c u (.tail _ m)⟩
  |exact ak (aB (aB ⟨rfl,λu m=>c u (.tail _ m)⟩))
 rintro b a ⟨rfl,_⟩;exact aB (f es h)
def IL{Q:Unit->ay->Prop}(hu:knd.room A)(l:d≠o)(N:(o==p7)=b4)(hd:s.heap.DictOfH knd d xs)(ho:s.heap.DictOfH knd o ys)(O:∀y∈ys,y.1∉xs.map (·.1))(lW:xs=[]->ys.length<=1)(tp:∀y∈ys,s.TypeIs (.ref y.2.1) "tuple")(hsz:xs.length+ys.length<=cH)
  (I:∀h',h'.DictOfH knd d (xs++ys)->iA d s.heap h'->Q () {s with heap:=h'}):aC (aE prog w) A (Builtin.Dict.mergeDict nm d o) Q E s:=by
 obtain⟨od,P,S,c,HB,T,U,hkd,hnd⟩:=id hd;obtain⟨oo,M,epo,f,hco,p,Tz,t,YQ⟩:=id ho;have g:ys.length=M.size:=(pD Tz).symm;(unfold Builtin.Dict.mergeDict);(rw[bh7 (by simpa using l)]);(unfold xE);(rw[bh7 (by rw[N];exact jd)]);refine ak (aB (ak (kB f p ?_)));dsimp only;split
 case' isTrue=>
  refine ak (kB c T ?_)
  split
 case' isTrue.isTrue=>
  rename_i X
  have h0:P=#[]:=Ob.mp X
  have Y:xs=[]:=by have:=pD U;rw[h0]at this;exact pK.mp this.symm
  subst Y
  refine ak (LX ho (lW rfl) tp λes Z=>?_)
  rw[dQ]at I
  split
  ·have hto:es.size<=cH+1:=by rw[pD Z];rw[nQ]at hsz;omega
   refine ak (wpAny_updateDictKeysTo c T (aB (I _ ⟨_,_,S+1,nJ _ c (Oo (BF T _)),HB.mapDictKeys _,BF T _,Z,λy m=>knd.keeps (t y m) c T (fB ..),YQ⟩ (fB ..))) hto)
  ·rename_i hne
   have h1:es=#[]:=Ob.mp (by simpa using hne)
   have n:ys=[]:=by have:=pD Z;rw[h1]at this;exact pK.mp this.symm
   subst n
   exact aB (I _ hd (Ot _ _))
 all_goals
  (refine ak (pG f p (ak (kB f p (ak ?_)))))
  (rw[Yd]);(simp only[Std.Legacy.Range.size,Nm,Bq,Nat.div_one])
  refine mw _ (λr _ s'=>∃h' i,s'={s with heap:=h'}/\r=List.range' i (M.size-i)/\i<=M.size/\h'.DictOfH knd d (xs++ys.take i)/\iA d s.heap h') _ ?_ ?_ _ _ ⟨s.heap,0,rfl,by simp,eS _,by simpa using hd,Ot _ _⟩
  ·rintro x r b s' ⟨h',i,rfl,hr,hi,J,C⟩
   have gK:i<M.size:=by
    rcases Nn i M.size with h|h
    ·exact h
    ·rw[Nat.sub_eq_zero_of_le h]at hr;cases hr
   have e1:M.size-i=(M.size-(i+1))+1:=by omega
   rw[e1,NR]at hr
   injection hr with Y PU
   subst Y
   have F:h'.get? o=ai oo:=(C.2 o (eW l)).trans f
   have hly:x<ys.length:=by rw[g];exact gK
   obtain⟨y,n⟩:∃y,ys[x]?=ai y:=⟨ys[x],cU hly⟩
   have hey:M[x]?=ai (qQ knd y):=by rw[entry_at Tz,n];rfl
   have my:y∈ys:=iK n
   refine ak (kB (s:={s with heap:=h'}) F p ?_)
   rw[hey]
   have ba0:y.1∉(xs++ys.take x).map (·.1):=λz=>by
    rw[j4]at z
    rcases i6.mp z with z|z
    ·exact O y my z
    ·obtain⟨u,hu',e⟩:=aN.mp z
     obtain⟨j,L⟩:=List.mem_iff_getElem?.mp hu'
     rw[GN]at L
     split at L
     ·rename_i hjx
      obtain⟨k,a,v⟩:=u
      obtain⟨k2,a2,v2⟩:=y
      dsimp only at e
      subst e
      have:=idxH_unique YQ L n
      omega
     ·cases L
   show aC _ _ (holding [f7 y.2.1,y.2.2] (dictSetHashed d (.ref y.2.1) (knd.hash y.1) y.2.2)>>=_) _ _ _
   refine ak (jb (zT (s:={s with heap:=h'}) hu (knd.keeps (t y my) c T C) J ba0 (by rw[bX,kF];omega) λCN ba1 H=>?_))
   have aE5:CN.get? o=ai oo:=(H.2 o (eW l)).trans F
   refine ak (pG (s:={s with heap:=CN}) aE5 p ?_)
   rw[bh7 (by simp)]
   exact aB ⟨CN,x+1,rfl,PU,gK,by
    rw[NN,n,<- fQ];exact ba1,C.trans H⟩
  ·rintro b s' ⟨h',i,rfl,hr,hi,J,C⟩
   have XO:i=M.size:=by
    rcases Nn i M.size with h|h
    ·have e1:M.size-i=(M.size-(i+1))+1:=by omega
     rw[e1,NR]at hr;cases hr
    ·exact Nl hi h
   rw[XO,<- g,xj]at J
   exact aB (I h' J C)
end
end Hk
namespace Dm
open PySem PySem.Spec PyProof.Rows L2
def XQ(K:aF):V->List V->Hp->VK->Prop:=λx e H Q=>∃a c f g b d v l,x=.ref a/\e=[.ref c]/\a≠c/\H a=ai (.ext (DY a f b))/\H c=ai (.ext (DY c g d))/\(∀p∈b,lO K H p.1 p.2.1)/\(∀p∈d,lO K H p.1 p.2.1)/\KL K H b v/\KL K H d l/\
 (∀k∈l,k∉v)/\(b=[]->d.length<=1)/\b.length+d.length<=cH/\∀o,b.map (·.1)=v->d.map (·.1)=l->Q .cR (upd H a (.ext (DY a o (b++d))))
def Vr(t:X.A.units+2<cLine):MtR X "dict.update" (XQ X.K):=by
 intro ao s σ H x xs v us Q I A C h;obtain ⟨a,c,oa,oc,ps,qs,vE,E,rfl,rfl,n,i,F,f,d,J,L,g,lW,j,q⟩:=h;cases A;obtain ⟨u,rfl,M⟩:=vals1 C;cases M;obtain ⟨k,N,_⟩:=oB I i f;obtain ⟨l,O,_⟩:=oB I F d;have o:=keys_eq I f J;have p:=keys_eq I d L;have r:=k.typeIs;have e:=l.typeIs;refine iy OC r PySem.F.entry_dict_update ?_ (PySem.F.args_dict_update_2 _ _);(unfold Builtin.«dict.update»);(refine ak ?_);(unfold Builtin.Dict.selfAndRest);(refine ak (Gs r ?_));(show aC _ _ (pure (a,[f7 c])) _ _ s);(refine aB ?_);(show aC _ _ (Builtin.Dict.updateFrom "dict.update" a (.ref c) [] .none) _ _ s);(unfold Builtin.Dict.updateFrom);(refine ak (wR e ?_));(rw[bh7 (by decide)]);(refine ak ?_);(unfold Builtin.Dict.merge);(refine ak ?_);(unfold Builtin.Dict.readDirectly);(refine ak (rg e isSubtype_dict_dict ?_));(simp only[j6,d9,bi4]);(refine ak (pC e PySem.F.slot_dict_iter.lookup (aB ?_)));(simp only[bi7,bi5]);refine ak (aB (Hk.IL (knd:=Hk.kM (intKind X.prog X.w)) (show X.A.units+1+1 < cLine from t) n O k l (λy m=>?_) lW (λy m=>?_) j λP dd S=>?_));rw[o];exact g _ (by rw[<- p];exact aN.mpr ⟨y,m,rfl⟩);exact(oA I (d y m)).tuple;(show aC _ _ (Builtin.Dict.addKeywords a []>>=_) _ _ _);(refine ak (aB (aB ⟨.none,rfl,?_⟩)));have T:∃q,P.get? a=ai q:=let ⟨q,_,_,U,_⟩:=dd;⟨q,U⟩;obtain ⟨Y,Z⟩:=DY.of N (by rw[bX];exact j) dd;exact⟨.cR,_,I.write (t':=s.toks) (x:=a) (e:=a) (by rw[i];trivial) (.inl rfl) (λb w hb z=>(S.2 b hb).trans z) T (EN Z),rfl,q _ o p⟩
def aE7(r:V->List V->Hp->VK->Prop)(to:TE)(t:TA):TE:=λb H Q=>to b H λx H1=>(∃a o p,x=.ref a/\H1 a=ai (.ext (DY a o p)))/\t b H1 λc d=>r x c d Q
def ab6{to:TE}{t:TA}{name:Str}{c j:Pos}{id:String}{r:V->List V->Hp->VK->Prop}(d:PySem.Slot "dict" name id)(f:typeOf (.builtin id)=pure (.type "method_descriptor"))(w:MtR X id r)(y:PE X o to)(A:PA X (e::es) t)
  (C:autoParam (p8 o name X.env (eval o X.env)=eval o X.env) b5)
  (Y:autoParam (((backTo j (bF (e::es) X.env)).all (λx=>!x.1)&&(backToKw j (keywordEach [] X.env)).all (λx=>x.1.isSome)
   && decide ((e::es).length+([]:List Keyword).length+(if([]:List Keyword).isEmpty then 0 else 1)<30))=bT) b5)
  (E:autoParam ((c.endLine==j.line)=bT) b5) (hs:autoParam (bF (e::es) X.env=(b4,eval e X.env)::bF es X.env) b5) (F:autoParam ((backTo j (bF es X.env)).any (·.1)=b4) b5) :
  PE X (.Call (.Attribute o name c) (e::es) [] j) (aE7 r to t):=by
 intro g s i H Q I h;refine MX C Y E rfl (ig (y g s i H _ I h) λv l z=>?_);obtain⟨x,H1,m,r1,⟨a,k,J,rfl,L⟩,M⟩:=z;cases r1;obtain⟨⟨_,_,n,p,_⟩,_,_⟩:=(show gP X.prog X.w H1 l.heap a (.ext (DY a k J))from m.fE a _ L)
 refine⟨"dict",id,OD,d,f,⟨k,n,p.1⟩,λb e=>?_,?_⟩;cases e;exact⟨k,n,p.2.1⟩;have u:=A j g l i H1 _ m M;rw[hs]at u ⊢;refine GY (by show(b4 || (backTo j (bF es X.env)).any (·.1))=b4;rw[F] <;> rfl) (GZ ?_);exact ig u λN O z=>by obtain⟨P,S,T,r2,U⟩:=z;exact w g O i S (.ref a) P (.ref a) N Q T rfl r2 U
noncomputable def LY(i:Nat)(f:DF):DS:=λst=>match gv st[i]? with
 | some z=>(match f st with
  | .ok d=>(match gv (ai (ai d))with
   |some y=>if z.2.length+y.2.length<=5000/\(∀k∈y.2.map (·.1),k∉z.2.map (·.1))/\(z.2=[]->y.2.length<=1)then .nx (st.set i (ai (.bN 2 (z.1++y.1))))else .bad
   | none=>.bad)
  |.ex c p=>.ex c p st
  | .bad=>.bad)
 |none=>.bad
def Rf{ps:List SP}{vs:List V}(h:vs.length=ps.length):nt (ps++a) (vs++ws)=nt ps vs++nt a ws:=by
 unfold nt;rw[NQ h.symm,pN]
theorem Vals.LU:∀{vs ws:List V} {u a:List au},Vals vs u->Vals ws a->Vals (vs++ws) (u++a)
 |_,_,_,_,.nil,h=>h
 |_,_,_,_,.cons r t,h=>.cons r (Vals.LU t h)
def ab7(h:PE X e (aE7 (XQ X.K) (rK i) (vg (tD X.K (dH C gl) G0 Q E f κ) HS)))(na:nc Q=bT)(hk:autoParam (Q[i]?=ai (.own n)) b5)(hl:autoParam (κ.le (ZN n)=bT) b5)(hs:autoParam (swapsWith e aj pos.line X.env=pure b4) b5) :
  PS X (.Expr e pos) (lV X.K (dH C gl) G0 Q E iU (LY i f)):=(sH h hs).imp λD σ H zz=>by
 obtain⟨A,st,r,q⟩:=zz;unfold LY at q;cases t:gv st[i]? with
 |none=>rw[t]at q;exact q.elim
 |some z=>
  rw[t]at q;obtain⟨t,s⟩:=nB t;obtain⟨ds,l⟩:=z;dsimp only at q t s;obtain⟨p,h1,T,h3,t2,xs,ow,h5⟩:=r.IB hk t rfl;obtain⟨ob,b,U,rfl,u,hp,kp,pl⟩:=ow;refine⟨_,h1,⟨p,ob,b,rfl,hp⟩,A,st,r,?_⟩;cases Y:f st with
  |bad=>rw[Y]at q;exact q
  |ex c p=>rw[Y]at q;exact λH' e'=>q σ H' A (r.mono e') (aJ e')
  |ok d=>
   rw[Y]at q;dsimp only at q;intro v H1 j w1;cases Z:gv (ai (ai d))with
   |none=>rw[Z]at q;exact q.elim
   |some y=>
    rw[Z]at q;obtain⟨hd,Rg⟩:=nB Z;obtain⟨zG,M⟩:=y;cases hd;dsimp only at q Rg;by_cases F:l.length+M.length<=5000/\(∀k∈M.map (·.1),k∉l.map (·.1))/\(l=[]->M.length<=1);rw[bh6 F]at q;have r':=r.mono j;have S:aG (eh n G0 A H) (eh n G0 A H1):=by unfold eh;cases n;exact aJ j;exact bR (aJ j)
    have S2:aG (eh n G0 A H1) H1:=by unfold eh;cases n;exact aH _ _;exact(cj _ _).trans (aH _ _)
    have q5:aM X.K (dH C gl) (eh n G0 A H1) ds (nt b U):=h5.same S _;have g:U.length=b.length:=by rw[tG u,bw]
    obtain⟨_,i2,_,_⟩:=qh g q5 s;have I:∀x∈b,lO X.K (eh n G0 A H1) x.1 x.2.1:=λx m=>(kp x m).mono S;have wd:Rep X.K (dH C gl) (eh n G0 A H1) (.bN 2 zG) v:=w1.ZN r j hl;have J:=wd;obtain⟨c,oc,o,ws,rfl,g1,g2,N,g5,L,g6,_⟩:=ny wd Rg;rw[Rep]at J;have O:∃oc' a w,Vals w (a.map (·.2.2))/\eh n G0 A H1 c=ai (.ext (DY c oc' a))/\(∀x∈a,lO X.K (eh n G0 A H1) x.1 x.2.1)/\(∀l,V.ref l∈w->∃P,eh n G0 A H1 l=ai (.lst P))/\aM X.K (dH C gl) (eh n G0 A H1) zG (nt a w):=by obtain⟨c',P,zc,UC,rs⟩:=J;cases zc;rcases UC with(⟨z,_⟩|⟨c,z,_⟩)|⟨z,_⟩|⟨_,o',Zd,XF,rfl,k2,k3,k4,k5⟩;cases z;unfold V5 at z;lia;cases z;exact⟨o',Zd,XF,k2,k3,k4,k5,rs⟩
    clear g1 g2 N g5 L g6;obtain⟨oc,o,ws,g1,g2,N,g5,O⟩:=O;have aE8:ws.length=o.length:=by rw[tG g1,bw]
    obtain⟨_,L,_,_⟩:=qh aE8 O Rg;have npc:p≠c:=λz=>by
     subst z;unfold eh at g2;cases n with
     |true=>have:=cj _ _ _ _ g2;rw[dG T]at this;cases this
     |false=>rw[bh7 (by decide),dG T]at g2;cases g2
    have e1l:l.length=b.length:=by have:=i2.1;rw[bw]at this;exact this
    have e2l:M.length=o.length:=by have:=L.1;rw[bw]at this;exact this
    refine⟨p,c,ob,oc,b,o,_,_,rfl,rfl,npc,j _ _ hp,S2 _ _ g2,λx m=>(I x m).mono S2,λx m=>(N x m).mono S2,⟨i2.1,λz m=>(i2.2 z m).mono S2⟩,⟨L.1,λz m=>(L.2 z m).mono S2⟩,F.2.1,λz=>?_,?_,λoa' _ _=>?_⟩;rw[<- e2l];exact F.2.2 (pK.mp (by rw[e1l,z];rfl));rw[gf];have:=F.1;lia;have own:mQ X.K (dH C gl) (eh n G0 A H1) (upd H1 p (.ext (DY p oa' (b++o)))) p (.bN 2 (ds++zG)):=by refine⟨rfl,nt (b++o) (U++ws),⟨_,_,_,rfl,by rw[j4];exact Vals.LU u g1,bM,λx m=>?_,λl' m=>?_⟩,?_⟩;rcases i6.mp m with m|m;exact I x m;exact N x m;rcases i6.mp m with m|m;obtain⟨P,z⟩:=pl l' m;exact⟨P,S _ _ z⟩;exact g5 l' m;rw[Rf g];exact aM.LU q5 O
    obtain⟨r2,e3⟩:=r'.ZM na hk t h1 T h3 rfl rfl own;exact q _ _ A r2 ((aJ j).trans e3);rw[bh7 F]at q;exact q.elim
end Dm
namespace Hk
open PySem
def IM{Q:au->ay->Prop}(a:s.heap.get? d=ai od)(b:od.ExactDict)(hd:(d==p7)=b4)(c:Q (.ref s.heap.objs.size) {s with heap:=s.heap.push {cls:=.type "dict_items",data:=.fields #[.ref d]}}):aC (aE prog w) A (call (.builtin "dict.items") [.ref d]) Q E s:=by
 have h:s.TypeIs (.ref d) "dict":=⟨od,a,b.1⟩
 refine iy F.slot_dict_items h F.entry_dict_items ?_ (F.args_dict_items_1 _);(unfold Builtin.«dict.items»);(refine ak ?_);(unfold Builtin.Dict.noArgs);(refine ak (Gs h ?_));(show aC _ _ (pure d) _ _ s);(refine aB ?_);(show aC _ _ (xE d>>=_) _ _ s);(unfold xE);(rw[bh7 (by rw[hd];exact jd)]);exact ak (aB (ak (kN (aB ⟨_,rfl,c⟩))))
def IP{Q:au->ay->Prop}(h:s.heap.IsItemsView v d)(c:s.heap.get? d=ai od)(j:od.data=.dict es ep)
  (e:Q (.ref s.heap.objs.size) {s with heap:=s.heap.push {cls:=.type "dict_itemiterator",data:=.fields #[.none,.bool b4,.ref d,.int 0 0,.int es.size 0,.int ep 0,.none,.none]}}):aC (aE prog w) A (pyIter (.ref v)) Q E s:=by
 obtain ⟨o,a,f,b⟩:=id h;refine Bk h.typeIs OE (iy OE h.typeIs F.entry_dict_items_iter ?_ (F.args_dict_items_iter_1 _));(unfold Builtin.«dict_items.__iter__»);(refine ak (aB (ak ?_)));(unfold Builtin.Dict_items.dictOf);(refine ak (mh a b (x:=.ref d) rfl (aB (ak ?_))));(unfold Builtin.Dict_items.newIterator);(refine ak (kB c j (ak (pG c j ?_))));(have own:xF "dict_itemiterator" =bT:=by decide);(simp only[own,bi5]);refine kN (aB ⟨_,rfl,"dict_itemiterator",_,⟨_,eY _ rfl,rfl⟩,xB.lookup,by simpa[rawInt,Builtin.Dict_items.ownedTupleFields] using e⟩) (by
  simp only[sizeOk,Builtin.Dict_items.ownedTupleFields,dP,bX,cS,nQ,gf];omega)
def IQ{Q:Option au->ay->Prop}(c:IsItemIter s.heap it d i es.size ep ok n)(M:s.heap.get? d=ai od)(N:od.data=.dict es ep)(O:es[i]?=ai e)
  (U:∀h',IsItemIterOut h' it d (i+1) es.size ep e.key e.val s.heap.objs.size->h'.get? s.heap.objs.size=ai {cls:=.type "tuple",data:=.seq #[e.key,e.val]}->h'.objs.size=s.heap.objs.size+1->
   (∀b o,b≠it->s.heap.get? b=ai o->h'.get? b=ai o)->Q (ai (.ref s.heap.objs.size)) {s with heap:=h'}):aC (aE prog w) A (pyNext (.ref it)) Q E s:=by
 obtain⟨h,g,dr,tk,j⟩:=s;have f:Shared.TypeIs ⟨h,g,dr,tk,j⟩ (.ref it) "dict_itemiterator":=⟨_,c,rfl⟩
 have own:xF "dict_itemiterator"=bT:=by decide
 have X:i<es.size:=(pQ.mp O).1;have Y:es[i]=e:=(pQ.mp O).2;unfold pyNext;refine ak (pB (p9 (name:=kI "__next__") f xB (iy xB f OF ?_ (OG _))));(refine ak (aB (ak (ak ?_))));(first|refine ak (Bl f (aB ?_))|refine ak (Bm f (aB ?_)));(refine ak (tZ c rfl ?_));(simp only[own,bi5]);(show aC _ _ (if(f7 d==eL)=bT then _ else _) _ _ _);(rw[bh7 (show ¬ ((f7 d==eL)=bT)from jd)]);(refine ak (aB (ak (kB M N ?_))));(rw[bh7 (by simp)]);(refine ak (aB (ak (pG M N ?_))));(rw[bh7 (by simp)]);(refine aB ?_);(simp only[show ¬ ((i:Int)<0)from by omega,bi4,kJ,xw X,Y]);(refine ak ?_);(first|refine ak (Bl f (aB ?_))|refine ak (Bm f (aB ?_)));(refine ak (Gu f ?_));(show aC _ _ (setField (.ref it) 3 (rawInt ((i:Int)+1))>>=_) _ _ ⟨h,g,dr,tk,j⟩);(refine ak (wW c (by simp) λa f1 p=>?_));replace p:iA it h a:=p;replace f1:IsItemIter a it d (i+1) es.size ep ok n:=by
  have z:((i+1:Nat):Int)=(i:Int)+1:=by omega
  unfold IsItemIter;rw[z];simpa[rawInt]using f1
 have k:Shared.TypeIs ⟨a,g,dr,tk,j⟩ (.ref it) "dict_itemiterator":=⟨_,f1,rfl⟩
 refine ak (jb (ak (Gu k (ak (Gu k ?_)))));(show aC _ _ (Builtin.Dict_items.pairFromOwner (.ref it) 6 e.key e.val) _ _ ⟨a,g,dr,tk,j⟩);(unfold Builtin.Dict_items.pairFromOwner);(refine ak (Gh ?_));have f2:IsItemIter (a.push {cls:=.type "tuple",data:=.seq #[e.key,e.val]}) it d (i+1) es.size ep ok n:=bP _ f1;have x:a.objs.size=h.objs.size:=p.1;have y:h.objs.size≠it:=DH (bZ c);have P:(a.push {cls:=.type "tuple",data:=.seq #[e.key,e.val]}).get? h.objs.size=ai {cls:=.type "tuple",data:=.seq #[e.key,e.val]}:=by rw[<- x];exact eY _ rfl
 have S:(a.push {cls:=.type "tuple",data:=.seq #[e.key,e.val]}).objs.size=h.objs.size+1:=by rw[Ao,x]
 have T:∀b o,b≠it->h.get? b=ai o->(a.push {cls:=.type "tuple",data:=.seq #[e.key,e.val]}).get? b=ai o:=λb o hb q=>bP _ (p.extBut b o hb q);rw[x];generalize a.push {cls:=.type "tuple",data:=.seq #[e.key,e.val]}=C at f2 P S T ⊢;(show aC _ _ (Builtin.Dict_items.ownedTupleIsFree (.ref it)>>=_) _ _ ⟨C,g,dr,tk,j⟩);(refine ak ?_);(unfold Builtin.Dict_items.ownedTupleIsFree);(refine ak (mh f2 rfl (x:=.none) rfl (aB ?_)));simp only[bi5];refine ak (mh f2 rfl (x:=ok) rfl (ak (mh f2 rfl (x:=n) rfl (ak (wW f2 (by simp) λF f3 r=>?_)))));replace r:iA it C F:=r;replace f3:IsItemIter F it d (i+1) es.size ep e.key n:=f3;refine ak (wW f3 (by simp) λH f4 t=>?_);replace t:iA it F H:=t;replace f4:IsItemIter H it d (i+1) es.size ep e.key e.val:=f4;refine ak (wW f4 (by simp) λI J u=>?_);replace u:iA it H I:=u;replace J:IsItemIterOut I it d (i+1) es.size ep e.key e.val h.objs.size:=J;refine ak (wW J (by simp) λl L v=>?_);replace v:iA it I l:=v;replace L:IsItemIterOut l it d (i+1) es.size ep e.key e.val h.objs.size:=L;have m:∀b o,b≠it->C.get? b=ai o->l.get? b=ai o:=λb o hb q=>v.extBut b o hb (u.extBut b o hb (t.extBut b o hb (r.extBut b o hb q)));exact ak (Gr (aB (aB ⟨_,rfl,aB (U l L (m _ _ y P) (by show l.objs.size=_;rw[v.1,u.1,t.1,r.1,S]) λb o hb q=>m b o hb (T b o hb q))⟩)))
def LZ{Q:Option au->ay->Prop}(c:A.handled=aj)(h:IsItemIter s.heap it d i es.size ep ok o)(b:s.heap.get? d=ai od)(j:od.data=.dict es ep)(e:es.size<=i)
  (f:∀h',Heap.ExtBut it s.heap h'->Q aj {s with heap:=h'}):aC (aE prog w) A (pyNext (.ref it)) Q E s:=by
 have a:s.TypeIs (.ref it) "dict_itemiterator":=⟨_,h,rfl⟩
 have own:xF "dict_itemiterator"=bT:=by decide
 unfold pyNext;refine ak (pB (p9 (name:=kI "__next__") a xB (iy xB a OF ?_ (OG _))));(refine ak (aB (ak (ak ?_))));(first|refine ak (Bl a (aB ?_))|refine ak (Bm a (aB ?_)));(refine ak (tZ h rfl ?_));(simp only[own,bi5]);(show aC _ _ (if(f7 d==eL)=bT then _ else _) _ _ s);(rw[bh7 (show ¬ ((f7 d==eL)=bT)from jd)]);(refine ak (aB (ak (kB b j ?_))));(rw[bh7 (by simp)]);(refine ak (aB (ak (pG b j ?_))));(rw[bh7 (by simp)]);(refine aB ?_);(simp only[show ¬ ((i:Int)<0)from by omega,bi4,kJ,rD e]);(refine ak ?_);(first|refine ak (Bl a (aB ?_))|refine ak (Bm a (aB ?_)));(show aC _ _ (setField (.ref it) 2 .none>>=_) _ _ s);(refine ak (r9 h rfl (by simp) ?_));(show aC _ _ (newExc (.type "StopIteration") []>>=_) _ _ _);(refine ak ?_);(simp only[newExc,newTuple]);(refine ak (kN ?_ (by size_fits)));(refine ak (m:=u0 _ _) (rf (a:=eL) (by first|rfl|(simp only[u0];rfl)) ?_));(refine kN ?_ (by size_fits));(simp only[raiseNew]);(refine ak (Gj ?_));(rw[show A.in1.handled=aj from c]);(refine ak (aB (Gk ?_)));(refine ak (rg (T:="StopIteration") (b:=bT) ⟨_,eY _ rfl,rfl⟩ Gm ?_));exact aB (f _ (((fB ..).extBut.push _).push _))
end Hk
namespace Dm
open PySem PySem.Spec PyProof.Rows L2
noncomputable def ItY(a:av)(o:Obj)(ps:List SP)(vs:List V):It:=
 ⟨λi H=>H a=ai (.ext (DY a o ps))/\i<ps.length,λi H x b=>∃T p y,ps[i]?=ai p/\vs[i]?=ai y/\H T=aj/\b=upd H T (.tup [.ref p.2.1,y])/\x=.ref T,λi H=>H a=ai (.ext (DY a o ps))/\ps.length<=i⟩
def IS:entryFor table "dict_itemiterator.__iter__" =ai Builtin.«dict_keyiterator.__iter__» :=
 entryFor_alias (id':="dict_keyiterator.__iter__") (by kernel_rfl) (by first|rfl|decide +kernel) (by decide +kernel) (by kernel_rfl)
theorem EW:∀{vs:List V} {a:List au} {i:Nat} {u:au},Vals vs a->a[i]?=ai u->∃v,vs[i]?=ai v/\RelV v u
 |_,_,_,_,.nil,h=>by cases h
 |_,_,0,_,.cons r t,h=>by cases h;exact⟨_,rfl,r⟩
 |_,_,i+1,_,.cons r t,h=>let⟨v,b,c⟩:=EW t (i:=i) h;⟨v,b,c⟩
def EX{P:dz}{w:bL}{K:aF}{l:List bq}{x1}{L:Pos}{a d:av}{o:Obj}{ps:List SP}{vs:List V}{es:Array pF}{ep:Nat}(ja:o.data=.dict es ep)(M:Vals vs (ps.map (·.2.2)))(x:∀(P:dz) (w:bL),es.toList=ps.map (qQ (Hk.kM (intKind P w)))) :
  Turn P w K (.Tuple l x1 L) (ItY a o ps vs) [d] d (λi h=>∃ok g,IsItemIter h d a i es.size ep ok g) where
 mem:=by simp
 obj:=λi h st b hb=>by
  obtain⟨ok,g,f⟩:=st;obtain rfl:b=d:=by simpa using hb
  exact⟨_,f,λv z=>by cases z⟩
 keep:=λi h m st k=>by
  obtain⟨ok,g,f⟩:=st;exact⟨ok,g,k d (by simp) _ f⟩
 item:=by
  intro X N O S hc i T s U H E I C st Y;subst N O S;obtain⟨ok,g,f⟩:=st;obtain⟨Z,hi⟩:=Y;obtain⟨⟨JO,hz,ho,hx,_⟩,_,_⟩:=(show gP X.prog X.w H s.heap a (.ext (DY a o ps))from I.fE a _ Z)
  have x:=x X.prog X.w;obtain⟨p,hp⟩:∃p,ps[i]?=ai p:=⟨ps[i],cU hi⟩
  obtain⟨y,hy,ry⟩:=EW M (i:=i) (u:=p.2.2) (by rw[d8,hp];rfl);have hen:es[i]?=ai (qQ (Hk.kM (intKind X.prog X.w)) p):=by rw[entry_at x,hp];rfl
  have fi:=C d (by simp);have j:H s.heap.objs.size=aj:=I.fE.fresh (b9 _);refine Hk.IQ f ho ja hen λm CJ r hsz hk=>⟨_,rfl,?_⟩
  have F:∀b o,b∉[d]->s.heap.get? b=ai o->m.get? b=ai o:=λb o hb q=>hk b o (λz=>hb (by simp[z])) q;have lt:∀b o,s.heap.get? b=ai o->b≠s.heap.objs.size:=λb o q=>dM (bZ q);have I1:L2.Inv X T U (upd H s.heap.objs.size (.tup [.ref p.2.1,y])) {s with heap:=m}:=by
   refine Inv.DU I (s':={s with heap:=m}) (ch:=[d]) rfl ⟨λb o q n nf nx=>F b o nx q,λb o q n nf nx=>⟨o.slots,F b o nx q⟩,λb o q n nx=>?_,λb o q nx=>⟨o,F b o nx q⟩,λb ys q=>?_,λb o u' q=>?_,λb zp zr q=>?_⟩ (λb o q=>?_) I.bare (λb hb=>?_);rw[aS (lt b o q)];exact n;rw[aS (bg q j)];exact q;rw[aS (bg q j)];exact q;rw[aS (bg q j)];exact q;by_cases hb:b=s.heap.objs.size;subst hb;rw[bM]at q;cases q;exact⟨by simp only[cS,nQ];rw[gf];decide,[.ref p.2.1,p.2.2],.cons rfl (.cons ry .nil),⟨_,r,rfl,0,rfl⟩⟩;rw[aS hb]at q;refine(I.fE b o q).zI (λc v J z=>F c v ?_ z) (λc z=>by rw[aS (bg z j)];exact z) (λc ys z=>by rw[aS (bg z j)];exact z) λc zo ys z=>by rw[aS (bg z j)];exact z
   intro hm;obtain rfl:c=d:=by simpa using hm
   rcases J with rfl|J;rw[fi.1]at q;cases q;rw[fi.1]at J;cases J;refine vL (C b hb) λt f1 f2 f3 f4 u=>?_;exact⟨f3,f1,f4,u⟩
  have ni:d≠s.heap.objs.size:=lt d _ f;obtain⟨t,f1,f2,f3,f4,u⟩:=fi;refine wpAny_letOwnedTupleGo_items CJ λh2 Tp YJ=>?_;have I2:L2.Inv X T U (upd H s.heap.objs.size (.tup [.ref p.2.1,y])) {s with heap:=h2}:=I1.turned (t':=s.toks) (λb o hb q=>(YJ.2 b hb).trans q) (by rw[aS ni];exact t) f1 f3 f4 u;refine⟨.ref s.heap.objs.size,_,I2,rfl,⟨_,p,y,hp,hy,j,rfl,rfl⟩,⟨_,_,Tp⟩,λb hb=>?_⟩;obtain rfl:b=d:=by simpa using hb
  rw[aS ni];exact t
 done:=by
  intro X N O S hc i T s U H E I C st Y;subst N O S;obtain⟨ok,g,f⟩:=st;obtain⟨Z,hi⟩:=Y;obtain⟨⟨JO,hz,ho,hx,_⟩,_,_⟩:=(show gP X.prog X.w H s.heap a (.ext (DY a o ps))from I.fE a _ Z)
  obtain⟨t,f1,f2,f3,f4,u⟩:=C d (by simp);exact Hk.LZ (I.ok.hd hc) f ho ja (by rw[pD (x X.prog X.w)];exact hi) λm eb=>⟨rfl,I.turned (t':=s.toks) (λb o hb e=>eb b o hb e) t f1 f3 f4 u⟩
 self:=λA i s Q E st h=>by
  obtain⟨ok,g,f⟩:=st;have r:s.TypeIs (.ref d) "dict_itemiterator":=⟨_,f,rfl⟩
  exact Bk r OH (iy OH r IS (by
   show aC _ _ (ret (.ref d)) _ _ s;exact aB ⟨_,rfl,"dict_itemiterator",_,r,PySem.F.slot_dict_itemiterator_next.lookup,h⟩) (PySem.F.args_dict_itemiterator_iter_1 _))
def ba3(to:TE):TI:=λb H R=>to b H λx H1=>∃a o p v,x=.ref a/\H1 a=ai (.ext (DY a o p))/\Vals v (p.map (·.2.2))/\R (ItY a o p v) H1
def M1{to:TE}{c k t:Pos}(n:PE X o to)(p:autoParam (p8 o "items" X.env (eval o X.env)=eval o X.env) b5)(w:autoParam ((c.endLine==k.line)=bT) b5):PI X (.Tuple elts O t) (.Call (.Attribute o "items" c) [] [] k) (ba3 to):=by
 intro y s A H R I h;refine wpAny_Call_method0_late p w (ig (n y s A H _ I h) λv d C=>?_);obtain⟨x,H1,f,r1,a,g,E,P,rfl,F,r,J⟩:=C;cases r1;obtain⟨⟨L,Q,i,j,es,ep,l,M,S⟩,_,_⟩:=(show gP X.prog X.w H1 d.heap a (.ext (DY a g E))from f.fE a _ F)
 refine⟨"dict","dict.items",OD,PySem.F.slot_dict_items,PySem.F.type_dict_items,⟨g,i,j.1⟩,λb e=>?_,?_⟩;cases e;exact⟨g,i,j.2.1⟩;refine GY rfl (PySem.evalArgs_none (Hk.IM i j L ?_));refine Hk.IP (d:=a) (od:=g) (es:=es) (ep:=ep) ⟨_,eY _ rfl,rfl,rfl⟩ (bP _ i) l ?_;have N:∀b u,d.heap.get? b=ai u->((d.heap.push {cls:=.type "dict_items",data:=.fields #[.ref a]}).push {cls:=.type "dict_itemiterator",data:=.fields #[.none,.bool b4,.ref a,.int 0 0,.int es.size 0,.int ep 0,.none,.none]}).get? b=ai u:=λb u z=>bP _ (bP _ z);refine⟨_,[_],_,_,H1,rfl,f.kept (t':=d.toks) N,EX l r M,⟨_,_,eY _ rfl⟩,λb hb=>?_,J⟩;have m:d.heap.objs.size<=b:=by
  obtain rfl:b=_:=by simpa using hb
  exact wY _
 exact f.KR m (f.fE.fresh m)
noncomputable def IT(f:DF):DI:=λst=>match f st with
 |.ok d=>(match gv (ai (ai d))with|some y=>.ok (y.2.map λt=>.tup [t.2.1,t.2.2])|none=>.bad)
 |.ex c p=>.ex c p
 |.bad=>.bad
def Rh{b M:Pos}(Z:PE X o (tD X.K (dH N gl) G0 Γ E f κ))(l:z=bT->κ.le .old=bT)(xX:autoParam (p8 o "items" X.env (eval o X.env)=eval o X.env) b5)(xY:autoParam ((b.endLine==M.line)=bT) b5) :
  PI X (.Tuple elts x1 tp) (.Call (.Attribute o "items" b) [] [] M) (IG X.K (dH N gl) G0 Γ E z (IT f)):=(M1 Z xX xY).imp λσ H Q zz=>by
 obtain⟨A,st,r,q⟩:=zz;refine⟨A,st,r,?_⟩;unfold IT at q;cases s:f st with
 |bad=>rw[s]at q;exact q
 |ex c p=>rw[s]at q;exact q
 |ok d=>
  rw[s]at q;dsimp only at q;intro v H1 O w;cases u:gv (ai (ai d))with
  |none=>rw[u]at q;exact q.elim
  |some y=>
   rw[u]at q;obtain⟨hd,P⟩:=nB u;obtain⟨ds,g⟩:=y;cases hd;dsimp only at q P;have w':Rep X.K (dH N gl) (er H1 (zB z A)) (.bN 2 ds) v:=by
    unfold zB;cases z with
    |true=>exact w.le r O (κ':=.old) (l rfl)
    |false=>rw[bh7 (by decide),jN];exact w.rep
   obtain⟨a,S,k,vs,rfl,g1,g2,g3,g5,g4,g6,g7⟩:=ny w' P;have U:k.length=g.length:=by rw[<- g4.1,bw]
   refine⟨a,S,k,vs,rfl,aH _ _ _ _ g2,g1,q _ _ O λi C F n nA=>⟨λd hd=>?_,λhd=>?_⟩⟩;rw[d8]at hd;cases e:g[i]? with
   |none=>rw[e]at hd;cases hd
   |some t=>
    rw[e]at hd;cases hd;have hi:i<k.length:=by rw[U];exact(eN.mp e).1
    have ga:C a=ai (.ext (DY a S k)):=(n.trans (aH _ _)) _ _ g2;refine⟨⟨ga,hi⟩,λx H' oV=>?_⟩;obtain⟨T,p,y,hp,MN,I,hH,ex⟩:=oV;subst hH ex;obtain⟨v1,h,J⟩:=g6.get' (show(g.map (·.2.2))[i]?=ai t.2.2 by rw[d8,e];rfl);rw[MN]at h;cases h;obtain⟨v2,j,L⟩:=g7.get' (show(g.map (·.2.1))[i]?=ai t.2.1 by rw[d8,e];rfl);rw[d8,hp]at j;cases j;have nT:T∉F:=λm=>nA T m I;refine⟨cI I,?_⟩;have Y:aG (er C F) (er (upd C T (.tup [.ref p.2.1,y])) F):=aJ (cI I);rw[Rep];refine⟨T,_,rfl,.inl (.inl (by rw[aU nT,bM])),?_⟩;rw[aM];refine⟨_,[y],rfl,L.same (n.trans Y) _,?_⟩;rw[aM];refine⟨y,[],rfl,J.same (n.trans Y) _,?_⟩;rw[aM]
   rw[d8]at hd;have hn:g[i]?=aj:=by cases e:g[i]? with|none=>rfl|some t=>rw[e]at hd;cases hd
   exact⟨(n.trans (aH _ _)) _ _ g2,by rw[U];exact nR.mp hn⟩
noncomputable def EY(s:Str)(f:DF):DF:=λst=>match f st with
 |.ok d=>(match d with |.lst a=>.ok (.tup [.str s,.lst a])|_=>.bad)
 |.ex c p=>.ex c p
 |.bad=>.bad
def Vs(n:PE X c (tD X.K C G0 k E (dC (.str s)) .new))(o:PE X e (tD X.K C G0 k E f .loc))(h1:autoParam (bF [c,e] X.env=[(b4,eval c X.env),(b4,eval e X.env)]) b5)(l:autoParam (bF [e] X.env=[(b4,eval e X.env)]) b5) :
  PE X (.Tuple [c,e] O pos) (tD X.K C G0 k E (EY s f) .loc):=(BU (gF n (gF o l7 l) (by rw[h1,l]))).imp λP H Q t=>by
 obtain⟨A,st,r,q⟩:=t;refine⟨A,st,r,?_⟩;intro S H1 b x;refine⟨A,st,r.mono b,?_⟩;unfold EY at q;cases g:f st with
 |bad=>rw[g]at q;exact q
 |ex c p=>rw[g]at q;exact λy F=>q y (b.trans F)
 |ok d=>
  rw[g]at q;cases d with
  |lst T=>dsimp only at q;intro v i I w;have m:=b.trans I;refine⟨by simp only[cS,nQ];rw[gf];decide,λp j=>q _ _ (m.trans (cI j)) ?_⟩;have h:=x.rep;rw[Rep]at h;subst h;have u:aG (nw G0 (er i A)) (nw G0 (er (upd i p (.tup [.str s,v])) A)):=bR (aJ (cI j));have a:nw G0 (er (upd i p (.tup [.str s,v])) A) p=ai (.tup [.str s,v]):=AN (κ:=.loc) r m j;obtain⟨J,rfl,g0,L,M,N⟩:=w.2.1 rfl;refine⟨?_,λz=>(by cases z),λU Y z=>?_⟩;rw[Rep];exact⟨p,_,rfl,.of a,.cons (by rw[Rep]) (.cons (w.1.same u _) (by rw[aM]))⟩;cases z;exact⟨p,J,L,rfl,.of a,g0,u _ _ M,N.same (aJ u) _⟩
  |_=>exact q.elim
def aF1(K:aF)(tk t:TE):TE:=λc H Q=>∀p o,H p=aj->tk c (upd H p (.ext (DY p o []))) λx H1=>t c H1 λy a=>a p=ai (.ext (DY p o []))/\∃b k,x=.ref b/\lO K a k b/\∀u d,RelV y u->Q (.ref p) (upd a p (.ext (DY p d [(k,b,u)])))
def Vt(p:X.A.units+1<cLine)(hk:PE X k tk)(t:PE X e v):PE X (.Dict [ai k] [e] pos) (aF1 X.K tk v):=by
 intro f s g H Q I q;have A:=I.fE.fresh (b9 s.heap.objs.size);have J:(s.heap.objs.size==p7)=b4:=bi3.mpr (eW (dM (Inv.aD8 I)));have C:=I.laid (a:=s.heap.objs.size) (o:=.ext (DY s.heap.objs.size _ [])) (h':=s.heap.push {cls:=.type "dict",data:=.dict #[]}) (t':=s.toks) (λ_ _ q=>bP _ q) (b9 _) (EN (QZ J));refine wpAny_Dict_any rfl rfl (by simp) (by simp) (pairTrees_cons_walk (ig (hk f _ g _ _ C (q _ _ A)) λu E h=>?_));obtain⟨x,H1,F,L,M⟩:=h;refine ig (t f E g H1 _ F M) λi N h=>?_;obtain⟨y,O,j,P,l,b,S,rfl,hb,T⟩:=h;cases L;refine pairTrees_nil_walk ?_;obtain⟨dd,_,U⟩:=oB j l (λ_ m=>nomatch m);unfold storeAll;refine mw _ (λr _ a=>(r=[(f7 b,i)]/\a=N)\/(r=[]/\∃o,L2.Inv X f g (upd O s.heap.objs.size (.ext (DY s.heap.objs.size o [(S,b,i)]))) a)) _ ?_ ?_ _ _ (.inl ⟨rfl,rfl⟩);rintro z r Y a (⟨hr,rfl⟩|⟨hr,_⟩);cases hr;refine ak (wpAny_dictSet_heap (hsz:=U) (show X.A.units+1<cLine from p) (oA j hb) dd λh' d Z=>aB (.inr ⟨rfl,?_⟩));have he:∃q,h'.get? s.heap.objs.size=ai q:=let⟨q,_,_,hq,_⟩:=d;⟨q,hq⟩;obtain⟨o,n⟩:=DY.of J (by rw[Gq rfl];simp only[dQ,xg];rw[gf];decide) d;rw[Gq rfl,dQ]at n;exact⟨o,j.write (x:=s.heap.objs.size) (e:=s.heap.objs.size) (by rw[l];trivial) (.inl rfl) (λc w hc z=>(Z.2 c hc).trans z) he (EN n)⟩;cases hr;rintro Y a (⟨hr,_⟩|⟨_,o,I4⟩);cases hr;exact⟨.ref s.heap.objs.size,_,I4,rfl,T i o P⟩
noncomputable def EZ(a f:DF):DF:=λst=>match a st with
 | .ok k=>(match f st with
  |.ok d=>(match uT k with|some _=>if okV d=bT then .ok (.bN 2 [k,d])else .bad|none=>.bad)
  |.ex c p=>.ex c p
  | .bad=>.bad)
 |.ex c p=>.ex c p
 |.bad=>.bad
def Vu(hu:X.A.units+1<cLine)(hk:PE X k (tD X.K (dH C gl) G0 Γ E fk κk))(hv:PE X e (tD X.K (dH C gl) G0 Γ E f .new)):PE X (.Dict [ai k] [e] pos) (tD X.K (dH C gl) G0 Γ E (EZ fk f) .new):=(Vt hu hk hv).imp λσ H Q zz=>by
 obtain⟨A,st,r,q⟩:=zz;intro p o N;have t:aG H (upd H p (.ext (DY p o []))):=cI N;refine⟨A,st,r.mono t,?_⟩;unfold EZ at q;cases l:fk st with
 |bad=>rw[l]at q;exact q
 |ex c p'=>rw[l]at q;exact λP T=>q P (t.trans T)
 |ok U=>
  rw[l]at q;dsimp only at q;intro x H1 v w1;refine⟨A,st,(r.mono t).mono v,?_⟩;cases Y:f st with
  |bad=>rw[Y]at q;exact q
  |ex c p'=>rw[Y]at q;exact λP T=>q P ((t.trans v).trans T)
  |ok d=>
   rw[Y]at q;dsimp only at q;intro y g e2 O;cases M:uT U with
   |none=>rw[M]at q;exact q.elim
   |some h=>
    rw[M]at q;dsimp only at q;by_cases Z:okV d=bT;rw[bh6 Z]at q;have qf:=v.trans e2;have F:=t.trans qf;have G8:g p=ai (.ext (DY p o [])):=qf _ _ bM;have wk:=w1.rep.same e2 _;obtain⟨b,rfl,hb⟩:=oE wk M;refine⟨G8,b,h,rfl,hb,λu i ru=>?_⟩;have nz:∀s w,nw H (upd g p (.ext (DY p i [(h,b,u)]))) s=ai w->True:=λ_ _ _=>trivial;have S:aG (nw H1 g) (er (nw H (upd g p (.ext (DY p i [(h,b,u)])))) [p]):=λs w z=>by
     unfold nw at z;split at z;rename_i kp;have j:s≠p:=λw'=>by subst w';rw[v _ _ bM]at kp;cases kp
     rw[aU (by simpa using j)];unfold nw;rw[bh6 (oh (t.trans v) kp),aS j];exact z;cases z
    have wv:Rep X.K (dH C gl) (er (nw H (upd g p (.ext (DY p i [(h,b,u)])))) [p]) d y:=O.1.same S _;have kt:jV g (er (nw H (upd g p (.ext (DY p i [(h,b,u)])))) [p]):=by
     refine⟨λs w z=>?_,λa xs z=>?_⟩;by_cases j:s=p;rw[j,dG (by simp)]at z;cases z;rw[aU (by simpa using j)]at z;have:=cj _ _ _ _ z;rwa [aS j]at this;have na:a≠p:=λw=>by rcases z with z|⟨u',z⟩;rw[w,G8]at z;cases z;rw[w,G8]at z;cases z
     have kn:vt (H a)=bT:=by
      cases q':H a with
      |none=>rfl
      |some o''=>have:=F a o'' q';rcases z with z|⟨u',z⟩;rw[z]at this;cases this;rfl;rw[z]at this;cases this;rfl
     unfold Rd;rw[aU (by simpa using na)];unfold nw;rw[bh6 kn,aS na];exact z
    have I:Rep X.K (dH C gl) (er (nw H (upd g p (.ext (DY p i [(h,b,u)])))) [p]) U (.ref b):=Rep.part kt _ (CM M) wk;obtain⟨b2,hb2,hbk⟩:=oE I M;cases hb2;have at_:nw H (upd g p (.ext (DY p i [(h,b,u)]))) p=ai (.ext (DY p i [(h,b,u)])):=by rw[jM N];exact bM
    have plv:∀J,y=.ref J->∃ys,er (nw H (upd g p (.ext (DY p i [(h,b,u)])))) [p] J=ai (.lst ys):=λJ L=>by
     cases d with
     |lst es=>obtain⟨p',z,h0,ys,hy,_⟩:=O.2.1 rfl;rw[L]at z;cases z;exact⟨ys,S _ _ hy⟩
     |int n=>have:=O.1;rw[Rep]at this;rw[this]at L;cases L
     |bl n=>have:=O.1;rw[Rep]at this;rw[this]at L;cases L
     |_=>cases Z
    have own:mQ X.K (dH C gl) (er (nw H (upd g p (.ext (DY p i [(h,b,u)])))) [p]) (nw H (upd g p (.ext (DY p i [(h,b,u)])))) p (.bN 2 [U,d]):=
     ⟨rfl,nt [(h,b,u)] [y],⟨i,_,_,rfl,.cons ru .nil,at_,λx m=>by obtain rfl:=gC.mp m;exact hbk,λJ m=>plv J (gC.mp m).symm⟩,.cons I (.cons wv (by rw[aM];rfl))⟩
    refine q _ _ (λs w z=>?_) ⟨own.rep (.refl _) rfl,λ_=>⟨p,rfl,N,own⟩,.not rfl⟩;have j:s≠p:=λw'=>by rw[w',N]at z;cases z
    rw[aS j];exact F _ _ z;rw[bh7 Z]at q;exact q.elim
end Dm
namespace Hk
open PySem
def M6{Q:au->ay->Prop}(hd:(d==p7)=b4)(h:s.heap.get? d=ai od)(b:od.ExactDict)(j:od.data=.dict es ep)
  (c:Q (.ref s.heap.objs.size) {s with heap:=s.heap.push {cls:=.type "dict_keyiterator",data:=.fields #[.ref d,.int 0 0,.int es.size 0,.int ep 0]}}):aC (aE prog w) A (pyIter (.ref d)) Q E s:=by
 have a:s.TypeIs (.ref d) "dict":=⟨od,h,b.1⟩
 refine Bk a OI (iy OI a F.entry_dict_iter ?_ (F.args_dict_iter_1 _));unfold Builtin.«dict.__iter__»;refine ak ?_;unfold Builtin.Dict.dictSlotNone;refine ak (Gs a ?_);show aC _ _ (pure (f7 d)) _ _ s;refine aB ?_;show aC _ _ (xE d>>=_) _ _ s;unfold xE;rw[bh7 (by rw[hd];exact jd)];refine ak (aB (ak (kB h j (ak (pG h j ?_)))));refine ak (kN (aB ⟨_,rfl,"dict_keyiterator",_,⟨_,eY _ rfl,rfl⟩,xC.lookup,?_⟩));simpa[rawInt] using c
def M7{Q:Option au->ay->Prop}(h:s.heap.IsKeyIter it d i es.size ep)(b:s.heap.get? d=ai od)(j:od.data=.dict es ep)(c:es[i]?=ai e)
  (f:∀h',h'.IsKeyIter it d (i+1) es.size ep->iA it s.heap h'->Q (ai e.key) {s with heap:=h'}):aC (aE prog w) A (pyNext (.ref it)) Q E s:=by
 obtain⟨o,a,g,hd⟩:=id h;have k:i<es.size:=(pQ.mp c).1;have l:es[i]=e:=(pQ.mp c).2;have m:xF "dict_keyiterator"=b4:=by decide
 unfold pyNext;refine ak (pB (p9 (name:=kI "__next__") h.typeIs xC (iy xC h.typeIs OJ ?_ (OL _))));refine ak (aB (ak (ak ?_)));first|refine ak (Bo h.typeIs (aB ?_))|refine ak (Bp h.typeIs (aB ?_))
 refine ak (tZ a hd ?_);simp only[m,d9,bi4];show aC _ _ (if(f7 d==eL)=bT then _ else _) _ _ s;rw[bh7 (show ¬ ((f7 d==eL)=bT)from jd)];refine ak (aB (ak (kB b j ?_)));rw[bh7 (by simp)];refine ak (aB (ak (pG b j ?_)));rw[bh7 (by simp)];refine aB ?_;simp only[show ¬ ((i:Int)<0)from by omega,bi4,kJ,xw k,l];refine ak ?_;first|refine ak (Bo h.typeIs (aB ?_))|refine ak (Bp h.typeIs (aB ?_))
 refine ak (N6 h.typeIs ?_);show aC _ _ (setField (.ref it) 1 (rawInt ((i:Int)+1))>>=_) _ _ s;refine ak (r9 a hd (by simp) ?_);have C:(s.heap.update it (Obj.mapFields (·.setIfInBounds 1 (rawInt ((i:Int)+1))))).IsKeyIter it d (i+1) es.size ep:=
  ⟨_,nJ _ a (BE (uw hd _)),(Hq ..).trans g,by rw[uw hd];simp[rawInt]⟩
 refine ak (jb ?_);refine ak (N6 (s:={s with heap:=s.heap.update it (Obj.mapFields (·.setIfInBounds 1 (rawInt ((i:Int)+1))))}) C.typeIs ?_);show aC _ _ (pure e.key) _ _ _;exact aB (aB ⟨_,rfl,aB (f _ C (fB ..))⟩)
def Ri{Q:Option au->ay->Prop}(c:A.handled=aj)(h:s.heap.IsKeyIter it d i es.size ep)(b:s.heap.get? d=ai od)(j:od.data=.dict es ep)(e:es.size<=i)
  (f:∀h',Heap.ExtBut it s.heap h'->Q aj {s with heap:=h'}):aC (aE prog w) A (pyNext (.ref it)) Q E s:=by
 obtain⟨o,a,k,hd⟩:=id h;have g:xF "dict_keyiterator"=b4:=by decide
 unfold pyNext;refine ak (pB (p9 (name:=kI "__next__") h.typeIs xC (iy xC h.typeIs OJ ?_ (OL _))));refine ak (aB (ak (ak ?_)));first|refine ak (Bo h.typeIs (aB ?_))|refine ak (Bp h.typeIs (aB ?_))
 refine ak (tZ a hd ?_);simp only[g,d9,bi4];show aC _ _ (if(f7 d==eL)=bT then _ else _) _ _ s;rw[bh7 (show ¬ ((f7 d==eL)=bT)from jd)];refine ak (aB (ak (kB b j ?_)));rw[bh7 (by simp)];refine ak (aB (ak (pG b j ?_)));rw[bh7 (by simp)];refine aB ?_;simp only[show ¬ ((i:Int)<0)from by omega,bi4,kJ,rD e];refine ak ?_;first|refine ak (Bo h.typeIs (aB ?_))|refine ak (Bp h.typeIs (aB ?_))
 show aC _ _ (setField (.ref it) 0 .none>>=_) _ _ s;refine ak (r9 a hd (by simp) ?_);show aC _ _ (newExc (.type "StopIteration") []>>=_) _ _ _;refine ak ?_;simp only[newExc,newTuple];refine ak (kN ?_ (by size_fits));refine ak (m:=u0 _ _) (rf (a:=eL) (by first|rfl|(simp only[u0];rfl)) ?_);refine kN ?_ (by size_fits);simp only[raiseNew];refine ak (Gj ?_);rw[show A.in1.handled=aj from c];refine ak (aB (Gk ?_));refine ak (rg (T:="StopIteration") (b:=bT) ⟨_,eY _ rfl,rfl⟩ Gm ?_);exact aB (f _ (((fB ..).extBut.push _).push _))
end Hk
namespace Dm
open PySem PySem.Spec PyProof.Rows L2
noncomputable def ItK(a:av)(o:Obj)(ps:List SP):It:=
 ⟨λi H=>H a=ai (.ext (DY a o ps))/\i<ps.length,λi H x b=>∃p,ps[i]?=ai p/\b=H/\x=.ref p.2.1,λi H=>H a=ai (.ext (DY a o ps))/\ps.length<=i⟩
def IU{P:dz}{w:bL}{K:aF}{O:bq}{a c:av}{o:Obj}{ps:List SP}{es:Array pF}{ep:Nat}(C:o.data=.dict es ep)(F:∀(P:dz) (w:bL),es.toList=ps.map (qQ (Hk.kM (intKind P w)))) :
  Turn P w K O (ItK a o ps) [c] c (λi h=>h.IsKeyIter c a i es.size ep) where
 mem:=by simp
 obj:=λi h st b hb=>by
  obtain⟨S,d,_,hd⟩:=st;obtain rfl:b=c:=by simpa using hb
  exact⟨_,d,λv z=>by rw[hd]at z;cases z⟩
 keep:=λi h J st k=>st.at λo e=>k c (by simp) o e
 item:=by
  intro X g j l L i T s U H E I m st n;subst g j l;obtain⟨r,t⟩:=n;obtain⟨⟨Y,Z,u,hx,_⟩,_,_⟩:=(show gP X.prog X.w H s.heap a (.ext (DY a o ps))from I.fE a _ r)
  obtain⟨p,M⟩:∃p,ps[i]?=ai p:=⟨ps[i],cU t⟩
  have x:es[i]?=ai (qQ (Hk.kM (intKind X.prog X.w)) p):=by rw[entry_at (F X.prog X.w),M];rfl
  obtain⟨f,f1,f2,f3,f4,y⟩:=m c (by simp);refine Hk.M7 st u C x λJ N hs=>⟨_,rfl,?_⟩
  obtain⟨S,d,AB,hd⟩:=id N;refine Jt d AB hd (by decide) ?_;exact⟨.ref p.2.1,H,I.turned (t':=s.toks) (λb o hb q=>(hs.2 b hb).trans q) f f1 f3 f4 y,rfl,⟨p,M,rfl,rfl⟩,N,λb hb=>by
   obtain rfl:b=c:=by simpa using hb
   exact f⟩
 done:=by
  intro X g j l L i T s U H E I m st n;subst g j l;obtain⟨r,t⟩:=n;obtain⟨⟨Y,Z,u,hx,_⟩,_,_⟩:=(show gP X.prog X.w H s.heap a (.ext (DY a o ps))from I.fE a _ r)
  obtain⟨f,f1,f2,f3,f4,y⟩:=m c (by simp);exact Hk.Ri (I.ok.hd L) st u C (by rw[pD (F X.prog X.w)];exact t) λJ eb=>⟨rfl,I.turned (t':=s.toks) (λb o hb e=>eb b o hb e) f f1 f3 f4 y⟩
 self:=λA i s Q E st h=>wpAny_pyIter_keyiter st h
def ba5(to:TE):TI:=λb H R=>to b H λx H1=>∃a o p,x=.ref a/\H1 a=ai (.ext (DY a o p))/\R (ItK a o p) H1
def Rj{to:TE}(f:PE X o to):PI X w o (ba5 to):=by
 intro g s i H R I h;refine ig (f g s i H _ I h) λv d k=>?_;obtain⟨x,H1,c,r1,a,l,p,rfl,m,n⟩:=k;cases r1;obtain⟨⟨J,y,r,t,A,C,j,E,F⟩,_,_⟩:=(show gP X.prog X.w H1 d.heap a (.ext (DY a l p))from c.fE a _ m)
 refine Hk.M6 J r t j ?_;refine⟨_,[_],_,_,H1,rfl,c.kept (t':=d.toks) (λb u z=>bP _ z),IU j E,⟨_,eY _ rfl,rfl,rfl⟩,λb hb=>?_,n⟩;have e:d.heap.objs.size<=b:=by
  obtain rfl:b=_:=by simpa using hb
  exact b9 _
 exact c.KR e (c.fE.fresh e)
noncomputable def CO(f:DF):DI:=λst=>match f st with
 |.ok d=>(match gv (ai (ai d))with|some y=>.ok (y.2.map λt=>t.2.1)|none=>.bad)
 |.ex c p=>.ex c p
 |.bad=>.bad
def Vv(J:PE X o (tD X.K (dH C gl) G0 L E f κ))(l:z=bT->κ.le .old=bT):PI X tg o (IG X.K (dH C gl) G0 L E z (CO f)):=(Rj J).imp λσ H Q M=>by
 obtain⟨A,st,r,q⟩:=M;refine⟨A,st,r,?_⟩;unfold CO at q;cases j:f st with
 |bad=>rw[j]at q;exact q
 |ex c p=>rw[j]at q;exact q
 |ok d=>
  rw[j]at q;dsimp only at q;intro v H1 s w;cases k:gv (ai (ai d))with
  |none=>rw[k]at q;exact q.elim
  |some y=>
   rw[k]at q;obtain⟨hd,u⟩:=nB k;obtain⟨N,e⟩:=y;cases hd;dsimp only at q u;have O:Rep X.K (dH C gl) (er H1 (zB z A)) (.bN 2 N) v:=by
    unfold zB;cases z with
    |true=>exact w.le r s (κ':=.old) (l rfl)
    |false=>rw[bh7 (by decide),jN];exact w.rep
   obtain⟨a,F,g,vs,rfl,g1,g2,g3,g5,P,g6,S⟩:=ny O u;have I:g.length=e.length:=by rw[<- P.1,bw]
   refine⟨a,F,g,rfl,aH _ _ _ _ g2,q _ _ s λi T A3 m nA=>⟨λd hd=>?_,λhd=>?_⟩⟩;rw[d8]at hd;cases b:e[i]? with
   |none=>rw[b]at hd;cases hd
   |some t=>
    rw[b]at hd;cases hd;have U:i<g.length:=by rw[I];exact(eN.mp b).1
    have Y:T a=ai (.ext (DY a F g)):=(m.trans (aH _ _)) _ _ g2;refine⟨⟨Y,U⟩,λx H' Z=>?_⟩;obtain⟨p,hp,hH,ex⟩:=Z;subst hH ex;obtain⟨v2,h,n⟩:=S.get' (show(e.map (·.2.1))[i]?=ai t.2.1 by rw[d8,b];rfl);rw[d8,hp]at h;cases h;exact⟨.refl _,n.same m _⟩
   rw[d8]at hd;have hn:e[i]?=aj:=by cases b:e[i]? with|none=>rfl|some t=>rw[b]at hd;cases hd
   exact⟨(m.trans (aH _ _)) _ _ g2,by rw[I];exact nR.mp hn⟩
end Dm
namespace Dm
open PySem PyProof.Rows L2 HT PySem.SeqAt
open PySem.AutoSeq1 (wpAny_loadPart')
open PySem.MeetsSeq PySem.MeetsSeq2 PySem.MeetsSeq3
noncomputable abbrev lob(d:Option av)(u:Array au)(m:Nat)(z:Array (Option au)):Obj:={cls:=.type "list",dict:=d,data:=.seq u m,slots:=z}
theorem K6{u vs:Array au}(i:u.size=vs.size):∀(f j:Nat) (xs ys:List D),u.size=j+f->
  Meets (Builtin.«list.__eq__.loop» ⟨[.ref p,.ref q,rawInt j,rawInt 0],[]⟩) (λA R s=>s.heap.get? p=ai (lob d u m z)/\s.heap.get? q=ai (lob d' vs L M)/\PL A.in1 s (u.toList.drop j) (vs.toList.drop j) xs ys/\R (.ok (.ret (.bool (lexLt (kr xs) (kr ys))))) s)
 |0,j,xs,ys,e=>λa w A R s k=>by
  obtain⟨v,g0,x,y,o0⟩:=s;obtain⟨b,g,P,h⟩:=k;rw[GV (by rw[dN];lia),GV (by rw[dN];lia)]at P;cases P
  wp_walk using ku b,ku g
  rw[show u[((j:Nat):Int).toNat]?=aj by rw[kJ];exact rD (by lia),show vs[((j:Nat):Int).toNat]?=aj by rw[kJ];exact rD (by lia)]
  wp_walk using ku b,ku g
  rw[kr,iR]at h;show R (.ok (.ret (.bool (decide (u.size<vs.size))))) _;rw[bh9 (by lia)];exact h
 |f+1,j,xs,ys,e=>λa w A R s k=>by
  obtain⟨v,g0,x,y,o0⟩:=s;obtain⟨b,g,P,h⟩:=k;have l:j<u.size:=by lia
  have n:j<vs.size:=by lia
  have o:u[((j:Nat):Int).toNat]?=ai u[j]:=by rw[kJ];exact xw l
  have ev:vs[((j:Nat):Int).toNat]?=ai vs[j]:=by rw[kJ];exact xw n
  rw[ud (show j<u.toList.length by rw[dN];exact l),ud (show j<vs.toList.length by rw[dN];exact n)]at P;cases P with
  |@cons _ _ C E _ _ F J r t H I=>
   rw[O7]at r t;rw[kr,kr,wo H]at h
   wp_walk using ku b,ku g
   rw[o,ev];refine ak (r a w _ _ ?_);by_cases c:fl C=fl E;rw[bh6 c]at h;rw[bh8 c]
   wp_walk
   rw[show((j:Int)+1)=((j+1:Nat):Int)from rfl];refine⟨wV plain_eq_loop _,mz entry_eq_loop ?_⟩;rw[rH plain_eq_loop _];exact K6 i f (j+1) F J (by lia) a w A R _ ⟨b,g,I,h⟩;rw[bh7 c]at h;rw[bh9 c]
   wp_walk using ku b,ku g
   rw[o,ev];refine ak (t a w _ _ ?_)
   wp_walk
   simpa using h
def M8{u vs:Array au}(a:u.size=vs.size)(xs ys:List D) :
  Meets (Builtin.«list.__lt__» ⟨[.ref p,.ref q],[]⟩) (λA R s=>s.heap.get? p=ai (lob d u m z)/\s.heap.get? q=ai (lob d' vs i j)/\PL A.in1 s u.toList vs.toList xs ys/\R (.ok (.ret (.bool (lexLt (kr xs) (kr ys))))) s):=λb w A R s e=>by
 obtain⟨k,g0,l,t,o0⟩:=s;obtain⟨h,c,P,f⟩:=e;have g:=AutoSeq1.sub_list_list
 wp_walk using ku h,ku c
 refine⟨wV plain_eq_loop _,mz entry_eq_loop ?_⟩;rw[rH plain_eq_loop _];exact K6 a u.size 0 xs ys (mD _).symm b w A R _ ⟨h,c,P,f⟩
def ab8{A:cy}(l:gk xs ys=bT)(n:Ik xs=bT)(c:fL s.heap (.lst xs) u)(d:fL s.heap (.lst ys) v)(hr:A.units+jU xs+1<cLine):Zg A s u v (lexLt (kr xs) (kr ys)):=by
 rw[fL]at c d;refine bC c λa m e t o=>?_;clear c;obtain rfl:=e;refine bC d λb r e y z=>?_;clear d;obtain rfl:=e;obtain⟨⟨C,dd,g,N⟩,O,i,j,hd,k⟩:=id t;obtain⟨⟨F,H,f,I⟩,S,X,M,h,T⟩:=id y;simp only at j hd k M h T;subst j hd k M h T;have P:=Uq xs ys (A:=A.in1) l n o z (by show A.units+1+_<_;lia);intro p w E Q J;have L:m.size=r.size:=by simpa using P.len
 exact MY (op:=.Lt) ⟨_,i,rfl⟩ ⟨_,X,rfl⟩ PySem.F.slot_list_lt PySem.F.entry_list_lt (PySem.F.args_list_lt_2 _ _) (M8 L xs ys)
  ⟨i,X,P,show Value.bool (lexLt (kr xs) (kr ys))≠Value.notImplemented/\Q _ s from⟨(λx=>nomatch x),J⟩⟩ (by lia)
end Dm
namespace Dm
open PySem PySem.W PyProof.Rows L2 HT PySem.SeqAt So
def SkT(ds:List D):Prop:=∀a∈ds,∀b∈ds,∃i j x y,a=.tup [.int i,.lst x]/\b=.tup [.int j,.lst y]/\Ik x=bT/\cC x=bT/\jU x<=50/\(i=j->gk x y=bT)
def wI(i:Int)(xs:List D):fl (.tup [.int i,.lst xs])=i::kr xs:=by simp[fl,kr]
def Vx(h:SkT ds)(c:a∈ds)(hb:b∈ds)(e:fl a=fl b):a=b:=by
 obtain⟨i,j,x,y,rfl,rfl,_,_,_,s⟩:=h a c b hb;rw[wI,wI]at e;injection e with d f;subst d;rw[sV x y (s rfl) f]
def Vy{C:Bool->ay->Prop}(k:SkT ds)(hu:A.units+60<cLine)(p:bH s.heap ds vs)(H:i<ds.length)(P:j<ds.length)(h:C (decide (rk ds i<rk ds j)) s) :
  aC (aE prog w) A (keyLt' (tuples' bT) (vs.getD i eL) (vs.getD j eL)) C (λ_ _=>False) s:=by
 rw[<- JG ds H]at h;obtain⟨l,I⟩:=lZ p H;obtain⟨o,r⟩:=lZ p P;generalize ds.getD i .cR=x at h l I;generalize ds.getD j .cR=y at h o r;obtain⟨m,n,u,v,rfl,rfl,nx,Q,dx,z⟩:=k x I y r;obtain⟨_,_,_,_,e,_,_,S,_,_⟩:=k _ r _ r;injection e with e;injection e with _ e;injection e with e;injection e with e;subst e;rw[wI,wI]at h;rw[fL]at l o;refine bC l λa J e E b=>?_;clear l;obtain⟨o1,T,_,n1,U⟩:=E;refine bC o λb' X Y E d=>?_;clear o;obtain⟨o2,Z,_,n2,d2⟩:=E;rw[e,Y];rw[bH]at b d;obtain⟨v0,r0,f,L,b⟩:=b;obtain⟨v1,r1,g,M,d⟩:=d;rw[bH]at b d;obtain⟨v2,r2,rfl,N,b⟩:=b;obtain⟨v3,r3,rfl,O,d⟩:=d;rw[bH]at b d;subst b;subst d;rw[fL]at L M;obtain⟨t,rfl⟩:=L;obtain⟨F,rfl⟩:=M;have sz:J.size=X.size:=by rw[<- dN,f,<- dN,g];rfl
 refine kat_lt T U Z d2 ?_;rw[f,g];have E0:EqAt A s (.int m t) (.int n F) (decide (m=n)):=by have:=pY (s:=s) (.int m) (.int n) (A:=A) (by rw[flat] <;> simp) (by rw[flat] <;> simp) (u:=.int m t) (v:=.int n F) (by rw[fL];exact⟨t,rfl⟩) (by rw[fL];exact⟨F,rfl⟩) (by simp[dep];lia);rw[iJ]at this;exact this
 refine kat_cons (E0 prog w _ _ (kat_go (λc=>kat_yes ?_) λc=>kat_no ?_));have c:=bi2 c;subst c;rw[dU,bh6 rfl]at h;have z:=z rfl;have E1:EqAt A s v2 v3 (decide (kr u=kr v)):=by have:=pY (s:=s) (.lst u) (.lst v) (A:=A) (by rw[flat];exact Q) (by rw[flat];exact S) N O (by rw[dep];lia);rwa [iJ,wm u v z]at this
 refine kat_cons (E1 prog w _ _ (kat_go (λc=>kat_yes ?_) λc=>kat_no ?_));have c:=bi2 c;rw[c,sW]at h;show C (decide (J.size<X.size)) s;rw[bh9 (by lia)];exact h;refine kat_one _ _ (ab8 z nx N O (by lia) prog w _ _ (show PySem.W.BoolBack C (.bool (lexLt (kr u) (kr v))) s from h));have c:=bj0 c;rw[dU,bh7 c]at h;exact oneLt_int h
def sgT(c:SkT es)(l:es.length<=cH)(k:A.units+64<cLine):SG prog w A es (tuples' bT) vs:=
 ⟨l,λa h b hb=>Vx c h hb,λm s e f p=>⟨λE R g=>Ei (.pT λd hd=>let⟨i,_,xs,_,e,_⟩:=c d hd d hd;⟨i,_,e⟩) f p g,λi j C=>Vy c (by rw[e];lia) p⟩⟩
end Dm
namespace Dm
open PySem PyProof.Rows L2 PySem.SeqAt Ts
noncomputable def XR:D->Option Int
 |.int s=>ai s
 |.cR |.bl _ |.lst _ |.tup _ |.str _ |.bN _ _=>aj
def Rk{d:D}(h:XR d=ai z):d=.int z:=by cases d <;> cases h;rfl
noncomputable def M9(d:D):Option (Int×List D):=((JU d).bind UD).bind λp=>(XR p.1).bind λi=>(yv p.2).map λx=>(i,x)
def K7{d:D}(h:M9 d=ai z):d=.tup [.int z.1,.lst z.2]:=by
 unfold M9 at h;obtain⟨⟨a,b⟩,c,h⟩:=l0.mp h;obtain⟨i,e,c⟩:=l0.mp c;obtain⟨s,f,h⟩:=l0.mp h;obtain⟨j,g,rfl⟩:=Hl.mp h;rw[yw e,Cs c,show a=_ from Rk f,show b=_ from t8 g]
noncomputable def skB(ds:List D):Bool:=ds.all λa=>ds.all λb=>match M9 a with
 | some p=>(match M9 b with
  |some q=>Ik p.2&&cC p.2&&decide (jU p.2<=50)&&(decide (p.1≠q.1) || gk p.2 q.2)
  | none=>b4)
 |none=>b4
def ab9(h:skB ds=bT):SkT ds:=λa f b hb=>by
 unfold skB at h;have h:=dZ.mp (dZ.mp h a f) b hb;cases c:M9 a with
 |none=>rw[c]at h;cases h
 |some p=>
  cases d:M9 b with
  |none=>rw[c,d]at h;cases h
  |some q=>rw[c,d]at h;simp only[bI,kZ,bi1]at h;refine⟨p.1,q.1,p.2,q.2,K7 c,K7 d,h.1.1.1,h.1.1.2,h.1.2,λe=>?_⟩;rcases h.2 with z|z;exact bi8 e z;exact z
end Dm
namespace Lm
open PySem PySem.Spec PySem.W PyProof.Rows PySem.Calls
noncomputable abbrev body(x:Str)(p a b c d e:Pos)(f:Nat):bq:=.Tuple [.UnaryOp .USub (.Call (.Name "len" p) [.Name x a] [] b) c,.Name x d] f e
def Rl{Q:au->ay->Prop}(X:s.heap.get? f=ai o)(hd:o.data=.func (kla_fn nm qual params (body x N p j O l m Y) scope [] pm P Z))(n:s.heap.CodeRec P qual)
  (r:scope.isCoroutine=b4) (C:scope.isGenerator=b4) (hk:scope.kind=.function) (S:scope.names.lookup x=ai .local) (F:scope.names.lookup ("len" : Str)=ai .globalImplicit)
  (Rm:∀(s:ay) (u:au),BindsTo s (kla_fn nm qual params (body x N p j O l m Y) scope [] pm P Z) ⟨[u],[]⟩ [(x,u)]) (T:(x==("__debug__" : Str))=b4)
  (t6:A.depth<recursionLimit) (H:s.heap.NoLimit) (hg:s.heap.Ns dS mg) (hm:mg "len"=aj) (hb:s.heap.Ns builtinsNs mb) (I:mb "len"=ai (.builtin "len")) (hv:s.heap.IsList v items) (J:(items.size:Int)<2 ^ 63)
  (h:∀h' tk t z,(∀b o,s.heap.get? b=ai o->h'.get? b=ai o)->s.heap.objs.size<=t->h'.get? t=ai (cG "tuple" #[.int (-(items.size:Int)) z,.ref v] 0)->Q (.ref t) {s with heap:=h',toks:=tk}) :
  aC (aE prog w) A (call (.ref f) [.ref v]) Q E s:=by
 refine Bh (kla_callFunE t6 X hd r C rfl n (Rm s (.ref v) _ _ _ _ ?_));refine MV hk (λy hy=>.inl ?_) λenv g s1 i=>?_;rw[gC.mp hy];exact S;have c:env.scope.kind=.function:=by rw[g];exact hk
 have d:env.kindOf x=ai .local:=by rw[g];exact S
 have L:env.kindOf "len"=ai .globalImplicit:=by rw[g];exact F
 have Xy:env.globals=dS:=by rw[g];rfl
 have TF:env.builtins=builtinsNs:=by rw[g];rfl
 obtain⟨h1,tk,rfl⟩:=i.toInCall.same;have k:=i.toInCall.keep;have M:=i.toInCall.ns;have U:bindL env.kindOf [(x,f7 v)] (λ_=>aj) x=ai (.ref v):=by unfold bindL;rw[d];simp[bindL]
 have sz:s.heap.objs.size<=h1.objs.size:=cz i.toInCall.fresh (jc M.lt);refine⟨H.keeps k,kla_codeExpr ?_⟩;refine MU ?_;show aC _ _ (spliced ((b4,eval (.UnaryOp .USub (.Call (.Name "len" N) [.Name x p] [] j) O) env)::backTo m (bF [.Name x l] env))) _ _ _;refine xu (wpAny_UnaryOp (tX ?_));refine O5 c L (X8 (by rw[Xy];exact hg.keeps k) hm (by rw[TF];exact hb.keeps k) I ?_);refine Of ?_ rfl rfl;show aC _ _ (spliced ((b4,eval (.Name x p) env)::backTo j (bF [] env))) _ _ _;refine xu (DE (MS c d M U ?_) T);refine By ?_;refine O6 (let⟨o,a,b⟩:=hv;⟨o,k _ _ a,b⟩) J ?_;refine neg_int ?_;show aC _ _ (spliced ((b4,eval (.Name x l) env)::backTo m (bF [] env))) _ _ _;refine xu (DE (MS c d M U ?_) T);refine By ⟨by rw[gf];show 2<=_;decide,?_⟩;exact h _ _ _ _ (λb o e=>bP _ (k b o e)) sz (eY _ rfl)
end Lm
namespace So
open PySem PySem.W PyProof.Rows
def KS(KO:Nat->Obj->Prop)(h:aW)(a:List au):Prop:=∀j k,a[j]?=ai k->∃t o,k=.ref t/\h.get? t=ai o/\KO j o
section
variable {prog:dz}{w:bL}{A:cy}{E:au->ay->Prop}{s:ay}{a q:av}{vs:List au}{kd:iM}{r:Nat->Nat}{KO:Nat->Obj->Prop}
def zU{P:PySem.Fin->ay->Prop}(Z:s.heap.get? a=ai (cG "list" vs.toArray n))(hz:vs.length<=cH)
  (QT:∀i x h' tk Q,vs[i]?=ai x->Keeps a s.heap h'->(∀m M t o,(∀b o,h'.get? b=ai o->m.get? b=ai o)->h'.objs.size<=t->m.get? t=ai o->KO i o->Q (.ref t) {s with heap:=m,toks:=M})->aC (aE prog w) A (call (.ref q) [x]) Q (λ_ _=>False) {s with heap:=h',toks:=tk})
  (E2:∀f h' tk Q,2<=vs.length->f.length=vs.length->Keeps a s.heap h'->KS KO h' f->Q kd {s with heap:=h',toks:=tk}->aC (aE prog w) A (keyKind' f.toArray) Q E {s with heap:=h',toks:=tk})
  (gK:∀f h' tk i j C,2<=vs.length->f.length=vs.length->Keeps a s.heap h'->KS KO h' f->i<vs.length->j<vs.length->C (decide (r i<r j)) {s with heap:=h',toks:=tk}->aC (aE prog w) A (keyLt' kd (f.getD i eL) (f.getD j eL)) C (λ_ _=>False) {s with heap:=h',toks:=tk})
  (h:∀h' tk n' (p:List Nat),Keeps a s.heap h'->p.Perm (cY vs.length)->p.Pairwise (λi j=>r i<=r j)->h'.get? a=ai (cG "list" (p.map λi=>vs.getD i eL).toArray n')->P (.done (.ret .none)) {s with heap:=h',toks:=tk}) :
  aC (aE prog w) A (Builtin.«list.sort» ⟨[.ref a],[(kI "key",.ref q)]⟩) P E s:=by
 have ha:a<s.heap.objs.size:=bZ Z;have MF:=fB s.heap a (dg λ_=>(#[]:Array au));obtain⟨I,Xs⟩:∃I,(s.heap.update a (dg λ_=>(#[]:Array au))).get? a=ai (cG "list" #[] I):=⟨_,xy Z λ_=>#[]⟩
 rw[ksk_t1];unfold ksk_tree;refine ak (Hg Z rfl (ak (rF Z rfl (ak (xA Xs rfl (ak (Gh (ak (wU (jb ?_) (eS _))) (by show vs.length<=_;lia))))) (by rw[dP];lia) (eS _))));generalize hG:((s.heap.update a (dg λ_=>(#[]:Array au))).push (cG "tuple" vs.toArray 0)).push (cG "list" #[] 0)=g;generalize hS:((s.heap.update a (dg λ_=>(#[]:Array au))).push (cG "tuple" vs.toArray 0)).objs.size=S;have hSs:s.heap.objs.size<S:=by rw[<- hS,size_push',Na];lia
 have N:a≠S:=by lia
 have kg:Keeps a s.heap g:=λb o hb e=>by rw[<- hG];exact bP _ (bP _ (by rw[MF.2 b hb];exact e))
 have ag:g.get? a=ai (cG "list" #[] I):=by rw[<- hG];exact bP _ (bP _ Xs)
 have sg:g.get? S=ai (cG "list" #[] 0):=by rw[<- hG,<- hS];exact eY _ rfl
 clear hG hS Xs MF;show aC (aE prog w) A (ksk_rest a (.ref q) b4 vs.toArray I (.ref S)) P E {s with heap:=g};unfold ksk_rest;refine ak (wN ?_);rw[List.forIn_toArray];have O:∀{g:aW} {F:Obj->Obj},Keeps a s.heap g->Keeps a s.heap (g.update S F):=λ{g F} k b o hb e=>by rw[Gy _ _ _ _ (by have:=bZ e;lia)];exact k b o hb e
 refine ak (ksk_fold (λi s'=>∃h' tk c e,s'={s with heap:=h',toks:=tk}/\Keeps a s.heap h'/\h'.get? a=ai (cG "list" #[] I)/\h'.get? S=ai (cG "list" c e)/\c.size=i/\
  ∀j k,c.toList[j]?=ai k->∃t o,k=.ref t/\t≠a/\t≠S/\h'.get? t=ai o/\KO j o) vs 0 _ ⟨g,s.toks,#[],0,rfl,kg,ag,sg,rfl,λj k e=>by simp at e⟩ ?step ?done)
 case step=>
  rintro j x s' hx ⟨h',tk,c,e,rfl,L,a1,T,J,f1⟩;simp only[mD]at J ⊢;have hj:j<vs.length:=(eN.mp hx).1;refine ak (pB (iw (QT j x h' tk (λv MD=>∃m M t o,v=.ref t/\MD={s with heap:=m,toks:=M}/\(∀b o,h'.get? b=ai o->m.get? b=ai o)/\h'.objs.size<=t/\m.get? t=ai o/\KO j o) hx L λm M t o u q2 U X=>⟨m,M,t,o,rfl,rfl,u,q2,U,X⟩) (λv MD he=>?_) λ_ _ hF=>hF.elim));obtain⟨d,tk2,t,o,rfl,rfl,u,q2,U,X⟩:=he;dsimp only;have s2:=u _ _ T;have tS:t≠S:=by have:=bZ T;lia
  have ta:t≠a:=by have:=bZ a1;lia
  have Y:=fB d S (dg (·.push (f7 t)));obtain⟨c2,MH⟩:∃c2,(d.update S (dg (·.push (f7 t)))).get? S=ai (cG "list" (c.push (.ref t)) c2):=⟨_,xy s2 (·.push (f7 t))⟩
  refine ak (rF s2 rfl ?_ (by lia) (cz (Nb (Oc ..)) (by lia)));refine aB ⟨rfl,_,_,c.push (.ref t),c2,rfl,O λb o hb e=>u b o (L b o hb e),(Y.2 a N).trans (u _ _ a1),MH,by rw[Oc,J],λi k y=>?_⟩;rw[H8,List.getElem?_append]at y;split at y;obtain⟨t',o',r1,r2,r3,r4,r5⟩:=f1 i k y;exact⟨t',o',r1,r2,r3,(Y.2 t' r3).trans (u _ _ r4),r5⟩;rename_i hi;rw[dN,J]at hi y;have:i-j=0:=by rcases Nk (i-j)with z|z;exact z;rw[um (by simp;lia)]at y;cases y
  have ij:i=j:=by lia
  subst ij;simp at y;subst y;exact⟨t,o,rfl,ta,tS,(Y.2 t tS).trans U,X⟩
 case done=>
  rintro s' ⟨h',tk,c,e,rfl,L,a1,T,J,f1⟩;simp only[mD]at J;skip
  refine ak (Hg T rfl ?_);have kl:c.toList.length=vs.length:=by rw[dN];exact J
  have f:KS KO h' c.toList:=λj k e=>let⟨t,o,r1,_,_,r4,r5⟩:=f1 j k e;⟨t,o,r1,r4,r5⟩;have Y:=fB h' S (dg λ_=>(#[]:Array au));have a2:(h'.update S (dg λ_=>(#[]:Array au))).get? a=ai (cG "list" #[] I):=(Y.2 a N).trans a1;have H:∀(st:bJ) (p:List Nat),failedOf st=aj->(arrOf st).map (·.2)=(p.map λi=>vs.getD i eL).toArray->p.Perm (cY vs.length)->p.Pairwise (λi j=>r i<=r j)->
    aC (aE prog w) A (ksk_tail a b4 I (.ref S) st) P E {s with heap:=h',toks:=tk}:=λst p hf ha hp hw=>by
   unfold ksk_tail
   dsimp only
   refine ak (rF T rfl ?_ (by lia) (eS _))
   refine ak (Gr ?_)
   refine ak (xA a2 rfl ?_)
   rw[ha,hf]
   refine ak (rF a2 rfl ?_ (eS _) (by
    rw[bh7 (by decide),dP,bw,hp.length_eq,xm];lia))
   simp only[bi9,d9,bi4]
   have MG:=fB (h'.update S (dg λ_=>(#[]:Array au))) a (dg λ_=>(p.map λi=>vs.getD i eL).toArray)
   exact aB (h _ _ _ p (λb o hb e=>by rw[MG.2 b hb];exact O L b o hb e) hp hw (xy a2 λ_=>_))
  unfold ksk_end;dsimp only;simp only[d9,bi4];have zp:c.zip vs.toArray=((cY vs.length).map λi=>(c.toList.getD i eL,vs.getD i eL)).toArray:=by
   apply BA.mp;rw[O9];refine ND (by simp[J]) λi h1 d=>?_;simp at h1 d;have h3:i<c.size:=by lia
   simp[d,h3]
  by_cases d:vs.toArray.size<2;rw[bh6 d,bh6 d];refine ak (aB ?_);rw[Ou];refine ak (aB ?_);dsimp only;refine H _ (cY vs.length) rfl ?_ (.refl _) ?_;show(c.zip vs.toArray).map (·.2)=_;rw[zp,GO,dY];rfl;rw[dP]at d;refine rA.mpr λi j hi hj lU=>?_;rw[xm]at hj;lia;rw[bh7 d,bh7 d];rw[dP]at d;have Dy:2<=vs.length:=by lia
  refine ak (E2 c.toList h' tk _ Dy kl L f ?_);have W:Sg.Wt kd (λi=>(c.toList.getD i eL,vs.getD i eL)) (cY vs.length) #[] (SortSt.mk' kd (c.zip vs.toArray) #[] 7 aj):=⟨rfl,zp,rfl,rfl⟩
  have run:=Sg.JE (prog:=prog) (w:=w) (A:=A) (E:=E) (s:={s with heap:=h',toks:=tk}) (n:=vs.length) (r:=r) (Q:=λ_ l=>failedOf l=aj/\∃p:List Nat,arrOf l=Sg.arr (λi=>(c.toList.getD i eL,vs.getD i eL)) p/\p.Perm (cY vs.length)/\p.Pairwise (λi j=>r i<=r j))
   (λi j C hi hj hc=>gK c.toList h' tk i j C Dy kl L f hi hj hc) W (λx hx=>kO.mp hx) λp' l u q2 U X=>⟨X,p',U,u,q2⟩
  refine ak (iw run ?_ λ_ _ e=>e);rintro⟨⟨⟩,l⟩ s' ⟨rfl,hf,p,har,p1,p3⟩;dsimp only;refine H l p hf ?_ p1 p3;rw[har,Sg.arr,GO,dY];rfl
end
end So
namespace Dm
open PySem PySem.W PyProof.Rows L2 HT PySem.SeqAt So
noncomputable def CP:D->D
 |.lst x=>.tup [.int (-(x.length:Int)),.lst x]
 |d=>d
def SkK(ds:List D):Prop:=SkT (ds.map CP)/\∀d∈ds,∃x,d=.lst x
def KO(ds:List D)(b:List au)(j:Nat)(o:Obj):Prop:=∃z x v,ds[j]?=ai (.lst x)/\b[j]?=ai (.ref v)/\o=cG "tuple" #[.int (-(x.length:Int)) z,.ref v] 0
theorem K8:∀{ds:List D} {vs:List au},vs.length=ds.length->(∀(j:Nat) (d:D) (v:au),ds[j]?=ai d->vs[j]?=ai v->fL h d v)->bH h ds vs
 |[],vs,l,_=>by rw[bH];exact Nx l
 |d::ds,[],l,_=>by cases l
 |d::ds,v::vs,l,f=>by
  rw[bH];exact⟨v,vs,rfl,f 0 d v rfl rfl,K8 (by simpa using l) λj a b c e=>f (j+1) a b (by simpa using c) (by simpa using e)⟩
def KS.Et{b c:List au}(l:c.length=b.length)(p:bH h ds b)(k:KS (KO ds b) h c):bH h (ds.map CP) c:=by
 refine K8 (by rw[bw,l,p.len]) λj d v e m=>?_;obtain⟨t,o,rfl,g,z,x,a,f,i,rfl⟩:=k j v m;rw[d8,f]at e;cases e;have n:j<b.length:=(eN.mp i).1;obtain⟨q,_⟩:=p.get j n;have r:ds.getD j .cR=.lst x:=by rw[nO,f];rfl
 have ev:b[j] =.ref a:=(eN.mp i).2;rw[r,ev]at q;rw[CP,fL];refine⟨t,_,rfl,⟨_,g,rfl,_,rfl⟩,?_⟩;rw[bH];refine⟨_,_,rfl,?_,?_⟩;rw[fL];exact⟨z,rfl⟩;rw[bH];exact⟨_,_,rfl,q,by rw[bH]⟩
def CQ{c:List au}{Q:au->ay->Prop}(M:A.units+64<cLine)(H:SkK ds)(hz:ds.length<=cH)(hl:s.heap.IsList l c.toArray)(p:bH s.heap ds c)
  (N:∀h' tk v r R,(∀b o,s.heap.get? b=ai o->h'.get? b=ai o)->h'.IsList v r->(r.size:Int)<2 ^ 63->(∀u O t z,(∀b o,h'.get? b=ai o->u.get? b=ai o)->h'.objs.size<=t->u.get? t=ai (cG "tuple" #[.int (-(r.size:Int)) z,.ref v] 0)->R (.ref t) {s with heap:=u,toks:=O})->
   aC (aE prog w) A.in1.in1 (call (.ref f) [.ref v]) R (λ_ _=>False) {s with heap:=h',toks:=tk})
  (JO:∀xs,D.lst xs∈ds->(xs.length:Int)<2 ^ 63)
  (h:∀h' tk L n (d:List Nat),(∀b ob,s.heap.get? b=ai ob->h'.get? b=ai ob)->s.heap.objs.size<=L->(∀i∈d,i<ds.length)->d.Perm (cY ds.length)->fV (ds.map CP)=d.map (λi=>(ds.map CP).getD i .cR)->
   h'.get? L=ai (cG "list" (d.map λi=>c.getD i eL).toArray n)->Q (.ref L) {s with heap:=h',toks:=tk}) :
  aC (aE prog w) A (call (.builtin "sorted") [.ref l] [(kI "key",.ref f)]) Q E s:=by
 have lv:c.length=ds.length:=p.len;refine call_function_entry_kw kind_sorted plain_sorted entry_sorted (ksk_s1 _ _) ?_;unfold Builtin.«sorted»;refine ak (m:=checkCount "sorted" 1 1 _) (aB (ak (collect_list hl ?_ (by rw[lv];exact hz))));have P:∀b o,s.heap.get? b=ai o->((s.heap.push (cG "list" #[] 0)).update s.heap.objs.size (dg (· ++ c.toArray))).get? b=ai o:=λb o e=>by rw[Gy _ _ _ _ (dM (bZ e))];exact bP _ e
 have z1:s.heap.objs.size<=((s.heap.push (cG "list" #[] 0)).update s.heap.objs.size (dg (· ++ c.toArray))).objs.size:=by rw[Na,size_push'];lia
 generalize ((s.heap.push (cG "list" #[] 0)).update s.heap.objs.size (dg (· ++ c.toArray)))=g at P z1 ⊢;refine ak (wU ?_ (by lia));have oL:(g.push (cG "list" c.toArray 0)).get? g.objs.size=ai (cG "list" c.toArray 0):=eY _ rfl;have y:∀h',Keeps g.objs.size (g.push (cG "list" c.toArray 0)) h'->∀b ob,s.heap.get? b=ai ob->h'.get? b=ai ob:=λh' k b ob e=>k b ob (dM (bZ (P b ob e))) (bP _ (P b ob e));refine ak (jb (wpAny_call_entry_kw slot_list_sort ⟨_,oL,rfl⟩ entry_list_sort ?body (ksk_l1 _ _)));case body=>
  obtain⟨_,ij,I⟩:=sgT (prog:=prog) (w:=w) (A:=A) (vs:=[]) H.1 (by rw[bw];exact hz) M;refine zU (KO:=KO ds c) (kd:=tuples' bT) (r:=rk (ds.map CP)) (s:={s with heap:=g.push (cG "list" c.toArray 0)}) oL (by lia) (λi x h' tk R S k T=>?_) (λU h' tk R X Y k Z T=>?_) (λU h' tk i j C X Y k Z F hj hC=>?_) λh' tk n' d k J hu' ho=>?_;have F:i<c.length:=(eN.mp S).1;obtain⟨q,m⟩:=(p.keep (y h' k)).get i F;obtain⟨xs,ex⟩:=H.2 _ m;rw[ex,fL]at q;obtain⟨a,r,e,pl,pd⟩:=q;have ev:x=.ref a:=by rw[<- e];exact((eN.mp S).2).symm
  subst ev;have jl:r.size=xs.length:=by rw[<- dN];exact pd.len
  refine N h' tk a r R (y h' k) pl.isList (by rw[jl];exact JO xs (ex▸m)) λu O t z q1 q2 q3=>T u O t _ q1 q2 q3 ⟨z,xs,a,?_,S,by rw[jl]⟩;have hd:i<ds.length:=by lia
  rw[<- ex,cU hd];simp[hd];obtain⟨_,_,I⟩:=sgT (prog:=prog) (w:=w) (A:=A) (vs:=U) H.1 (by rw[bw];exact hz) M;exact(I _ _ rfl (by rw[bw];lia) (KS.Et Y (p.keep (y h' k)) Z)).1 _ R T;obtain⟨_,_,I⟩:=sgT (prog:=prog) (w:=w) (A:=A) (vs:=U) H.1 (by rw[bw];exact hz) M;exact(I _ _ rfl (by rw[bw];lia) (KS.Et Y (p.keep (y h' k)) Z)).2 i j C (by rw[bw];lia) (by rw[bw];lia) hC;rw[lv]at J;have lt:∀i∈d,i<ds.length:=λi F=>kO.mp (J.mem_iff.mp F);refine⟨_,rfl,aB ⟨_,rfl,h h' tk _ n' d (y h' k) z1 lt J ?_ ho⟩⟩;have pe:(d.map λi=>(ds.map CP).getD i D.cR).Perm (ds.map CP):=by have:=J.map λi=>(ds.map CP).getD i D.cR;rwa [show cY ds.length=cY (ds.map CP).length by rw[bw],So.map_range]at this
  refine(BG (le:=λa b=>rP (fl a) (fl b)=bT) (λa b ha hb g X=>ij a ((cX _).mem_iff.mp ha) b (pe.mem_iff.mp hb) (yh _ _ g X)) (n6 _) ?_ ((cX _).trans pe.symm));rw[Bu];refine hu'.imp_of_mem λ{i j} F hj lU=>?_;unfold rP;rw[JG (ds.map CP) (by rw[bw];exact lt j hj),bh9 (by lia)];rfl
end Dm
namespace L2
open PySem PySem.Spec PySem.W PyProof.Rows
def sj.tab(ok:sj P w H h)(hT:H T=ai (.DN p q))(k:∀b u,b≠T->h.get? b=ai u->h'.get? b=ai u)(l:h.objs.size<=c)(Y:h'.get? c=ai f)(od:f.data=.fields vs)(m:vs[1]?=ai (.str q t))
  (g:h'.get? T=ai (tabObj ps)) (tr:TriplesOk ps.toList) (i:codeAmong p ps.toList=ai (.ref c)):sj P w (upd H c (.DM f (.own c))) h':=λb u e=>by
 have a:=ok.fresh l;have n:T≠c:=λz=>by rw[z,a]at hT;cases hT
 by_cases hb:b=c;subst hb;rw[bM]at e;cases e;exact⟨Y,_,Y⟩;rw[aS hb]at e;by_cases j:b=T;subst j;rw[hT]at e;cases e;exact⟨ps,g,tr,.inr ⟨c,f,vs,t,i,bM,od,m⟩⟩;refine(ok b u e).zI (λd v hd r=>k d v ?_ r) (λd r=>by rw[aS (bg r a)];exact r) (λd x r=>by rw[aS (bg r a)];exact r) λd o x r=>by rw[aS (bg r a)];exact r
 rcases hd with rfl|hd;exact j;rintro rfl;rw[hT]at hd;cases hd
def Un.tab(hT:H T=ai (.DN p q))(k:∀b u,b≠T->h.get? b=ai u->h'.get? b=ai u)(a:H c=aj)(g:h.objs.size<=c)(d:∃u,h'.get? T=ai u):Un fs [] H (upd H c o) h h' where
 keep:=λb u e n _ _=>k b u (λz=>by rw[z,hT]at n;cases n) e
 slot:=λb u e n _ _=>⟨u.slots,k b u (λz=>by rw[z,hT]at n;cases n) e⟩
 free:=λb u e n _=>by rw[aS (dM (gO (bZ e) g))];exact n
 there:=λb u e _=>by
  by_cases f:b=T;rw[f];exact d;exact⟨u,k b u f e⟩
 pT:=λb x r=>by rw[aS (bg r a)];exact r
 xK:=λb u x r=>by rw[aS (bg r a)];exact r
 xM:=λb u x r=>by rw[aS (bg r a)];exact r
noncomputable def isK:au->au->au->au->Bool
 |.str _ _,b,c,d=>(match b with |.int _ _=>(match c with |.bool _=>(match d with |.int _ _=>bT|_=>b4)|_=>b4)|_=>b4)
 |_,_,_,_=>b4
def ac1(h:isK a b c d=bT):∃x e y f z w g,a=.str x e/\b=.int y f/\c=.bool z/\d=.int w g:=by
 cases a <;> try (cases h;done)
 cases b <;> try (cases h;done)
 cases c <;> try (cases h;done)
 cases d <;> try (cases h;done)
 exact⟨_,_,_,_,_,_,_,rfl,rfl,rfl,rfl⟩
noncomputable def uU(K:aF)(c T:av):Bool:=match K.lookup c with
 | some o=>(o.cls == .type "code")&&(match o.data with
  |.fields v=>decide (v[11]?=ai (.ref T))&&isK (v.getD 18 .none) (v.getD 7 .none) (v.getD 9 .none) (v.getD 10 .none)&&decide (c≠T)
  | _=>b4)
 |none=>b4
def K9{K:aF}(X:K.In h)(e:uU K c T=bT):CodeHd h c T:=by
 unfold uU at e;cases lk:K.lookup c with
 |none=>rw[lk]at e;cases e
 |some o=>
  rw[lk]at e;obtain⟨b,n,d,s⟩:=o;have e:=Bool.and_eq_true_iff.mp e;have f:b=.type "code":=bi0.mp e.1;subst f;cases d with
  |fields v=>have e:(decide (v[11]?=ai (.ref T))&&isK (v.getD 18 .none) (v.getD 7 .none) (v.getD 9 .none) (v.getD 10 .none)&&decide (c≠T))=bT:=e.2;simp only[bI,bi1]at e;obtain⟨⟨a,g⟩,i⟩:=e;obtain⟨_,_,_,_,_,_,_,j,k,l,m⟩:=ac1 g;exact⟨_,v,_,_,_,_,_,_,_,X _ _ lk,rfl,rfl,a,by rw[jm,a];rfl,j,k,l,m,i⟩
  |_=>cases e.2
noncomputable def Mb(K:aF)(b T:av):Bool:=match K.lookup b with
 |some ⟨.type "module",ai d,.plain,_⟩=>decide (d=builtinsNs)&&decide (b≠builtinsNs)&&decide (b≠dS)&&decide (b≠T)
 |_=>b4
structure VA(X:Cx)(args:Arguments)(scope:iP)(T:av)(q:Str):Prop where
 code:∃c,X.env.code=.ref c/\uU X.K c T=bT
 glob:X.env.globals=dS
 qual:X.env.qual ++ "<lambda>"=q
 blt:∃b,X.mg "__builtins__"=ai (.ref b)/\Mb X.K b T=bT
 gT:dS≠T
 aF9:closureFor scope X.env=pure []
 dfl:defaultsOf args X.env=([],[])
def Rn{Q:au->ay->Prop}(L:VA X args scope T q)(I:Inv X N σ H s)(hT:H T=ai (.DN l q))
  (h:∀f H1 h' tk o A O M,aG H H1->(∀b,H b≠aj->H1 b=H b)->Inv X N σ H1 {s with heap:=h',toks:=tk}->h'.get? f=ai o->o.data=.func (kla_fn "<lambda>" q args body scope [] O A M)->h'.CodeRec A q->Q (.ref f) {s with heap:=h',toks:=tk}) :
  aC (aE X.prog X.w) X.A (eval (.Lambda args body scope l) X.env) Q X.xe s:=by
 rw[arm_eval_Lambda,L.dfl,L.qual];dsimp only;refine ak (aB (ak (jb (aB ?_))));obtain⟨C,gT,tr,P⟩:=I.fE T _ hT;obtain⟨c,E,hd⟩:=L.code;obtain⟨S,U,g⟩:=L.blt;have hb:s.heap.BuiltinsAt X.mg T:=by unfold Mb at g;split at g;rename_i d _ lk;simp only[bI,bi1]at g;obtain⟨⟨⟨rfl,Y⟩,Z⟩,b6⟩:=g;exact⟨S,_,U,Y,Z,b6,I.BK _ _ lk,rfl,rfl,rfl⟩;cases g
 have hd:=K9 I.BK hd;have F:s.heap.Ns dS X.mg:=I.mod.glob.keeps I.bk;rcases P with J|⟨a,m,v,t,hf,p,od,n⟩;refine kla_makeFunction L.aF9 L.glob F E hd gT tr J L.gT hb λa M h' tk hx r gK w x=>?_;obtain⟨c2,m,v,t,e2,Yo,od,n⟩:=w;cases e2;have k:∀b u,b≠T->s.heap.get? b=ai u->(h'.push (kla_obj "<lambda>" q args body scope [] ((X.mg "__name__").getD .none) a M)).get? b=ai u:=λb u hb e=>bP _ (hx b u hb e);have i:=bP (kla_obj "<lambda>" q args body scope [] ((X.mg "__name__").getD .none) a M) Yo;have j:=bP (kla_obj "<lambda>" q args body scope [] ((X.mg "__name__").getD .none) a M) x;have y:H a=aj:=I.fE.fresh r;have hl:(C++#[rawInt l.line,rawInt l.col,f7 a]).toList=C.toList++[rawInt l.line,rawInt l.col,.ref a]:=by simp
 refine h _ (upd H a (.DM m (.own a))) _ tk _ _ _ _ (λb o e=>by rw[aS (bg e y)];exact e) (λb hb=>aS λz=>hb (by rw[z];exact y)) (I.un (Un.tab hT k y r ⟨_,j⟩) (I.fE.tab hT k r i od n j (by rw[hl];exact TriplesOk_snoc _ _ _ _ tr) (by rw[hl];exact codeAmong_snoc _ tr J))) (eY _ rfl) rfl ⟨a,m,v,t,rfl,i,od,n⟩;refine kla_makeFunctionHit L.aF9 L.glob F E hd gT tr hf hb λM h' tk k hz=>?_;have k':∀b u,s.heap.get? b=ai u->(h'.push {cls:=.type "function",data:=.func (kla_fn "<lambda>" q args body scope [] ((X.mg "__name__").getD .none) (.ref a) M)}).get? b=ai u:=λb u e=>bP _ (k b u e);obtain⟨gc,_⟩:=I.fE a _ p;exact h _ H _ tk _ _ _ _ (λb o e=>e) (λb _=>rfl) (I.kept k') (eY _ rfl) rfl ⟨a,m,v,t,rfl,k' _ _ gc,od,n⟩
end L2
namespace Dm
open PySem PySem.Spec PySem.W PyProof.Rows L2 PySem.SeqAt Ts So
structure ac2(x:Str)(q:Str)(args:Arguments)(body:bq)(scope:iP):Prop where
 co:scope.isCoroutine=b4
 gen:scope.isGenerator=b4
 kind:scope.kind=.function
 loc:scope.names.lookup x=ai .local
 len:scope.names.lookup ("len" : Str)=ai .globalImplicit
 bind:∀pm cv Ma (s:ay) (u:au),BindsTo s (kla_fn "<lambda>" q args body scope [] pm cv Ma) ⟨[u],[]⟩ [(x,u)]
 ndb:(x==("__debug__" : Str))=b4
def tSK(K:aF)(C:Cfg)(T:av)(l:Pos)(q:Str)(t:TE):TE:=λe H Q=>t e H λv H1=>∃a ws d,v=.ref a/\H1 T=ai (.DN l q)/\k9 K H1 a ws/\aM K C H1 d ws/\SkK d/\cC d=bT/\(∀x,D.lst x∈d->(x.length:Int)<2 ^ 63)/\
 ∀(c:Hp) (p:av) (b:List Nat),aG H1 c->c p=aj->(∀i∈b,i<d.length)->b.Perm (cY d.length)->fV (d.map CP)=b.map (λi=>(d.map CP).getD i .cR)->Q (.ref p) (upd c p (.lst (b.map λi=>ws.getD i .cR)))
def Ro(he:PE X e te)(L:VA X args scope T q)(d:ac2 x q args (Lm.body x J M N O P S U) scope)(hg:Gl X "sorted")(hm:X.mg "sorted"=aj)(w:X.mg "len"=aj)(hu:X.A.units+64<cLine)(t6:X.A.depth<recursionLimit)
  (hs:autoParam (bF [e] X.env=[(b4,eval e X.env)]) b5):PE X (.Call (.Name "sorted" p0) [e] [⟨ai "key",.Lambda args (Lm.body x J M N O P S U) scope r,kp⟩] pos) (tSK X.K C T r q te):=by
 intro ao s σ H Q I h;refine tX (uA I hg hm (show jR "sorted"=ai (.builtin "sorted") by decide +kernel) ?_);have y:backTo pos (bF [e] X.env)=(b4,eval e X.env)::backTo pos (bF [] X.env):=by rw[hs];rfl
 refine Y7 ?_ y (by rw[y];rfl);rw[y];refine xu (ig (he ao s σ H _ I h) λu s1 zz=>?_);obtain⟨v,H1,I1,r1,a,ws,t,rfl,hT,hq,hr,sk,ff,sm,k⟩:=zz;obtain rfl:u=.ref a:=r1;refine By ?_;show aC _ _ (evalAll [do let v <- eval (.Lambda args (Lm.body x J M N O P S U) scope r) X.env;standAt pos;pure v]) _ _ s1;refine wpAny_evalAll_cons (ak (Rn L I1 hT λf z h' tk o cv pm Ma g _ c fo fd fr=>ak (Am (aB (wpAny_evalAll_nil ?_)))));have A:k9 X.K z a ws:=g.seq hq;have m:aM X.K C z t ws:=hr.same g _;obtain⟨bx,Y,pl,Z⟩:=c.list A;have E:ws.length=t.length:=m.len;obtain⟨mb,b1,b2⟩:=c.mod.blt;show aC _ _ (call (.builtin "sorted") [.ref a] [(kI "key",.ref f)]) _ _ _;refine CQ hu sk (by rw[<- E];exact Z) pl.isList (Inv.Et c t ff m Y) (λh3 F v ko R j hl hf hR=>?_) sm λh3 F l n p j hL gK hp G9 ho=>?_;exact Lm.Rl (j _ _ fo) fd (fr.keeps j) d.co d.gen d.kind d.loc d.len (d.bind pm cv Ma) d.ndb t6 (c.nolimit.keeps j) (mg:=X.mg) ((c.mod.glob.keeps c.bk).keeps j) w ((b1.keeps c.bk).keeps j) ((b2 "len" (by decide)).trans (show jR "len"=ai (.builtin "len") by decide +kernel)) hl hf hR;have r:p.length=t.length:=by rw[hp.length_eq,xm]
 exact yt c (h1:=h') (λb ob e=>e) j hL ho (wz Y p λi hi=>by rw[E];exact gK i hi) (by rw[bw,r,<- E];exact Z) λhn=>k z l p g hn gK hp G9
noncomputable def unK:D->D
 |.tup [_,d]=>d
 |d=>d
noncomputable def isL:D->Bool
 |.lst x=>decide (x.length<5000)
 |_=>b4
noncomputable def VB(es:List D):Bool:=es.all isL&&skB (es.map CP)&&cC es
noncomputable def rV:D->R D:=λd=>match d with
 |.lst e=>if VB e=bT then .ok (.lst ((fV (e.map CP)).map unK))else .bad
 |_=>.bad
def ac3(h:isL d=bT):∃xs,d=.lst xs/\xs.length<5000:=by
 cases d with
 |lst xs=>exact⟨xs,rfl,bi2 h⟩
 |_=>cases h
noncomputable def XS(T:av)(l:Pos)(q:Str):GL:=⟨λH=>H T=ai (.DN l q),λe h=>e _ _ h⟩
section
variable {κ:Kd}
def Mc(he:PE X e (To X.K C G0 Γ E f))(hC:∀H,C.gl H->H T=ai (.DN lp q))(L:VA X args scope T q)(LT:ac2 x q args (Lm.body x p1 p2 p3 p4 p5 p6 c1) scope)(h:Gl X "sorted")(hm:X.mg "sorted"=aj)(N:X.mg "len"=aj)(hu:X.A.units+64<cLine)(t6:X.A.depth<recursionLimit)
  (hs:autoParam (bF [e] X.env=[(b4,eval e X.env)]) b5):PE X (.Call (.Name "sorted" p0) [e] [⟨ai "key",.Lambda args (Lm.body x p1 p2 p3 p4 p5 p6 c1) scope lp,kp⟩] pos) (To X.K C G0 Γ E (oY rV f)):=
 (Ro (C:=C) he L LT h hm N hu t6 hs).imp λσ H Q Z=>by
 refine dW Z λA st r q=>?_;clear Z;refine⟨A,st,r,?_⟩;unfold oY R.bind at q;cases O:f st with
 |bad=>rw[O]at q;exact q
 |ex c p=>rw[O]at q;exact q
 |ok d=>
  rw[O]at q;dsimp only at q;intro v H1 M P;cases h:rV d with
  |bad=>rw[h]at q;exact q.elim
  |ex c p=>unfold rV at h;split at h <;> (try split at h) <;> cases h
  |ok d'=>
   rw[h]at q;unfold rV at h;split at h
   ·rename_i m;split at h;case isFalse=>cases h
    rename_i hb;cases h;unfold VB at hb;simp only[bI]at hb;obtain⟨⟨b1,b2⟩,b3⟩:=hb;have S:=λd hd=>ac3 (dZ.mp b1 d hd);obtain⟨P,wd⟩:=P;obtain⟨a,ws,rfl,I,tp,ds⟩:=wd.1 m rfl;obtain⟨a',z,_,qU,ha,rs⟩:=P.2.1 rfl;cases z;rw[I]at ha;cases ha;have U:aM X.K C (nw H H1) m ws:=rs.same (aH _ _) _;refine⟨a,ws,m,rfl,hC H1 (C.glM (r.g0.trans M) r.gl),aG.seq (cj _ _) (.inl (.of I)),U.same (cj _ _) _,⟨ab9 b2,λd hd=>(S d hd).imp λ_ z=>z.1⟩,b3,λxs hx=>?_,λH2 p u y J Y hp hs=>?_⟩;obtain⟨ys,e,l⟩:=S _ hx;cases e;have:(5000:Int)<2 ^ 63:=by decide
    lia;refine q _ _ ((M.trans y).trans (cI J)) ?_;have zG:(fV (m.map CP)).map unK=u.map λi=>m.getD i .cR:=by rw[hs,dY];refine uo λi n=>?_;have n:=Y i n;obtain⟨xs,ex,_⟩:=S m[i] (nP n);show unK ((m.map CP).getD i .cR)=_;simp[n,ex,CP,unK]
    rw[zG];refine⟨Val.lst (κ:=.new) r (M.trans y) J (wA (U.same (bR y) _) u Y),oN.deep λds z=>?_⟩;cases z;have np:=hp.nodup_iff.mpr List.nodup_range;have s:∀{j:Nat} {d:D},(u.map λi=>m.getD i .cR)[j]?=ai d->∃i,u[j]?=ai i/\m[i]?=ai d/\(u.map λi=>ws.getD i .cR)[j]?=ws[i]?:=λ{j d} g=>by
     rw[d8]at g;rw[d8];cases t:u[j]? with
     |none=>rw[t]at g;cases g
     |some i=>
      rw[t]at g;have n:=Y i (iK t);have hw:i<ws.length:=by rw[U.len];exact n
      cases g;exact⟨i,rfl,by simp[n],by simp[hw]⟩
    refine⟨p,_,rfl,AN (κ:=.new) r (M.trans y) J,λj d v g F=>?_,λj k d d' v jk g F o1 o2 v1 v2=>?_⟩;obtain⟨i,t,g,e⟩:=s g;rw[e]at F;refine(tp i d v g F).mono λb o z=>?_;by_cases mb:b∈[a];rw[dG mb]at z;cases z;rw[aU mb]at z;have nb:b≠p:=λw=>by have:=y _ _ (cj _ _ _ _ z);rw[w,J]at this;cases this
    rw[aU (by simpa using nb)];exact bR (y.trans (cI J)) _ _ z;obtain⟨i,t,g,e⟩:=s g;obtain⟨i',hk,F,e'⟩:=s F;rw[e]at v1;rw[e']at v2;refine ds i i' d d' v (λz=>jk ?_) g F o1 o2 v1 v2;subst z;exact(List.getElem?_inj (eN.mp t).1 np).mp (t.trans hk.symm)
   cases h
end
end Dm
namespace L2
open PySem PySem.Spec PySem.W PyProof.Rows
section
variable {K:aF}{s:ay}{vs:List au}{ns:List Int}
def Me(I:K.In s.heap)(j:s.heap.Ns dS mg)(hb:s.heap.Ns builtinsNs Z)(J:∀x:Str,x≠ "__name__" ->Z x=jR x)(L:s.heap.NoLimit)(hg:s.gens=#[])
  (i:s.heap.get? a=ai {cls:=.type "list",data:=.seq vs.toArray}) (hi:IntsAre vs ns) (hl:ns.length<=cH) (hr:j7 k callerA)
  (hT:s.heap.get? T=ai (tabObj #[])) (hc:uU K c T=bT) (kT:K.lookup T=aj)
  (F:∀base:aW,K.In base->base.Ns dS mg->jT P w K mg base CX k fa fd [x] sp) (Rm:∀(s:ay) (u:au),BindsTo s fd ⟨[u],[]⟩ [(x,u)])
  (M:∀H:Hp,H T=ai (.DN N q)->k9 K H a (ns.map V.int)->sp [.ref a] H (λv _=>v=.bl bT) λ_ _ _=>False)
  (O:∀H e s',CX [] H s (λ_ _ _=>False) e s'->False) :
  codeAny (aE P w) callerA (.call (.ref fa) ⟨[.ref a],[]⟩) (λr s'=>r=.ok (.ret (.bool bT))/\OldK s.heap s'.heap/\s'.os=s.os/\AllBare s'.gens) s:=by
 have aT:a≠T:=λz=>by rw[z,hT]at i;cases i
 have rv:=AA hi;have Q:=hi.length;let y:Obj:={cls:=.type "list",data:=.seq vs.toArray}
 let H:Hp:=λb=>if b=T then ai (.DN N q)else if b=a then(match K.lookup a with|none=>ai (.DM y (.lst (ns.map V.int)))|some _=>aj)else aj
 have S:H T=ai (.DN N q):=bh6 rfl;have Ha:H a=match K.lookup a with|none=>ai (.DM y (.lst (ns.map V.int)))|some _=>aj:=(bh7 aT).trans (bh6 rfl)
 have A:∀b,b≠T->b≠a->H b=aj:=λb f g=>(bh7 f).trans (bh7 g);have HK:∀b o,K.lookup b=ai o->H b=aj:=λb o e=>by by_cases f:b=T;rw[f,kT]at e;cases e;by_cases g:b=a;rw[g,Ha,<- g,e];exact A b f g
 have HD:∀{b:av} {o:Obj} {C:Array pF} {E:Nat},s.heap.get? b=ai o->o.data=.dict C E->H b=aj:=λ{b o C E} e d=>by refine A b (λz=>?_) λz=>?_;rw[z,hT]at e;cases e;cases d;rw[z,i]at e;cases e;cases d
 have fE:sj P w H s.heap:=λb u z=>by
  by_cases f:b=T;subst f;rw[S]at z;cases z;exact⟨#[],hT,trivial,.inl rfl⟩;by_cases g:b=a;subst g;rw[Ha]at z;cases hk:K.lookup b with
  |none=>rw[hk]at z;cases z;exact⟨i,by rw[bw];exact hl,vs,_,rv,i⟩
  |some o=>rw[hk]at z;cases z
  rw[A b f g]at z;cases z
 have hS:k9 K H a (ns.map V.int):=by
  cases hk:K.lookup a with
  |none=>exact .inl (.inr ⟨y,by rw[Ha,hk]⟩)
  |some o=>have e:=I a o hk;rw[i]at e;cases e;exact .inr ⟨_,vs.toArray,_,hk,rfl,rfl,rfl,by rw[dP,Q];exact hl,by simpa using rv⟩
 have n:∀{b:av} {m:Str->Option au},s.heap.Ns b m->(DO s.heap H).Ns b m:=λ{b m} ⟨o,C,E,e,d,r⟩=>⟨o,C,E,DQ e (HD e d),d,r⟩
 have l:K.In (DO s.heap H):=λb o e=>DQ (I b o e) (HK b o e);have hM:Mod K mg (DO s.heap H):=⟨l,n j,⟨Z,n hb,J⟩,let⟨mc,f,g⟩:=L;⟨mc,n f,g⟩⟩
 have e0:HU P w K mg (DO s.heap H) callerA [] s H:=⟨rfl,hM,λb o e=>TH e,Nb (KJ _ _),trivial,λb hb=>bi8 (show b∈([]:List av)from hb) (by simp),fE,.of_eq hg⟩
 refine tY ((F _ l (n j)).run callerA [] s H ⟨[.ref a],[]⟩ [.ref a] [.ref a] _ _ hr e0 (Rm s (.ref a)) (.cons rfl .nil) (M H S hS)) λr s' h=>?_;match r,h with
 |.error e,h=>exact(O H e s' h).elim
 |.ok (.ret u),h=>
  obtain⟨v,H',os,p,U,t,r',q'⟩:=h;subst q';obtain rfl:u=Value.bool bT:=r';have kp:∀b o,b≠T->s.heap.get? b=ai o->s'.heap.get? b=ai o:=λb o X e=>by
   cases z:H b with
   |none=>exact U.keep b o e z (by intro z;exact bi8 (show b∈([]:List av)from z) (by simp)) (by simp)
   |some u=>
    by_cases g:b=a;subst g;rw[i]at e;cases e;rw[Ha]at z;cases hk:K.lookup b with
    |none=>rw[hk]at z;cases z;exact(t b _ (U.xK b y (.lst (ns.map V.int)) (by rw[Ha,hk]))).1
    |some o=>rw[hk]at z;cases z
    rw[A b X g]at z;cases z
  obtain⟨ps,gT,_⟩:=t T _ (U.xM T N q S);have Y:=(K9 I hc).tab hT;refine⟨rfl,⟨λb o e=>?_,λb o e=>?_⟩,os,p⟩;by_cases f:b=T;subst f;rw[hT]at e;cases e;exact .inr (.inl ⟨Y.isCodeTable,rfl,#[],ps,rfl,by rw[gT];simp⟩);exact .inl (kp b o f e);by_cases f:b=T;exact⟨_,f▸gT⟩;exact⟨o,kp b o f e⟩
end
def Rp{l:PySem.W.OpenLaw}{z:bL->aW->Prop}{d:DefRec}{K:eX->aF}{CX:bL->Tc}{sp:bL->Sp}
  (C:l.most=ai n) (j:n<=cH) (E:d.params.defaults=[]) (hr:j7 k callerA)
  (I:∀(w:bL) (h:aW),z w h->(K w.params).In h/\h.get? T=ai (tabObj #[]))
  (J:∀w:bL,(K w.params).lookup T=aj/\∃c,uU (K w.params) c T=bT)
  (F:∀(w:bL) (mg:Str->Option au) (i:av) (h:aW),(K w.params).In h->h.Ns dS mg->mg d.name=ai (.ref i)->
   ∃m:gV,(∀(s:ay) (u:au),BindsTo s m ⟨[u],[]⟩ [(x,u)])/\
    ∀base:aW,(K w.params).In base->base.Ns dS mg->jT l.prog w (K w.params) mg base (CX w) k i m [x] (sp w))
  (p:∀(w:bL) (H:Hp) (a:av) (ns:List Int),ns.length<=n->H T=ai (.DN X y)->k9 (K w.params) H a (ns.map V.int)->sp w [.ref a] H (λv _=>v=.bl bT) λ_ _ _=>False)
  (r:∀(w:bL) (H:Hp) (s:ay) (e:au) (s':ay),CX w [] H s (λ_ _ _=>False) e s'->False) :
  PySem.W.WalkO q loose Z z l.row.toRowW d [] (λf vs=>PySem.call f vs):=by
 refine Att.E6 C E λw jq L mg mb i o pm cd M a vs ns G Y ho hd HB t N g b O=>?_;obtain⟨A,gT⟩:=I w _ Y;obtain⟨P,c,Q⟩:=J w;obtain⟨m,hb,S⟩:=F w mg i _ A G.T.g t;exact Me A G.T.g G.T.b G.T.builtins G.T.nolimit O N g (cz b j) hr gT Q P S hb (λH U hS=>p w H a ns b U hS) λH e s'=>r w H L e s'
end L2
namespace Dm
open PySem PySem.Spec PySem.W PyProof.Rows L2
noncomputable def vG(st:aY):Pos:=match fu st with
 |[.Return (ai (.Call _ _ [⟨_,.Lambda _ _ _ p,_⟩] _)) _]=>p
 |_=>⟨0,0,0,0⟩
def VC{X:Cx}(l:∀(f:av) (d:au),X.mg x=ai (.ref f)->(∃o a,X.K.lookup f=ai o/\o.data=.func a/\a.code=d)->∃c,d=.ref c/\uU X.K c T=bT)
  (m:∃b,X.mg "__builtins__"=ai (.ref b)/\Mb X.K b T=bT) (n:dS≠T) (k:X.mg x=ai (.ref f)/\∃o a,X.K.lookup f=ai o/\o.data=.func a/\a.code=d) (e:autoParam (X.env.code=d) b5) (g:autoParam (X.env.globals=dS) b5)
  (p:autoParam (X.env.qual=x ++ ".<locals>.") b5) (i:autoParam (x ++ ".<locals>." ++ "<lambda>"=q) eF) (r:autoParam (closureFor scope X.env=pure []) b5) (j:autoParam (defaultsOf args X.env=([],[])) b5):VA X args scope T q:=by
 obtain⟨c,rfl,h⟩:=l f d k.1 k.2;exact⟨⟨c,e,h⟩,g,by rw[p];exact i,m,n,r,j⟩
def VD{K:Frag}(X:K.In h)(G:h.Ns dS mg)(k:nsIn K dS x=ai (ai (.ref a)))(l:K.lookup a=ai o)(d:o.data=.func b)(m:b.code=.ref c)(ct:uU K c T=bT)(f:av)(g:au)(n:mg x=ai (.ref f))(hl:∃o b,K.lookup f=ai o/\o.data=.func b/\b.code=g):∃c,g=.ref c/\uU K c T=bT:=by
 have e:=mg_of X G k;rw[n]at e;cases e;obtain⟨s,p,i,j,r⟩:=hl;rw[l]at i;cases i;rw[d]at j;cases j;exact⟨c,r.symm.trans m,ct⟩
noncomputable def ac4(st:aY):bq:=match fu st with
 |[.Return (ai (.Call _ _ [⟨_,e,_⟩] _)) _]=>e
 |_=>.Constant .none 0 ⟨0,0,0,0⟩
noncomputable def VE(st:aY):Arguments:=match ac4 st with |.Lambda a _ _ _=>a|_=>⟨[],[],aj,[],[],aj,[]⟩
def VF(st:aY):bq:=match ac4 st with |.Lambda _ b _ _=>b|e=>e
def Rq(st:aY):iP:=match ac4 st with |.Lambda _ _ s _=>s|_=>bG st
noncomputable def Rt(T:av):Frag->Frag
 |[]=>[]
 |p::K=>if p.1=T then Rt T K else p::Rt T K
theorem tH:∀K:Frag,qR T (Rt T K)=aj
 |[]=>rfl
 |(a,u)::K=>by
  by_cases e:a=T;rw[Rt,bh6 e];exact tH K;rw[Rt,bh7 e,nS,beq_false_of_ne (eW e)];exact tH K
theorem rW:∀(K:Frag) (b:av) (o:Obj),b≠T->qR b (Rt T K)=ai o->qR b K=ai o
 |[],_,_,_,h=>by cases h
 |(a,u)::K,b,o,n,h=>by
  by_cases e:a=T;rw[Rt,bh6 e]at h;rw[nS,beq_false_of_ne (λc=>n (c.trans e))];exact rW K b o n h;rw[Rt,bh7 e,nS]at h;rw[nS];by_cases c:b=a;rw[c,bi7]at h ⊢;exact h;rw[beq_false_of_ne c]at h ⊢;exact rW K b o n h
def ac5{K:Frag}(X:K.In h):(Rt T K).In h:=λa o e=>by
 by_cases n:a=T;rw[n,tH]at e;cases e;exact X a o (rW K a o n e)
end Dm
namespace Dm
open PySem PySem.Spec PyProof.Rows L2 PySem.W
def qD{K:Frag}{h:aW}{mg:Str->Option au}{x:Str}{st:aY}{ps:List Str}{f:av}{o:au}{od e:Option av}{g:Array (Option au)}{kV d p b ct:au}(X:K.In h)(G:h.Ns dS mg)(a:autoParam (nsIn K dS x=ai (ai (.ref f))) dc)(l:autoParam (K.lookup f=ai ⟨o,od,.func (fnOf x x (jr st) (fu st) (bG st) .none kV d p e b ct),g⟩) dc)
  (c:autoParam (codeIn K b x=bT) dc) (k:autoParam (keepIn K (.ref f)=bT) dc) (hb:autoParam (∀(kV d p:au) (e:Option av) (b ct:au),LK ps.length λu=>bindArgs (fnOf x x (jr st) (fu st) (bG st) .none kV d p e b ct) ⟨u,[]⟩=pure (ps.zip u)) eK):oR K mg x x st ps:=aa7 X G a l c k hb
def XT{K:Frag}(X:K.In h)(G:h.Ns dS mg)(e:autoParam (nsIn K dS x=ai (ai v)) dc):mg x=ai v:=mg_of X G e
def Tq{K:Frag}(X:K.In h)(G:h.Ns dS mg)(e:autoParam (nsIn K dS x=ai aj) dc):mg x=aj:=mg_none_of X G e
def clS{K:Frag}{C:av}(a:autoParam (plainGet K C Str.empty=bT) dc)(b:autoParam (hasDictIn K C=bT) dc)(c:autoParam (plainOver K C=bT) dc)(d:autoParam (findIn K (.ref C) "__setattr__"=ai (ai (.builtin "object.__setattr__"))) dc):MC K C:=⟨a,b,c,d⟩
def naS{K:Frag}{C:av}{x:Str}(a:autoParam (findIn K (.ref C) x=ai aj) dc):kK K C x:=a
def inS{K:Frag}{C a:av}{st:aY}{x b:Str}{ps:List Str}{o:au}{od g:Option av}{j:Array (Option au)}{kV d p e ct:au}(i:autoParam (findIn K (.ref C) "__init__"=ai (ai (.ref a))) dc)(l:autoParam (K.lookup a=ai ⟨o,od,.func (fnOf x b (jr st) (fu st) (bG st) .none kV d p g e ct),j⟩) dc)
  (c:autoParam (codeIn K e b=bT) dc) (k:autoParam (keepIn K (.ref a)=bT) dc) (m:autoParam (makesIn K C=bT) dc) (f:autoParam (isFn K (.ref a)=bT) dc) (q:autoParam (keepIn K (.ref C)=bT) dc) (hb:autoParam (∀(kV d p:au) (g:Option av) (e ct:au),LK ps.length λu=>bindArgs (fnOf x b (jr st) (fu st) (bG st) .none kV d p g e ct) ⟨u,[]⟩=pure (ps.zip u)) eK) :
  ∃a h,ME K x b st a h/\Mk K C a/\Binds K h ps []:=⟨a,_,BY (st:=st) l c k,⟨m,i,f,q⟩,AY (BY (st:=st) l c k) hb⟩
def bb4{K:Frag}(X:K.In h)(G:h.Ns dS mg)(g:autoParam (nsIn K dS x=ai (ai (.ref a))) dc)(l:autoParam (K.lookup a=ai o) dc)(d:autoParam (o.data=.func b) b5)(i:autoParam (b.code=.ref c) b5)(ct:autoParam (uU K c T=bT) fh):∀(f:av) (e:au),mg x=ai (.ref f)->(∃o b,K.lookup f=ai o/\o.data=.func b/\b.code=e)->∃c,e=.ref c/\uU K c T=bT:=VD X G g l d i ct
def bmS{K:Frag}(X:K.In h)(G:h.Ns dS mg)(e:autoParam (nsIn K dS "__builtins__"=ai (ai (.ref b))) dc)(m:autoParam (Mb K b T=bT) fh):∃b,mg "__builtins__"=ai (.ref b)/\Mb K b T=bT:=⟨b,mg_of X G e,m⟩
def scS{N P:List Str}{sc:iP}(a:autoParam (sc.kind=.function) b5)(b:autoParam (sc.isCoroutine=b4) b5)(c:autoParam (sc.isGenerator=b4) b5)(d:autoParam (N.Nodup) eF)(e:autoParam (N.take P.length=P) b5)(f:autoParam (∀x∈P,sc.names.lookup x=ai .local\/sc.names.lookup x=ai .cell) eF)(g:autoParam (∀y∈sc.names,y.2≠.free) eF):kQ N P sc:=⟨a,b,c,d,e,f,g⟩
def bb5:∀{a:List SK} {n:Nat},a.take n=kE n .par->∀i,i<n->a[i]?=ai .par:=λ{a n} h i b=>by
 rw[<- GF b,h,List.getElem?_replicate_of_lt b]
end Dm
namespace Dm
open PySem PySem.Spec PyProof.Rows L2
noncomputable def F0(F:DS):DS:=λst=>match F st with |.ex _ _ _=>.bad|o=>o
def VG{X:Cx}{C:Cfg}{G0:Hp}{j:List SK}{k:L2.St->XK}{l:Option Bool}{F:DS}{body:List aY}{y:ExceptHandler}{hs:List ExceptHandler}{m:Pos}(hb:∀E,qL (X.dJ (kj X E)) body (lV X.K C G0 j E l F)):PS (X.dJ (kj X k)) (.Try body (y::hs) [] [] m) (lV X.K C G0 j k l (F0 F)):=λn s x H D I J=>by
 obtain⟨A,st,r,q⟩:=J;have L:lV X.K C G0 j vC l F {nx:=D.nx,rt:=D.rt,bk:=D.bk,ct:=D.ct} x H:=by
  refine⟨A,st,r,?_⟩;unfold F0 at q;cases h:F st with
  |nx a=>rw[h]at q;exact q
  |bk a=>rw[h]at q;exact q
  |ct a=>rw[h]at q;exact q
  |rt d=>rw[h]at q;exact q
  |bad=>rw[h]at q;exact q
  |ex c p a=>rw[h]at q;exact q.elim
 refine wpAny_Try_except (iw (hb vC n s x H _ (I.iO.dJ _) L) (λf o t=>?_) λev o w=>(tw w).elim);have t:L2.SP (X.dJ (kj X vC)) n D f o:=t;have i:L2.SP (X.dJ (kj X k)) n D f o:=by
  have:=L2.SP.iO t;cases f with
  |next=>obtain⟨b,e,g,z⟩:=this;exact⟨b,e,g.dJ _,z⟩
  |brk=>obtain⟨b,e,g,z⟩:=this;exact⟨b,e,g.dJ _,z⟩
  |cont=>obtain⟨b,e,g,z⟩:=this;exact⟨b,e,g.dJ _,z⟩
  |ret u=>obtain⟨v,b,e,g,M,z⟩:=this;exact⟨v,b,e,g.dJ _,M,z⟩
 cases f with
 |next=>exact DG i
 |brk=>exact i
 |cont=>exact i
 |ret u=>exact i
noncomputable def lnB(ds:List D):Bool:=ds.all λd=>match d with |.lst e=>dR e&&decide (e.length<=400)|_=>b4
def Ru{ds:List D}(h:lnB ds=bT)(m:d∈ds):∃es,d=.lst es/\dR es=bT/\es.length<=400:=by
 have:=dZ.mp h d m;split at this;rw[bI]at this;exact⟨_,rfl,this.1,bi2 this.2⟩;cases this
noncomputable def dpB(d:D):Bool:=match kL d with|some z=>lnB z.2.2|none=>bT
noncomputable def refOf:V->Option av
 |.ref a=>ai a
 |_=>aj
def RS.bb6{K:aF}{T:L2.St}{H f:Hp}{A:List av}{st:gM}{i:Nat}{d:D}{v:V}(r:RS K C G0 U T H A st)(e:aG H f)(hk:U[i]?=ai .dp)(hb:dpB d=bT)(q:Val K C .new G0 A H f d v)(dp:qe K C H (nw H f) d v) :
  ∃l,RS K C G0 U (T.set i (ai v)) f l (st.set i (ai d))/\aG (er H A) (er f l):=by
 have r':=r.mono e;have F:∀{l:List av},aG (er H A) (er f l)->(∀a∈A,a∈l)->(∀a∈l,∃o,f a=ai o/\Qi o=bT)->Slot K C .dp G0 l f d v->RS K C G0 U (T.set i (ai v)) f l (st.set i (ai d)):=λ{l} I sb N sl=>by
  refine⟨r.base.trans I,N,by simp[r.len],λj d' h=>?_,λc b n' m' p' Iw zG su g1 g2 s1 s2 o1 o2 w1 w2=>?_,r.gl⟩;by_cases k:i=j;subst k;have J:i<st.length:=by have:=(eN.mp h).1;simpa using this
  rw[iQ J]at h;cases h;exact⟨.dp,v,hk,iQ (by rw[r.len];exact J),sl⟩;rw[i7 k]at h ⊢;exact bC (r.slot j d' h) λk' v' h1 O P=>⟨k',v',h1,O,P.move e I sb⟩
  have L:c≠i:=λz=>by subst z;rw[hk]at g1;cases g1
  have hb:b≠i:=λz=>by subst z;rw[hk]at g2;cases g2
  rw[i7 (eW L)]at s1 w1;rw[i7 (eW hb)]at s2 w2;exact r.apart c b n' m' p' Iw zG su g1 g2 s1 s2 o1 o2 w1 w2
 cases Q:kL d with
 |none=>exact⟨A,F (aJ e) (λ_ m=>m) r'.lists (.inr ⟨Q,Val.le r e (κ:=.new) (κ':=.old) rfl q⟩),aJ e⟩
 |some z=>
  obtain⟨s,s',n⟩:=z;unfold dpB at hb;rw[Q]at hb;have hb:lnB n=bT:=hb;obtain⟨tq,tr,p,x,rfl,O,P,h4,h5,h6,h7⟩:=dp.2 _ Q;obtain rfl:=AM Q;dsimp only at O P h4 h7;obtain⟨p',qU,z,h8,tp,_⟩:=h4 n rfl;cases z;rw[h6]at h8;cases h8;have M:=h7.len;have g:∀(j:Nat) (v:V),x[j]?=ai v->∃d a t y,n[j]?=ai d/\d=.lst t/\v=.ref a/\H a=aj/\a≠p/\f a=ai (.lst y)/\dR t=bT/\aM K C f t y:=λj v S=>by
   have J:j<n.length:=by rw[<- M];exact(eN.mp S).1
   have hd:n[j]?=ai n[j]:=cU J;obtain⟨t,ed,ne,_⟩:=Ru hb (nP J);rw[ed]at hd;obtain⟨a,rfl,X,y,L,ra⟩:=(tp j _ _ hd S).1 rfl;refine⟨_,a,t,y,hd,rfl,rfl,X,λw=>?_,cj _ _ _ _ (aH _ _ _ _ L),ne,ra.same (((aH _ _).trans (aH _ _)).trans (cj _ _)) _⟩;rw[w,dG (.head _)]at L;cases L
  have E:∀a,a∈x.filterMap refOf->∃j:Nat,x[j]?=ai (V.ref a):=λa m=>by
   obtain⟨v,S,hr⟩:=x9.mp m;obtain⟨j,k,ej⟩:=NS S;cases v with
   |ref b=>cases hr;exact⟨j,by rw[cU k,ej]⟩
   |_=>cases hr
  have new:∀{b:av},H b=aj->b∉A:=λhb m=>by obtain⟨y,z,_⟩:=r.lists _ m;rw[hb]at z;cases z
  have I:aG (er H A) (er f (x.filterMap refOf++A)):=λb u z=>by
   by_cases Y:b∈A;rw[dG Y]at z;cases z;rw[aU Y]at z;have nl:b∉x.filterMap refOf:=λm=>by obtain⟨j,k⟩:=E b m;obtain⟨_,a,_,_,_,_,w,X,_⟩:=g j _ k;cases w;rw[X]at z;cases z
   rw[aU (by simp[Y];simpa using nl)];exact e _ _ z
  have N:∀a∈x.filterMap refOf++A,∃o,f a=ai o/\Qi o=bT:=λa m=>by rcases i6.mp m with m|m;obtain⟨j,k⟩:=E a m;obtain⟨_,b,_,y,_,_,w,_,_,h,_⟩:=g j _ k;cases w;exact⟨_,h,rfl⟩;exact r'.lists a m
  have Z:jV f (er f (x.filterMap refOf++A)):=.er N;refine⟨x.filterMap refOf++A,F I (λ_ m=>mW _ m) N (.inl ⟨tq,tr,p,s,s',n,x,rfl,rfl,Z.sq (aG.tup (cj _ _) O),Z.sq (aG.tup (cj _ _) P),?_,M,λj d v g1 g2=>?_⟩),I⟩;rw[aU];exact cj _ _ _ _ h6;intro m;rcases i6.mp m with m|m;obtain⟨j,k⟩:=E p m;obtain⟨_,b,_,_,_,_,w,_,np,_⟩:=g j _ k;cases w;exact np rfl;exact new h5 m;obtain⟨d',a,t,y,k1,rfl,rfl,_,_,k5,k6,k7⟩:=g j v g2;rw[g1]at k1;cases k1;exact⟨a,y,t,rfl,rfl,DJ _ (x9.mpr ⟨_,iK g2,rfl⟩),k5,k6,k7.part Z _ k6⟩
noncomputable def F5(i:Nat)(f:DF):DS:=λst=>match f st with
 |.ok d=>if dpB d=bT then .nx (st.set i (ai d))else .bad
 |.ex c p=>.ex c p st
 |.bad=>.bad
section
variable {X:Cx}{C:Cfg}{G0:Hp}{Γ:List SK}{E:L2.St->XK}{iU:Option Bool}{f:DF}{e:bq}{pos:Pos}{i:Nat}
def VH(g:X.N.Nodup)(j:PE X e (To X.K C G0 Γ E f))(hk:autoParam (Γ[i]?=ai .dp) b5)(k:autoParam (X.N[i]?=ai x) b5)(l:autoParam (Loc X.env.scope x) ef)(hs:autoParam (swapsWith e (ai (.Name x pos')) pos.line X.env=pure b4) b5)
  (h:autoParam (X.fn x=bT\/X.env.scope.names.lookup x=ai .local) ef):PS X (.Assign [.Name x pos'] e pos) (lV X.K C G0 Γ E iU (F5 i f)):=(HG g k l j hs h).imp λD m H z=>by
 obtain⟨A,st,r,q⟩:=z;refine⟨A,st,r,?_⟩;unfold F5 at q;cases h:f st with
 |bad=>rw[h]at q;exact q
 |ex c p=>rw[h]at q;exact λb a=>q m b A (r.mono a) (aJ a)
 |ok d=>rw[h]at q;dsimp only at q;intro v b a w;by_cases hb:dpB d=bT;rw[bh6 hb]at q;obtain⟨n,o,s⟩:=r.bb6 a hk hb w.1 w.2;exact q _ _ n o s;rw[bh7 hb]at q;exact q.elim
def jX(h:PE X e (rK i))(hk:autoParam (Γ[i]?=ai .dp) b5):PE X e (tD X.K C G0 Γ E (ah i) .jG):=Cv i h hk
noncomputable def Rv(i:Nat):DF:=λst=>match st[i]? with
 |some (ai d)=>if(kL d).isNone=bT then .ok d else .bad
 |_=>.bad
def Rw(h:PE X e (rK i))(hk:autoParam (Γ[i]?=ai .dp) b5):PE X e (tD X.K C G0 Γ E (Rv i) .old):=h.imp λl H Q z=>by
 obtain⟨A,st,r,q⟩:=z;unfold Rv at q;cases a:st[i]? with
 |none=>rw[a]at q;exact q.elim
 |some o=>
  cases o with
  |none=>rw[a]at q;exact q.elim
  |some d=>rw[a]at q;dsimp only at q;by_cases b:(kL d).isNone=bT;rw[bh6 b]at q;obtain⟨k,v,c,g,j⟩:=r.slot i d a;rw[hk]at c;cases c;refine⟨v,g,q v H (.refl _) ?_⟩;rcases j with⟨_,_,_,_,_,_,_,rfl,_⟩|⟨_,w⟩;cases b;exact w;rw[bh7 b]at q;exact q.elim
noncomputable def F6(s s':Str)(f:DF):DF:=λst=>match f st with
 |.ok d=>(match d with |.lst a=>.ok (.tup [.str s,.tup [.str s',.lst a]])|_=>.bad)
 |.ex c p=>.ex c p
 |.bad=>.bad
def VI{c g:bq}{s s':Str}{x x2:Nat}{I:Pos}(hc:PE X c (tC (.str s)))(uz:PE X g (tC (.str s')))(he:PE X e (To X.K C G0 Γ E f))(h1:autoParam (bF [g,e] X.env=[(b4,eval g X.env),(b4,eval e X.env)]) b5)(F:autoParam (bF [e] X.env=[(b4,eval e X.env)]) b5)(h3:autoParam (bF [c,.Tuple [g,e] x I] X.env=[(b4,eval c X.env),(b4,eval (.Tuple [g,e] x I) X.env)]) b5)(J:autoParam (bF [.Tuple [g,e] x I] X.env=[(b4,eval (.Tuple [g,e] x I) X.env)]) b5) :
  PE X (.Tuple [c,.Tuple [g,e] x I] x2 pos) (To X.K C G0 Γ E (F6 s s' f)):=(BU (gF hc (gF (BU (gF uz (gF he l7 F) (by rw[h1,F]))) l7 J) (by rw[h3,J]))).imp λσ H Q zz=>by
 obtain⟨A,st,r,q⟩:=zz;refine⟨A,st,r,?_⟩;unfold F6 at q;cases k:f st with
 |bad=>rw[k]at q;exact q
 |ex c p=>rw[k]at q;exact q
 |ok d=>
  rw[k]at q;cases d with
  |lst L=>
   dsimp only at q;intro v H1 l w;obtain⟨M,N⟩:=w;have two:∀a b:V,[a,b].length<=cH:=λa b=>by simp only[cS,nQ];rw[gf];decide
   refine⟨two _ _,λp O=>⟨two _ _,λh j=>?_⟩⟩;obtain⟨b,xs,rfl,P,tp,dst⟩:=N.1 L rfl;obtain⟨b',z,b0,qU,S,rx⟩:=M.2.1 rfl;cases z;rw[P]at S;cases S;have n:aG H1 (upd H1 p (.tup [.str s',.ref b])):=cI O;have o:aG (upd H1 p (.tup [.str s',.ref b])) (upd (upd H1 p (.tup [.str s',.ref b])) h (.tup [.str s,.ref p])):=cI j;have T:=l.trans (n.trans o);have t:H p=aj:=l.free O;have u:H h=aj:=(l.trans n).free j;have ne:p≠h:=λz=>by rw[<- z,bM]at j;cases j
   generalize U:upd (upd H1 p (.tup [.str s',.ref b])) h (.tup [.str s,.ref p])=y at o T;have Y:nw H y p=ai (.tup [.str s',.ref b]):=by rw[jM t,<- U,aS ne,bM]
   have Z:nw H y h=ai (.tup [.str s,.ref p]):=by rw[jM u,<- U,bM]
   have m:aG (nw H H1) (nw H y):=bR (n.trans o);refine q _ _ T ⟨⟨?_,λz=>(by cases z),.not rfl⟩,λL z=>(by cases z),λz hz=>?_⟩;rw[Rep];refine⟨h,_,rfl,.of Z,.cons (by rw[Rep]) (.cons ?_ (by rw[aM]))⟩;rw[Rep];exact⟨p,_,rfl,.of Y,.cons (by rw[Rep]) (.cons (M.1.same m _) (by rw[aM]))⟩;cases hz;exact⟨h,p,b,xs,rfl,.of Z,.of Y,N.1.mono m,b0,m _ _ P,rx.same (aJ m) _⟩
  |_=>exact q.elim
end
noncomputable def VJ(f:DF)(lo b:Option DF):DF:=λst=>(f st).bind λa=>(m6 lo st).bind λl=>(m6 b st).bind λh=>match a with
 |.tup d=>if oX (.tup (cutD d l h))=bT/\¬ (HT.jj d.length 0 l=0/\HT.jj d.length d.length h=d.length)then .ok (.tup (cutD d l h))else .bad
 |_=>.bad
def ac6{X:Cx}{C:Cfg}{G0:Hp}{f:List SK}{E:L2.St->XK}{e:bq}{j:DF}{jH:Kd}{k:Pos}{lo u:Option bq}{fl m:Option DF}{I:Pos}(J:PE X e (tD X.K C G0 f E j jH))(hl:PO X lo (tDO X.K C G0 f E fl))(L:PO X u (tDO X.K C G0 f E m))(lk:autoParam (jH.le .old=bT) b5):PE X (.Subscript e (.Slice lo u aj I) k) (tD X.K C G0 f E (VJ j fl m) .old):=(E3 YR J hl L).imp λT H Q M=>by
 obtain⟨A,st,r,q⟩:=M;refine⟨A,st,r,?_⟩;unfold VJ R.bind at q;cases n:j st with
 |bad=>rw[n]at q;exact q
 |ex c p=>rw[n]at q;exact q
 |ok a=>
  rw[n]at q;intro x H1 b N;refine⟨A,st,r.mono b,?_⟩;dsimp only at q;cases hb:m6 fl st with
  |bad=>rw[hb]at q;exact q
  |ex c p=>rw[hb]at q;exact λo s=>q o (b.trans s)
  |ok l=>
   rw[hb]at q;intro U g;refine⟨A,st,r.mono (b.trans g),?_⟩;dsimp only at q;cases t:m6 m st with
   |bad=>rw[t]at q;exact q
   |ex c p=>rw[t]at q;exact λo s=>q o ((b.trans g).trans s)
   |ok h=>
    rw[t]at q;intro O v;dsimp only at q;cases a with
    |tup d=>dsimp only at q;by_cases i:oX (.tup (cutD d l h))=bT/\¬ (HT.jj d.length 0 l=0/\HT.jj d.length d.length h=d.length);rw[bh6 i]at q;have w:Rep X.K C (er O A) (.tup d) x:=Rep.same (aJ (g.trans v)) _ (N.le r b (κ':=.old) lk);rw[Rep]at w;obtain⟨p,P,rfl,S,y⟩:=w;have z:=(b.trans g).trans v;exact⟨p,P,rfl,aG.tup (aH _ _) S,by rw[y.len];exact i.2,λY F=>q _ _ (z.trans (cI F)) (Val.tup (κ:=.old) r z F i.1 (EE y))⟩;rw[bh7 i]at q;exact q.elim
    |_=>exact q.elim
def VL(C:Cfg)(p:av):Cfg:=⟨λt _ _ a x=>t=7/\a=p/\x=[],λ_ h=>h,λ_ _ _ _ _=>False,λ_ _ h=>h,λh _ _=>h.elim,λh=>h.elim,C.gl,C.glM⟩
mutual
theorem Rep.cfg{K:aF}{C C':Cfg}{H:Hp}:∀(d:D) {v:V},gq d=bT->Rep K C H d v->Rep K C' H d v
 |.cR,v,_,q=>by rw[Rep]at q ⊢;exact q
 |.bl b,v,_,q=>by rw[Rep]at q ⊢;exact q
 |.int i,v,_,q=>by rw[Rep]at q ⊢;exact q
 |.str x,v,_,q=>by rw[Rep]at q ⊢;exact q
 |.tup c,v,n,q=>by
  rw[Rep]at q ⊢;rw[gq]at n;obtain⟨a,e,h,f,g⟩:=q;exact⟨a,e,h,f,aM.cfg c n g⟩
 |.lst c,v,n,q=>by rw[gq]at n;cases n
 |.bN t c,v,n,q=>by rw[gq]at n;cases n
theorem aM.cfg{K:aF}{C C':Cfg}{H:Hp}:∀(ds:List D) {vs:List V},dR ds=bT->aM K C H ds vs->aM K C' H ds vs
 |[],_,_,q=>by rw[aM]at q ⊢;exact q
 |d::ds,_,n,q=>by
  rw[aM]at q ⊢;rw[dR,bI]at n;obtain⟨v,r,e,a,b⟩:=q;exact⟨v,r,e,Rep.cfg d n.1 a,aM.cfg ds n.2 b⟩
end
noncomputable def qE(n i:Nat)(d:D):gM:=(kE n aj).set i (ai d)
noncomputable def Rx:R D->Option D
 |.ok d=>ai d
 |.ex _ _ |.bad=>aj
def Ka{r:R D}(h:Rx r=ai z):r=.ok z:=by cases r <;> cases h;rfl
noncomputable def ac7:D->Bool
 |.bN t d=>decide (t=7)&&d.isEmpty
 |.cR |.bl _ |.int _ |.lst _ |.tup _ |.str _=>b4
def VM{d:D}(h:ac7 d=bT):d=.bN 7 []:=by
 cases d with
 |bN t a=>have h:(decide (t=7)&&a.isEmpty)=bT:=h;rw[bI,decide_eq_true_iff,GW]at h;rw[h.1,h.2]
 |_=>cases h
noncomputable def Kc(r:R D):Bool:=match(Rx r).bind yv with
 |some a=>(match a with |[]=>b4|d::l=>ac7 d&&l.isEmpty)
 |none=>b4
noncomputable def isNil(r:R D):Bool:=match(Rx r).bind yv with
 |some d=>d.isEmpty
 |none=>b4
def Ry(h:Kc r=bT):r=.ok (.lst [.bN 7 []]):=by
 unfold Kc at h;cases b:(Rx r).bind yv with
 |none=>rw[b]at h;cases h
 |some c=>
  rw[b]at h;obtain⟨d,e,f⟩:=l0.mp b;rw[Ka e,t8 f];cases c with
  |nil=>cases h
  |cons a l=>have h:(ac7 a&&l.isEmpty)=bT:=h;rw[bI,GW]at h;rw[VM h.1,h.2]
def Rz(h:isNil r=bT):r=.ok (.lst []):=by
 unfold isNil at h;cases a:(Rx r).bind yv with
 |none=>rw[a]at h;cases h
 |some e=>rw[a]at h;obtain⟨d,b,c⟩:=l0.mp a;rw[Ka b,t8 c,GW.mp h]
noncomputable def yN(n i:Nat)(f:DF)(d:D):Bool:=match kL d with
 |some z=>lnB z.2.2&&decide (z.2.2.length<=4500)&&Kc (f (qE n i (.tup [.str z.1,.tup [.str z.2.1,.bN 7 []]])))
 |none=>gq d&&isNil (f (qE n i d))
noncomputable def CS(i j k:Nat)(f:DF):DS:=λst=>match st[i]? with
 |some (ai d)=>if yN st.length i f d=bT then .nx (((st.set i aj).set j aj).set k aj)else .bad
 |_=>.bad
noncomputable def RA(i:Nat)(a:List SK):Bool:=(cY a.length).all λj=>match a[j]? with
 |some .par=>bT
 |some .loc=>bT
 |some .dp=>j==i
 |_=>b4
def F7(h:RA i a=bT)(hk:a[j]?=ai k):k=.par\/k=.loc\/(k=.dp/\j=i):=by
 have g:=(eN.mp hk).1;have:=dZ.mp h j (kO.mpr g);rw[hk]at this;cases k with
 |par=>exact .inl rfl
 |loc=>exact .inr (.inl rfl)
 |dp=>exact .inr (.inr ⟨rfl,by simpa using this⟩)
 |_=>cases this
section
variable {K:aF}{C:Cfg}{G0:Hp}{Γ:List SK}{σ:L2.St}{H:Hp}{A:List av}{st:gM}
def RS.less(r:RS K C G0 Γ σ H A st)(l:st'.length=st.length)(h:∀(m:Nat) (d:D),st'[m]?=ai (ai d)->st[m]?=ai (ai d)):RS K C G0 Γ σ H A st':=
 ⟨r.base,r.lists,r.len.trans l.symm,λi d g=>r.slot i d (h i d g),λi j n m p d e a g1 g2 s b=>r.apart i j n m p d e a g1 g2 (h _ _ s) (h _ _ b),r.gl⟩
def RS.put{x:Option V}(r:RS K C G0 Γ σ H A st)(h:∀d,st[j]?≠ai (ai d)):RS K C G0 Γ (σ.set j x) H A st:=by
 have a:∀{m:Nat} {d:D},st[m]?=ai (ai d)->j≠m:=λg z=>by subst z;exact h _ g
 refine⟨r.base,r.lists,by simp[r.len],λi d g=>?_,λi k n m p d e l g1 g2 s b o1 o2 w c=>?_,r.gl⟩;rw[i7 (a g)];exact r.slot i d g;rw[i7 (a s)]at w;rw[i7 (a b)]at c;exact r.apart i k n m p d e l g1 g2 s b o1 o2 w c
def RS.bb8{p:av}{ob:HO}(r:RS K C G0 Γ σ H A st)(f:RA i Γ=bT)(s:∀d,st[i]?≠ai (ai d))(t:p∈A)(u:Qi ob=bT):RS K C G0 Γ σ (upd H p ob) A st/\er (upd H p ob) A=er H A:=by
 have e:er (upd H p ob) A=er H A:=by funext b;by_cases c:b∈A;rw[dG c,dG c];rw[aU c,aU c,aS (λz:b=p=>c (by rw[z];exact t))]
 refine⟨⟨by rw[e];exact r.base,λa m=>?_,r.len,λj g h=>?_,λa b x y E I F J g1 g2=>?_,r.gl⟩,e⟩;by_cases l:a=p;subst l;exact⟨_,bM,u⟩;rw[aS l];exact r.lists a m;obtain⟨k,v,n,w,o⟩:=r.slot j g h;refine⟨k,v,n,w,?_⟩;rcases F7 f n with rfl|rfl|⟨_,rfl⟩;show Rep K C (er _ A) g v;rw[e];exact o;show _/\_;rw[e];exact o;exact bi8 h (s _);rcases F7 f g1 with z|z|⟨z,_⟩ <;> cases z
def RS.alone{C':Cfg}{n:Nat}(r:RS K C G0 Γ σ H A st)(e:C'.gl G0)(h:i<n)(hl:i<st.length)(f:σ[i]?=ai (ai v))(w:Rep K C' (er H A) d v):RS K C' G0 (jW n) σ H A (qE st.length i d):=by
 have only:∀{m:Nat} {c:D},(qE st.length i d)[m]?=ai (ai c)->m=i/\c=d:=λ{m c} g=>by unfold qE at g;by_cases z:i=m;subst z;rw[iQ (by simpa using hl)]at g;cases g;exact⟨rfl,rfl⟩;rw[i7 z,nK]at g;split at g <;> cases g
 refine⟨r.base,r.lists,by unfold qE;simp[r.len],λm c g=>?_,λa b j k p I l s g1 g2=>(by have:=qC _ a _ g1;cases this),e⟩;obtain⟨rfl,rfl⟩:=only g;exact⟨.par,v,by unfold jW;rw[nK,bh6 h],f,w⟩
end
def hide{P:Prop}(h:∀Q:Prop,(P->Q)->Q):P:=h P id
def RB{X:Cx}{C:Cfg}{G0:Hp}{P:List SK}{E:L2.St->XK}{iU:Option Bool}{fc ft:DF}{J tg1 tg2 sv ap:bq}{ID IV bb9:Pos}{i j k n:Nat}(hp:PassesOwn (aE X.prog X.w) X.A X.env X.xe)(hc:X.calm=bT)
  (aG8:∀p,PE X J (tD X.K (VL C p) G0 (jW n) E fc .uL)) (hg1:PG X tg1 (xR j)) (hg2:PG X tg2 (xR k)) (hv:PE X sv (rK j)) (ha:PE X ap (tBM X.K "list" BX (rK k) (vg (tD X.K C G0 P E ft .new) HS)))
  (hft:∀st,∃d,ft st=.ok d) (hP:RA i P=bT) (hk:autoParam (P[i]?=ai .dp) b5) (hn:autoParam (X.N.length=n) b5) (hi:autoParam (i<n) cT) (hj:autoParam (j<n) cT) (hk':autoParam (k<n) cT) (h1:autoParam (∀x,oM J X.env x=pure x) dF) (h2:autoParam (∀x,oM sv X.env x=pure x) dF) (hsE:autoParam (swapsWith ap aj ID.line X.env=pure b4) b5) :
  PS X (.For tg1 J [.For tg2 sv [.Expr ap ID] [] IV] [] bb9) (lV X.K C G0 P E iU (CS i j k fc)):=by
 have hU:PE X J (λN H Q=>N.length=n/\∃p,tD X.K (VL C p) G0 (jW n) E fc .uL N H Q):=λao s N H Q I h=>by obtain⟨_,p,h⟩:=h;exact aG8 p ao s N H Q I h
 refine λao s N H D I F=>(xU hp hc (w6 hU) hg1 (vZ (xU hp hc (w6 hv) hg2 (vZ (sH ha hsE)) h2)) h1) ao s N H D I ?_;refine hide λQ hQ=>?_;have lσ:N.length=n:=by rw[<- hn];exact I.len
 obtain⟨A,st,r,q⟩:=F;unfold CS at q;cases tV:st[i]? with
 |none=>rw[tV]at q;exact q.elim
 |some o=>
  cases o with
  |none=>rw[tV]at q;exact q.elim
  |some d=>
   rw[tV]at q;dsimp only at q;by_cases M:yN st.length i fc d=bT;rw[bh6 M]at q;have lst:st.length=n:=by rw[<- r.len,lσ]
   obtain⟨_,v,g1,g2,sl⟩:=r.slot i d tV;rw[hk]at g1;cases g1;generalize hN:((st.set i aj).set j aj).set k aj=f at q;have lN:f.length=st.length:=by rw[<- hN];simp
   have sub:∀(m:Nat) (d:Dm.D),f[m]?=ai (ai d)->st[m]?=ai (ai d)/\m≠i/\m≠j/\m≠k:=λm d h=>by
    subst hN;have U:m<st.length:=by have:=(eN.mp h).1;simpa using this
    have nk:k≠m:=λz=>by subst z;rw[iQ (by simpa using U)]at h;cases h
    rw[i7 nk]at h;have nj:j≠m:=λz=>by subst z;rw[iQ (by simpa using U)]at h;cases h
    rw[i7 nj]at h;have ni:i≠m:=λz=>by subst z;rw[iQ U]at h;cases h
    rw[i7 ni]at h;exact⟨h,ni.symm,nj.symm,nk.symm⟩
   have rN:RS X.K C G0 P N H A f:=r.less lN λm d h=>(sub m d h).1;unfold yN at M;cases hz:kL d with
   |none=>
    rw[hz]at M;dsimp only at M;rw[bI]at M;rcases sl with⟨_,_,_,_,_,_,_,rfl,_⟩|⟨_,w⟩;cases hz;refine hQ ⟨lσ,0,A,_,r.alone (C':=VL C 0) r.gl hi (by lia) g2 (w.cfg _ M.1),?_⟩;rw[Rz M.2];intro x H1 e1 w1;obtain⟨l,rfl,_,O,hl,Y⟩:=w1.2.1 rfl;rw[aM]at Y;subst Y;have sl:k9 X.K H1 l []:=.inl (.of (aH _ _ _ _ hl));exact⟨l,rfl,⟨_,sl⟩,λ_ _ g c=>g=N/\c=H1,⟨0,rfl,rfl⟩,λi m g c F=>by
     obtain⟨rfl,rfl⟩:=F;exact .inl ⟨⟨[],sl,eS _⟩,q _ _ A (rN.mono e1) (aJ e1)⟩⟩
   |some z=>
    obtain⟨s1,s2,ds⟩:=z;rw[hz]at M;dsimp only at M;rw[bI,bI]at M;obtain⟨⟨c1,c2⟩,c3⟩:=M;have c2:=bi2 c2;rcases sl with⟨tq,tr,p,_,_,_,O,z,rfl,h6,h7,h8,h9⟩|⟨z,_⟩;have:=AM hz;rw[this]at z;cases z;refine hQ ⟨lσ,p,A,_,r.alone (C':=VL C p) (d:=.tup [.str s1,.tup [.str s2,.bN 7 []]]) r.gl hi (by lia) g2 ?_,?_⟩;rw[Rep];refine⟨tq,_,rfl,h6,.cons (by rw[Rep]) (.cons ?_ (by rw[aM]))⟩;rw[Rep];refine⟨tr,_,rfl,h7,.cons (by rw[Rep]) (.cons ?_ (by rw[aM]))⟩;rw[Rep];exact⟨p,[],rfl,⟨rfl,rfl,rfl⟩,.nil⟩;rw[Ry c3];intro x H1 e1 w1;obtain⟨l,rfl,_,us,hl,Y⟩:=w1.2.1 rfl;rw[aM]at Y;obtain⟨u,us',rfl,wu,Y⟩:=Y;rw[aM]at Y;subst Y;rw[Rep]at wu;obtain⟨p',_,rfl,⟨_,rfl,_⟩,_⟩:=wu;have S:∀{c:Hp},aG (er H1 A) (er c A)->k9 X.K c l [.ref p']:=λe=>.inl (.of (aH _ _ _ _ (e _ _ hl)));have T:∀{c:Hp},aG (er H1 A) (er c A)->k9 X.K c p' O:=λe=>.inl (.of (aH _ _ _ _ (e _ _ (aJ e1 _ _ h8))));have no:∀{m:Nat},m=i\/m=j\/m=k->∀d,f[m]?≠ai (ai d):=λU d h=>by obtain⟨_,n1,n2,n3⟩:=sub _ d h;rcases U with z|z|z;exact n1 z;exact n2 z;exact n3 z
    refine⟨l,rfl,⟨_,S (.refl _)⟩,λt m g c=>(t=0/\m=1/\g=N/\c=H1)\/(t=1/\m=0/\RS X.K C G0 P g c A f/\aG (er H1 A) (er c A)),⟨1,.inl ⟨rfl,rfl,rfl,rfl⟩⟩,λt m g c F=>?_⟩;rcases F with⟨rfl,rfl,z1,z2⟩|⟨rfl,rfl,rr,Z⟩;rw[z1,z2];refine .inr ⟨⟨_,_,S (.refl _),rfl⟩,λg c=>RS X.K C G0 P g c A f/\aG (er H1 A) (er c A),λg c F=>⟨0,by decide,.inr ⟨rfl,rfl,F⟩⟩,λx c F=>?_⟩;obtain⟨z3,hx⟩:=F;have hx:=hx _ (S (.refl _));cases hx;rw[z3];refine⟨.ref p',iQ (by lia),p',rfl,⟨_,T (.refl _)⟩,λt m g c=>m=O.length-t/\t<=O.length/\RS X.K C G0 P g c A f/\aG (er H1 A) (er c A)/\∀y∈O,∃a L,y=.ref a/\a∈A/\c a=ai (.lst L)/\L.length<=400+t,⟨O.length,rfl,eS _,(rN.mono e1).put (no (.inr (.inl rfl))),.refl _,λy hy=>?_⟩,λt m g c F=>?_⟩;obtain⟨m,U,em⟩:=NS hy;have hd:m<ds.length:=by rw[<- h9.1];exact U
    obtain⟨a,L,es,k1,k2,k3,k4,_,k6⟩:=h9.2 m _ _ (cU hd) (cU U);obtain⟨zG,z,_,le⟩:=Ru c1 (nP hd);rw[k1]at z;cases z;exact⟨a,L,em.symm.trans k2,k3,e1 _ _ k4,by rw[k6.len];exact le⟩;obtain⟨rfl,ht,rr,Z,mY⟩:=F;by_cases ht':t=O.length;exact .inl ⟨⟨_,T Z,by lia⟩,rr,Z⟩;refine .inr ⟨⟨_,_,T Z,cU (by lia)⟩,λg c=>RS X.K C G0 P g c A f/\aG (er H1 A) (er c A)/\∀y∈O,∃a L,y=.ref a/\a∈A/\c a=ai (.lst L)/\L.length<=400+(t+1),λg c F=>⟨O.length-(t+1),by lia,rfl,by lia,F⟩,λx H2 F=>?_⟩;obtain⟨z4,hx⟩:=F;have hx:=hx _ (T Z);rw[z4];obtain⟨a,L,rfl,aA,hya,ly⟩:=mY x (iK hx);have r2:=rr.put (x:=ai (.ref a)) (no (.inr (.inr rfl)));have l2:k<g.length:=by rw[rr.len,lN];lia
    refine⟨.ref a,iQ l2,.inl ⟨rfl,L,.of hya⟩,A,f,r2,?_⟩;obtain⟨dt,hd⟩:=hft f;rw[hd];intro v' H3 e3 _;have lx:O.length<=4500:=by rw[h9.1];exact c2
    refine⟨a,L,v',rfl,rfl,e3 _ _ hya,by have:5001<=cH:=(by rw[gf];decide);lia,?_⟩;obtain⟨r3,e4⟩:=(r2.mono e3).bb8 (ob:=.lst (L++[v'])) hP (no (.inl rfl)) aA rfl;refine⟨r3,Z.trans (by rw[e4];exact aJ e3),λy hy=>?_⟩;obtain⟨b,zs,rfl,bA,hb,lb⟩:=mY y hy;by_cases ab:b=a;subst ab;exact⟨b,_,rfl,bA,bM,by rw[bX,xg];lia⟩;exact⟨b,zs,rfl,bA,by rw[aS ab];exact e3 _ _ hb,by lia⟩;exact .inl ⟨⟨_,S Z,b9 _⟩,q _ _ A rr ((aJ e1).trans Z)⟩;rw[hz]at z;cases z
   rw[bh7 M]at q;exact q.elim
section
variable {K:aF}{C:Cfg}{G0:Hp}{Γ:List SK}{σ:L2.St}{H:Hp}{A:List av}{st:gM}
noncomputable def RC(js:List Nat)(Γ:List SK):Bool:=(cY Γ.length).all λj=>match Γ[j]? with
 |some .par=>bT
 |some .loc=>bT
 |some .any=>bT
 |_=>js.contains j
def RD(h:RC js Γ=bT)(hk:Γ[j]?=ai k):k=.par\/k=.loc\/k=.any\/j∈js:=by
 have g:=(eN.mp hk).1;have:=dZ.mp h j (kO.mpr g);rw[hk]at this;cases k with
 |par=>exact .inl rfl
 |loc=>exact .inr (.inl rfl)
 |any=>exact .inr (.inr (.inl rfl))
 |_=>exact .inr (.inr (.inr (by simpa using this)))
noncomputable def CT(js:List Nat)(st:gM):Bool:=js.all λj=>match st[j]? with|some (ai _)=>b4|_=>bT
def qF:aG (er H A) (er H []):=by rw[jN];exact aH _ _
def RS.clear(r:RS K C G0 Γ σ H A st)(h:RC js Γ=bT)(l:CT js st=bT):RS K C G0 Γ σ H [] st:=by
 have c:∀{j:Nat} {k:SK} {d:D},Γ[j]?=ai k->st[j]?=ai (ai d)->k=.par\/k=.loc\/k=.any:=λ{j k d} g s=>by rcases RD h g with z|z|z|z;exact .inl z;exact .inr (.inl z);exact .inr (.inr z);have:=dZ.mp l j z;rw[s]at this;cases this
 refine⟨r.base.trans qF,λa m=>(by cases m),r.len,λi d g=>?_,λi j n m p d e u g1 g2 o=>?_,r.gl⟩;obtain⟨k,v,f,t,b⟩:=r.slot i d g;refine⟨k,v,f,t,?_⟩;rcases c f g with rfl|rfl|rfl;exact Rep.same qF _ b;exact⟨b.1.same (bR qF) _,b.2.mono (bR qF)⟩;exact b;rcases c g1 o with z|z|z <;> cases z
def RS.bc0{n:Nat}(r:RS K C G0 Γ σ H A st)(f:st.length=n):RS K C G0 (jW n) σ H [] st:=by
 refine⟨r.base.trans qF,λa m=>(by cases m),r.len,λi d g=>?_,λi j n m p d e l g1=>(by have:=qC _ i _ g1;cases this),r.gl⟩;obtain⟨k,v,c,h,o⟩:=r.slot i d g;obtain⟨s,b,w⟩:=r.read c g;rw[h]at b;cases b;refine⟨.par,v,?_,h,?_⟩;have:=(eN.mp g).1;unfold jW;rw[nK,bh6 (by lia)];show Rep K C (er H []) d v;rw[jN];exact w.rep
end
section
variable {X:Cx}{C:Cfg}{G0:Hp}{Γ:List SK}{E:L2.St->XK}{iU:Option Bool}{f:DF}{κ:Kd}{e:bq}{pos:Pos}{i:Nat}
noncomputable def F8(i:Nat)(js:List Nat)(f:DF):DS:=λst=>if CT js st=bT then(match f st with
 |.ok d=>.nx (st.set i (ai d))
 |.ex c p=>.ex c p st
 | .bad=>.bad)else .bad
def VN(j:X.N.Nodup)(k:PE X e (tD X.K C G0 Γ E f κ))(l:RC js Γ=bT)(hk:autoParam (Γ[i]?=ai .par) b5)(m:autoParam (X.N[i]?=ai x) b5)(n:autoParam (Loc X.env.scope x) ef)(hs:autoParam (swapsWith e (ai (.Name x pos')) pos.line X.env=pure b4) b5)
  (h:autoParam (X.fn x=bT\/X.env.scope.names.lookup x=ai .local) ef):PS X (.Assign [.Name x pos'] e pos) (lV X.K C G0 Γ E iU (F8 i js f)):=(HG j m n k hs h).imp λD o H z=>by
 obtain⟨A,st,r,q⟩:=z;unfold F8 at q;by_cases g:CT js st=bT;rw[bh6 g]at q;have r0:=r.clear l g;refine⟨[],st,r0,?_⟩;cases h:f st with
 |bad=>rw[h]at q;exact q
 |ex c p=>rw[h]at q;exact λa b=>q o a A (r.mono b) (aJ b)
 |ok d=>
  rw[h]at q;intro v a b w;have s:Val X.K C .old G0 [] H a d v:=by show Rep X.K C (er a []) d v;rw[jN];exact w.rep
  obtain⟨t,u,y,_⟩:=r0.set b hk (κ:=.old) rfl s;exact q _ _ t u (qF.trans y)
 rw[bh7 g]at q;exact q.elim
noncomputable def dSw(F:DS):DS:=λst=>match F st with |.rt d=>.rt d|_=>.bad
def aH0{n:Nat}(h:qL X ss (lV X.K C G0 (jW n) E iU F))(b:autoParam (X.N.length=n) b5):qL X ss (lV X.K C G0 Γ E iU (dSw F)):=λc s g H D I z=>h c s g H D I (by
 obtain⟨A,st,r,q⟩:=z;refine⟨[],st,r.bc0 (by rw[<- r.len,<- b];exact I.len),?_⟩;unfold dSw at q;cases a:F st with
 |rt d=>rw[a]at q;exact q
 | _=>rw[a]at q;exact q.elim)
end
end Dm
namespace Pk
open PySem PySem.Spec PyProof.Rows L2 PySem.W Dm
noncomputable def top(i:Nat):aY:=PySem.Challenge.pw_pegleap_k10_whole_a_row_or_a_paper.main.body.getD i (.Pass ⟨0,0,0,0⟩)
abbrev F9:aY:=top 8
abbrev Mf:aY:=top 9
abbrev zV:aY:=top 10
abbrev Ke:aY:=inClass (top 11) 0
abbrev CU:aY:=top 12
abbrev Fe:aY:=top 13
abbrev Mg:aY:=top 14
abbrev VO:aY:=top 15
abbrev zW:aY:=top 18
abbrev zZ:aY:=top 19
abbrev RE:aY:=top 20
abbrev IW:aY:=top 21
abbrev CV:aY:=top 29
abbrev Ff:aY:=top 30
abbrev CW:aY:=top 31
abbrev eU:aY:=top 32
abbrev RG:aY:=top 33
abbrev vQ:aY:=top 37
abbrev Fg:aY:=top 38
abbrev yO:aY:=top 36
abbrev VP:aY:=top 34
abbrev yP:aY:=top 40
abbrev IX:aY:=top 41
abbrev vR:aY:=top 43
abbrev yQ:aY:=top 44
abbrev yR:aY:=top 45
abbrev CY:aY:=top 46
abbrev Fi:aY:=top 47
abbrev A0:aY:=top 48
abbrev Fj:aY:=top 49
abbrev CZ:aY:=top 50
abbrev D0:aY:=top 53
abbrev D3:aY:=top 54
abbrev uV:aY:=top 55
abbrev aH2:aY:=top 56
structure iX where
 IY:av
 fT:av
 fG:av
 D4:av
 m7:av
 tab:av
 ac8:Tok
 D5:Tok
 aN1:Tok
 bc1:Tok
 Mh:Tok
structure Txt(K:Frag)(mg:Str->Option au)(t:iX):Prop where
 Fl:oR K mg "is_rising" "is_rising" F9 ["cells"]
 Mi:oR K mg "is_cell" "is_cell" Mf ["cell"]
 A7:oR K mg "check_cells" "check_cells" zV ["cells"]
 D6:oR K mg "check_pegs" "check_pegs" CU ["board","pegs"]
 Fo:oR K mg "two_apart" "two_apart" Fe ["cell"]
 Mj:oR K mg "between" "between" Mg ["cell","other"]
 VQ:oR K mg "leaps" "leaps" VO ["board"]
 A8:oR K mg "can_be_done" "can_be_done" zW ["pegs","leap"]
 A9:oR K mg "pegs_behind" "pegs_behind" zZ ["pegs","leap"]
 RH:oR K mg "odd_on" "odd_on" RE ["colours","two"]
 IZ:oR K mg "class_of" "class_of" IW ["board","pegs"]
 D7:oR K mg "steps_from" "steps_from" CV ["all_leaps","standing"]
 Fp:oR K mg "next_rows" "next_rows" Ff ["all_leaps","layer"]
 D8:oR K mg "first_rows" "first_rows" CW ["board","pegs"]
 J0:oR K mg "in_order" "in_order" eU ["standings"]
 RI:oR K mg "answer" "answer" RG ["board","pegs","others"]
 vS:oR K mg "all_standings" "all_standings" vQ ["board","standings"]
 Fq:oR K mg "is_closed" "is_closed" Fg ["board","standings"]
 yS:oR K mg "closed_holds" "closed_holds" yO ["board","pegs","others","standings"]
 VR:oR K mg "holds" "holds" VP ["board","pegs","others","paper"]
 yT:oR K mg "_law_cell_at" "_law_cell_at" yP ["script","k"]
 J1:oR K mg "_law_mix" "_law_mix" IX ["cell","k","many"]
 vU:oR K mg "_law_cells_by" "_law_cells_by" vR ["script","most"]
 yU:oR K mg "_law_pegs_by" "_law_pegs_by" yQ ["cell","cells"]
 yV:oR K mg "_law_between" "_law_between" yR ["leap"]
 D9:oR K mg "_law_leaps" "_law_leaps" CY ["cells"]
 Ft:oR K mg "_law_open" "_law_open" Fi ["cells","pegs"]
 Aa:oR K mg "_law_behind" "_law_behind" A0 ["pegs","leap"]
 Fv:oR K mg "_law_gone" "_law_gone" Fj ["cells","pegs","cell","most"]
 Dc:oR K mg "_law_class" "_law_class" CZ ["pegs"]
 Dd:oR K mg "_law_holds" "_law_holds" D0 ["cells","pegs","others","paper"]
 De:oR K mg "_law_paper" "_law_paper" D3 ["paper"]
 uW:oR K mg "_law_others_by" "_law_others_by" uV ["script","cells","pegs"]
 XU:oR K mg "law" "law" aH2 ["script"]
 aH3:mg "abs"=aj
 aH4:mg "all"=aj
 Fw:mg "enumerate"=aj
 jC:mg "isinstance"=aj
 RJ:mg "len"=aj
 yW:mg "list"=aj
 VS:mg "range"=aj
 aH5:mg "set"=aj
 yX:mg "sorted"=aj
 Df:mg "tuple"=aj
 B4:mg "COLOURS"=ai (.int (3) t.Mh)
 RK:mg "LAST"=ai (.int (7) t.ac8)
 tK:mg "MOST_CELLS"=ai (.int (24) t.D5)
 ac9:mg "PegError"=ai (.ref t.IY)
 J2:mg "BadBoard"=ai (.ref t.fT)
 Ml:mg "BadPegs"=ai (.ref t.fG)
 VT:mg "BadWeights"=ai (.ref t.D4)
 VU:mg "Board"=ai (.ref t.m7)
 J3:exB K t.fT [.type "ValueError",.type "Exception",.type "BaseException",.type "object"] "ValueError.__new__"=bT
 Mm:exB K t.fG [.type "ValueError",.type "Exception",.type "BaseException",.type "object"] "ValueError.__new__"=bT
 bc2:∀(f:av) (dj:au),mg "in_order"=ai (.ref f)->(∃o fd,K.lookup f=ai o/\o.data=.func fd/\fd.code=dj)->∃c,dj=.ref c/\uU K c t.tab=bT
 bc3:∃b,mg "__builtins__"=ai (.ref b)/\Mb K b t.tab=bT
 bc4:dS≠t.tab
 clB:MC K t.m7
 naB:kK K t.m7 "cells"
 iB:∃a fd,ME K "__init__" "Board.__init__" Ke a fd/\Mk K t.m7 a/\Binds K fd ["self","cells"] []
def aH6:ExcBaseFacts "ValueError" "ValueError.__new__" "ValueError.__init__" [.type "ValueError",.type "Exception",.type "BaseException",.type "object"] :=PySem.F.excBase_ValueError
def RL:jR "len"=ai (.builtin "len"):=by decide +kernel
def Kf:jR "list"=ai (.type "list"):=by decide +kernel
noncomputable def nC:String->Option Bool:=λx=>if x = "tuple"then ai bT else if x = "int"then ai b4 else if x = "bool"then ai b4 else if x = "list"then ai b4 else if x = "str"then ai b4 else if x = "NoneType"then ai b4 else aj
def tL{K:Frag}:∀x b,nC x=ai b->kitOne K (.type x) (.type "tuple")=ai b:=λx b h=>by
 unfold nC at h
 repeat' (split at h)
 all_goals (first|cases h;done|(rename_i e;subst e;cases h;first|(unfold kitOne;rw[bh6 (by decide)])|exact aa9 (by decide) (by decide +kernel) (by decide +kernel)))
noncomputable def qi:String->Option Bool:=λx=>if x = "list"then ai bT else aj
def qj{K:Frag}:∀x b,qi x=ai b->kitOne K (.type x) (.type "list")=ai b:=λx b h=>by
 unfold qi at h;split at h;rename_i e;subst e;cases h;unfold kitOne;rw[bh6 (by decide)];cases h
def fM(t:iX):List D->R D:=bQ 1 (cP (aL (i9 b4) (ah 0) (oY lK (ah 0))))
def nD(t:iX):List D->R D:=bQ 1 (cP (j8 (oz XG XG (dC (.int 0)) (aL dh (ah 0) (dC (.int 0))) (dC (.int (7)))) (oz XG XG (dC (.int 0)) (aL dh (ah 0) (dC (.int 1))) (dC (.int (7))))))
def cN(t:iX):List D->R D:=bQ 2 (aZ (bS (om (oz XG XG (dC (.int 1)) (bh gQ (af (ah 0) az)) (dC (.int (24)))))
 (iG t.fT)
 bf)
 (aZ (bS (om (bh (fM t) (af (ah 0) az)))
 (iG t.fT)
 bf)
 (cZ (di (ah 0)) (br 1)
 (bS (om (bh (nD t) (af (ah 1) az)))
 (iG t.fT)
 bf))))
def cW(t:iX):List D->R D:=bQ 3 (aZ (bS (om (bh (fM t) (af (ah 1) az)))
 (iG t.fG)
 bf)
 (cZ (di (ah 1)) (br 2)
 (bS (aL (iT bT) (ah 2) (oY f9 (ah 0)))
 (iG t.fG)
 bf)))
def jf(t:iX):List D->R D:=bQ 3 (aZ (cB 1 (aX (aL dh (ah 0) (dC (.int 0)))))
 (aZ (cB 2 (aX (aL dh (ah 0) (dC (.int 1)))))
 (cP (cF 100 (af (bY 100 (af (aL mO (ah 1) (dC (.int 2))) (af (aX (ah 2)) az))) (af (bY 100 (af (aX (ah 1)) (af (aL mO (ah 2) (dC (.int 2))) az))) (af (bY 100 (af (aX (ah 1)) (af (aL iE (ah 2) (dC (.int 2))) az))) (af (bY 100 (af (aL iE (ah 1) (dC (.int 2))) (af (aX (ah 2)) az))) az))))))))
def iH(t:iX):List D->R D:=bQ 2 (cP (bY 100 (af (aL n9 (aL iE (aL dh (ah 0) (dC (.int 0))) (aL dh (ah 1) (dC (.int 0)))) (dC (.int 2))) (af (aL n9 (aL iE (aL dh (ah 0) (dC (.int 1))) (aL dh (ah 1) (dC (.int 1)))) (dC (.int 2))) az))))
def tM(t:iX):List D->R D:=bQ 4 (aZ (cB 1 (cF 100 az))
 (aZ (cZ (di (oY f9 (ah 0))) (br 2)
 (cZ (di (bh (jf t) (af (ah 2) az))) (br 3)
 (bS (j8 (aL (iT b4) (ah 3) (oY f9 (ah 0))) (aL (iT b4) (bh (iH t) (af (ah 2) (af (ah 3) az))) (oY f9 (ah 0))))
 (jI 1 (bY 100 (af (aX (ah 2)) (af (aX (ah 3)) az))))
 bf)))
 (cP (ah 1))))
def jP(t:iX):List D->R D:=bQ 2 (cP (j8 (aL (iT b4) (aL dh (ah 1) (dC (.int 0))) (ah 0)) (j8 (aL (iT bT) (aL dh (ah 1) (dC (.int 1))) (ah 0)) (aL (iT b4) (bh (iH t) (af (aL dh (ah 1) (dC (.int 0))) (af (aL dh (ah 1) (dC (.int 1))) az))) (ah 0)))))
def jQ(t:iX):List D->R D:=bQ 3 (aZ (cB 2 (bY 100 (af (aX (aL dh (ah 1) (dC (.int 0)))) (af (bh (iH t) (af (aL dh (ah 1) (dC (.int 0))) (af (aL dh (ah 1) (dC (.int 1))) az))) az))))
 (cP (bh gu (af (aL qN (dm (iTp (ah 0)) 1 [2] (br 0) (aL (iT bT) (ah 0) (ah 1)) (aX (ah 0))) (cF 100 (af (aX (aL dh (ah 1) (dC (.int 1)))) az))) az))))
def lP(t:iX):List D->R D:=bQ 2 (cP (aL gw (bh gQ (af (dm (di (ah 0)) 1 [1] (br 0) (aL (iT b4) (ah 0) (ah 1)) (aX (ah 0))) az)) (dC (.int 2))))
def fj(t:iX):List D->R D:=bQ 4 (aZ (oQ (bh (cW t) (af (ah 0) (af (ah 1) az))))
 (aZ (cB 2 (dm (di (ah 1)) 1 [] (br 0) (dC (.bl bT)) (aL gw (aL iE (aL dh (ah 0) (dC (.int 0))) (aL dh (ah 0) (dC (.int 1)))) (dC (.int (3))))))
 (aZ (cB 3 (dm (di (ah 1)) 1 [] (br 0) (dC (.bl bT)) (aL gw (aL mO (aL dh (ah 0) (dC (.int 0))) (aL dh (ah 0) (dC (.int 1)))) (dC (.int (3))))))
 (cP (bY 100 (af (bh (lP t) (af (ah 2) (af (bY 100 (af (dC (.int 0)) (af (dC (.int 1)) az))) az))) (af (bh (lP t) (af (ah 2) (af (bY 100 (af (dC (.int 1)) (af (dC (.int 2)) az))) az))) (af (bh (lP t) (af (ah 3) (af (bY 100 (af (dC (.int 0)) (af (dC (.int 1)) az))) az))) (af (bh (lP t) (af (ah 3) (af (bY 100 (af (dC (.int 1)) (af (dC (.int 2)) az))) az))) az)))))))))
def fP(t:iX):List D->R D:=bQ 2 (cP (dm (di (ah 0)) 1 [1] (br 0) (bh (jP t) (af (ah 1) (af (ah 0) az))) (bY 100 (af (aX (ah 0)) (af (bh gW (af (bh (jQ t) (af (ah 1) (af (ah 0) az))) az)) az)))))
def jY(t:iX):List D->R D:=bQ 7 (aZ (cB 2 (dC (.bN 2 [])))
 (aZ (cZ (IT (ah 1)) (gy 3 4)
 (cZ (di (bh (fP t) (af (ah 0) (af (ah 3) az)))) (gy 5 6)
 (bS (aL (mT bT) (ah 6) (ah 2))
 (zS 2 (ah 6) (aL qN (ah 4) (cF 100 (af (aX (ah 5)) az))))
 bf)))
 (cP (ah 2))))
def jD(t:iX):List D->R D:=bQ 5 (aZ (cB 2 (bh (tM t) (af (ah 0) az)))
 (aZ (cB 3 (dC (.bN 2 [])))
 (aZ (cB 4 (EZ (bh gW (af (ah 1) az)) (cF 100 az)))
 (aZ (vP (aL yy (bh qZ (af (ah 4) az)) (dC (.int 0)))
 (aZ (LY 3 (ah 4))
 (cB 4 (bh (jY t) (af (ah 2) (af (ah 4) az))))) 40)
 (cP (ah 3))))))
def jO(t:iX):List D->R D:=bQ 1 (cP (oY rV (dm (CO (ah 0)) 1 [] (br 0) (dC (.bl bT)) (bh lJ (af (ah 0) az)))))
def qk(t:iX):List D->R D:=bQ 4 (aZ (oQ (bh (cW t) (af (ah 0) (af (ah 1) az))))
 (aZ (oQ (bh (cW t) (af (ah 0) (af (ah 2) az))))
 (aZ (bS (aL (i9 bT) (bh (fj t) (af (ah 0) (af (ah 1) az))) (bh (fj t) (af (ah 0) (af (ah 2) az))))
 (vA (bY 100 (af (dC (.str "never")) (af (bY 100 (af (dC (.str "class")) az)) az))))
 bf)
 (aZ (cB 3 (bh (jD t) (af (ah 0) (af (ah 1) az))))
 (aZ (bS (aL (mT b4) (bh gW (af (ah 2) az)) (ah 3))
 (vA (EY "leaps" (aL r8 (ah 3) (bh gW (af (ah 2) az)))))
 bf)
 (cP (F6 "never" "closed" (bh (jO t) (af (ah 3) az)))))))))
def iY(t:iX):List D->R D:=bQ 3 (aZ (F0 (cZ (di (ah 1)) (br 2)
 (oQ (bh (cW t) (af (ah 0) (af (ah 2) az))))))
 (cP (dC (.bl bT))))
def m8(t:iX):List D->R D:=bQ 8 (aZ (cB 2 (bh (tM t) (af (ah 0) az)))
 (aZ (cB 3 (dC (.bN 2 [])))
 (aZ (cZ (di (ah 1)) (br 4)
 (zS 3 (bh gW (af (ah 4) az)) (dC (.bl bT))))
 (dSw (aZ (cZ (CO (ah 3)) (br 5)
 (cZ (di (bh (fP t) (af (ah 2) (af (ah 5) az)))) (gy 6 7)
 (bS (aL (mT bT) (ah 7) (ah 3))
 (cP (dC (.bl b4)))
 bf)))
 (cP (dC (.bl bT))))))))
def jE(t:iX):List D->R D:=bQ 4 (aZ (bS (Ga (om (bh (iY t) (af (ah 0) (af (ah 3) az)))) (Ga (aL (iT bT) (ah 1) (ah 3)) (aL (iT b4) (ah 2) (ah 3))))
 (cP (dC (.bl b4)))
 bf)
 (cP (bh (m8 t) (af (ah 0) (af (ah 3) az)))))
def oF(t:iX):List D->R D:=bQ 4 (aZ (oQ (bh (cW t) (af (ah 0) (af (ah 1) az))))
 (aZ (oQ (bh (cW t) (af (ah 0) (af (ah 2) az))))
 (aZ (bS (aL (i9 b4) (aL dh (ah 3) (dC (.int 0))) (dC (.str "class")))
 (cP (aL (i9 bT) (bh (fj t) (af (ah 0) (af (ah 1) az))) (bh (fj t) (af (ah 0) (af (ah 2) az)))))
 bf)
 (aZ (bS (aL (i9 b4) (aL dh (ah 3) (dC (.int 0))) (dC (.str "weights")))
 Vj
 bf)
 (cP (bh (jE t) (af (ah 0) (af (ah 1) (af (ah 2) (af (aL dh (ah 3) (dC (.int 1))) az))))))))))
def aO(t:iX):List D->R D:=bQ 2 (aZ (bS (aL gLt (ah 1) (bh gQ (af (ah 0) az)))
 (cP (aX (aL dh (ah 0) (ah 1))))
 bf)
 (cP (dC (.int 0))))
def b7(t:iX):List D->R D:=bQ 5 (aZ (cB 3 (cF 100 (af (dC (.int 48271)) (af (dC (.int 69621)) (af (dC (.int 16807)) (af (dC (.int 39373)) (af (dC (.int 30269)) (af (dC (.int 40014)) (af (dC (.int 40692)) (af (dC (.int 50021)) (af (dC (.int 61687)) (af (dC (.int 71993)) (af (dC (.int 83869)) (af (dC (.int 95561)) (af (dC (.int 30307)) az)))))))))))))))
 (aZ (cB 4 (aL ou (aL iE (aL gw (ah 0) (dC (.int 2147483647))) (dC (.int 12345))) (aL dh (ah 3) (aL gw (ah 1) (dC (.int 13))))))
 (aZ (cB 4 (aL iE (aL ou (ah 4) (aL iE (aL ou (dC (.int 2)) (aL n9 (ah 1) (dC (.int 13)))) (dC (.int 1)))) (aL ou (dC (.int 977)) (ah 1))))
 (cP (aL gw (aL n9 (aL gw (ah 4) (dC (.int 1000000007))) (dC (.int 7))) (ah 2))))))
def fH(t:iX):List D->R D:=bQ 9 (aZ (cB 2 (bh (aO t) (af (ah 0) (af (dC (.int 0)) az))))
 (aZ (EI 3 4 (af (aL iE (dC (.int 1)) (bh (b7 t) (af (ah 2) (af (dC (.int 1)) (af (dC (.int 4)) az))))) (af (aL iE (dC (.int 1)) (bh (b7 t) (af (ah 2) (af (dC (.int 2)) (af (dC (.int 6)) az))))) az)))
 (aZ (bS (aL (i9 b4) (aL gw (ah 2) (dC (.int 4))) (dC (.int 1)))
 (AV (gy 3 4) (aX (aL dh (cF 100 (af (bY 100 (af (aL iE (dC (.int 1)) (aL gw (ah 3) (dC (.int 3)))) (af (dC (.int 8)) az))) (af (bY 100 (af (dC (.int 8)) (af (aL iE (dC (.int 1)) (aL gw (ah 4) (dC (.int 3)))) az))) az))) (aL gw (aL n9 (ah 2) (dC (.int 4))) (dC (.int 2))))))
 bf)
 (aZ (EI 5 6 (af (bh (b7 t) (af (ah 2) (af (dC (.int 3)) (af (aL mO (dC (.int 9)) (ah 3)) az)))) (af (bh (b7 t) (af (ah 2) (af (dC (.int 4)) (af (aL mO (dC (.int 9)) (ah 4)) az)))) az)))
 (aZ (cB 7 (cF 100 az))
 (aZ (cZ (qM (af (aL ou (ah 3) (ah 4)) az)) (br 8)
 (bS (aL yy (bh (b7 t) (af (bh (aO t) (af (ah 0) (af (dC (.int 1)) az))) (af (ah 8) (af (dC (.int 7)) az)))) (dC (.int 0)))
 (jI 7 (bY 100 (af (aL iE (ah 5) (aL n9 (ah 8) (ah 4))) (af (aL iE (ah 6) (aL gw (ah 8) (ah 4))) az))))
 bf))
 (aZ (bS (aL (i9 b4) (bh gQ (af (ah 7) az)) (dC (.int 0)))
 (cB 7 (cF 100 (af (bY 100 (af (aX (ah 5)) (af (aX (ah 6)) az))) az)))
 bf)
 (cP (ML (ah 7) aj (ai (ah 1)))))))))))
def fm(t:iX):List D->R D:=bQ 4 (aZ (cB 2 (bh (b7 t) (af (ah 0) (af (dC (.int 40)) (af (dC (.int 4)) az)))))
 (aZ (bS (aL (i9 b4) (ah 2) (dC (.int 0)))
 (aZ (cB 3 (bh (b7 t) (af (ah 0) (af (dC (.int 41)) (af (bh gQ (af (ah 1) az)) az)))))
 (cP (aL qN (ML (ah 1) aj (ai (ah 3))) (ML (ah 1) (ai (aL iE (ah 3) (dC (.int 1)))) aj))))
 bf)
 (cP (dm (CK (ah 1)) 2 [0,2] (gy 0 1) (aL yy (bh (b7 t) (af (ah 2) (af (ah 0) (af (aL dh (cF 100 (af (dC (.int 0)) (af (dC (.int 2)) (af (dC (.int 3)) (af (dC (.int 4)) az))))) (ah 3)) az)))) (dC (.int 0))) (aX (ah 1))))))
def bU(t:iX):List D->R D:=bQ 1 (cP (bY 100 (af (aL n9 (aL iE (aL dh (aL dh (ah 0) (dC (.int 0))) (dC (.int 0))) (aL dh (aL dh (ah 0) (dC (.int 1))) (dC (.int 0)))) (dC (.int 2))) (af (aL n9 (aL iE (aL dh (aL dh (ah 0) (dC (.int 0))) (dC (.int 1))) (aL dh (aL dh (ah 0) (dC (.int 1))) (dC (.int 1)))) (dC (.int 2))) az))))
def jF(t:iX):List D->R D:=bQ 5 (aZ (cB 1 (cF 100 az))
 (aZ (cZ (di (ah 0)) (br 2)
 (cZ (di (ah 0)) (br 3)
 (aZ (cB 4 (bh gu (af (cF 100 (af (bh tF (af (aL mO (aL dh (ah 2) (dC (.int 0))) (aL dh (ah 3) (dC (.int 0)))) az)) (af (bh tF (af (aL mO (aL dh (ah 2) (dC (.int 1))) (aL dh (ah 3) (dC (.int 1)))) az)) az))) az)))
 (bS (j8 (aL (i9 b4) (ah 4) (cF 100 (af (dC (.int 0)) (af (dC (.int 2)) az)))) (aL (iT b4) (bh (bU t) (af (bY 100 (af (aX (ah 2)) (af (aX (ah 3)) az))) az)) (ah 0)))
 (jI 1 (bY 100 (af (aX (ah 2)) (af (aX (ah 3)) az))))
 bf))))
 (cP (bh gu (af (ah 1) az)))))
def eZ(t:iX):List D->R D:=bQ 5 (aZ (cB 2 (cF 100 az))
 (aZ (cZ (di (bh (jF t) (af (ah 0) az))) (gy 3 4)
 (bS (j8 (aL (iT b4) (ah 3) (ah 1)) (j8 (aL (iT b4) (bh (bU t) (af (bY 100 (af (aX (ah 3)) (af (aX (ah 4)) az))) az)) (ah 1)) (aL (iT bT) (ah 4) (ah 1))))
 (jI 2 (bY 100 (af (aX (ah 3)) (af (aX (ah 4)) az))))
 bf))
 (cP (ah 2))))
def dw(t:iX):List D->R D:=bQ 3 (aZ (cB 2 (dm (di (ah 0)) 1 [1] (br 0) (j8 (aL (i9 bT) (ah 0) (aL dh (ah 1) (dC (.int 0)))) (aL (i9 bT) (ah 0) (bh (bU t) (af (ah 1) az)))) (aX (ah 0))))
 (cP (bh gu (af (aL qN (ah 2) (cF 100 (af (aX (aL dh (ah 1) (dC (.int 1)))) az))) az))))
def jg(t:iX):List D->R D:=bQ 9 (aZ (cB 4 (cF 100 az))
 (aZ (cB 5 (bh lJ (af (ah 1) az)))
 (aZ (cZ (qM (af (bh (b7 t) (af (ah 2) (af (dC (.int 60)) (af (aL iE (ah 3) (dC (.int 1))) az)))) az)) (br 6)
 (aZ (cB 7 (bh (eZ t) (af (ah 0) (af (ah 5) az))))
 (bS (aL yy (bh gQ (af (ah 7) az)) (dC (.int 0)))
 (aZ (cB 8 (aX (aL dh (ah 7) (bh (b7 t) (af (ah 2) (af (aL iE (dC (.int 61)) (ah 6)) (af (bh gQ (af (ah 7) az)) az)))))))
 (aZ (jI 4 (aX (ah 8)))
 (cB 5 (bh (dw t) (af (ah 5) (af (ah 8) az))))))
 bf)))
 (cP (bY 100 (af (ah 4) (af (ah 5) az)))))))
def dI(t:iX):List D->R D:=bQ 4 (aZ (cB 1 (cF 100 az))
 (aZ (cZ (di (cF 100 (af (dC (.int 1)) (af (oY UY (dC (.int 1))) az)))) (br 2)
 (aZ (cB 3 (dm (di (ah 0)) 2 [2] (gy 0 1) (dC (.bl bT)) (aL gw (aL iE (ah 0) (aL ou (ah 2) (ah 1))) (dC (.int 3)))))
 (aZ (jI 1 (aL gw (bh gQ (af (dm (di (ah 3)) 1 [] (br 0) (aL gLt (ah 0) (dC (.int 2))) (aX (ah 0))) az)) (dC (.int 2))))
 (jI 1 (aL gw (bh gQ (af (dm (di (ah 3)) 1 [] (br 0) (aL yy (ah 0) (dC (.int 0))) (aX (ah 0))) az)) (dC (.int 2)))))))
 (cP (bh gW (af (ah 1) az)))))
def gH(t:iX):List D->R D:=bQ 7 (aZ (bS (aL (i9 b4) (aL dh (ah 3) (dC (.int 0))) (dC (.str "class")))
 (cP (aL (i9 bT) (bh (dI t) (af (ah 1) az)) (bh (dI t) (af (ah 2) az))))
 bf)
 (aZ (bS (aL (i9 b4) (aL dh (ah 3) (dC (.int 0))) (dC (.str "closed")))
 (aZ (bS (Ga (aL (iT bT) (ah 1) (aL dh (ah 3) (dC (.int 1)))) (aL (iT b4) (ah 2) (aL dh (ah 3) (dC (.int 1)))))
 (cP (dC (.bl b4)))
 bf)
 (aZ (cZ (di (aL dh (ah 3) (dC (.int 1)))) (br 4)
 (aZ (bS (aL (i9 bT) (ah 4) (dm (di (ah 0)) 1 [4] (br 0) (aL (iT b4) (ah 0) (ah 1)) (aX (ah 0))))
 (cP (dC (.bl b4)))
 bf)
 (cZ (di (bh (eZ t) (af (ah 0) (af (ah 4) az)))) (br 5)
 (bS (aL (iT bT) (bh (dw t) (af (ah 4) (af (ah 5) az))) (aL dh (ah 3) (dC (.int 1))))
 (cP (dC (.bl b4)))
 bf))))
 (cP (dC (.bl bT)))))
 bf)
 Vj))
def gI(t:iX):List D->R D:=bQ 1 (aZ (bS (Ga (om (oY (EO nC) (ah 0))) (aL (i9 b4) (bh gQ (af (ah 0) az)) (dC (.int 0))))
 (cP (dC (.bl b4)))
 bf)
 (aZ (bS (aL (i9 b4) (aL dh (ah 0) (dC (.int 0))) (dC (.str "class")))
 (cP (aL (i9 b4) (bh gQ (af (ah 0) az)) (dC (.int 1))))
 bf)
 (aZ (bS (Ga (aL (i9 bT) (bh gQ (af (ah 0) az)) (dC (.int 2))) (Ga (aL (iT bT) (aL dh (ah 0) (dC (.int 0))) (bY 100 (af (dC (.str "weights")) (af (dC (.str "closed")) az)))) (om (oY (EO qi) (aL dh (ah 0) (dC (.int 1)))))))
 (cP (dC (.bl b4)))
 bf)
 (aZ (bS (aL (i9 b4) (aL dh (ah 0) (dC (.int 0))) (dC (.str "closed")))
 (cP (bh QY (af (dm (di (aL dh (ah 0) (dC (.int 1)))) 1 [] (br 0) (dC (.bl bT)) (oY (EO qi) (ah 0))) az)))
 bf)
 Vj))))
def iI(t:iX):List D->R D:=bQ 8 (aZ (cB 3 (aL gw (bh (aO t) (af (ah 0) (af (dC (.int 4)) az))) (dC (.int 4))))
 (aZ (bS (aL (i9 b4) (ah 3) (dC (.int 0)))
 (cP (aL dh (bh (jg t) (af (ah 1) (af (ah 2) (af (bh (aO t) (af (ah 0) (af (dC (.int 3)) az))) (af (dC (.int 8)) az))))) (dC (.int 1))))
 bf)
 (aZ (cB 4 (bh (fm t) (af (bh (aO t) (af (ah 0) (af (dC (.int 3)) az))) (af (ah 1) az))))
 (aZ (bS (aL yy (ah 3) (dC (.int 1)))
 (cZ (di (ah 1)) (br 5)
 (bS (j8 (aL gGe (bh gQ (af (ah 4) az)) (bh gQ (af (ah 2) az))) (j8 (aL (iT b4) (ah 5) (ah 4)) (aL yy (bh gQ (af (ah 4) az)) (dC (.int 0)))))
 (cB 4 (dm (di (ah 4)) 1 [5] (br 0) (aL (i9 bT) (ah 0) (ah 1)) (aX (ah 0))))
 bf))
 bf)
 (aZ (bS (aL yy (ah 3) (dC (.int 2)))
 (cZ (qM (af (dC (.int 8)) az)) (br 6)
 (aZ (cB 7 (dm (CK (ah 1)) 2 [0,6] (gy 0 1) (aL (i9 b4) (bh (b7 t) (af (bh (aO t) (af (ah 2) (af (dC (.int 5)) az))) (af (aL iE (aL ou (dC (.int 9)) (ah 3)) (ah 0)) (af (dC (.int 3)) az)))) (dC (.int 0))) (aX (ah 1))))
 (bS (aL (i9 b4) (bh (dI t) (af (ah 7) az)) (bh (dI t) (af (ah 2) az)))
 (cB 4 (ah 7))
 bf)))
 bf)
 (cP (ah 4)))))))
def B5(t:iX):List D->R D:=bQ 11 (aZ (cB 1 (bh (fH t) (af (ah 0) (af (aL dh (cF 100 (af (dC (.int 8)) (af (dC (.int 8)) (af (dC (.int 8)) (af (dC (.int 12)) az))))) (aL gw (aL n9 (bh (aO t) (af (ah 0) (af (dC (.int 4)) az))) (dC (.int 4))) (dC (.int 4)))) az))))
 (aZ (cB 2 (bh (rS (cN t)) (af (bh lJ (af (ah 1) az)) az)))
 (aZ (cB 3 (bh (fm t) (af (bh (aO t) (af (ah 0) (af (dC (.int 2)) az))) (af (ah 1) az))))
 (aZ (F8 4 [6] (bh (iI t) (af (ah 0) (af (ah 1) (af (ah 3) az)))))
 (aZ (cB 5 (cF 100 (af (bh lJ (af (ah 3) az)) (af (bh lJ (af (ah 4) az)) az))))
 (aZ (F5 6 (bh (qk t) (af (ah 2) (af (aL dh (ah 5) (dC (.int 0))) (af (aL dh (ah 5) (dC (.int 1))) az)))))
 (aZ (bS (Ga (aL (i9 bT) (ah 5) (cF 100 (af (ah 3) (af (ah 4) az)))) (Ga (om (oY (EO nC) (ah 6))) (aL (i9 bT) (bh gQ (af (ah 6) az)) (dC (.int 2)))))
 (cP (dC (.bl b4)))
 bf)
 (aZ (bS (aL (i9 b4) (aL dh (ah 6) (dC (.int 0))) (dC (.str "never")))
 (aZ (bS (Ga (om (bh (gI t) (af (aL dh (ah 6) (dC (.int 1))) az))) (om (bh (gH t) (af (ah 1) (af (ah 3) (af (ah 4) (af (aL dh (ah 6) (dC (.int 1))) az)))))))
 (cP (dC (.bl b4)))
 bf)
 (aZ (bS (aL (gIs bT) (bh (oF t) (af (ah 2) (af (ah 3) (af (ah 4) (af (aL dh (ah 6) (dC (.int 1))) az))))) (dC (.bl bT)))
 (cP (dC (.bl b4)))
 bf)
 (aZ (CS 6 7 8 (dm (iTp (VJ (aL dh (ah 6) (dC (.int 1))) (ai (dC (.int 1))) aj)) 1 [6] (br 0) (aL (i9 b4) (aL dh (aL dh (ah 1) (dC (.int 1))) (dC (.int 0))) (dC (.str "closed"))) (ah 0)))
 (cP (aL (i9 b4) (ah 5) (cF 100 (af (ah 3) (af (ah 4) az))))))))
 bf)
 (aZ (bS (Ga (aL (i9 bT) (aL dh (ah 6) (dC (.int 0))) (dC (.str "leaps"))) (om (oY (EO qi) (aL dh (ah 6) (dC (.int 1))))))
 (cP (dC (.bl b4)))
 bf)
 (aZ (cB 9 (ah 3))
 (aZ (cZ (di (aL dh (Rv 6) (dC (.int 1)))) (br 10)
 (aZ (bS (aL (iT bT) (ah 10) (bh (eZ t) (af (ah 1) (af (ah 9) az))))
 (cP (dC (.bl b4)))
 bf)
 (cB 9 (bh (dw t) (af (ah 9) (af (ah 10) az))))))
 (cP (aL (i9 b4) (ah 9) (ah 4))))))))))))))
abbrev qm(t:iX):Cfg:=dH t.m7 (XS t.tab (vG eU) "in_order.<locals>.<lambda>")
def qG{P:dz}{w:bL}{K:Frag}{mg:Str->Option au}{base:aW}{C:Cfg}{x a:Str}{st:aY}(N:List Str){ps:List Str}(c:List SK){k n:Nat}{i:Option Bool}{F:DS}(T:oR K mg x a st ps)
  (body:kQ N ps (bG st)->∀(f:av) (d:au),(mg x=ai (.ref f)/\∃o e,K.lookup f=ai o/\o.data=.func e/\e.code=d)->∀(A:cy) (b:List Env) (s:ay) (H:Hp) (E:XK),j7 k (A.deeper (envOfC a (bG st) s.heap.objs.size f d))->
   qL ((oS (oU P w) P w K mg base N a (bG st) f d A b s H E).dJ (kj (oS (oU P w) P w K mg base N a (bG st) f d A b s H E) λ_=>E)) (fu st) (lV K C H c (λ_=>E) i F)) (S:kQ N ps (bG st):=by exact scS) (h:autoParam (ps.length=n) b5) (g:autoParam (c.take n=kE n .par) b5) :
  FD P w K mg base C (k+1) x ps n (bQ N.length F) i:=aD0 T S h (bb5 g) (body S)
def RM{X:Cx}{C:Cfg}{G0:Hp}{a:List SK}{E:L2.St->XK}{e:bq}{es:List bq}{f:DF}{b:DA}{jH:Kd}(h:PE X e (tD X.K C G0 a E f jH))(hr:PA X es (Cu X.K C G0 a E b .jG))(hs:autoParam (bF (e::es) X.env=(b4,eval e X.env)::bF es X.env) b5):PA X (e::es) (Cu X.K C G0 a E (af f b) .jG):=wD h hr (by cases jH <;> rfl) hs
abbrev gE{X:Cx}{e:bq}{K:Frag}{C:Cfg}{G0:Hp}{a:List SK}{E:L2.St->XK}{κ:Kd}(f:DF):Prop:=PE X e (tD K C G0 a E f κ)
abbrev gS{X:Cx}{s:aY}{K:Frag}{C:Cfg}{G0:Hp}{a:List SK}{E:L2.St->XK}{i:Option Bool}(f:DS):Prop:=PS X s (lV K C G0 a E i f)
abbrev gT{X:Cx}{e:bq}{K:Frag}{C:Cfg}{G0:Hp}{a:List SK}{E:L2.St->XK}(f:DF):Prop:=PT X e (wC K C G0 a E f)
local macro_rules|`(tactic|walk_at"k")=>`(tactic|repeat first|((with_reducible change PE _ _ _);first|((with_reducible change gE (ah _));first|exact CI _ (pv _)|exact Vg _ (pv _)|exact Vf _ (pv _))|with_reducible exact Zv|with_reducible refine' UJ ?_|((with_reducible change gE (bh _ _));first|((with_reducible change gE (bh gQ _));refine' vz (jH:=.jG) UQ (l8 BW rfl T.RJ RL ?_))|((with_reducible change gE (bh lJ _));refine' vz (jH:=.jG) EC (qy sN rfl T.yW Kf ?_))|((with_reducible change gE (bh gu _));refine' vz (jH:=.jG) LN (l8 (Cq hr.units) rfl T.yX AU ?_))|((with_reducible change gE (bh gW _));refine' vz (jH:=.jG) LO (qy zK rfl T.Df QV ?_))|((with_reducible change gE (bh tF _));refine' vz (jH:=.jG) Vl (l8 Pb rfl T.aH3 aa8 ?_))|refine' ER (κ:=.jG) (by first|exact Fx T|exact vV T|exact Ab T|exact Mn T|exact Fy T|exact Ac T|exact J4 T|exact vW T|exact Dg T|exact yY T|exact Dh T|exact RN T|exact Ad T|exact vX T|exact J5 T|exact Di T|exact yZ T|exact z5 T|exact Dj T|exact Ae T|exact uX T|exact Dk T|exact vY T|exact RO T|exact uY T|exact Af T|exact Dl T|exact Ag T|exact Ah T|exact tN T) hr (by decide) ?_ (by repeat first|exact wF|refine ng ?_))|with_reducible refine' ZG ?_|((with_reducible change PE _ (.Subscript (.List _ _) _ _) (tD _ _ _ _ _ (aL dh _ _) _));focus ((with_reducible refine' CB ?_ ?_ ?_);walk_at"k";done))|((with_reducible change gE (aL dh _ _));(fail_if_success (with_reducible change PE _ (.Subscript (.List _ _) _ _) _));first|with_reducible refine' CB ?_ ?_ ?_|refine' aa5 ?_ ?_ (λ_ _=>rfl) ?_|refine' aa6 ?_ ?_ (λ_ _=>rfl) ?_)|with_reducible refine' AO YE UK ?_ ?_|with_reducible refine' AO YH UO ?_ ?_|with_reducible refine' AO TU UN ?_ ?_|with_reducible refine' AO YF UL ?_ ?_|with_reducible refine' AO YG UM ?_ ?_|with_reducible refine' AO V0 V1 ?_ ?_|((with_reducible change gE (bY _ _));first|focus ((with_reducible refine' CC (κ:=.new) ?_);walk_at"k";done)|focus ((with_reducible refine' CC (κ:=.loc) ?_);walk_at"k";done)|focus ((with_reducible refine' CC (κ:=.old) ?_);walk_at"k";done)|focus ((with_reducible refine' CC (κ:=.uM) ?_);walk_at"k";done))|((with_reducible change gE (cF _ _));first|focus ((with_reducible refine' Qq (κ:=.new) ?_);walk_at"k";done)|focus ((with_reducible refine' Qq (κ:=.old) ?_);walk_at"k";done))|((with_reducible change gE (aL (i9 b4) _ _));refine' Cy (Qc hr.units) Cz ?_ ?_ (pU _))|((with_reducible change gE (aL (iT b4) _ _));refine' Cy (Qe hr.units) CA ?_ ?_ (by with_unfolding_all rfl))|((with_reducible change gE (aL (iT bT) _ _));refine' Cy (AJ hr.units) CA ?_ ?_ (by with_unfolding_all rfl))|((with_reducible change gE (aL (i9 bT) _ _));refine' Cy (Qd hr.units) Cz ?_ ?_ (pU _))|with_reducible exact aB0|with_reducible exact Zw|((with_reducible change gE (oY f9 _));refine' QU T.clB T.naB ?_ (hk:=?_))|with_reducible refine' ZH ?_ ?_|with_reducible refine' QD ?_ ?_ ?_|with_reducible refine' ZQ ?_|((with_reducible change gE (dC _));first|exact Cw rfl T.B4|exact Cw rfl T.RK|exact Cw rfl T.tK))|((with_reducible change PA _ _ _);first|((with_reducible change PA _ _ (Cu _ _ _ _ _ (af _ _) .jG));refine' RM ?_ ?_)|with_reducible exact IA|((with_reducible change PA _ _ (Cu _ _ _ _ _ _ _));refine' wD ?_ ?_ ?_)|((with_reducible change PA _ _ (vg _ _));refine' gF ?_ l7))|((with_reducible change _=_);exact rfl)|((with_reducible change List.Nodup _);exact hS.nd)|((with_reducible change qz _);exact λ_ _=>rfl)|((with_reducible change qL _ _ _);first|with_reducible exact Vk|((with_reducible change qL _ _ (lV _ _ _ _ _ _ (aZ _ _)));refine' UT ?_ ?_)|refine' ZJ ?_)|((with_reducible change PS _ _ _);first|with_reducible refine' ZL ?_ ?_|((with_reducible change gS (cB _ _));(fail_if_success (with_reducible change PS _ (.Assign _ (.ListComp _ _ _ _) _) _));refine' ZK ?_ ?_ (hl:=?_))|with_reducible refine' aB5 ?_ ?_ ZI|((with_reducible change gS (oQ _));refine' UU ?_)|((with_reducible change gS (jI _ _));refine' ZO (to:=rK 0) (Xj OM ON OO uD (pv _) (gF ?_ l7)) rfl (hl:=?_))|((with_reducible change gS (cZ (di _) (br _) _));refine' vB (fS ⟨rfl,rfl⟩) rfl ?_ ?_ (by first|exact dX hS.nd rfl (gD rfl)|exact dX hS.nd rfl (iN rfl)) (wG (k:=.par)) ?_)|((with_reducible change gS (cZ (di _) (gy _ _) _));refine' vB (fS ⟨rfl,rfl⟩) rfl ?_ ?_ (BO rfl (jS (by first|exact dX hS.nd rfl (gD rfl)|exact dX hS.nd rfl (iN rfl)) (jS (by first|exact dX hS.nd rfl (gD rfl)|exact dX hS.nd rfl (iN rfl)) w5))) (wH (k:=.par) (k':=.par)) ?_)|((with_reducible change gS (cZ (qM _) _ _));refine' CD (κ:=.jG) (fS ⟨rfl,rfl⟩) rfl T.VS ?_ (by first|exact dX hS.nd rfl (gD rfl)|exact dX hS.nd rfl (iN rfl)) (wG (k:=.par)) ?_)|((with_reducible change gS (cZ _ (br _) _));refine' K2 (fS ⟨rfl,rfl⟩) rfl ?_ (by first|exact dX hS.nd rfl (gD rfl)|exact dX hS.nd rfl (iN rfl)) (wG (k:=.par)) ?_)|((with_reducible change gS (cZ _ (gy _ _) _));refine' K2 (fS ⟨rfl,rfl⟩) rfl ?_ (BO rfl (jS (by first|exact dX hS.nd rfl (gD rfl)|exact dX hS.nd rfl (iN rfl)) (jS (by first|exact dX hS.nd rfl (gD rfl)|exact dX hS.nd rfl (iN rfl)) w5))) (wH (k:=.par) (k':=.par)) ?_)|((with_reducible change gS (iG _));refine' LJ aH6 hr.hd (by first|exact T.J2|exact T.Ml) (by first|exact T.J3|exact T.Mm) (by first|exact AW (n:=500) (by decide +kernel)|(refine' QS (n:=500) ?_ (by decide);repeat first|exact all_nil|refine' all_cons ?_ ?_|exact AW (by decide +kernel)|exact yD T.B4 (by decide) (by decide +kernel)|exact yD T.RK (by decide) (by decide +kernel)|exact yD T.tK (by decide) (by decide +kernel)))))|((with_reducible change PT _ _ _);first|((with_reducible change gT (aL (i9 b4) _ _));refine' mR (Qc hr.units) Cz ?_ ?_ (pU _))|((with_reducible change gT (aL gLt _ _));refine' mR ar3 Zx ?_ ?_ (pU _))|((with_reducible change gT (aL yy _ _));refine' mR ar4 Zy ?_ ?_ (pU _))|((with_reducible change gT (aL (iT b4) _ _));refine' mR (Qe hr.units) CA ?_ ?_ (by with_unfolding_all rfl))|((with_reducible change gT (aL (iT bT) _ _));refine' mR (AJ hr.units) CA ?_ ?_ (by with_unfolding_all rfl))|((with_reducible change gT (aL (i9 bT) _ _));refine' mR (Qd hr.units) Cz ?_ ?_ (pU _))|((with_reducible change gT (aL (mT bT) _ _));refine' mR (LQ (uS hr.units)) K4 ?_ ?_ (by with_unfolding_all rfl))|((with_reducible change gT (aL (mT b4) _ _));refine' mR (ab5 (uS hr.units)) K4 ?_ ?_ (by with_unfolding_all rfl))|with_reducible refine' ZD ?_|((with_reducible change PT _ (.BoolOp _ _ _) _);refine' PW.pt ?_)|((with_reducible change PT _ (.Call _ _ _ _) _);refine' XI ?_)|((with_reducible change PT _ (.Name _ _) _);refine' XI ?_))|((with_reducible change Kd);rotate_left)|((with_reducible change PW _ _ _);first|with_reducible refine' UR ?_|with_reducible refine' ZE ?_|with_reducible refine' ZF ?_ ?_|with_reducible refine' aB3 ?_ ?_)|((with_reducible change PI _ _ _ _);first|with_reducible refine' V7 ?_ ?_|with_reducible refine' ab0 ?_ ?_|((with_reducible change PI _ _ _ (IG _ _ _ _ _ _ (IT _)));refine' Rh ?_ ?_)|((with_reducible change PI _ _ _ (IG _ _ _ _ _ _ (CO _)));refine' Vv ?_ ?_)|((with_reducible change PI _ _ _ (IG _ _ _ _ _ _ (CK _)));refine' Vi T.Fw ?_ ?_))|with_reducible exact JY|with_reducible refine' UZ ?_|((with_reducible change _=bT->_=bT);exact λ_=>rfl))
section
variable {P:dz}{w:bL}{K:Frag}{mg:Str->Option au}{base:aW}{t:iX}
def Ai(t:iX):ac2 "pegs" "in_order.<locals>.<lambda>" (VE eU) (VF eU) (Rq eU):=⟨rfl,rfl,rfl,rfl,rfl,λ_ _ _ _ _=>.of_eq rfl,by decide⟩
def Dh(T:Txt K mg t):FD P w K mg base (qm t) 1 "is_rising" ["cells"] 1 (fM t) (ai bT):=qG ["cells"] [.par] T.Fl λhS f d h A o s H E hr=>by
 walk_at"k";refine IC (κ:=.old) hr.hd hr.units T.yX T.aH5 ?_;walk_at"k"
def J5(T:Txt K mg t):FD P w K mg base (qm t) 1 "is_cell" ["cell"] 1 (nD t) (ai bT):=qG ["cell"] [.par] T.Mi λhS f d h A o s H E hr=>by
 walk_at"k";refine ED (jH:=.new) (DC:=.old) (Gb:=.new) Au Au uP uP ?_ ?_ ?_;walk_at"k";refine ED (jH:=.new) (DC:=.old) (Gb:=.new) Au Au uP uP ?_ ?_ ?_;walk_at"k"
def z6(T:Txt K mg t):FD P w K mg base (qm t) 2 "check_cells" ["cells"] 1 (cN t) (ai bT):=qG ["cells","cell"] [.par,.par] T.A7 λhS f d h A o s H E hr=>by
 walk_at"k";refine QB (jH:=.new) (DC:=.new) (Gb:=.new) Au Au uP uP ?_ ?_ ?_;walk_at"k"
def RP(T:Txt K mg t){f:av}{a:gV}(F:ME K "__init__" "Board.__init__" Ke f a):jT P w K mg base (oU P w) 3 f a ["self","cells"] (CH K t.m7 (XS t.tab (vG eU) "in_order.<locals>.<lambda>") (cN t)):=
 Ve (κ:=.new) F scS T.clB T.naB λd A o s H E hr=>by
 refine DV ?_ ?_;refine sH ?_;refine ER (κ:=.jG) (z6 T) hr (by decide) ?_ (ng wF);refine wD (κ:=.jG) (jH:=.old) ?_ ?_;exact CI 1 (pv 1);exact IA (κ:=.jG);refine vZ ?_;refine YL (pv 0) ?_ rfl;refine vz (jH:=.jG) EC ?_;refine qy sN rfl T.yW Kf ?_;refine wD (κ:=.jG) (jH:=.old) ?_ ?_;exact CI 1 (pv 1);exact IA (κ:=.jG)
def Ab(T:Txt K mg t):FD P w K mg base (qm t) 2 "check_pegs" ["board","pegs"] 2 (cW t) (ai bT):=qG ["board","pegs","cell"] [.par,.par,.par] T.D6 λhS f d h A o s H E hr=>by
 walk_at"k"
def Di(T:Txt K mg t):FD P w K mg base (qm t) 1 "two_apart" ["cell"] 1 (jf t) (ai bT):=qG ["cell","row","column"] [.par,.par,.par] T.Fo λhS f d h A o s H E hr=>by
 walk_at"k"
def J4(T:Txt K mg t):FD P w K mg base (qm t) 1 "between" ["cell","other"] 2 (iH t) (ai bT):=qG ["cell","other"] [.par,.par] T.Mj λhS f d h A o s H E hr=>by
 walk_at"k"
def RN(T:Txt K mg t):FD P w K mg base (qm t) 2 "leaps" ["board"] 1 (tM t) (ai bT):=qG ["board","found","first","second"] [.par,.own bT,.par,.par] T.VQ λhS f d h A o s H E hr=>by
 walk_at"k"
def yZ(T:Txt K mg t):FD P w K mg base (qm t) 2 "can_be_done" ["pegs","leap"] 2 (jP t) (ai bT):=qG ["pegs","leap"] [.par,.par] T.A8 λhS f d h A o s H E hr=>by
 walk_at"k"
def z5(T:Txt K mg t):FD P w K mg base (qm t) 2 "pegs_behind" ["pegs","leap"] 2 (jQ t) (ai bT):=qG ["pegs","leap","taken"] [.par,.par,.par] T.A9 λhS f d h A o s H E hr=>by
 walk_at"k";refine jB (n:=bT) (z:=bT) (gU:=["cell"]) (caps:=[(2,"taken")]) ?_ (.mk (oZ:=.new) (hT:=λ_ _ _ _=>gr ?_) (hE:=λ_ _ _ _=>?_));walk_at"k"
def Mn(T:Txt K mg t):FD P w K mg base (qm t) 1 "odd_on" ["colours","two"] 2 (lP t) (ai bT):=qG ["colours","two"] [.par,.par] T.RH λhS f d h A o s H E hr=>by
 walk_at"k";refine jB (n:=bT) (z:=bT) (gU:=["colour"]) (caps:=[(1,"two")]) ?_ (.mk (oZ:=.new) (hT:=λ_ _ _ _=>gr ?_) (hE:=λ_ _ _ _=>?_));walk_at"k"
def Fy(T:Txt K mg t):FD P w K mg base (qm t) 3 "class_of" ["board","pegs"] 2 (fj t) (ai bT):=qG ["board","pegs","by_sum","by_difference"] [.par,.par,.par,.par] T.IZ λhS f d h A o s H E hr=>by
 walk_at"k";refine nv (i:=2) (k:=.par) (n:=bT) (z:=bT) (gU:=["cell"]) (caps:=[]) ?_ ?_ (.mk (oZ:=.new) (hE:=λ_ _ _ _=>?_));walk_at"k";refine nv (i:=3) (k:=.par) (n:=bT) (z:=bT) (gU:=["cell"]) (caps:=[]) ?_ ?_ (.mk (oZ:=.new) (hE:=λ_ _ _ _=>?_));walk_at"k"
def Ad(T:Txt K mg t):FD P w K mg base (qm t) 3 "steps_from" ["all_leaps","standing"] 2 (fP t) (ai bT):=qG ["all_leaps","standing"] [.par,.par] T.D7 λhS f d h A o s H E hr=>by
 walk_at"k";refine jB (n:=bT) (z:=bT) (gU:=["leap"]) (caps:=[(1,"standing")]) ?_ (.mk (oZ:=.new) (hT:=λ_ _ _ _=>gr ?_) (hE:=λ_ _ _ _=>?_));walk_at"k"
def Dj(T:Txt K mg t):FD P w K mg base (qm t) 4 "next_rows" ["all_leaps","layer"] 2 (jY t) (ai bT):=qG ["all_leaps","layer","found","standing","row","leap","behind"] [.par,.par,.own bT,.par,.par,.par,.par] T.Fp λhS f d h A o s H E hr=>by
 walk_at"k";exact CL;walk_at"k";refine R6 (i:=2) (κ:=.new) (κ':=.old) (uS hr.units) (pv 2) ?_ ?_ rfl;walk_at"k"
def Ae(T:Txt K mg t):FD P w K mg base (qm t) 5 "first_rows" ["board","pegs"] 2 (jD t) (ai bT):=qG ["board","pegs","all_leaps","found","layer"] [.par,.par,.par,.own bT,.loc] T.D8 λhS f d h A o s H E hr=>by
 walk_at"k";exact CL;walk_at"k";refine Vu (κk:=.new) (ab3 hr.units) ?_ ?_;walk_at"k";refine R5 40 (fS ⟨rfl,rfl⟩) ?_ ?_;walk_at"k";refine vz (jH:=.jG) R9 ?_;refine l8 LW rfl T.RJ RL ?_;walk_at"k";refine ab7 (i:=3) (κ:=.loc) ?_ rfl;refine ab6 OC PySem.F.type_dict_update (Vr (uS hr.units)) (pv 3) ?_;walk_at"k"
def Fz(T:Txt K mg t):FD P w K mg base (qm t) 1 "in_order" ["standings"] 1 (jO t) aj:=qG ["standings"] [.par] T.J0 λhS f d a A o s H E hr=>by
 walk_at"k";refine JW ?_;refine Mc ?_ (λH h=>h) (VC T.bc2 T.bc3 T.bc4 a) (Ai t) rfl T.yX T.RJ hr.units hr.depth;refine QK (z:=bT) (gU:=["standing"]) (caps:=[]) ?_ (.mk (oZ:=.new) (hE:=λ_ _ _ _=>?_));walk_at"k"
def Mp(T:Txt K mg t):FD P w K mg base (qm t) 6 "answer" ["board","pegs","others"] 3 (qk t) aj:=qG ["board","pegs","others","rows"] [.par,.par,.par,.loc] T.RI λhS f d h A o s H E hr=>by
 walk_at"k";refine JX (κ:=.new) ?_;walk_at"k";refine JX (κ:=.loc) ?_;refine Vs ?_ ?_;walk_at"k";refine Vq (DC:=.new) (uS hr.units) ?_ ?_ (λ_ _=>rfl);walk_at"k";refine JW ?_;refine VI HC HC ?_;refine AZ (κ:=.jG) (Fz T) hr (by decide) ?_ (ng wF);walk_at"k"
def uX(T:Txt K mg t):FD P w K mg base (qm t) 3 "all_standings" ["board","standings"] 2 (iY t) (ai bT):=qG ["board","standings","pegs"] [.par,.par,.par] T.vS λhS f d h A o s H E hr=>by
 walk_at"k";refine VG (λE=>?_);walk_at"k"
def Dk(T:Txt K mg t):FD P w K mg base (qm t) 4 "is_closed" ["board","standings"] 2 (m8 t) (ai bT):=qG ["board","standings","all_leaps","among","pegs","standing","leap","behind"] [.par,.par,.par,.own bT,.par,.par,.par,.par] T.Fq λhS f d h A o s H E hr=>by
 walk_at"k";exact CL;walk_at"k";refine R6 (i:=3) (κ:=.new) (κ':=.new) (uS hr.units) (pv 3) ?_ ?_ rfl;walk_at"k";refine aH0 (n:=8) ?_;walk_at"k"
def vY(T:Txt K mg t):FD P w K mg base (qm t) 5 "closed_holds" ["board","pegs","others","standings"] 4 (jE t) (ai bT):=qG ["board","pegs","others","standings"] [.par,.par,.par,.par] T.yS λhS f d h A o s H E hr=>by
 walk_at"k"
def RO(T:Txt K mg t):FD P w K mg base (qm t) 6 "holds" ["board","pegs","others","paper"] 4 (oF t) (ai bT):=qG ["board","pegs","others","paper"] [.par,.par,.par,.par] T.VR λhS f d h A o s H E hr=>by
 walk_at"k"
def vV(T:Txt K mg t):FD P w K mg base (qm t) 1 "_law_cell_at" ["script","k"] 2 (aO t) (ai bT):=qG ["script","k"] [.par,.par] T.yT λhS f d h A o s H E hr=>by
 walk_at"k"
def Fx(T:Txt K mg t):FD P w K mg base (qm t) 1 "_law_mix" ["cell","k","many"] 3 (b7 t) (ai bT):=qG ["cell","k","many","some","number"] [.par,.par,.par,.par,.par] T.J1 λhS f d h A o s H E hr=>by
 walk_at"k"
def uY(T:Txt K mg t):FD P w K mg base (qm t) 2 "_law_cells_by" ["script","most"] 2 (fH t) (ai bT):=qG ["script","most","cell","height","width","down","across","some","k"] [.par,.par,.par,.par,.par,.par,.par,.own bT,.par] T.vU λhS f d h A o s H E hr=>by
 walk_at"k";refine QF (i:=3) (j:=4) (k:=.par) (k':=.par) rfl ?_ ?_ (by decide);walk_at"k";refine V4 (κ:=.new) ?_ rfl (BO rfl (jS (dX (i:=3) (by exact hS.nd) rfl (gD rfl)) (jS (dX (i:=4) (by exact hS.nd) rfl (gD rfl)) w5))) (wH (i:=3) (j:=4) (k:=.par) (k':=.par));walk_at"k";refine QF (i:=5) (j:=6) (k:=.par) (k':=.par) rfl ?_ ?_ (by decide);walk_at"k"
def vX(T:Txt K mg t):FD P w K mg base (qm t) 2 "_law_pegs_by" ["cell","cells"] 2 (fm t) (ai bT):=qG ["cell","cells","way","gone"] [.par,.par,.par,.par] T.yU λhS f d h A o s H E hr=>by
 walk_at"k";refine jB (n:=bT) (z:=bT) (gU:=["k","one"]) (caps:=[(0,"cell"),(2,"way")]) ?_ (.mk (oZ:=.new) (hT:=λ_ _ _ _=>gr ?_) (hE:=λ_ _ _ _=>?_));walk_at"k"
def vW(T:Txt K mg t):FD P w K mg base (qm t) 1 "_law_between" ["leap"] 1 (bU t) (ai bT):=qG ["leap"] [.par] T.yV λhS f d h A o s H E hr=>by
 walk_at"k"
def Af(T:Txt K mg t):FD P w K mg base (qm t) 2 "_law_leaps" ["cells"] 1 (jF t) (ai bT):=qG ["cells","found","one","two","apart"] [.par,.own bT,.par,.par,.par] T.D9 λhS f d h A o s H E hr=>by
 walk_at"k"
def Dg(T:Txt K mg t):FD P w K mg base (qm t) 3 "_law_open" ["cells","pegs"] 2 (eZ t) (ai bT):=qG ["cells","pegs","found","one","two"] [.par,.par,.own bT,.par,.par] T.Ft λhS f d h A o s H E hr=>by
 walk_at"k"
def yY(T:Txt K mg t):FD P w K mg base (qm t) 2 "_law_behind" ["pegs","leap"] 2 (dw t) (ai bT):=qG ["pegs","leap","left"] [.par,.par,.par] T.Aa λhS f d h A o s H E hr=>by
 walk_at"k";refine nv (i:=2) (k:=.par) (n:=bT) (z:=bT) (gU:=["one"]) (caps:=[(1,"leap")]) ?_ ?_ (.mk (oZ:=.new) (hT:=λ_ _ _ _=>gr ?_) (hE:=λ_ _ _ _=>?_));walk_at"k"
def Dl(T:Txt K mg t):FD P w K mg base (qm t) 4 "_law_gone" ["cells","pegs","cell","most"] 4 (jg t) (ai bT):=qG ["cells","pegs","cell","most","row","here","k","some","leap"] [.par,.par,.par,.par,.own bT,.loc,.par,.par,.par] T.Fv λhS f d h A o s H E hr=>by
 walk_at"k"
def Ac(T:Txt K mg t):FD P w K mg base (qm t) 1 "_law_class" ["pegs"] 1 (dI t) (ai bT):=qG ["pegs","found","sign","colours"] [.par,.own bT,.par,.par] T.Dc λhS f d h A o s H E hr=>by
 walk_at"k";refine nv (i:=3) (k:=.par) (n:=bT) (z:=bT) (gU:=["r","c"]) (caps:=[(2,"sign")]) ?_ ?_ (.mk (oZ:=.new) (hE:=λ_ _ _ _=>?_));walk_at"k";refine jB (n:=bT) (z:=bT) (gU:=["x"]) (caps:=[]) ?_ (.mk (oZ:=.new) (hT:=λ_ _ _ _=>gr ?_) (hE:=λ_ _ _ _=>?_));walk_at"k";refine jB (n:=bT) (z:=bT) (gU:=["x"]) (caps:=[]) ?_ (.mk (oZ:=.new) (hT:=λ_ _ _ _=>gr ?_) (hE:=λ_ _ _ _=>?_));walk_at"k"
def Ag(T:Txt K mg t):FD P w K mg base (qm t) 4 "_law_holds" ["cells","pegs","others","paper"] 4 (gH t) (ai bT):=qG ["cells","pegs","others","paper","standing","leap","numbers"] [.par,.par,.par,.par,.par,.par,.par] T.Dd λhS f d h A o s H E hr=>by
 walk_at"k";refine jB (n:=bT) (z:=bT) (gU:=["one"]) (caps:=[(4,"standing")]) ?_ (.mk (oZ:=.new) (hT:=λ_ _ _ _=>gr ?_) (hE:=λ_ _ _ _=>?_));walk_at"k"
def Ah(T:Txt K mg t):FD P w K mg base (qm t) 1 "_law_paper" ["paper"] 1 (gI t) (ai bT):=qG ["paper"] [.par] T.De λhS f d h A o s H E hr=>by
 walk_at"k";refine yK (jH:=.old) (T:="tuple") tL T.jC T.Df (by decide +kernel) ?_;walk_at"k";refine yK (jH:=.old) (T:="list") qj T.jC T.yW (by decide +kernel) ?_;walk_at"k";refine vz (jH:=.jG) Vm ?_;refine l8 (QX hr.hd) rfl T.aH4 ab1 ?_;walk_at"k";refine jB (n:=bT) (z:=bT) (gU:=["one"]) (caps:=[]) ?_ (.mk (oZ:=.new) (hE:=λ_ _ _ _=>?_));walk_at"k";refine yK (jH:=.old) (T:="list") qj T.jC T.yW (by decide +kernel) ?_;walk_at"k"
def tN(T:Txt K mg t):FD P w K mg base (qm t) 5 "_law_others_by" ["script","cells","pegs"] 3 (iI t) (ai b4):=qG ["script","cells","pegs","way","others","one","k","tried"] [.par,.par,.par,.par,.par,.par,.par,.par] T.uW λhS f d h A o s H E hr=>by
 walk_at"k";refine mR (jH:=.new) (DC:=.new) ar5 Zz ?_ ?_ (pU _);walk_at"k";refine nv (i:=4) (k:=.par) (n:=bT) (z:=bT) (gU:=["two"]) (caps:=[(5,"one")]) ?_ ?_ (.mk (oZ:=.new) (hT:=λ_ _ _ _=>gr ?_) (hE:=λ_ _ _ _=>?_));walk_at"k";refine nv (i:=7) (k:=.par) (n:=bT) (z:=bT) (gU:=["j","one"]) (caps:=[(0,"script"),(6,"k")]) ?_ ?_ (.mk (oZ:=.new) (hT:=λ_ _ _ _=>gr ?_) (hE:=λ_ _ _ _=>?_));walk_at"k"
def VV(T:Txt K mg t){a:av}{b:gV}(m:Mk K t.m7 a)(bB:Binds K b ["self","cells"] [])(c:jT P w K mg base (oU P w) 3 a b ["self","cells"] (CH K t.m7 (XS t.tab (vG eU) "in_order.<locals>.<lambda>") (cN t))):FD P w K mg base (qm t) 7 "law" ["script"] 1 (B5 t) (ai bT):=qG ["script","cells","board","pegs","others","handed","found","standing","one","here","leap"] [.par,.par,.par,.par,.par,.loc,.dp,.par,.par,.par,.par] T.XU λhS f d h A o s H E hr=>by
 walk_at"k";refine QO (κ:=.jG) m c (hr.mono (by decide)) T.VU bB ?_;walk_at"k";refine VN (i:=4) (js:=[6]) (κ:=.jG) ?_ ?_ rfl;walk_at"k";refine VH (i:=6) ?_ ?_;walk_at"k";refine AZ (κ:=.jG) (Mp T) hr (by decide) ?_ (ng (ng (ng wF)));walk_at"k";refine yK (jH:=.jG) (T:="tuple") tL T.jC T.Df (by decide +kernel) ?_;exact jX (pv 6);walk_at"k";exact jX (pv 6);walk_at"k";exact jX (pv 6);walk_at"k";exact jX (pv 6);walk_at"k";exact jX (pv 6);walk_at"k";refine mR (jH:=.new) (DC:=.new) LP ab2 ?_ ?_ (pU _);walk_at"k";exact jX (pv 6);walk_at"k";refine RB (i:=6) (j:=7) (k:=8) (n:=11) (ft:=(bY 100 (af (dC (.int 9)) (af (dC (.int 9)) az)))) (fS ⟨rfl,rfl⟩) rfl ?_ (dX (i:=7) (by exact hS.nd) rfl (gD rfl)) (dX (i:=8) (by exact hS.nd) rfl (gD rfl)) (pv 7) ?_ (λ_=>⟨_,rfl⟩) rfl;refine λp=>jB (n:=b4) (z:=bT) (gU:=["one"]) (caps:=[(6,"found")]) ?_ (.mk (oZ:=.old) (hT:=λ_ _ _ _=>gr ?_) (hE:=λ_ _ _ _=>?_));walk_at"k";refine ac6 (jH:=.old) ?_ ?_ JY;walk_at"k";refine Xj OM ON OO uD (pv 8) ?_;walk_at"k";exact jX (pv 6);walk_at"k";refine yK (jH:=.jG) (T:="list") qj T.jC T.yW (by decide +kernel) ?_;walk_at"k";exact jX (pv 6);walk_at"k";exact Rw (pv 6);walk_at"k"
def ad0(T:Txt K mg t):FD P w K mg base (qm t) 7 "law" ["script"] 1 (B5 t) (ai bT):=by
 obtain⟨f,a,F,m,bB⟩:=T.iB;exact VV T m bB (RP T F)
def FA(K:Frag)(g:GL):Sp:=λv H Q _=>∃(a:av) (n:List Int),v=[.ref a]/\(k9 K H a (n.map V.int)/\g.p H)/\n.length<=63/\∀b,Q (.bl bT) b
def ad1(T:Txt K mg t)(c:∀ns:List Int,ns.length<=63->B5 t [.lst (ns.map D.int)] =.ok (.bl bT)):∃a f,jT P w K mg base (oU P w) 40 a f ["script"] (FA K (XS t.tab (vG eU) "in_order.<locals>.<lambda>"))/\mg "law"=ai (.ref a)/\∃o,K.lookup a=ai o/\o.data=.func f:=by
 obtain⟨a,f,d,g,_,_,i⟩:=(ad0 (P:=P) (w:=w) (base:=base) T).ex;refine⟨a,f,(d.mono (by decide)).imp λk H Q E l=>?_,g,i⟩;obtain⟨p,ns,e,h,hl,q⟩:=l;subst e;refine⟨[.lst (ns.map D.int)],rfl,⟨.cons (by rw[Rep];exact⟨p,_,rfl,h.1,aM.ints ns⟩) .nil,h.2⟩,?_⟩;rw[c ns hl];intro v j _ r;have b:=r.1;rw[Rep]at b;subst b;exact q j
end
def aH7{l:OpenLaw}{w:bL}{K:Frag}{h:aW}{mg:Str->Option au}{c T0:av}(b:mg "law"=ai (.ref c))(T:∃t:iX,Txt K mg t/\t.tab=T0)(j:∀(t:iX) (ns:List Int),ns.length<=63->B5 t [.lst (ns.map D.int)] =.ok (.bl bT)) :
  ∃f:gV,(∀(s:ay) (v:au),BindsTo s f ⟨[v],[]⟩ [("script",v)])/\∀base:aW,K.In base->base.Ns dS mg->jT l.prog w K mg base (oU l.prog w) 40 c f ["script"] (FA K (XS T0 (vG eU) "in_order.<locals>.<lambda>")):=by
 obtain⟨t,T,rfl⟩:=T;obtain⟨a,f,F,d,hb⟩:=T.XU;obtain rfl:a=c:=by rw[d]at b;cases b;rfl
 refine⟨f,λs v=>?_,λbase hk x=>?_⟩;obtain⟨y,od,kV,k,z,A,C,ct,E,rfl,lk,H⟩:=F.ex;exact .of_eq rfl;obtain⟨I,m,n,e,p⟩:=ad1 (P:=l.prog) (w:=w) (base:=base) T (j t);rw[d]at e;cases e;obtain⟨o,r,u⟩:=p;obtain⟨J,g,i⟩:=yL F;rw[r]at g;cases g;rw[u]at i;cases i;exact n
def walk{l:OpenLaw}{q:dz}{loose:List Str}{j:(Str->Option au)->aW->Prop}{d:DefRec}{K K1:eX->Frag}{T0:av}(k:l.most=ai 63)(Y:d.params.defaults=[])(hT:∀P,(K P).lookup T0=ai (tabObj #[]))(b:∀P,Rt T0 (K P)=K1 P)(m:∀P,∃c,uU (K1 P) c T0=bT)
  (F:∀(w:bL) (mg:Str->Option au) (g:av) (h:aW),(K1 w.params).In h->h.Ns dS mg->mg d.name=ai (.ref g)->
   ∃i:gV,(∀(s:ay) (u:au),BindsTo s i ⟨[u],[]⟩ [("script",u)])/\∀base:aW,(K1 w.params).In base->base.Ns dS mg->jT l.prog w (K1 w.params) mg base (oU l.prog w) 40 g i ["script"] (FA (K1 w.params) (XS T0 (vG eU) "in_order.<locals>.<lambda>"))) :
  WalkO q loose j (λw h=>(K w.params).In h) l.row.toRowW d [] (λf vs=>PySem.call f vs):=
 L2.Rp (n:=63) (k:=40) (x:="script") (K:=K1) (CX:=λw=>oU l.prog w) (sp:=λw=>FA (K1 w.params) (XS T0 (vG eU) "in_order.<locals>.<lambda>")) k (by decide) Y ⟨rfl,by decide,by decide⟩ (λw h X=>⟨b _▸ac5 X,X _ _ (hT w.params)⟩) (λw=>⟨b _▸tH _,m w.params⟩) F (λ_ _ a n hl hT hS=>⟨a,n,rfl,⟨hS,hT⟩,hl,λ_=>rfl⟩) λw H s e M o=>o.elim λ_ p=>p.elim λ_ r=>r.elim λ_ I=>I.elim λ_ J=>J.elim λ_ t=>t.elim λ_ v=>v.elim λ_ x=>x.elim λ_ y=>y.elim λ_ A=>A.elim λ_ C=>C.elim λ_ E=>E.elim λ_ L=>L.elim λz _=>z
def aH8{l:OpenLaw}{q:dz}{loose:List Str}{X:(Str->Option au)->aW->Prop}{d:DefRec}{K K1:eX->Frag}{T0:av}{as:List av}(x:l.most=ai 63)(Y:d.params.defaults=[])(e:∀P,as=(K P).map (·.1))(hT:∀P,(K P).lookup T0=ai (tabObj #[]))(z:∀P,Rt T0 (K P)=K1 P)(A:∀P,∃c,uU (K1 P) c T0=bT)
  (F:∀(w:bL) (mg:Str->Option au) (n:av) (h:aW),(K1 w.params).In h->h.Ns dS mg->mg d.name=ai (.ref n)->
   ∃r:gV,(∀(s:ay) (u:au),BindsTo s r ⟨[u],[]⟩ [("script",u)])/\∀base:aW,(K1 w.params).In base->base.Ns dS mg->jT l.prog w (K1 w.params) mg base (oU l.prog w) 40 n r ["script"] (FA (K1 w.params) (XS T0 (vG eU) "in_order.<locals>.<lambda>"))) :
  WalkX q loose X (λs:ay=>as.map s.heap.get?) (λw=>(K w.params).map λp=>ai p.2) l.row.toRowW d [] (λf vs=>PySem.call f vs):=
 λw j t mg C G y a o E H g I kV J M N O Q S b v i L T U Z k m=>walk x Y hT z A F w j t mg C G (InK.keeps w j.heap t.heap (InK.of e w j y) L.keeps) a o E H g I kV J M N O Q S b v i T U Z k m
end Pk
namespace Dm
open L2 HT
@[simp] theorem aN2 (a:α) (f:α->R β):R.bind (.ok a) f=f a:=rfl
@[simp] theorem aI0 (f:α->R β):R.bind (.bad:R α) f=.bad:=rfl
@[simp] theorem aN3 (c:PySem.Addr) (p:Option Int) (f:α->R β):R.bind (.ex c p:R α) f=.ex c p:=rfl
@[simp] theorem be6 (st:gM):aZ F G st=match F st with |.nx st'=>G st'|o=>o:=rfl
@[simp] theorem bc5 (st:gM):bf st=.nx st:=rfl
@[simp] theorem be7 (st:gM):cB i f st=match f st with |.ok d=>.nx (st.set i (ai d)) |.ex c p=>.ex c p st |.bad=>.bad:=rfl
@[simp] theorem bc6 (st:gM):oQ f st=match f st with |.ok _=>.nx st |.ex c p=>.ex c p st |.bad=>.bad:=rfl
@[simp] theorem be8 (st:gM):cP f st=match f st with |.ok d=>.rt d |.ex c p=>.ex c p st |.bad=>.bad:=rfl
@[simp] theorem be9 (st:gM):Dm.bS f F G st=match f st with |.ok (.bl bT)=>F st |.ok (.bl b4)=>G st |.ok _=>.bad |.ex c p=>.ex c p st |.bad=>.bad:=rfl
@[simp] theorem aI1 (st:gM):iG c st=.ex c aj st:=rfl
@[simp] theorem bf0 (st:gM):ah i st=match st[i]? with|some (ai d)=>.ok d|_=>.bad:=rfl
@[simp] theorem dC_ (st:gM):dC d st=.ok d:=rfl
@[simp] theorem bc7 (st:gM):aX f st=(f st).bind λd=>if gq d=bT then .ok d else .bad:=rfl
@[simp] theorem bg9 {g:D->D->R D} (st:gM):aL g f c st=(f st).bind λa=>(c st).bind λb=>g a b:=rfl
@[simp] theorem bh0 {g:D->R D} (st:gM):oY g f st=(f st).bind g:=rfl
@[simp] theorem bf1 (st:gM):az st=.ok []:=rfl
@[simp] theorem bc8 (st:gM):af f fs st=(f st).bind λd=>(fs st).bind λds=>.ok (d::ds):=rfl
@[simp] theorem bc9 (i:Int) (ds:List D):oX (.tup (.int i::ds))=bT:=rfl
@[simp] theorem bd0 (es ds:List D):oX (.tup (.tup es::ds))=bT:=rfl
@[simp] theorem bd1 (es ds:List D):oX (.tup (.lst es::ds))=bT:=rfl
@[simp] theorem bd2 (b:Bool) (ds:List D):oX (.tup (.bl b::ds))=bT:=rfl
@[simp] theorem bf2 (st:gM):bY n fs st=(fs st).bind λds=>if ds.length<=n/\oX (.tup ds)=bT then .ok (.tup ds)else .bad:=rfl
@[simp] theorem bf3 (st:gM):cF n fs st=(fs st).bind λds=>if ds.length<=n then .ok (.lst ds)else .bad:=rfl
@[simp] theorem bh1 {g:List D->R D} (st:gM):bh g fs st=(fs st).bind g:=rfl
@[simp] theorem bf4 (st:gM):j8 f b st=(f st).bind λa=>match a with |.bl bT=>b st |.bl b4=>.ok (.bl b4)|_=>.bad:=rfl
@[simp] theorem bh2 (st:gM):Ga f b st=(f st).bind λa=>match a with |.bl bT=>.ok (.bl bT) |.bl b4=>b st|_=>.bad:=rfl
@[simp] theorem bf5 (st:gM):om f st=(f st).bind λa=>match a with |.bl b=>.ok (.bl (!b))|_=>.bad:=rfl
@[simp] theorem aN4 {g g':D->D->R D} (st:gM):oz g g' f d e st=(f st).bind λa=>(d st).bind λb=>(g a b).bind λz=>match z with
 |.bl bT=>(e st).bind λc=>g' b c
 |.bl b4=>.ok (.bl b4)
 |_=>.bad:=rfl
@[simp] theorem bf6 (i j:Int):iE (.int i) (.int j)=.ok (.int (i+j)):=rfl
@[simp] theorem bf7 (i j:Int):mO (.int i) (.int j)=.ok (.int (i-j)):=rfl
@[simp] theorem bh3 (i j:Int):gLt (.int i) (.int j)=.ok (.bl (decide (i<j))):=rfl
@[simp] theorem bh4 (i j:Int):XG (.int i) (.int j)=.ok (.bl (decide (i<=j))):=rfl
@[simp] theorem VX (i j:Int):yy (.int i) (.int j)=.ok (.bl (decide (j<i))):=rfl
@[simp] theorem bd3 (i j:Int):gGe (.int i) (.int j)=.ok (.bl (decide (j<=i))):=rfl
@[simp] theorem bf8 (i:Int):UY (.int i)=.ok (.int (-i)):=rfl
@[simp] theorem ad2 (ds:List D):gQ [.lst ds] =.ok (.int ds.length):=rfl
@[simp] theorem bd4 (ds:List D):gQ [.tup ds] =.ok (.int ds.length):=rfl
@[simp] theorem VY (i:Int):gq (.int i)=bT:=by rw[gq] <;> simp
@[simp] theorem bd5 (i:Bool):gq (.bl i)=bT:=by rw[gq] <;> simp
@[simp] theorem B6 {g:DI} {bind:DB} (st:gM):cZ g bind F st=match g st with |.ok ds=>fW bind F ds st |.ex c p=>.ex c p st |.bad=>.bad:=rfl
@[simp] theorem aI2 (st:gM):di f st=match f st with |.ok (.lst ds)=>.ok ds |.ok _=>.bad |.ex c p=>.ex c p |.bad=>.bad:=rfl
def kP{j:Int}(h:0<j):gw (.int i) (.int j)=.ok (.int (i % j)):=by
 show(if decide (0<j)=bT then _ else _)=_;rw[bh6 (bh8 h)]
def B7{j:Int}(h:0<j)(a:j<1073741824):n9 (.int i) (.int j)=.ok (.int (i / j)):=by
 show(if(decide (0<j)&&decide (j<1073741824))=bT then _ else _)=_;rw[bh6 (by rw[bh8 h,bh8 a];rfl)]
def rX{i:Int}(h : -(2 ^ 64)<i/\i<2 ^ 64):ou (.int i) (.int j)=.ok (.int (i*j)):=by
 show(if(sm i || sm j)=bT then _ else _)=_;rw[bh6];unfold sm;rw[bh8 h.1,bh8 h.2];rfl
abbrev Cell:=Int×Int
def cD(c:Cell):D:=.tup [.int c.1,.int c.2]
@[simp] theorem bd6 (c:Cell) (ds:List D):oX (.tup (cD c::ds))=bT:=rfl
abbrev aD(l:List Cell):D:=.lst (l.map cD)
noncomputable def row(c:Cell):List Int:=[c.1,c.2]
def VZ(h:row a=row b):a=b:=by
 obtain⟨c,d⟩:=a;obtain⟨e,f⟩:=b;simp[row]at h;simp[h]
@[simp] theorem ad3 (c:Cell):gq (cD c)=bT:=by unfold cD;simp[gq,dR]
@[simp] theorem Kg (l:List Cell):dR (l.map cD)=bT:=fY λd hd=>by obtain⟨c,_,rfl⟩:=aN.mp hd;exact ad3 c
@[simp] theorem W0 (c:Cell):flat (cD c)=bT:=by unfold cD;simp[flat,cC]
@[simp] theorem z7 (l:List Cell):cC (l.map cD)=bT:=iC λd hd=>by obtain⟨c,_,rfl⟩:=aN.mp hd;exact W0 c
@[simp] theorem RT (c:Cell):dep (cD c)=1:=by unfold cD;simp[dep,jU]
def qH(l:List Cell):jU (l.map cD)<=1:=nW λd hd=>by obtain⟨c,_,rfl⟩:=aN.mp hd;rw[RT];exact b9 _
@[simp] theorem J6 (a b:Cell):iJ (cD a) (cD b)=decide (a=b):=by
 obtain⟨c,d⟩:=a;obtain⟨e,f⟩:=b;unfold cD;simp only[iJ,eT,ur];by_cases h:c=e <;> by_cases g:d=f <;> simp[h,g]
@[simp] theorem W6:∀(a b:List Cell),eT (a.map cD) (b.map cD)=decide (a=b)
 |[],[]=>by simp[eT]
 |[],_::_=>by simp[eT]
 |_::_,[]=>by simp[eT]
 |x::a,y::b=>by
  rw[bz,bz,eT,J6,W6 a b];by_cases h:x=y <;> by_cases c:a=b <;> simp[h,c]
def Dp(n:Bool)(a b:List Cell):i9 n (aD a) (aD b)=.ok (.bl (if n then !decide (a=b)else decide (a=b))):=by
 unfold i9;have h:=qH a;rw[bh6];simp[iJ];simp[flat,dep];lia
def gJ(n:Bool)(i j:Int):i9 n (.int i) (.int j)=.ok (.bl (if n then !decide (i=j)else decide (i=j))):=by
 unfold i9;rw[bh6 (by simp[flat,dep])];have e:iJ (.int i) (.int j)=decide (i=j):=by rw[iJ];by_cases h:i=j;simp[h];rw[bh9 h];exact bi3.mpr h
 rw[e]
def fU(n:Bool)(c:Cell)(l:List Cell):iT n (cD c) (aD l)=.ok (.bl (if n then !decide (c∈l)else decide (c∈l))):=by
 unfold iT;have h:=qH l;dsimp only;rw[bh6 (by simp;lia)];have e:(l.map cD).any (λe=>iJ e (cD c))=decide (c∈l):=by
  induction l with
  |nil=>rfl
  |cons x l i=>rw[bz,pM,J6,i (qH l)];by_cases a:x=c;simp[a];have:¬ c=x:=λz=>a z.symm;simp[a,this]
 rw[e]
def W7(c:Cell):Lv (cD c)=ai (row c):=rfl
theorem FE:∀l:List Cell,AS (l.map cD)=ai (l.map row)
 |[]=>rfl
 |c::l=>by
  have i:=FE l;unfold AS at i ⊢;rw[bz,GR,W7,i];rfl
theorem W8:∀l:List Cell,nh (l.map row)=bT
 |[]=>rfl
 |c::l=>by
  unfold nh;rw[bz];simp[row]
def vH(a b:Cell):Prop:=a.1<b.1\/(a.1=b.1/\a.2<b.2)
instance (a b:Cell):Decidable (vH a b):=inferInstanceAs (Decidable (_\/_))
def bK(l:List Cell):Prop:=l.Pairwise vH
def aI3(a b:Cell):lexLt (row a) (row b)=decide (vH a b):=by
 obtain⟨d,e⟩:=a;obtain⟨f,g⟩:=b;unfold row vH;rw[dU];by_cases h:d=f;subst h;rw[bh6 rfl,dU];by_cases c:e=g;subst c;rw[bh6 rfl];simp[sW];rw[bh7 c];simp;rw[bh7 h];simp[h]
def RU(c:Cell):fl (cD c)=row c:=by unfold cD row;simp[fl,kr]
def RV(a b:Cell):rP (fl (cD a)) (fl (cD b)) = !decide (vH b a):=by rw[RU,RU];unfold rP;rw[aI3]
def Kh(a b:Cell):vH a b\/a=b\/vH b a:=by
 obtain⟨c,d⟩:=a;obtain⟨e,f⟩:=b;unfold vH;by_cases h:c<e;exact .inl (.inl h);by_cases g:e<c;exact .inr (.inr (.inl g));have:c=e:=by lia
 subst this;by_cases i:d<f;exact .inl (.inr ⟨rfl,i⟩);by_cases j:f<d;exact .inr (.inr (.inr ⟨rfl,j⟩));have:d=f:=by lia
 subst this;exact .inr (.inl rfl)
def oG(a:Cell):¬ vH a a:=by unfold vH;lia
def B8(h:vH a b)(h':vH b c):vH a c:=by unfold vH at *;lia
def qp(h:vH a b):¬ vH b a:=λc=>oG a (B8 h c)
def bK.nodup(h:bK l):l.Nodup:=h.imp λ{a b} s e=>by subst e;exact oG _ s
noncomputable def toC:D->Cell
 |.tup [.int a,.int b]=>(a,b)
 |_=>(0,0)
def toC_cD(c:Cell):toC (cD c)=c:=rfl
theorem XW[DecidableEq α]:∀{l:List α},l.Nodup->dd l=l
 |[],_=>rfl
 |x::l,h=>by
  rw[kX]at h;rw[dd,bh7 h.1,XW h.2]
def Mq{l:List Cell}(h:l.Nodup):(l.map row).Nodup:=by
 rw[rB]at h ⊢;exact rG row (λa b s e=>s (VZ e)) h
def W9(h:bK l):fV (l.map cD)=l.map cD:=by
 symm;refine jx (λa d b hb=>?_) (.refl _) ?_;refine aR (aN.mp d) λx _ c=>?_;obtain rfl:=c;refine aR (aN.mp hb) λy _ c=>?_;obtain rfl:=c;unfold cD;simp[iu,gk];refine rG cD (λa b s=>?_) h;rw[RV,bh9 (qp s)];rfl
def Wa(l:List Cell):(l.map row).map qO=l.map cD:=by rw[dY];rfl
def J7(l:List Cell)(hl:l.length<=50):∃m:List Cell,lK (aD l)=.ok (aD m)/\(l=m↔bK l):=by
 let d:=fV ((dd (l.map row)).map qO);have k:d.Perm ((dd (l.map row)).map qO):=cX _;have o:∀y∈d,∃c∈l,y=cD c:=λy h=>by refine aR (aN.mp (k.mem_iff.mp h)) λr hr i=>?_;obtain rfl:=i;refine aR (aN.mp (uR.mp hr)) λc p i=>?_;obtain rfl:=i;exact⟨c,p,rfl⟩
 have n:d=(d.map toC).map cD:=by
  rw[dY];conv=>lhs;rw[<- Bw d]
  refine uo λy h=>?_;refine aR (o y h) λc _ i=>?_;obtain rfl:=i;rfl
 refine⟨d.map toC,?_,?_⟩;unfold lK;dsimp only;rw[FE];dsimp only;rw[bh6 (by rw[W8,uv,bw];exact bh8 hl)];show R.ok (D.lst d)=_;exact congrArg (λz=>R.ok (D.lst z)) n;constructor;intro e;have s:d=l.map cD:=by rw[n,<- e]
 have f:d.Nodup:=by
  refine k.nodup_iff.mpr ?_;have:=tu (l.map row);rw[rB]at this ⊢;refine rG qO (λa b t e=>t ?_) this;unfold qO at e;have u:a.map D.int=b.map D.int:=by injection e
  exact List.map_inj_right (λx y h=>by injection h) |>.mp u
 have g:=n6 ((dd (l.map row)).map qO);change List.Pairwise _ d at g;rw[s]at f g;rw[rB]at f;rw[Bu]at f g;refine(f.and g).imp λ{a b} v=>?_;obtain⟨w,j⟩:=v;rw[RV]at j;rcases Kh a b with h|h|h;exact h;subst h;exact bi8 rfl w;rw[bh8 h]at j;cases j;intro h;have A:dd (l.map row)=l.map row:=XW (Mq h.nodup);have C:d=l.map cD:=by show fV _=_;rw[A,Wa,W9 h]
 rw[C,dY];conv=>lhs;rw[<- Bw l]
 exact uo λc _=>(toC_cD c).symm
def aK(h:F st=.nx st'):aZ F G st=G st':=by simp[h]
def mU(h:F st=.rt d):aZ F G st=.rt d:=by simp[h]
def ad5(h:F st=.ex c p s):aZ F G st=.ex c p s:=by simp[h]
def fq(h:f st=.ok d):cB i f st=.nx (st.set i (ai d)):=by simp[h]
def ez(h:f st=.ok d):cP f st=.rt d:=by simp[h]
def oH(h:f st=.ok d):oQ f st=.nx st:=by simp[h]
def nE(h:f st=.ok (.bl bT)):Dm.bS f F G st=F st:=by simp[h]
def ir(h:f st=.ok (.bl b4)):Dm.bS f F G st=G st:=by simp[h]
def cJ{ds:List D}(st:gM)(h:F st=.rt d)(e:autoParam (ds.map ai++kE (n-ds.length) aj=st) b5):bQ n F ds=.ok d:=by
 subst e;unfold bQ;rw[h]
def Aj{g:List D->R D}(h1:f1 st=.ok a)(h:g [a]=r):bh g (af f1 az) st=r:=by simp[h1,h]
def tP{g:List D->R D}(h1:f1 st=.ok a)(c:f2 st=.ok b)(h:g [a,b]=r):bh g (af f1 (af f2 az)) st=r:=by simp[h1,c,h]
def fn3{g:List D->R D}(h1:f1 st=.ok a)(d:f2 st=.ok b)(e:f3 st=.ok c)(h:g [a,b,c]=r):bh g (af f1 (af f2 (af f3 az))) st=r:=by simp[h1,d,e,h]
def eV{g:D->D->R D}(h1:f1 st=.ok a)(c:f2 st=.ok b)(h:g a b=r):aL g f1 f2 st=r:=by simp[h1,c,h]
def un1{g:D->R D}(h1:f1 st=.ok a)(h:g a=r):oY g f1 st=r:=by simp[h1,h]
def aI4(h:f st=.ok d)(n:gq d=bT):aX f st=.ok d:=by simp[h,n]
def mV(h:f st=.ok (.bl bT))(a:g st=r):j8 f g st=r:=by simp[h,a]
def z8(h:f st=.ok (.bl b4)):j8 f g st=.ok (.bl b4):=by simp[h]
def qq(h:f st=.ok (.bl b4))(a:g st=r):Ga f g st=r:=by simp[h,a]
def vI(h:f st=.ok (.bl b)):om f st=.ok (.bl (!b)):=by simp[h]
theorem iF{b:Type}{bind:DB}{ft i:DF}{f:b->D}{p:b->Bool}{g:b->D}{S:b->gM}{P:gM->Prop}:∀(xs:List b) (hS:∀x∈xs,P (S x)) (hb:∀x∈xs,∀st,P st->bind (f x) st=ai (S x)) (c:∀x∈xs,ft (S x)=.ok (.bl (p x))) (d:∀x∈xs,p x=bT->i (S x)=.ok (g x)) (st:gM),P st->j9 bind ft i (xs.map f) st=.ok ((xs.filter p).map g)
 |[],_,_,_,_,_,_=>rfl
 |x::xs,hS,hb,c,d,st,h=>by
  have j:=iF xs (λy a=>hS y (.tail _ a)) (λy a=>hb y (.tail _ a)) (λy a=>c y (.tail _ a)) (λy a=>d y (.tail _ a)) (S x) (hS x (.head _));rw[bz,j9,hb x (.head _) st h];dsimp only;rw[c x (.head _)];cases e:p x with
  |true=>dsimp only;rw[d x (.head _) e,NT e,bz,j]
  |false=>dsimp only;rw[NU (by rw[e];exact jd),j]
def ie{g:DI}{k:Nat}{f:List Nat}{bind:DB}{ft a:DF}{st:gM}{ds es:List D}(h1:g st=.ok ds)(hl:ds.length<=5000)(h:j9 bind ft a ds (qg k f st)=.ok es):dm g k f bind ft a st=.ok (.lst es):=by
 unfold dm;rw[h1];dsimp only;rw[bh6 hl,h]
theorem gZ{a:Type}{bind:DB}{F:DS}{f:a->D}{Q:List a->gM->Prop}:∀(xs pre:List a) (st:gM),(∀p x r,pre++xs=p++x::r->∀st,Q p st->∃k m,bind (f x) st=ai k/\F k=.nx m/\Q (p++[x]) m)->Q pre st->∃st',fW bind F (xs.map f) st=.nx st'/\Q (pre++xs) st'
 |[],pre,st,_,q=>⟨st,rfl,by simpa using q⟩
 |x::xs,pre,st,h,q=>by
  refine bC (h pre x xs rfl st q) λk m b c d=>?_;refine aR (gZ xs (pre++[x]) m (λp y r e=>h p y r (by simpa using e)) d) λst' g i=>?_;refine⟨st',?_,by simpa using i⟩;rw[bz,fW,b];dsimp only;rw[c];exact g
def Stop(o:Out):Prop:=match o with |.rt _=>True |.ex _ _ _=>True|_=>False
theorem Kl{e:Type}{bind:DB}{F:DS}{f:e->D}{Q:gM->Prop}{p:e->Prop}{S:Out->Prop}(hS:∀o,S o->Stop o):∀(xs:List e) (st:gM),(∀x∈xs,∀st,Q st->∃k,bind (f x) st=ai k/\(p x->∃m,F k=.nx m/\Q m)/\(¬ p x->S (F k)))->Q st->
  ((∀x∈xs,p x)->∃st',fW bind F (xs.map f) st=.nx st'/\Q st')/\(¬ (∀x∈xs,p x)->S (fW bind F (xs.map f) st))
 |[],st,_,q=>⟨λ_=>⟨st,rfl,q⟩,λh=>bi8 (λx i=>by cases i) h⟩
 |x::xs,st,h,q=>by
  refine cA (h x (.head _) st q) λk j l n=>?_;rw[bz,fW,j];dsimp only;by_cases b:p x;refine aR (l b) λm r t=>?_;obtain⟨u,v⟩:=Kl hS xs m (λy a=>h y (.tail _ a)) t;rw[r];dsimp only;refine⟨λz=>u λy a=>z y (.tail _ a),λz=>v λw=>z λy a=>?_⟩;rcases cK.mp a with rfl|a;exact b;exact w y a;have s:=n b;refine⟨λz=>bi8 (z x (.head _)) b,λ_=>?_⟩;cases g:F k with
  |rt d=>rw[g]at s;exact s
  |ex c p st=>rw[g]at s;exact s
  |_=>rw[g]at s;exact bi8 (hS _ s) (by simp[Stop])
def Km(f:α->D)(l:List α):enD (l.map f)=l.zipIdx.map λp=>.tup [.int (p.2:Nat),f p.1]:=by
 unfold enD;refine Bs λi=>?_;rw[GS,d8,d8,List.getElem?_zipIdx];cases l[i]? <;> simp
def Dq{ds:List D}{n:Nat}(h:ds[n]?=ai d):dh (.lst ds) (.int n)=.ok d:=by
 have hl:=(eN.mp h).1;have e:E5 ds (n:Int)=ai d:=by unfold E5 Td;rw[bh6 (Int.natCast_nonneg n),bh6 (by lia)];simpa using h
 unfold dh;dsimp only;rw[e]
def z9(ds:List D)(m:Nat):cutD ds aj (ai (m:Int))=ds.take m:=by
 unfold cutD HT.jj;simp only[List.drop_zero,Nm];rw[bh7 (by lia)];simp only[kJ];by_cases h:m<=ds.length;rw[GC h];rw[Np (by lia),xj,uf (by lia)]
def RW(ds:List D)(m:Nat):cutD ds (ai (m:Int)) aj=ds.drop m:=by
 unfold cutD HT.jj;dsimp only;rw[bh7 (by lia)];simp only[kJ];by_cases h:m<=ds.length;rw[GC h,uf (by simp)];rw[Np (by lia),Br,GV (by lia)];simp
def aI5{f g:DF}{a:Nat}(h1:f st=.ok (aD l))(h:g st=.ok (.int (a:Int))):ML f aj (ai g) st=.ok (aD (l.take a)):=by
 simp[ML,m6,h1,h,z9]
def Wb{f g:DF}{a:Nat}(h1:f st=.ok (aD l))(h:g st=.ok (.int (a:Int))):ML f (ai g) aj st=.ok (aD (l.drop a)):=by
 simp[ML,m6,h1,h,RW]
def J8{l m:List Cell}(h:l.length+m.length<=5000):qN (aD l) (aD m)=.ok (aD (l++m)):=by
 unfold qN;dsimp only;rw[bh6 (by simp;lia)];simp
def J9(a b:Cell):iu (cD a) (cD b)=bT:=by unfold cD;simp[iu,gk]
def RX(a:Cell):nl (cD a)=bT:=by unfold cD;simp[nl,Ik]
def RY{l:List Cell}(h:l.length<64):qY (l.map cD)=bT:=by
 unfold qY;simp only[bI,kZ,bi1,dZ,bw];refine⟨⟨⟨⟨h,Kg l⟩,λd hd=>?_⟩,λa f b hb=>?_⟩,.inl (.inr λd hd=>?_)⟩;refine aR (aN.mp hd) λc _ e=>?_;obtain rfl:=e;exact⟨RX c,by rw[RT];decide⟩;refine aR (aN.mp f) λc _ e=>?_;obtain rfl:=e;refine aR (aN.mp hb) λg _ e=>?_;obtain rfl:=e;exact J9 c g;refine aR (aN.mp hd) λc _ e=>?_;obtain rfl:=e;rfl
def uZ{m:List Cell}(c:m.Perm l)(hs:m.Pairwise (λa b=>¬ vH b a))(d:l.Nodup):bK m:=by
 have x:m.Nodup:=c.nodup_iff.mpr d;rw[rB]at x;refine(x.and hs).imp λ{a b} e=>?_;obtain⟨f,g⟩:=e;rcases Kh a b with h|h|h;exact h;exact bi8 h f;exact bi8 h g
def Ja(hl:bK l)(d:bK m)(h:∀c,c∈l↔c∈m):l=m:=by
 have e:l.Perm m:=(Bv hl.nodup d.nodup).mpr h;exact e.eq_of_pairwise (λa b _ _ f g=>bi8 g (qp f)) hl d
@[simp] theorem aN5 (l:List Cell):f9 (.bN 0 (l.map cD))=.ok (aD l):=by simp[f9]
@[simp] theorem aI6 (l:List Cell):lJ [aD l] =.ok (aD l):=by simp[lJ]
abbrev bO:=Cell×Cell
noncomputable def lD(p:bO):D:=.tup [cD p.1,cD p.2]
noncomputable abbrev cQ(l:List bO):D:=.lst (l.map lD)
noncomputable def mid(a b:Cell):Cell:=((a.1+b.1) / 2,(a.2+b.2) / 2)
noncomputable def four(c:Cell):List Cell:=[(c.1-2,c.2),(c.1,c.2-2),(c.1,c.2+2),(c.1+2,c.2)]
noncomputable def Gf(aa:List Cell)(a:Cell):List Cell:=(four a).filter λb=>decide (b∈aa)&&decide (mid a b∈aa)
noncomputable def aV(aa:List Cell):List bO:=aa.flatMap λa=>(Gf aa a).map λb=>(a,b)
def rY:p∈aV aa↔p.1∈aa/\p.2∈four p.1/\p.2∈aa/\mid p.1 p.2∈aa:=by
 unfold aV Gf;simp only[NV,aN,sD,bI,bi1];constructor;rintro⟨a,h,b,⟨c,d,e⟩,rfl⟩;exact⟨h,c,d,e⟩;rintro⟨h,c,d,e⟩;exact⟨p.1,h,p.2,⟨c,d,e⟩,rfl⟩
@[simp] theorem RZ (p:bO):gq (lD p)=bT:=by unfold lD;simp[gq,dR]
@[simp] theorem Wc (l:List bO):dR (l.map lD)=bT:=fY λd hd=>by obtain⟨c,_,rfl⟩:=aN.mp hd;exact RZ c
@[simp] theorem Wd (p:bO):flat (lD p)=bT:=by unfold lD;simp[flat,cC]
@[simp] theorem aI7 (l:List bO):cC (l.map lD)=bT:=iC λd hd=>by obtain⟨c,_,rfl⟩:=aN.mp hd;exact Wd c
@[simp] theorem S4 (p:bO):dep (lD p)=2:=by unfold lD;simp[dep,jU]
def Kn(l:List bO):jU (l.map lD)<=2:=nW λd hd=>by obtain⟨c,_,rfl⟩:=aN.mp hd;rw[S4];exact b9 _
@[simp] theorem S5 (a b:bO):iJ (lD a) (lD b)=decide (a=b):=by
 obtain⟨c,d⟩:=a;obtain⟨e,f⟩:=b;unfold lD;simp only[iJ,eT,ur,J6];by_cases h:c=e <;> by_cases g:d=f <;> simp[h,g]
@[simp] theorem We:∀(a b:List bO),eT (a.map lD) (b.map lD)=decide (a=b)
 |[],[]=>by simp[eT]
 |[],_::_=>by simp[eT]
 |_::_,[]=>by simp[eT]
 |x::a,y::b=>by
  rw[bz,bz,eT,S5,We a b];by_cases h:x=y <;> by_cases c:a=b <;> simp[h,c]
def ad7(n:Bool)(c:bO)(l:List bO):iT n (lD c) (cQ l)=.ok (.bl (if n then !decide (c∈l)else decide (c∈l))):=by
 unfold iT;have h:=Kn l;dsimp only;rw[bh6 (by simp;lia)];have e:(l.map lD).any (λe=>iJ e (lD c))=decide (c∈l):=by
  induction l with
  |nil=>rfl
  |cons x l i=>rw[bz,pM,S5,i (Kn l)];by_cases a:x=c;simp[a];have:¬ c=x:=λz=>a z.symm;simp[a,this]
 rw[e]
@[simp] theorem lx0 (p:bO):dh (lD p) (.int 0)=.ok (cD p.1):=rfl
@[simp] theorem lx1 (p:bO):dh (lD p) (.int 1)=.ok (cD p.2):=rfl
def XX(p q:bO):Prop:=vH p.1 q.1\/(p.1=q.1/\vH p.2 q.2)
def XY(p:bO):fl (lD p)=row p.1++row p.2:=by unfold lD;simp[fl,kr,RU]
def S6(a b:Cell)(u v:List Int):lexLt (row a++u) (row b++v)=if a=b then lexLt u v else decide (vH a b):=by
 obtain⟨d,e⟩:=a;obtain⟨f,g⟩:=b;unfold row vH;simp only[Bt,dQ];rw[dU];by_cases h:d=f;subst h;rw[bh6 rfl,dU];by_cases c:e=g;subst c;rw[bh6 rfl,bh6 rfl];rw[bh7 c,bh7 (by simpa using c)];simp;rw[bh7 h,bh7 (by simp[h])];simp[h]
def aI8(p q:bO):rP (fl (lD p)) (fl (lD q))=bT↔¬ XX q p:=by
 rw[XY,XY];unfold rP XX;rw[S6];by_cases h:q.1=p.1;rw[bh6 h,aI3];have:=oG p.1;rw[h];simp[this];rw[bh7 h];simp[h]
def FF(h:XX p q):¬ XX q p:=by
 unfold XX at *;rintro(a|⟨e,a⟩);rcases h with h|⟨e,h⟩;exact qp h a;rw[e]at a;exact oG _ a;rcases h with h|⟨b,h⟩;rw[e]at h;exact oG _ h;exact qp h a
def S7(a b:bO):iu (lD a) (lD b)=bT:=by unfold lD;simp[iu,gk,J9]
def aI9(a:bO):nl (lD a)=bT:=by unfold lD;simp[nl,Ik,RX]
def Wf{l:List bO}(h:l.Pairwise XX):fV (l.map lD)=l.map lD:=by
 symm;refine jx (λa d b hb=>?_) (.refl _) ?_;refine aR (aN.mp d) λx _ c=>?_;obtain rfl:=c;refine aR (aN.mp hb) λy _ c=>?_;obtain rfl:=c;exact S7 x y;refine rG lD (λa b s=>?_) h;rw[aI8];exact FF s
def S8{l:List bO}(h:l.length<64):qY (l.map lD)=bT:=by
 unfold qY;simp only[bI,kZ,bi1,dZ,bw];refine⟨⟨⟨⟨h,Wc l⟩,λd hd=>?_⟩,λa f b hb=>?_⟩,.inr λd hd=>?_⟩;refine aR (aN.mp hd) λc _ e=>?_;obtain rfl:=e;exact⟨aI9 c,by rw[S4];decide⟩;refine aR (aN.mp f) λc _ e=>?_;obtain rfl:=e;refine aR (aN.mp hb) λg _ e=>?_;obtain rfl:=e;exact S7 c g;refine aR (aN.mp hd) λc _ e=>?_;obtain rfl:=e;rfl
def S9{l:List bO}(h:l.Pairwise XX)(hl:l.length<64):gu [cQ l] =.ok (cQ l):=by
 unfold gu;dsimp only;rw[bh6 (S8 hl),Wf h]
def vJ(a:Cell):bK (four a):=by
 unfold four bK vH;simp only[xr,cK,j0,bi6,List.Pairwise.nil,and_true];refine⟨?_,?_,?_,?_⟩ <;> intro b hb
 ·rcases hb with rfl|rfl|rfl <;> first|(simp;done)|(simp;lia)
 ·rcases hb with rfl|rfl <;> first|(simp;done)|(simp;lia)
 ·obtain rfl:=hb;first|(simp;done)|(simp;lia)
 exact hb.elim
def FG(u:bK aa):(aV aa).Pairwise XX:=by
 unfold aV;rw[List.pairwise_flatMap];refine⟨λa _=>?_,u.imp λ{a b} s x d y e=>?_⟩;refine rG (R:=vH) _ (λx y h=>.inr ⟨rfl,h⟩) ?_;exact(vJ a).sublist kY;refine aR (aN.mp d) λ_ _ c=>?_;obtain rfl:=c;refine aR (aN.mp e) λ_ _ c=>?_;obtain rfl:=c;exact .inl s
def FH(u:bK aa):(aV aa).Nodup:=(FG u).imp λ{a b} h e=>by subst e;exact FF h h
theorem B9[DecidableEq α]:∀{l m:List α},l.Nodup->(∀x∈l,x∈m)->l.length<=m.length
 |[],_,_,_=>eS _
 |x::l,m,a,h=>by
  rw[kX]at a;have b:=h x (.head _);have i:=B9 (m:=m.erase x) a.2 λy c=>(NW (λe=>a.1 (by rw[<- e];exact c))).mpr (h y (.tail _ c));have:=NX b;have:=NY b;rw[cS];lia
noncomputable def zb(h w:Nat):List Cell:=(cY (h*w)).map λk=>(((k / w:Nat):Int),((k % w:Nat):Int))
def Sa{h w:Nat}{c:Cell}(h1:0<=c.1)(j:c.1<h)(d:0<=c.2)(k:c.2<w):c∈zb h w:=by
 obtain⟨a,e⟩:=xD h1;obtain⟨b,hb⟩:=xD d;have o:b<w:=by lia
 have T:a<h:=by lia
 have f:0<w:=by lia
 have g:(a*w+b) / w=a:=by rw[Nq,Nat.add_mul_div_right _ _ f,Ni o];lia
 have i:(a*w+b) % w=b:=by rw[Nq,Nat.add_mul_mod_self_right,Nat.mod_eq_of_lt o]
 refine aN.mpr ⟨a*w+b,kO.mpr ?_,?_⟩;calc a*w+b<a*w+w:=by lia
  _=(a+1)*w:=by rw[Nr]
  _<=h*w:=Nat.mul_le_mul_right w T
 show((((a*w+b) / w:Nat):Int),(((a*w+b) % w:Nat):Int))=c;rw[g,i];exact mJ e.symm hb.symm
def Box(l:List Cell)(h w:Nat):Prop:=∃d a:Int,∀c∈l,d<=c.1/\c.1<d+h/\a<=c.2/\c.2<a+w
def Wg(a b:Cell)(x y:Int)(h:b∈four a):(b.1-x,b.2-y)∈four (a.1-x,a.2-y):=by
 unfold four at *;simp only[cK,j0,bi6]at *;rcases h with rfl|rfl|rfl|rfl;exact .inl (mJ (by simp only;lia) rfl);exact .inr (.inl (mJ rfl (by simp only;lia)));exact .inr (.inr (.inl (mJ rfl (by simp only;lia))));exact .inr (.inr (.inr (mJ (by simp only;lia) rfl)))
def Mr(u:bK l)(b:Box l h w):(aV l).length<=(aV (zb h w)).length:=by
 refine rJ b λd a hb=>?_;clear b;have k:∀c∈l,(c.1-d,c.2-a)∈zb h w:=λc o=>by refine Hx (hb c o) λg i j m=>?_;exact Sa (by simp only;lia) (by simp only;lia) (by simp only;lia) (by simp only;lia)
 have:=B9 (l:=(aV l).map λp=>(((p.1.1-d,p.1.2-a),(p.2.1-d,p.2.2-a)):bO)) (m:=aV (zb h w)) (by
  have n:=FH u;rw[rB]at n ⊢;refine rG _ (λp q f e=>f ?_) n;simp only[xG]at e;refine xH e λz v x=>?_;clear e;obtain⟨y,A⟩:=z;exact mJ (mJ (by lia) (by lia)) (mJ (by lia) (by lia))) (λp r=>by
  refine aR (aN.mp r) λq s t=>?_;obtain rfl:=t;refine Hx (rY.mp s) λg i j m=>?_;refine rY.mpr ⟨k _ g,Wg _ _ _ _ i,k _ j,?_⟩;have e:mid (q.1.1-d,q.1.2-a) (q.2.1-d,q.2.2-a)=((mid q.1 q.2).1-d,(mid q.1 q.2).2-a):=by unfold mid;exact mJ (by simp only;lia) (by simp only;lia)
  show mid (q.1.1-d,q.1.2-a) (q.2.1-d,q.2.2-a)∈zb h w;rw[e];exact k _ m)
 rwa [bw]at this
def small(h w:Nat):Prop:=(h<=4/\w<=6)\/(h<=3/\w=8)\/(h=8/\w<=3)
def zd:(∀h,h<=4->∀w,w<=6->(aV (zb h w)).length<=56)/\(∀h,h<=3->(aV (zb h 8)).length<=56)/\(∀w,w<=3->(aV (zb 8 w)).length<=56):=by
 refine⟨λh b w c=>?_,λh b=>?_,λw c=>?_⟩;have a:∀h:Fin 5,∀w:Fin 7,(aV (zb h.1 w.1)).length<=56:=by decide +kernel
 exact a ⟨h,by lia⟩ ⟨w,by lia⟩;have a:∀h:Fin 4,(aV (zb h.1 8)).length<=56:=by decide +kernel
 exact a ⟨h,by lia⟩;have a:∀w:Fin 4,(aV (zb 8 w.1)).length<=56:=by decide +kernel
 exact a ⟨w,by lia⟩
def Ms(u:bK l)(b:Box l h w)(s:small h w):(aV l).length<=56:=by
 refine cz (Mr u b) ?_;rcases s with⟨a,c⟩|⟨a,rfl⟩|⟨rfl,c⟩;exact zd.1 h a w c;exact zd.2.1 h a;exact zd.2.2 w c
def Sb(x y:Int):∃u v:Int,gu [.lst [.int x,.int y]] =.ok (.lst [.int u,.int v])/\((u=0/\v=2)↔(x=0/\y=2\/x=2/\y=0)):=by
 have hb:qY [.int x,.int y]=bT:=by unfold qY;simp[dR,nl,dep,iu,isI]
 have g:gu [.lst [.int x,.int y]] =.ok (.lst (fV [.int x,.int y])):=by unfold gu;dsimp only;rw[if_pos hb]
 have f:∀i:Int,fl (.int i)=[i]:=λi=>by simp[fl]
 have l:∀i j:Int,i<=j->rP (fl (.int i)) (fl (.int j))=bT:=λi j h=>by rw[f,f];unfold rP;rw[Ci];simp;lia
 by_cases h:x<=y;refine⟨x,y,?_,by lia⟩;rw[g];congr 2;symm;refine jx (λa c b hb=>?_) (.refl _) ?_;simp only[cK,j0,bi6]at c hb;rcases c with rfl|rfl <;> rcases hb with rfl|rfl <;> simp[iu];simp only[xr,cK,j0,bi6,List.Pairwise.nil,and_true];exact⟨λb hb=>by subst hb;exact l _ _ h,λb hb=>hb.elim⟩;refine⟨y,x,?_,by lia⟩;rw[g];congr 2;symm;refine jx (λa c b hb=>?_) (.swap _ _ _) ?_;simp only[cK,j0,bi6]at c hb;rcases c with rfl|rfl <;> rcases hb with rfl|rfl <;> simp[iu];simp only[xr,cK,j0,bi6,List.Pairwise.nil,and_true];exact⟨λb hb=>by subst hb;exact l _ _ (by lia),λb hb=>hb.elim⟩
noncomputable def Sd(i:Int):Int:=if i<0 then -i else i
noncomputable def ap(a b:Cell):Bool:=(decide (Sd (a.1-b.1)=0)&&decide (Sd (a.2-b.2)=2)) || (decide (Sd (a.1-b.1)=2)&&decide (Sd (a.2-b.2)=0))
def bd7:Sd i=0↔i=0:=by unfold Sd;split <;> lia
def bd8:Sd i=2↔i=2\/i = -2:=by unfold Sd;split <;> lia
def Wh(a b:Cell):ap a b=bT↔b∈four a:=by
 unfold ap four;obtain⟨d,e⟩:=a;obtain⟨f,g⟩:=b;simp only[kZ,bI,bi1,cK,j0,bi6,xG,bd7,bd8];constructor;rintro(⟨h,c|c⟩|⟨h|h,c⟩);exact .inr (.inl (by lia));exact .inr (.inr (.inl (by lia)));exact .inl (by lia);exact .inr (.inr (.inr (by lia)));rintro(⟨h,c⟩|⟨h,c⟩|⟨h,c⟩|⟨h,c⟩);exact .inr ⟨.inl (by lia),by lia⟩;exact .inl ⟨by lia,.inl (by lia)⟩;exact .inl ⟨by lia,.inr (by lia)⟩;exact .inr ⟨.inr (by lia),by lia⟩
def Wi(u:bK aa)(a:Cell):(aa.filter λb=>ap a b&&decide (mid a b∈aa))=Gf aa a:=by
 unfold Gf;refine Ja (u.sublist kY) ((vJ a).sublist kY) λb=>?_;simp only[sD,bI,bi1,Wh];constructor;rintro⟨h,c,d⟩;exact⟨c,h,d⟩;rintro⟨h,c,d⟩;exact⟨c,h,d⟩
noncomputable def qt(aq:List Cell)(p:bO):Bool:=decide (p.1∈aq)&&(!decide (p.2∈aq)&&decide (mid p.1 p.2∈aq))
noncomputable def FI(aa aq:List Cell):List bO:=(aV aa).filter (qt aq)
end Dm
namespace Pk
open L2 Dm
variable (t:iX)
def FJ{l:List Cell}(hl:l.length<=50):(bK l->fM t [aD l] =.ok (.bl bT))/\(¬ bK l->fM t [aD l] =.ok (.bl b4)):=by
 obtain⟨m,a,b⟩:=J7 l hl;constructor;intro h;have e:=b.mpr h;subst e;simp[fM,bQ,a,Dp];intro h;have:¬ l=m:=λz=>h (b.mp z);simp[fM,bQ,a,Dp,this]
def inR(c:Cell):Prop:=0<=c.1/\c.1<=7/\0<=c.2/\c.2<=7
instance (c:Cell):Decidable (inR c):=inferInstanceAs (Decidable (_/\_))
@[simp] theorem ix0 (c:Cell):dh (cD c) (.int 0)=.ok (.int c.1):=rfl
@[simp] theorem ix1 (c:Cell):dh (cD c) (.int 1)=.ok (.int c.2):=rfl
def ad9(c:Cell):nD t [cD c] =.ok (.bl (decide (inR c))):=by
 unfold inR;by_cases h:0<=c.1 <;> by_cases a:c.1<=7 <;> by_cases b:0<=c.2 <;> by_cases d:c.2<=7 <;> simp[nD,bQ,h,a,b,d]
def Valid(l:List Cell):Prop:=(1<=l.length/\l.length<=24)/\bK l/\∀c∈l,inR c
theorem ze{F:DS}(b:∀(x:D) (c:Cell),F [ai x,ai (cD c)]=if inR c then .nx [ai x,ai (cD c)]else .ex t.fT aj [ai x,ai (cD c)])(x:D):∀(l:List Cell) (y:Option D),((∀c∈l,inR c)->∃f,fW (br 1) F (l.map cD) [ai x,y] =.nx [ai x,f])/\(¬ (∀c∈l,inR c)->∃s,fW (br 1) F (l.map cD) [ai x,y] =.ex t.fT aj s)
 |[],y=>⟨λ_=>⟨y,rfl⟩,λh=>bi8 (λc a=>by cases a) h⟩
 |c::l,y=>by
  obtain⟨i,j⟩:=ze b x l (ai (cD c));have e:br 1 (cD c) [ai x,y]=ai [ai x,ai (cD c)]:=rfl;by_cases a:inR c;constructor;intro h;obtain⟨f,g⟩:=i λd hd=>h d (.tail _ hd);refine⟨f,?_⟩;rw[bz,fW,e];dsimp only;rw[b,bh6 a];exact g;intro h;obtain⟨s,g⟩:=j λz=>h λd hd=>by rcases cK.mp hd with rfl|hd;exact a;exact z d hd
  refine⟨s,?_⟩;rw[bz,fW,e];dsimp only;rw[b,bh6 a];exact g;constructor;intro h;exact bi8 (h c (.head _)) a;intro h;refine⟨[ai x,ai (cD c)],?_⟩;rw[bz,fW,e];dsimp only;rw[b,bh7 a]
def Wj{l:List Cell}(hl:l.length<=50):(Valid l->cN t [aD l] =.ok .cR)/\(¬ Valid l->cN t [aD l] =.ex t.fT aj):=by
 have j:∀(x:D) (c:Cell),Dm.bS (om (bh (nD t) (af (ah 1) az))) (iG t.fT) bf [ai x,ai (cD c)]=if inR c then .nx [ai x,ai (cD c)]else .ex t.fT aj [ai x,ai (cD c)]:=λx c=>by by_cases h:inR c <;> simp[ad9,h]
 obtain⟨k,m⟩:=ze t j (aD l) l aj;obtain⟨r1,r2⟩:=FJ t hl;have n:((l.map cD).length:Int)=l.length:=by simp
 by_cases g:1<=l.length;by_cases i:l.length<=24;by_cases d:bK l;by_cases e:∀c∈l,inR c;obtain⟨y,f⟩:=k e;refine⟨λ_=>?_,λh=>bi8 ⟨⟨g,i⟩,d,e⟩ h⟩;have a:(1:Int)<=l.length:=by lia
 have b:(l.length:Int)<=24:=by lia
 simp[cN,bQ,a,b,r1 d,f];obtain⟨y,f⟩:=m e;refine⟨λh=>bi8 h.2.2 e,λ_=>?_⟩;have a:(1:Int)<=l.length:=by lia
 have b:(l.length:Int)<=24:=by lia
 simp[cN,bQ,a,b,r1 d,f];refine⟨λh=>bi8 h.2.1 d,λ_=>?_⟩;have a:(1:Int)<=l.length:=by lia
 have b:(l.length:Int)<=24:=by lia
 simp[cN,bQ,a,b,r2 d];refine⟨λh=>bi8 h.1.2 i,λ_=>?_⟩;have a:(1:Int)<=l.length:=by lia
 have b:¬ (l.length:Int)<=24:=by lia
 simp[cN,bQ,a,b];refine⟨λh=>bi8 h.1.1 g,λ_=>?_⟩;have a:¬ (1:Int)<=l.length:=by lia
 simp[cN,bQ,a]
noncomputable def Se(ns:List Int)(n:Nat):Int:=(ns[n]?).getD 0
noncomputable abbrev iL(ns:List Int):D:=.lst (ns.map D.int)
def Jb(ns:List Int)(n:Nat):aO t [iL ns,.int n] =.ok (.int (Se ns n)):=by
 unfold Se;by_cases h:n<ns.length;have e:dh (iL ns) (.int n)=.ok (.int ((ns[n]?).getD 0)):=Dq (by rw[d8,cU h];simp);have a:(n:Int)<ns.length:=by lia
 simp[aO,bQ,a,e];have a:¬ (n:Int)<ns.length:=by lia
 rw[um (mC h)];simp[aO,bQ,a]
noncomputable abbrev Wk:List Int:=[48271,69621,16807,39373,30269,40014,40692,50021,61687,71993,83869,95561,30307]
def ae0(k:Int):∃v:Int,0<=v/\v<=95561/\dh (.lst [.int 48271,.int 69621,.int 16807,.int 39373,.int 30269,.int 40014,.int 40692,.int 50021,.int 61687,.int 71993,.int 83869,.int 95561,.int 30307]) (.int (k % 13))=.ok (.int v):=by
 obtain⟨n,h,e⟩:∃n:Nat,n<Wk.length/\k % 13=n:=⟨(k % 13).toNat,by show _<13;lia,by lia⟩
 rw[e];have a:∀x∈Wk,0<=x/\x<=95561:=by decide
 exact⟨Wk[n],(a _ (nP h)).1,(a _ (nP h)).2,Dq (ds:=Wk.map D.int) (by rw[d8,cU h];rfl)⟩
def qu(c k m:Int)(h:0<m):∃r:Int,0<=r/\r<m/\b7 t [.int c,.int k,.int m] =.ok (.int r):=by
 obtain⟨v,a,b,d⟩:=ae0 k;have f:gw (.int c) (.int 2147483647)=.ok (.int (c % 2147483647)):=kP (by decide);have g:gw (.int k) (.int 13)=.ok (.int (k % 13)):=kP (by decide);have i:n9 (.int k) (.int 13)=.ok (.int (k / 13)):=B7 (by decide) (by decide);have j:0<=c % 2147483647+12345:=by lia
 have l:c % 2147483647+12345<=2147495991:=by lia
 have y:0<=(c % 2147483647+12345)*v:=OP j a;have z:(c % 2147483647+12345)*v<=2147495991*95561:=OQ l b a (by decide);have n:ou (.int (c % 2147483647+12345)) (.int v)=.ok (.int ((c % 2147483647+12345)*v)):=rX (by constructor <;> lia);have o:ou (.int 2) (.int (k / 13))=.ok (.int (2*(k / 13))):=rX (by decide);have p:ou (.int ((c % 2147483647+12345)*v)) (.int (2*(k / 13)+1))=.ok (.int ((c % 2147483647+12345)*v*(2*(k / 13)+1))):=rX (by constructor <;> lia);have s:ou (.int 977) (.int k)=.ok (.int (977*k)):=rX (by decide);have u:∀x:Int,gw (.int x) (.int 1000000007)=.ok (.int (x % 1000000007)):=λx=>kP (by decide);have w:∀x:Int,n9 (.int x) (.int 7)=.ok (.int (x / 7)):=λx=>B7 (by decide) (by decide);have e:∀x:Int,gw (.int x) (.int m)=.ok (.int (x % m)):=λx=>kP h;refine⟨(((c % 2147483647+12345)*v*(2*(k / 13)+1)+977*k) % 1000000007 / 7) % m,Ht _ (by lia),Hu _ h,?_⟩;simp[b7,bQ,f,g,i,d,n,o,p,s,u,w,e]
def pk(c:Int)(k:Nat):Bool:=match b7 t [.int c,.int k,.int 7]with |.ok (.int r)=>decide (0<r)|_=>b4
noncomputable def v5(dn ac w:Int)(k:Nat):Cell:=(dn+k / w,ac+k % w)
abbrev Ko:DS:=Dm.bS (aL yy (bh (b7 t) (af (bh (aO t) (af (ah 0) (af (dC (.int 1)) az))) (af (ah 8) (af (dC (.int 7)) az)))) (dC (.int 0)))
 (jI 7 (bY 100 (af (aL iE (ah 5) (aL n9 (ah 8) (ah 4))) (af (aL iE (ah 6) (aL gw (ah 8) (ah 4))) az))))
 bf
theorem rZ(ns:List Int)(most c h w dn ac:Int)(g:0<w)(e:w<100):∀(d:List Nat) (a:List Cell) (y:Option D),a.length+d.length<=5000->
  ∃f,fW (br 8) (Ko t) (d.map λi=>.int (i:Nat)) [ai (iL ns),ai (.int most),ai (.int c),ai (.int h),ai (.int w),ai (.int dn),ai (.int ac),ai (aD a),y]=
   .nx [ai (iL ns),ai (.int most),ai (.int c),ai (.int h),ai (.int w),ai (.int dn),ai (.int ac),ai (aD (a++(d.filter (pk t (Se ns 1))).map (v5 dn ac w))),f]
 |[],a,y,_=>⟨y,by simp[fW]⟩
 |k::d,a,y,hl=>by
  obtain⟨r,r0,r1,hr⟩:=qu t (Se ns 1) k 7 (by decide);have X:=Jb t ns 1;have n:pk t (Se ns 1) k=decide (0<r):=by unfold pk;rw[hr]
  have o:n9 (.int (k:Int)) (.int w)=.ok (.int ((k:Int) / w)):=B7 g (by lia);have p:gw (.int (k:Int)) (.int w)=.ok (.int ((k:Int) % w)):=kP g;have hb:br 8 (.int (k:Int)) [ai (iL ns),ai (.int most),ai (.int c),ai (.int h),ai (.int w),ai (.int dn),ai (.int ac),ai (aD a),y]=ai [ai (iL ns),ai (.int most),ai (.int c),ai (.int h),ai (.int w),ai (.int dn),ai (.int ac),ai (aD a),ai (.int (k:Int))]:=rfl;rw[cS]at hl;rw[bz,fW,hb];dsimp only;by_cases j:0<r;have l:Ko t [ai (iL ns),ai (.int most),ai (.int c),ai (.int h),ai (.int w),ai (.int dn),ai (.int ac),ai (aD a),ai (.int (k:Int))] =.nx [ai (iL ns),ai (.int most),ai (.int c),ai (.int h),ai (.int w),ai (.int dn),ai (.int ac),ai (aD (a++[v5 dn ac w k])),ai (.int (k:Int))]:=by
   have I:a.length<=5000:=by lia
   have b:aO t [iL ns,.int 1] =.ok (.int (Se ns 1)):=X;have Q:b7 t [.int (Se ns 1),.int (k:Int),.int 7] =.ok (.int r):=hr;simp[b,Q,j,jI,o,p,v5,cD,I]
  rw[l];dsimp only;obtain⟨f,m⟩:=rZ ns most c h w dn ac g e d (a++[v5 dn ac w k]) (ai (.int (k:Int))) (by simp;lia);refine⟨f,m.trans ?_⟩;rw[NT (by rw[n];exact bh8 j),bz,fQ];rfl;have l:Ko t [ai (iL ns),ai (.int most),ai (.int c),ai (.int h),ai (.int w),ai (.int dn),ai (.int ac),ai (aD a),ai (.int (k:Int))] =.nx [ai (iL ns),ai (.int most),ai (.int c),ai (.int h),ai (.int w),ai (.int dn),ai (.int ac),ai (aD a),ai (.int (k:Int))]:=by have b:aO t [iL ns,.int 1] =.ok (.int (Se ns 1)):=X;have Q:b7 t [.int (Se ns 1),.int (k:Int),.int 7] =.ok (.int r):=hr;simp[b,Q,j]
  rw[l];dsimp only;obtain⟨f,m⟩:=rZ ns most c h w dn ac g e d a (ai (.int (k:Int))) (by lia);refine⟨f,m.trans ?_⟩;rw[NU (by rw[n,bh9 j];decide)]
def Wl{dn ac w:Int}(b:0<w){j k:Nat}(h:j<k):vH (v5 dn ac w j) (v5 dn ac w k):=by
 unfold vH v5;dsimp only;have c:(j:Int) / w<=(k:Int) / w:=Int.ediv_le_ediv b (by lia);rcases Int.lt_or_eq_of_le c with a|a;exact .inl (by lia);refine .inr ⟨by lia,?_⟩;have e:=OR (j:Int) w;have d:=OR (k:Int) w;rw[a]at e;lia
def Wm{dn ac w h:Int}(a:0<w)(b:0<h)(d:0<=dn)(c:dn<=8-h)(a0:0<=ac)(e:ac<=8-w){k:Nat}(hk:(k:Int)<h*w):inR (v5 dn ac w k):=by
 unfold inR v5;dsimp only;have f:0<=(k:Int) / w:=OS (by lia) (by lia);have g:(k:Int) / w<h:=OT a hk;have i:0<=(k:Int) % w:=Ht _ (by lia);have j:(k:Int) % w<w:=Hu _ a;lia
def Dr{dn ac w:Int}(c:0<w)(p:Nat->Bool)(n:Nat):bK (((cY n).filter p).map (v5 dn ac w)):=by
 unfold bK;refine rG (R:=λa b=>a<b) (v5 dn ac w) (λa b h=>Wl c h) ?_;exact Yc kY NI
structure Drawn(l:List Cell)(most:Nat):Prop where
 pos:1<=l.length
 le:l.length<=most
 up:bK l
 inr:∀c∈l,inR c
 box:∃h w,Box l h w/\small h w
def Wn(ns:List Int)(most:Nat)(u:1<=most):∃l,fH t [iL ns,.int most] =.ok (aD l)/\Drawn l most:=by
 obtain⟨c,X⟩:∃c:Int,aO t [iL ns,.int 0] =.ok (.int c):=⟨_,Jb t ns 0⟩
 obtain⟨r1,p1,H,I⟩:=qu t c 1 4 (by decide);obtain⟨r2,p2,J,M⟩:=qu t c 2 6 (by decide);have m:gw (.int c) (.int 4)=.ok (.int (c % 4)):=kP (by decide);obtain⟨h,w,a1,a2,b1,b2,hw,sm,N⟩:∃h w:Int,1<=h/\h<=8/\1<=w/\w<=8/\h*w<=64/\((h<=4/\w<=6)\/(h<=3/\w=8)\/(h=8/\w<=3))/\Dm.bS (aL (i9 b4) (aL gw (ah 2) (dC (.int 4))) (dC (.int 1)))
   (AV (gy 3 4) (aX (aL dh (cF 100 (af (bY 100 (af (aL iE (dC (.int 1)) (aL gw (ah 3) (dC (.int 3)))) (af (dC (.int 8)) az))) (af (bY 100 (af (dC (.int 8)) (af (aL iE (dC (.int 1)) (aL gw (ah 4) (dC (.int 3)))) az))) az))) (aL gw (aL n9 (ah 2) (dC (.int 4))) (dC (.int 2))))))
   bf [ai (iL ns),ai (.int most),ai (.int c),ai (.int (1+r1)),ai (.int (1+r2)),aj,aj,aj,aj] =.nx [ai (iL ns),ai (.int most),ai (.int c),ai (.int h),ai (.int w),aj,aj,aj,aj]:=by
  by_cases f:c % 4=1
  ·have v:gw (.int (1+r1)) (.int 3)=.ok (.int ((1+r1) % 3)):=kP (by decide)
   have A:gw (.int (1+r2)) (.int 3)=.ok (.int ((1+r2) % 3)):=kP (by decide)
   have C:n9 (.int c) (.int 4)=.ok (.int (c / 4)):=B7 (by decide) (by decide)
   have E:gw (.int (c / 4)) (.int 2)=.ok (.int (c / 4 % 2)):=kP (by decide)
   have g:c / 4 % 2=0\/c / 4 % 2=1:=by lia
   rcases g with g|g
   ·refine⟨1+(1+r1) % 3,8,by lia,by lia,by lia,by lia,by lia,by lia,?_⟩
    have n:dh (.lst [.tup [.int (1+(1+r1) % 3),.int 8],.tup [.int 8,.int (1+(1+r2) % 3)]]) (.int 0)=.ok (.tup [.int (1+(1+r1) % 3),.int 8]):=rfl
    simp[m,gJ,f,v,A,C,E,g,n,AV,gq,dR,gy]
   ·refine⟨8,1+(1+r2) % 3,by lia,by lia,by lia,by lia,by lia,by lia,?_⟩
    have n:dh (.lst [.tup [.int (1+(1+r1) % 3),.int 8],.tup [.int 8,.int (1+(1+r2) % 3)]]) (.int 1)=.ok (.tup [.int 8,.int (1+(1+r2) % 3)]):=rfl
    simp[m,gJ,f,v,A,C,E,g,n,AV,gq,dR,gy]
  ·have hb:(1+r1)*(1+r2)<=4*6:=OQ (by lia) (by lia) (by lia) (by lia)
   refine⟨1+r1,1+r2,by lia,by lia,by lia,by lia,by lia,by lia,?_⟩
   simp[m,gJ,f]
 obtain⟨dn,O,d1,hd⟩:=qu t c 3 (9-h) (by lia);obtain⟨ac,P,s1,Q⟩:=qu t c 4 (9-w) (by lia);have S:ou (.int h) (.int w)=.ok (.int (h*w)):=rX (by constructor <;> lia);have T:0<=h*w:=OP (by lia) (by lia);obtain⟨y,hl⟩:=rZ t ns most c h w dn ac (by lia) (by lia) (cY (h*w).toNat) [] aj (by simp;lia);rw[dQ]at hl;have F:=Dr (dn:=dn) (ac:=ac) (w:=w) (by lia) (pk t (Se ns 1)) (h*w).toNat
 have Ym:qM (af (aL ou (ah 3) (ah 4)) az) [ai (iL ns),ai (.int most),ai (.int c),ai (.int h),ai (.int w),ai (.int dn),ai (.int ac),ai (.lst []),aj] =.ok ((cY (h*w).toNat).map λi=>.int (i:Nat)):=by unfold qM;simp[S];lia
 obtain⟨L,b⟩:∃L,L=((cY (h*w).toNat).filter (pk t (Se ns 1))).map (v5 dn ac w):=⟨_,rfl⟩
 rw[<- b]at hl F;have U:∀x∈L,inR x:=λx a=>by rw[b]at a;obtain⟨k,hk,rfl⟩:=aN.mp a;have:=kO.mp (sD.mp hk).1;exact Wm (h:=h) (by lia) (by lia) O (by lia) P (by lia) (by lia)
 have o:∀x∈L,dn<=x.1/\x.1<dn+(h.toNat:Int)/\ac<=x.2/\x.2<ac+(w.toNat:Int):=λx a=>by rw[b]at a;obtain⟨k,hk,rfl⟩:=aN.mp a;have Y:=kO.mp (sD.mp hk).1;have H:0<=(k:Int) / w:=OS (by lia) (by lia);have J:(k:Int) / w<h:=OT (by lia) (by lia);have q3:0<=(k:Int) % w:=Ht _ (by lia);have q4:(k:Int) % w<w:=Hu _ (by lia);unfold v5;dsimp only;lia
 have s:small h.toNat w.toNat:=by unfold small;lia
 have f1:cB 2 (bh (aO t) (af (ah 0) (af (dC (.int 0)) az))) [ai (iL ns),ai (.int most),aj,aj,aj,aj,aj,aj,aj] =.nx [ai (iL ns),ai (.int most),ai (.int c),aj,aj,aj,aj,aj,aj]:=by simp[X]
 have f2:EI 3 4 (af (aL iE (dC (.int 1)) (bh (b7 t) (af (ah 2) (af (dC (.int 1)) (af (dC (.int 4)) az))))) (af (aL iE (dC (.int 1)) (bh (b7 t) (af (ah 2) (af (dC (.int 2)) (af (dC (.int 6)) az))))) az)) [ai (iL ns),ai (.int most),ai (.int c),aj,aj,aj,aj,aj,aj] =.nx [ai (iL ns),ai (.int most),ai (.int c),ai (.int (1+r1)),ai (.int (1+r2)),aj,aj,aj,aj]:=by simp[EI,I,M]
 have f4:EI 5 6 (af (bh (b7 t) (af (ah 2) (af (dC (.int 3)) (af (aL mO (dC (.int 9)) (ah 3)) az)))) (af (bh (b7 t) (af (ah 2) (af (dC (.int 4)) (af (aL mO (dC (.int 9)) (ah 4)) az)))) az)) [ai (iL ns),ai (.int most),ai (.int c),ai (.int h),ai (.int w),aj,aj,aj,aj] =.nx [ai (iL ns),ai (.int most),ai (.int c),ai (.int h),ai (.int w),ai (.int dn),ai (.int ac),aj,aj]:=by simp[EI,hd,Q]
 have Z:cB 7 (cF 100 az) [ai (iL ns),ai (.int most),ai (.int c),ai (.int h),ai (.int w),ai (.int dn),ai (.int ac),aj,aj] =.nx [ai (iL ns),ai (.int most),ai (.int c),ai (.int h),ai (.int w),ai (.int dn),ai (.int ac),ai (.lst []),aj]:=by simp
 have f6:cZ (qM (af (aL ou (ah 3) (ah 4)) az)) (br 8) (Ko t) [ai (iL ns),ai (.int most),ai (.int c),ai (.int h),ai (.int w),ai (.int dn),ai (.int ac),ai (.lst []),aj] =.nx [ai (iL ns),ai (.int most),ai (.int c),ai (.int h),ai (.int w),ai (.int dn),ai (.int ac),ai (aD L),y]:=by rw[B6,Ym];exact hl
 have fin:∀l:List Cell,Drawn l most->(aZ (Dm.bS (aL (i9 b4) (bh gQ (af (ah 7) az)) (dC (.int 0)))
   (cB 7 (cF 100 (af (bY 100 (af (aX (ah 5)) (af (aX (ah 6)) az))) az)))
   bf)
   (cP (ML (ah 7) aj (ai (ah 1))))) [ai (iL ns),ai (.int most),ai (.int c),ai (.int h),ai (.int w),ai (.int dn),ai (.int ac),ai (aD L),y] =.rt (aD l)->∃l,fH t [iL ns,.int most] =.ok (aD l)/\Drawn l most:=λl dl e=>by
  refine⟨l,?_,dl⟩
  have e0:fH t [iL ns,.int most]=match(.rt (aD l):Out)with |.rt d=>.ok d |.nx _=>.ok .cR |.ex c p _=>.ex c p|_=>.bad:=by
   unfold fH bQ
   show(match(aZ _ _ [ai (iL ns),ai (.int most),aj,aj,aj,aj,aj,aj,aj])with |.rt d=>R.ok d |.nx _=>.ok .cR |.ex c p _=>.ex c p|_=>.bad)=_
   rw[aK f1,aK f2,aK N,aK f4,aK Z,aK f6,e]
  rw[e0]
 by_cases j:L=[]
 refine fin [(dn,ac)] ⟨by simp,by simpa using u,by simp[bK],λx a=>?_,?_⟩ ?_;obtain rfl:x=(dn,ac):=by simpa using a
 unfold inR;dsimp only;lia;refine⟨h.toNat,w.toNat,⟨dn,ac,λx a=>?_⟩,s⟩;obtain rfl:x=(dn,ac):=by simpa using a
 dsimp only;lia;subst j;have g1:Dm.bS (aL (i9 b4) (bh gQ (af (ah 7) az)) (dC (.int 0)))
  (cB 7 (cF 100 (af (bY 100 (af (aX (ah 5)) (af (aX (ah 6)) az))) az)))
  bf [ai (iL ns),ai (.int most),ai (.int c),ai (.int h),ai (.int w),ai (.int dn),ai (.int ac),ai (aD []),y] =.nx [ai (iL ns),ai (.int most),ai (.int c),ai (.int h),ai (.int w),ai (.int dn),ai (.int ac),ai (aD [(dn,ac)]),y]:=by simp[gJ,cD]
 rw[aK g1];have:(([(dn,ac)]:List Cell).map cD).take most=([(dn,ac)]:List Cell).map cD:=uf (by simpa using u);simp[ML,m6,z9,this];simp[cD,gq,dR];exact this;refine fin (L.take most) ⟨?_,by simp;lia,F.sublist (Nu _ _),λx a=>U x (pJ a),⟨h.toNat,w.toNat,⟨dn,ac,λx a=>o x (pJ a)⟩,s⟩⟩ ?_;cases f:L with
 |nil=>exact bi8 f j
 |cons x r=>simp;lia
 have hL0:¬ (L.length:Int)=0:=by intro z;exact j (pK.mp (by lia))
 have g1:Dm.bS (aL (i9 b4) (bh gQ (af (ah 7) az)) (dC (.int 0)))
  (cB 7 (cF 100 (af (bY 100 (af (aX (ah 5)) (af (aX (ah 6)) az))) az)))
  bf [ai (iL ns),ai (.int most),ai (.int c),ai (.int h),ai (.int w),ai (.int dn),ai (.int ac),ai (aD L),y] =.nx [ai (iL ns),ai (.int most),ai (.int c),ai (.int h),ai (.int w),ai (.int dn),ai (.int ac),ai (aD L),y]:=by simp[gJ,j]
 rw[aK g1];simp[ML,m6,z9]
end Pk
namespace Pk
open L2 Dm
variable (t:iX)
def Ak(c m:Int)(k:Nat):Bool:=match b7 t [.int c,.int k,.int m]with |.ok (.int r)=>decide (0<r)|_=>b4
def Sf(c:Int){l:List Cell}(h1:1<=l.length)(i:l.length<=500):∃p,fm t [.int c,aD l] =.ok (aD p)/\p.Sublist l:=by
 obtain⟨r,r0,r1,hr⟩:=qu t c 40 4 (by decide);have f1:cB 2 (bh (b7 t) (af (ah 0) (af (dC (.int 40)) (af (dC (.int 4)) az)))) [ai (.int c),ai (aD l),aj,aj] =.nx [ai (.int c),ai (aD l),ai (.int r),aj]:=by simp[hr]
 by_cases a:r=0;subst a;obtain⟨g,g0,g1,d⟩:=qu t c 41 l.length (by lia);obtain⟨n,rfl⟩:=xD g0;have j:n<l.length:=by lia
 refine⟨l.take n++l.drop (n+1),?_,by rw[<- NL];exact List.eraseIdx_sublist l n⟩;unfold fm;refine cJ [ai (.int c),ai (aD l),aj,aj] ?_;rw[aK f1];refine mU ?_;rw[nE (by simp[gJ])];have f2:cB 3 (bh (b7 t) (af (ah 0) (af (dC (.int 41)) (af (bh gQ (af (ah 1) az)) az)))) [ai (.int c),ai (aD l),ai (.int 0),aj] =.nx [ai (.int c),ai (aD l),ai (.int 0),ai (.int (n:Int))]:=by simp[d]
 rw[aK f2];refine ez (eV (a:=aD (l.take n)) (b:=aD (l.drop (n+1))) (aI5 rfl rfl) (Wb rfl rfl) (J8 ?_));simp;lia;obtain⟨m,f,h⟩:∃m:Int,0<m/\dh (.lst [.int 0,.int 2,.int 3,.int 4]) (.int r)=.ok (.int m):=by
  have:r=1\/r=2\/r=3:=by lia
  rcases this with rfl|rfl|rfl;exact⟨2,by decide,rfl⟩;exact⟨3,by decide,rfl⟩;exact⟨4,by decide,rfl⟩
 refine⟨(l.zipIdx.filter λx=>Ak t c m x.2).map (·.1),?_,?_⟩;unfold fm;refine cJ [ai (.int c),ai (aD l),aj,aj] ?_;rw[aK f1,aK (st':=[ai (.int c),ai (aD l),ai (.int r),aj]) (by rw[ir (by simp[gJ,a])];rfl)];refine ez ?_;show _=R.ok (D.lst (List.map cD (List.map _ _)));rw[dY];refine ie (ds:=l.zipIdx.map λp=>.tup [.int (p.2:Nat),cD p.1]) ?_ (by simp;lia) ?_;simp[CK,Km];refine iF (S:=λx=>[ai (.int (x.2:Nat)),ai (cD x.1),ai (.int c),ai (.int r)]) (P:=λst=>∃y z,st=[y,z,ai (.int c),ai (.int r)]) l.zipIdx (λx _=>⟨_,_,rfl⟩) (λx _ st ⟨y,z,e⟩=>by subst e;rfl) (λx _=>?_) (λx _ _=>by simp) _ ⟨aj,aj,rfl⟩;obtain⟨v,k,o,b⟩:=qu t c x.2 m f;have e:Ak t c m x.2=decide (0<v):=by unfold Ak;rw[b]
 simp[h,b,e];have:=(kY (p:=λx:Cell×Nat=>Ak t c m x.2) (l:=l.zipIdx)).map Prod.fst;rwa [NZ]at this
def bW(aa aq:List Cell):Prop:=bK aq/\∀c∈aq,c∈aa
def jZ{aa aq:List Cell}(hl:aq.length<=50):(bW aa aq->cW t [.bN 0 (aa.map cD),aD aq] =.ok .cR)/\(¬ bW aa aq->cW t [.bN 0 (aa.map cD),aD aq] =.ex t.fG aj):=by
 obtain⟨r1,r2⟩:=FJ t hl;have l:=Kl (bind:=br 2) (F:=Dm.bS (aL (iT bT) (ah 2) (oY f9 (ah 0))) (iG t.fG) bf) (f:=cD) (Q:=λst=>∃y,st=[ai (.bN 0 (aa.map cD)),ai (aD aq),y]) (p:=λc=>c∈aa) (S:=λo=>∃s,o=.ex t.fG aj s) (λo ⟨s,e⟩=>by subst e;trivial) aq [ai (.bN 0 (aa.map cD)),ai (aD aq),aj] (λc _ st ⟨y,e⟩=>by
  subst e;refine⟨[ai (.bN 0 (aa.map cD)),ai (aD aq),ai (cD c)],rfl,λh=>⟨_,?_,ai (cD c),rfl⟩,λh=>⟨[ai (.bN 0 (aa.map cD)),ai (aD aq),ai (cD c)],?_⟩⟩;rw[ir (by simp[fU,h])];rfl;rw[nE (by simp[fU,h])];rfl) ⟨aj,rfl⟩
 have k:∀o:Out,(aZ (Dm.bS (om (bh (fM t) (af (ah 1) az))) (iG t.fG) bf) (cZ (di (ah 1)) (br 2) (Dm.bS (aL (iT bT) (ah 2) (oY f9 (ah 0))) (iG t.fG) bf))) [ai (.bN 0 (aa.map cD)),ai (aD aq),aj]=o->cW t [.bN 0 (aa.map cD),aD aq]=match o with |.rt d=>.ok d |.nx _=>.ok .cR |.ex c p _=>.ex c p|_=>.bad:=λo h=>by unfold cW bQ;subst h;rfl
 by_cases hr:bK aq;have f:Dm.bS (om (bh (fM t) (af (ah 1) az))) (iG t.fG) bf [ai (.bN 0 (aa.map cD)),ai (aD aq),aj] =.nx [ai (.bN 0 (aa.map cD)),ai (aD aq),aj]:=by simp[r1 hr]
 rw[aK f]at k;refine⟨λh=>?_,λh=>?_⟩;obtain⟨a,b,_⟩:=l.1 h.2;exact k (.nx a) (by simp[b]);obtain⟨s,b⟩:=l.2 λz=>h ⟨hr,z⟩;exact k (.ex t.fG aj s) (by simp[b]);refine⟨λh=>bi8 h.1 hr,λ_=>k (.ex t.fG aj [ai (.bN 0 (aa.map cD)),ai (aD aq),aj]) (ad5 ?_)⟩;simp[r2 hr]
def bW.sub{aa aq:List Cell}(h:bK aa)(hs:aq.Sublist aa):bW aa aq:=⟨h.sublist hs,λc a=>hs.subset a⟩
def Wo{l:List Cell}(d:Drawn l 24):rS (cN t) [aD l] =.ok (.bN 0 (l.map cD)):=by
 have h:=(Wj t (l:=l) (by have:=d.le;lia)).1 ⟨⟨d.pos,d.le⟩,d.up,d.inr⟩;simp[rS,h]
def Drawn.mono{l:List Cell}{m n:Nat}(d:Drawn l m)(h:m<=n):Drawn l n:=⟨d.pos,cz d.le h,d.up,d.inr,d.box⟩
end Pk
namespace Pk
open L2 Dm
noncomputable abbrev bB(aa:List Cell):D:=.bN 0 (aa.map cD)
variable (t:iX)
@[simp] theorem bh5 (x:Int):n9 (.int x) (.int 2)=.ok (.int (x / 2)):=B7 (by decide) (by decide)
theorem wJ(f:Cell->List bO)(k:Nat):∀l:List Cell,(∀a∈l,(f a).length<=k)->(l.flatMap f).length<=l.length*k
 |[],_=>by simp
 |a::l,h=>by
  rw[rC,bX,cS,Nr];have:=wJ f k l λx b=>h x (.tail _ b);have:=h a (.head _);lia
def Sh{bind:DB}{F:DS}{S:List bO->Option D->gM}{a:Cell}{p:Cell->Bool}(xs:List Cell)(c:List bO)(y:Option D)(hl:c.length+xs.length<=5000)
  (hb:∀c y b,bind (cD b) (S c y)=ai (S c (ai (cD b)))) (g:∀c b,b∈xs->c.length<=5000->∃y,F (S c (ai (cD b)))=.nx (S (c++if p b=bT then [(a,b)]else []) y)) :
  ∃d,fW bind F (xs.map cD) (S c y)=.nx (S (c++(xs.filter p).map λb=>(a,b)) d):=by
 obtain⟨s,i,d,f,_⟩:=gZ (bind:=bind) (F:=F) (f:=cD) (Q:=λpre st=>∃y,st=S (c++(pre.filter p).map λb=>(a,b)) y/\pre.length<=xs.length) xs [] (S c y) (λq x r e st ⟨y,j,m⟩=>by
  subst j;rw[dQ]at e;have h:q.length+1<=xs.length:=by rw[e];simp
  have n:(q.filter p).length<=q.length:=pO ..;obtain⟨k,f⟩:=g (c++(q.filter p).map λb=>(a,b)) x (by rw[e];simp) (by simp;lia);refine⟨_,_,hb _ _ _,f,k,?_,by simpa using h⟩;rw[GX,j4,<- fQ];cases l:p x <;> simp[l]) ⟨y,by simp,by simp⟩
 exact⟨d,by rw[i,f,dQ]⟩
def Jc(p:bO):bU t [lD p] =.ok (cD (mid p.1 p.2)):=by
 simp[bU,bQ,mid,cD,lD,dh,E5,Td]
def aJ0(i:Int):tF [.int i] =.ok (.int (Sd i)):=rfl
def Si{aa:List Cell}(p:bK aa)(hl:aa.length<=30)(lW:(aV aa).length<64):jF t [aD aa] =.ok (cQ (aV aa)):=by
 have i:∀(c:List bO) (a:Cell) (y z:Option D),c.length<=900->∃l g,(cZ (di (ah 0)) (br 3)
   (aZ (cB 4 (bh gu (af (cF 100 (af (bh tF (af (aL mO (aL dh (ah 2) (dC (.int 0))) (aL dh (ah 3) (dC (.int 0)))) az)) (af (bh tF (af (aL mO (aL dh (ah 2) (dC (.int 1))) (aL dh (ah 3) (dC (.int 1)))) az)) az))) az)))
   (Dm.bS (j8 (aL (i9 b4) (ah 4) (cF 100 (af (dC (.int 0)) (af (dC (.int 2)) az)))) (aL (iT b4) (bh (bU t) (af (bY 100 (af (aX (ah 2)) (af (aX (ah 3)) az))) az)) (ah 0)))
   (jI 1 (bY 100 (af (aX (ah 2)) (af (aX (ah 3)) az))))
   bf))) [ai (aD aa),ai (cQ c),ai (cD a),y,z] =.nx [ai (aD aa),ai (cQ (c++(Gf aa a).map λb=>(a,b))),ai (cD a),l,g]:=λc a y z N=>by
  obtain⟨st',d,l,g,f,_⟩:=gZ (bind:=br 3) (F:=aZ (cB 4 (bh gu (af (cF 100 (af (bh tF (af (aL mO (aL dh (ah 2) (dC (.int 0))) (aL dh (ah 3) (dC (.int 0)))) az)) (af (bh tF (af (aL mO (aL dh (ah 2) (dC (.int 1))) (aL dh (ah 3) (dC (.int 1)))) az)) az))) az)))
   (Dm.bS (j8 (aL (i9 b4) (ah 4) (cF 100 (af (dC (.int 0)) (af (dC (.int 2)) az)))) (aL (iT b4) (bh (bU t) (af (bY 100 (af (aX (ah 2)) (af (aX (ah 3)) az))) az)) (ah 0)))
   (jI 1 (bY 100 (af (aX (ah 2)) (af (aX (ah 3)) az))))
   bf)) (f:=cD) (Q:=λpre st=>∃y z,st=[ai (aD aa),ai (cQ (c++(pre.filter λb=>ap a b&&decide (mid a b∈aa)).map λb=>(a,b))),ai (cD a),y,z]/\pre.length<=aa.length) aa [] [ai (aD aa),ai (cQ c),ai (cD a),y,z] (λq b r e st ⟨y,z,m,C⟩=>by
   subst m
   rw[dQ]at e
   have j:q.length+1<=aa.length:=by rw[e];simp
   have O:(q.filter λb=>ap a b&&decide (mid a b∈aa)).length<=q.length:=pO ..
   obtain⟨u,v,E,n⟩:=Sb (Sd (a.1-b.1)) (Sd (a.2-b.2))
   have k:ap a b=decide (u=0/\v=2):=by
    unfold ap
    rw[mH]
    simp only[kZ,bI,bi1]
    exact n.symm
   generalize s:c++(q.filter λb=>ap a b&&decide (mid a b∈aa)).map (λb=>(a,b))=A
   have F:A.length<=5000:=by rw[<- s];simp;lia
   have H:cB 4 (bh gu (af (cF 100 (af (bh tF (af (aL mO (aL dh (ah 2) (dC (.int 0))) (aL dh (ah 3) (dC (.int 0)))) az)) (af (bh tF (af (aL mO (aL dh (ah 2) (dC (.int 1))) (aL dh (ah 3) (dC (.int 1)))) az)) az))) az)) [ai (aD aa),ai (cQ A),ai (cD a),ai (cD b),z] =.nx [ai (aD aa),ai (cQ A),ai (cD a),ai (cD b),ai (.lst [.int u,.int v])]:=by
    simp[aJ0,E]
   have o:i9 b4 (.lst [.int u,.int v]) (.lst [.int 0,.int 2])=.ok (.bl (decide (u=0/\v=2))):=by
    unfold i9
    rw[bh6 (by simp[flat,cC,dep,jU])]
    simp only[iJ,eT,ur,d9,bi4]
    by_cases h:u=0 <;> by_cases I:v=2 <;> simp[h,I]
   have w:(bh (bU t) (af (bY 100 (af (aX (ah 2)) (af (aX (ah 3)) az))) az)) [ai (aD aa),ai (cQ A),ai (cD a),ai (cD b),ai (.lst [.int u,.int v])] =.ok (cD (mid a b)):=by
    have:=Jc t (a,b)
    unfold lD at this
    simp[this]
   refine⟨[ai (aD aa),ai (cQ A),ai (cD a),ai (cD b),z],[ai (aD aa),ai (cQ (A++if(ap a b&&decide (mid a b∈aa))=bT then [(a,b)]else [])),ai (cD a),ai (cD b),ai (.lst [.int u,.int v])],rfl,?_,ai (cD b),ai (.lst [.int u,.int v]),?_,by simpa using j⟩
   ·rw[aK H]
    by_cases d:u=0/\v=2
    ·by_cases f:mid a b∈aa
     ·rw[nE (mV (eV (a:=.lst [.int u,.int v]) (b:=.lst [.int 0,.int 2]) rfl (by simp) (by rw[o];simp[d])) (eV w rfl (by rw[fU];simp[f])))]
      rw[k]
      simp[jI,F,d,f,lD]
     ·rw[ir (mV (eV (a:=.lst [.int u,.int v]) (b:=.lst [.int 0,.int 2]) rfl (by simp) (by rw[o];simp[d])) (eV w rfl (by rw[fU];simp[f])))]
      simp[f]
    ·rw[ir (z8 (eV (a:=.lst [.int u,.int v]) (b:=.lst [.int 0,.int 2]) rfl (by simp) (by rw[o];simp[d])))]
     rw[k]
     simp[d]
   ·rw[<- s,GX,j4,<- fQ]
    cases J:(ap a b&&decide (mid a b∈aa)) <;> simp[J]) ⟨y,z,by simp,by simp⟩
  refine⟨l,g,?_⟩
  rw[dQ,Wi p]at f
  subst f
  simp
  exact d
 obtain⟨st',d,y,z,x,f⟩:=gZ (bind:=br 2) (F:=cZ (di (ah 0)) (br 3)
   (aZ (cB 4 (bh gu (af (cF 100 (af (bh tF (af (aL mO (aL dh (ah 2) (dC (.int 0))) (aL dh (ah 3) (dC (.int 0)))) az)) (af (bh tF (af (aL mO (aL dh (ah 2) (dC (.int 1))) (aL dh (ah 3) (dC (.int 1)))) az)) az))) az)))
   (Dm.bS (j8 (aL (i9 b4) (ah 4) (cF 100 (af (dC (.int 0)) (af (dC (.int 2)) az)))) (aL (iT b4) (bh (bU t) (af (bY 100 (af (aX (ah 2)) (af (aX (ah 3)) az))) az)) (ah 0)))
   (jI 1 (bY 100 (af (aX (ah 2)) (af (aX (ah 3)) az))))
   bf))) (f:=cD) (Q:=λpre st=>∃y z x,st=[ai (aD aa),ai (cQ (pre.flatMap λa=>(Gf aa a).map λb=>(a,b))),y,z,x]) aa [] [ai (aD aa),ai (cQ []),aj,aj,aj] (λq a r e st ⟨y,z,x,m⟩=>by
  subst m
  rw[dQ]at e
  have C:q.length<=30:=by rw[e]at hl;simp at hl;lia
  have L:∀a,((Gf aa a).map λb=>(a,b)).length<=4:=λa=>by
   rw[bw];exact cz (pO ..) (by simp[four])
  have:=wJ (λa=>(Gf aa a).map λb=>(a,b)) 4 q λa _=>L a
  obtain⟨g,M,h⟩:=i (q.flatMap λa=>(Gf aa a).map λb=>(a,b)) a z x (by lia)
  exact⟨_,_,rfl,h,ai (cD a),g,M,by rw[pN];simp⟩) ⟨aj,aj,aj,rfl⟩
 subst f;unfold jF;refine cJ [ai (aD aa),aj,aj,aj,aj] ?_;rw[aK (st':=[ai (aD aa),ai (cQ []),aj,aj,aj]) (by simp),aK (st':=[ai (aD aa),ai (cQ (aV aa)),y,z,x]) ?_];exact ez (Aj (a:=cQ (aV aa)) rfl (S9 (FG p) lW));rw[B6];have:di (ah 0) [ai (aD aa),ai (cQ []),aj,aj,aj] =.ok (aa.map cD):=by simp
 rw[this];exact d
def Drawn.lW{l:List Cell}{m:Nat}(d:Drawn l m):(aV l).length<64:=by
 obtain⟨h,w,b,s⟩:=d.box;have:=Ms d.up b s;lia
end Pk
namespace Pk
open L2 Dm
variable (t:iX)
def aJ1(c:Cell):jf t [cD c] =.ok (aD (four c)):=by
 simp[jf,bQ,four,cD,dh,E5,Td]
def Kp(a b:Cell):iH t [cD a,cD b] =.ok (cD (mid a b)):=by
 simp[iH,bQ,mid,cD,dh,E5,Td]
def Kq{aa:List Cell}(hl:aa.length<=200):tM t [bB aa] =.ok (cQ (aV aa)):=by
 have i:∀(c:List bO) (a:Cell) (y:Option D),c.length<=900->∃g,(cZ (di (bh (jf t) (af (ah 2) az))) (br 3)
   (Dm.bS (j8 (aL (iT b4) (ah 3) (oY f9 (ah 0))) (aL (iT b4) (bh (iH t) (af (ah 2) (af (ah 3) az))) (oY f9 (ah 0))))
   (jI 1 (bY 100 (af (aX (ah 2)) (af (aX (ah 3)) az))))
   bf)) [ai (bB aa),ai (cQ c),ai (cD a),y] =.nx [ai (bB aa),ai (cQ (c++(Gf aa a).map λb=>(a,b))),ai (cD a),g]:=λc a y m=>by
  obtain⟨g,h⟩:=Sh (bind:=br 3) (F:=Dm.bS (j8 (aL (iT b4) (ah 3) (oY f9 (ah 0))) (aL (iT b4) (bh (iH t) (af (ah 2) (af (ah 3) az))) (oY f9 (ah 0))))
   (jI 1 (bY 100 (af (aX (ah 2)) (af (aX (ah 3)) az))))
   bf) (S:=λc y=>[ai (bB aa),ai (cQ c),ai (cD a),y]) (a:=a) (p:=λb=>decide (b∈aa)&&decide (mid a b∈aa)) (four a) c y (by simp[four];lia) (λc y b=>rfl) (λc b _ I=>⟨ai (cD b),by
    by_cases d:b∈aa
    ·by_cases f:mid a b∈aa
     ·rw[nE (mV (eV (a:=cD b) (b:=aD aa) rfl (by simp) (by rw[fU];simp[d])) (eV (a:=cD (mid a b)) (b:=aD aa) (by simp[Kp]) (by simp) (by rw[fU];simp[f])))]
      simp[jI,I,d,f,lD]
     ·rw[ir (mV (eV (a:=cD b) (b:=aD aa) rfl (by simp) (by rw[fU];simp[d])) (eV (a:=cD (mid a b)) (b:=aD aa) (by simp[Kp]) (by simp) (by rw[fU];simp[f])))]
      simp[f]
    ·rw[ir (z8 (eV (a:=cD b) (b:=aD aa) rfl (by simp) (by rw[fU];simp[d])))]
     simp[d]⟩)
  exact⟨g,by simp[aJ1];exact h⟩
 obtain⟨st',d,y,z,f⟩:=gZ (bind:=br 2) (F:=cZ (di (bh (jf t) (af (ah 2) az))) (br 3)
   (Dm.bS (j8 (aL (iT b4) (ah 3) (oY f9 (ah 0))) (aL (iT b4) (bh (iH t) (af (ah 2) (af (ah 3) az))) (oY f9 (ah 0))))
   (jI 1 (bY 100 (af (aX (ah 2)) (af (aX (ah 3)) az))))
   bf)) (f:=cD) (Q:=λpre st=>∃y z,st=[ai (bB aa),ai (cQ (pre.flatMap λa=>(Gf aa a).map λb=>(a,b))),y,z]) aa [] [ai (bB aa),ai (cQ []),aj,aj] (λq a r e st ⟨y,z,j⟩=>by
  subst j
  rw[dQ]at e
  have n:q.length<=200:=by rw[e]at hl;simp at hl;lia
  have k:∀a,((Gf aa a).map λb=>(a,b)).length<=4:=λa=>by
   rw[bw];exact cz (pO ..) (by simp[four])
  have:=wJ (λa=>(Gf aa a).map λb=>(a,b)) 4 q λa _=>k a
  obtain⟨l,h⟩:=i (q.flatMap λa=>(Gf aa a).map λb=>(a,b)) a z (by lia)
  exact⟨_,_,rfl,h,ai (cD a),l,by rw[pN];simp⟩) ⟨aj,aj,rfl⟩
 subst f;unfold tM;refine cJ [ai (bB aa),aj,aj,aj] ?_;rw[aK (st':=[ai (bB aa),ai (cQ []),aj,aj]) (by simp),aK (st':=[ai (bB aa),ai (cQ (aV aa)),y,z]) ?_];rfl;rw[B6];have:di (oY f9 (ah 0)) [ai (bB aa),ai (cQ []),aj,aj] =.ok (aa.map cD):=by simp
 rw[this];exact d
end Pk
namespace Pk
open L2 Dm
variable (t:iX)
def Ds{aa aq:List Cell}(u:bK aa)(hl:aa.length<=30)(lW:(aV aa).length<64):eZ t [aD aa,aD aq] =.ok (cQ (FI aa aq)):=by
 have d:=Si t u hl lW;obtain⟨st',h,y,z,a,_⟩:=gZ (bind:=gy 3 4) (F:=Dm.bS (j8 (aL (iT b4) (ah 3) (ah 1)) (j8 (aL (iT b4) (bh (bU t) (af (bY 100 (af (aX (ah 3)) (af (aX (ah 4)) az))) az)) (ah 1)) (aL (iT bT) (ah 4) (ah 1))))
   (jI 2 (bY 100 (af (aX (ah 3)) (af (aX (ah 4)) az))))
   bf) (f:=lD) (Q:=λpre st=>∃y z,st=[ai (aD aa),ai (aD aq),ai (cQ (pre.filter (qt aq))),y,z]/\pre.length<=64) (aV aa) [] [ai (aD aa),ai (aD aq),ai (cQ []),aj,aj] (λq p r e st ⟨y,z,f,m⟩=>by
  subst f
  rw[dQ]at e
  have b:q.length+1<=64:=by rw[e]at lW;simp at lW;lia
  have i:(q.filter (qt aq)).length<=q.length:=pO ..
  generalize j:q.filter (qt aq)=A at i
  have l:A.length<=5000:=by lia
  have g:(bh (bU t) (af (bY 100 (af (aX (ah 3)) (af (aX (ah 4)) az))) az)) [ai (aD aa),ai (aD aq),ai (cQ A),ai (cD p.1),ai (cD p.2)] =.ok (cD (mid p.1 p.2)):=by
   have:=Jc t p
   unfold lD at this
   simp[this]
  refine⟨[ai (aD aa),ai (aD aq),ai (cQ A),ai (cD p.1),ai (cD p.2)],[ai (aD aa),ai (aD aq),ai (cQ (A++if qt aq p=bT then [p]else [])),ai (cD p.1),ai (cD p.2)],rfl,?_,ai (cD p.1),ai (cD p.2),?_,by simpa using b⟩
  ·unfold qt
   by_cases h:p.1∈aq
   ·by_cases c:mid p.1 p.2∈aq
    ·by_cases a:p.2∈aq
     ·rw[ir (mV (eV (a:=cD p.1) (b:=aD aq) rfl rfl (by rw[fU];simp[h])) (mV (eV g rfl (by rw[fU];simp[c])) (eV (a:=cD p.2) (b:=aD aq) rfl rfl (by rw[fU];simp[a]))))]
      simp[a]
     ·rw[nE (mV (eV (a:=cD p.1) (b:=aD aq) rfl rfl (by rw[fU];simp[h])) (mV (eV g rfl (by rw[fU];simp[c])) (eV (a:=cD p.2) (b:=aD aq) rfl rfl (by rw[fU];simp[a]))))]
      simp[jI,l,h,a,c,lD]
    ·rw[ir (mV (eV (a:=cD p.1) (b:=aD aq) rfl rfl (by rw[fU];simp[h])) (z8 (eV g rfl (by rw[fU];simp[c]))))]
     simp[c]
   ·rw[ir (z8 (eV (a:=cD p.1) (b:=aD aq) rfl rfl (by rw[fU];simp[h])))]
    simp[h]
  ·rw[<- j,GX]
   cases k:qt aq p <;> simp[k]) ⟨aj,aj,rfl,by simp⟩
 rw[dQ]at a;subst a;unfold eZ;refine cJ [ai (aD aa),ai (aD aq),aj,aj,aj] ?_;rw[aK (st':=[ai (aD aa),ai (aD aq),ai (cQ []),aj,aj]) (by simp),aK (st':=[ai (aD aa),ai (aD aq),ai (cQ (FI aa aq)),y,z]) ?_];rfl;rw[B6];have:di (bh (jF t) (af (ah 0) az)) [ai (aD aa),ai (aD aq),ai (cQ []),aj,aj] =.ok ((aV aa).map lD):=by simp[d]
 rw[this];exact h
end Pk
namespace Dm
open L2 HT
noncomputable def zf(l:List Cell):List Cell:=(fV (l.map cD)).map toC
def FL(l:List Cell):fV (l.map cD)=(zf l).map cD:=by
 have h:=cX (l.map cD);unfold zf;rw[dY];conv=>lhs;rw[<- Bw (fV (l.map cD))]
 refine uo λy a=>?_;refine aR (aN.mp (h.mem_iff.mp a)) λc _ b=>?_;obtain rfl:=b;rfl
def oJ(l:List Cell):(zf l).Perm l:=by
 have:=(cX (l.map cD)).map toC;rw[dY]at this;have e:l.map (toC∘cD)=l:=by
  conv=>rhs;rw[<- Bw l]
  exact uo λc _=>toC_cD c
 rw[e]at this;exact this
def Sj(l:List Cell):(zf l).Pairwise (λa b=>¬ vH b a):=by
 have p:=n6 (l.map cD);rw[FL,Bu]at p;refine p.imp λ{a b} h=>?_;rw[RV]at h;simpa using h
def Kr{l:List Cell}(h:l.length<64):gu [aD l] =.ok (aD (zf l)):=by
 unfold gu;dsimp only;rw[bh6 (RY h),FL]
def Ks(n:Bool)(a b:Cell):i9 n (cD a) (cD b)=.ok (.bl (if n then !decide (a=b)else decide (a=b))):=by
 unfold i9;rw[bh6 (by simp)];simp
def Sl{l:List Cell}(h:l.Nodup):bK (zf l):=uZ (oJ l) (Sj l) h
noncomputable def left(aq:List Cell)(p:bO):List Cell:=aq.filter λc=>!decide (c=p.1) && !decide (c=mid p.1 p.2)
noncomputable def cu(aq:List Cell)(p:bO):List Cell:=zf (left aq p++[p.2])
def qv:c∈left aq p↔c∈aq/\c≠p.1/\c≠mid p.1 p.2:=by
 unfold left;simp
def Jd:c∈cu aq p↔(c∈aq/\c≠p.1/\c≠mid p.1 p.2)\/c=p.2:=by
 unfold cu;rw[(oJ _).mem_iff,i6,qv];simp
def FN:qt aq p=bT↔p.1∈aq/\p.2∉aq/\mid p.1 p.2∈aq:=by
 unfold qt;simp
def Mt{p:bO}(u:bK aq)(h:p.2∉aq):bK (cu aq p):=by
 refine Sl ?_;rw[xq];refine⟨u.nodup.sublist kY,by simp,λa c b hb e=>?_⟩;rw[gC]at hb;subst hb;subst e;exact h (qv.mp c).1
def ae7{p:bO}(h:p.2∈four p.1):mid p.1 p.2≠p.1:=by
 obtain⟨⟨a,b⟩,c,d⟩:=p;unfold four at h;unfold mid;simp only[cK,j0,bi6,xG]at h;intro e;simp only[xG]at e;lia
def zg{aq:List Cell}(nd:aq.Nodup)(h:qt aq p=bT)(f:p.2∈four p.1):aq.Perm (p.1::mid p.1 p.2::left aq p):=by
 refine xH (FN.mp h) λg j i=>?_;have a:=ae7 f;refine(Bv nd ?_).mpr λc=>?_;rw[kX,kX];refine⟨?_,?_,nd.sublist kY⟩;rw[cK,qv];rintro(e|e);exact a e.symm;exact e.2.1 rfl;rw[qv];exact λe=>e.2.2 rfl;rw[cK,cK,qv];by_cases b:c=p.1;subst b;simp[g];by_cases d:c=mid p.1 p.2;subst d;simp[i];simp[b,d]
def Je{aq:List Cell}(nd:aq.Nodup)(h:qt aq p=bT)(a:p.2∈four p.1):(cu aq p).length+1=aq.length:=by
 have:=(zg nd h a).length_eq;have:=(oJ (left aq p++[p.2])).length_eq;unfold cu;simp at *;lia
def Wq(h:p∈FI aa aq):p.1∈aa/\p.2∈four p.1/\p.2∈aa/\mid p.1 p.2∈aa/\qt aq p=bT:=by
 unfold FI at h;rw[sD,rY]at h;exact⟨h.1.1,h.1.2.1,h.1.2.2.1,h.1.2.2.2,h.2⟩
def lQ(aa:List Cell):List Cell->List bO->Prop
 |_,[]=>True
 |a,p::r=>p∈FI aa a/\lQ aa (cu a p) r
noncomputable def eE(aq:List Cell)(row:List bO):List Cell:=row.foldl cu aq
def qI(aq:List Cell)(row:List bO)(p:bO):eE aq (row++[p])=cu (eE aq row) p:=by
 unfold eE;rw[O0];rfl
theorem wK:∀{aq:List Cell} {row:List bO} {p:bO},lQ aa aq row->p∈FI aa (eE aq row)->lQ aa aq (row++[p])
 |aq,[],p,_,h=>⟨h,trivial⟩
 |aq,q::r,p,h,a=>⟨h.1,wK h.2 a⟩
noncomputable def kS(c:Cell):Int:=(c.1+c.2) % 3
def kD(c:Cell):Int:=(c.1-c.2) % 3
noncomputable def par(f:Cell->Bool)(l:List Cell):Int:=((l.filter f).length:Int) % 2
noncomputable def f1(c:Cell):Bool:=decide (kS c<2)
noncomputable def f2(c:Cell):Bool:=decide (0<kS c)
def f3(c:Cell):Bool:=decide (kD c<2)
def f4(c:Cell):Bool:=decide (0<kD c)
noncomputable def k8(l:List Cell):List Int:=[par f1 l,par f2 l,par f3 l,par f4 l]
def bi(b:Bool):Nat:=if b then 1 else 0
def Ku(f:Cell->Bool)(l:List Cell):par f l=((l.countP f:Nat):Int) % 2:=by unfold par;rw[List.countP_eq_length_filter]
def oK{f:Cell->Bool}{aq:List Cell}(nd:aq.Nodup)(h:qt aq p=bT)(a:p.2∈four p.1)(b:(bi (f p.1)+bi (f (mid p.1 p.2))+bi (f p.2))=2):par f (cu aq p)=par f aq:=by
 have e:=(zg nd h a).countP_eq f;have c:=(oJ (left aq p++[p.2])).countP_eq f;rw[Ku,Ku];unfold cu;simp only[c,e,List.countP_append,xo,List.countP_nil];unfold bi at b;lia
def Wr(P:Prop)[Decidable P]:bi (decide P)=if P then 1 else 0:=by unfold bi;simp
def Sm(c:Cell):bi (f1 c)=if(c.1+c.2) % 3<2 then 1 else 0:=Wr _
def Sn(c:Cell):bi (f2 c)=if 0<(c.1+c.2) % 3 then 1 else 0:=Wr _
def Sq(c:Cell):bi (f3 c)=if(c.1-c.2) % 3<2 then 1 else 0:=Wr _
def Sv(c:Cell):bi (f4 c)=if 0<(c.1-c.2) % 3 then 1 else 0:=Wr _
def Sw(s e:Int)(h:e=1\/e = -1):(if s % 3<2 then 1 else 0)+(if(s+e) % 3<2 then 1 else 0)+(if(s+2*e) % 3<2 then 1 else 0)=2:=by
 have a:s % 3=0\/s % 3=1\/s % 3=2:=by lia
 rcases h with rfl|rfl <;> rcases a with h|h|h <;> (rw[BI s,BI s (2*_),h];rfl)
def Sx(s e:Int)(h:e=1\/e = -1):(if 0<s % 3 then 1 else 0)+(if 0<(s+e) % 3 then 1 else 0)+(if 0<(s+2*e) % 3 then 1 else 0)=2:=by
 have a:s % 3=0\/s % 3=1\/s % 3=2:=by lia
 rcases h with rfl|rfl <;> rcases a with h|h|h <;> (rw[BI s,BI s (2*_),h];rfl)
def Sy{p:bO}(h:p.2∈four p.1):∃e f:Int,(e=1\/e = -1)/\(f=1\/f = -1)/\(mid p.1 p.2).1+(mid p.1 p.2).2=p.1.1+p.1.2+e/\p.2.1+p.2.2=p.1.1+p.1.2+2*e/\(mid p.1 p.2).1-(mid p.1 p.2).2=p.1.1-p.1.2+f/\p.2.1-p.2.2=p.1.1-p.1.2+2*f:=by
 obtain⟨⟨a,b⟩,c,d⟩:=p;unfold four at h;unfold mid;simp only[cK,j0,bi6,xG]at h ⊢;rcases h with⟨rfl,rfl⟩|⟨rfl,rfl⟩|⟨rfl,rfl⟩|⟨rfl,rfl⟩;exact⟨-1,-1,.inr rfl,.inr rfl,by lia,by lia,by lia,by lia⟩;exact⟨-1,1,.inr rfl,.inl rfl,by lia,by lia,by lia,by lia⟩;exact⟨1,-1,.inl rfl,.inr rfl,by lia,by lia,by lia,by lia⟩;exact⟨1,1,.inl rfl,.inl rfl,by lia,by lia,by lia,by lia⟩
def Jf{aq:List Cell}(nd:aq.Nodup)(h:qt aq p=bT)(a:p.2∈four p.1):k8 (cu aq p)=k8 aq:=by
 refine an4 (Sy a) λe f c b s d g i=>?_;unfold k8;rw[oK nd h a (f:=f1) (by rw[Sm,Sm,Sm,s,d];exact Sw _ e c),oK nd h a (f:=f2) (by rw[Sn,Sn,Sn,s,d];exact Sx _ e c),
  oK nd h a (f:=f3) (by rw[Sq,Sq,Sq,g,i];exact Sw _ f b),oK nd h a (f:=f4) (by rw[Sv,Sv,Sv,g,i];exact Sx _ f b)]
theorem qw:∀{row:List bO} {aq:List Cell},bK aq->(∀c∈aq,c∈aa)->lQ aa aq row->bK (eE aq row)/\(∀c∈eE aq row,c∈aa)/\k8 (eE aq row)=k8 aq/\(eE aq row).length+row.length=aq.length
 |[],aq,u,s,_=>⟨u,s,rfl,rfl⟩
 |p::r,aq,u,s,h=>by
  refine Tt (Wq h.1) λk a b n m=>?_;have d:=Jf u.nodup m a;have l:=Je u.nodup m a;obtain⟨i,e,f,g⟩:=qw (row:=r) (aq:=cu aq p) (Mt u (FN.mp m).2.1) (λc j=>by
   rcases Jd.mp j with h|h;exact s c h.1;rw[h];exact b) h.2
  refine⟨i,e,f.trans d,?_⟩;rw[cS,<- l,<- g];show(eE (cu aq p) r).length+(r.length+1)=(eE (cu aq p) r).length+r.length+1;lia
def tI(l:List Int):D:=.tup (l.map D.int)
def lI(l:List Int):D:=.lst (l.map D.int)
def v7(l:List Cell):D:=tI (k8 l)
theorem FO:∀a b:List Int,eT (a.map D.int) (b.map D.int)=decide (a=b)
 |[],[]=>by simp[eT]
 |[],_::_=>by simp[eT]
 |_::_,[]=>by simp[eT]
 |x::a,y::b=>by
  rw[bz,bz,eT,FO a b,iJ];by_cases h:x=y <;> by_cases c:a=b <;> simp[h,c]
def Ba:∀a:List Int,cC (a.map D.int)=bT:=λa=>iC λd hd=>by obtain⟨c,_,rfl⟩:=aN.mp hd;simp[flat]
def Sz:∀a:List Int,dR (a.map D.int)=bT:=λa=>fY λd hd=>by obtain⟨c,_,rfl⟩:=aN.mp hd;exact VY c
def FP:∀a:List Int,jU (a.map D.int)<=0:=λa=>nW λd hd=>by obtain⟨c,_,rfl⟩:=aN.mp hd;simp[dep]
def ae8(n:Bool)(a b:List Int):i9 n (tI a) (tI b)=.ok (.bl (if n then !decide (a=b)else decide (a=b))):=by
 unfold i9 tI;have h:=FP a;rw[bh6];simp[iJ,FO];simp[flat,dep,Ba];lia
def ae9(n:Bool)(x:Int)(l:List Int):iT n (.int x) (tI l)=.ok (.bl (if n then !decide (x∈l)else decide (x∈l))):=by
 unfold iT tI;have h:=FP l;dsimp only;rw[bh6 (by simp[flat,Ba];lia)];have e:(l.map D.int).any (λe=>iJ e (.int x))=decide (x∈l):=by
  clear h;induction l with
  |nil=>rfl
  |cons y l i=>rw[bz,pM,i,iJ];by_cases a:y=x;simp[a];have:¬ x=y:=λz=>a z.symm;simp[a,this]
 rw[e]
def tQ(n:Bool)(a b:List Cell):i9 n (v7 a) (v7 b)=.ok (.bl (if n then !decide (k8 a=k8 b)else decide (k8 a=k8 b))):=ae8 n _ _
def comp_map{a:Type}{bind:DB}{ft b:DF}{f:a->D}{g:a->D}{S:a->gM}{P:gM->Prop}(xs:List a)(hS:∀x∈xs,P (S x))(hb:∀x∈xs,∀st,P st->bind (f x) st=ai (S x))(c:∀x∈xs,ft (S x)=.ok (.bl bT))(d:∀x∈xs,b (S x)=.ok (g x))(st:gM)(h:P st):j9 bind ft b (xs.map f) st=.ok (xs.map g):=by
 have:=iF (p:=λ_=>bT) xs hS hb c (λx e _=>d x e) st h;rw[List.filter_eq_self.mpr λ_ _=>rfl]at this;exact this
def af0{bind:DB}{F:DS}(h1:bind a st=ai k)(h:F k=.nx m)(c:bind b m=ai w)(d:F w=.nx T):fW bind F [a,b] st=.nx T:=by
 rw[fW,h1];dsimp only;rw[h];dsimp only;rw[fW,c];dsimp only;rw[d];rfl
end Dm
namespace Pk
open L2 Dm
variable (t:iX)
def v8{aq:List Cell}(p:bO)(hl:aq.length<=60):dw t [aD aq,lD p] =.ok (aD (cu aq p)):=by
 have hb:=Jc t p;have g1:(dm (di (ah 0)) 1 [1] (br 0) (j8 (aL (i9 bT) (ah 0) (aL dh (ah 1) (dC (.int 0)))) (aL (i9 bT) (ah 0) (bh (bU t) (af (ah 1) az)))) (aX (ah 0))) [ai (aD aq),ai (lD p),aj] =.ok (aD (left aq p)):=by
  refine ie (ds:=aq.map cD) (by simp) (by simp;lia) ?_;exact iF (S:=λx=>[ai (cD x),ai (lD p)]) (P:=λst=>∃y,st=[y,ai (lD p)]) aq (λx _=>⟨_,rfl⟩) (λx _ st ⟨y,e⟩=>by subst e;rfl) (λx _=>by
   by_cases h:x=p.1;exact(z8 (eV (a:=cD x) (b:=cD p.1) rfl (by simp) (by rw[Ks];simp[h]))).trans (by simp[h]);exact(mV (eV (a:=cD x) (b:=cD p.1) rfl (by simp) (by rw[Ks];simp[h])) (eV (a:=cD x) (b:=cD (mid p.1 p.2)) rfl (by simp[hb]) (Ks ..))).trans (by simp[h])) (λx _ _=>by simp) _ ⟨aj,rfl⟩
 have a:(left aq p).length<=aq.length:=pO ..;unfold dw;refine cJ [ai (aD aq),ai (lD p),aj] ?_;rw[aK (st':=[ai (aD aq),ai (lD p),ai (aD (left aq p))]) (fq g1)];refine ez (Aj (a:=aD (left aq p++[p.2])) (eV (a:=aD (left aq p)) (b:=aD [p.2]) rfl (by simp) (J8 (by simp;lia))) ?_);exact Kr (by simp;lia)
theorem bW.row{aa aq:List Cell}{row:List bO}(S:bW aa aq)(h:lQ aa aq row):bW aa (eE aq row):=by
 obtain⟨a,b,_⟩:=qw S.1 S.2 h;exact⟨a,b⟩
def af2{l:List bO}{a:Nat}(h:a<l.length):dh (cQ l) (.int (a:Int))=.ok (lD l[a]):=Dq (by rw[d8,cU h];rfl)
def af3{aa aq:List Cell}(c:Int){most:Nat}(J:most<=900)(S:bW aa aq)(L:aq.length<=50)(u:bK aa)(hl:aa.length<=30)(lW:(aV aa).length<64) :
  ∃row,lQ aa aq row/\row.length<=most/\jg t [aD aa,aD aq,.int c,.int most] =.ok (.tup [cQ row,aD (eE aq row)]):=by
 obtain⟨n,j,M,o⟩:=qu t c 60 (most+1) (by lia);obtain⟨n,rfl⟩:=xD j;have Ym:qM (af (bh (b7 t) (af (ah 2) (af (dC (.int 60)) (af (aL iE (ah 3) (dC (.int 1))) az)))) az) [ai (aD aa),ai (aD aq),ai (.int c),ai (.int most),ai (cQ []),ai (aD aq),aj,aj,aj] =.ok ((cY n).map λi=>.int (i:Nat)):=by
  unfold qM;have:(af (bh (b7 t) (af (ah 2) (af (dC (.int 60)) (af (aL iE (ah 3) (dC (.int 1))) az)))) az) [ai (aD aa),ai (aD aq),ai (.int c),ai (.int most),ai (cQ []),ai (aD aq),aj,aj,aj] =.ok [.int n]:=by simp[o]
  rw[this];dsimp only;rw[bh6 (by simp;lia)];rfl
 obtain⟨st',p,row,x,y,z,ok,l,v⟩:=gZ (bind:=br 6) (F:=aZ (cB 7 (bh (eZ t) (af (ah 0) (af (ah 5) az))))
  (Dm.bS (aL yy (bh gQ (af (ah 7) az)) (dC (.int 0)))
  (aZ (cB 8 (aX (aL dh (ah 7) (bh (b7 t) (af (ah 2) (af (aL iE (dC (.int 61)) (ah 6)) (af (bh gQ (af (ah 7) az)) az)))))))
  (aZ (jI 4 (aX (ah 8)))
  (cB 5 (bh (dw t) (af (ah 5) (af (ah 8) az))))))
  bf)) (f:=λi:Nat=>D.int (i:Nat)) (Q:=λpre st=>∃row x y z,lQ aa aq row/\row.length<=pre.length/\st=[ai (aD aa),ai (aD aq),ai (.int c),ai (.int most),ai (cQ row),ai (aD (eE aq row)),x,y,z]) (cY n) [] [ai (aD aa),ai (aD aq),ai (.int c),ai (.int most),ai (cQ []),ai (aD aq),aj,aj,aj] (λq k r e st ⟨row,x,y,z,ok,l,w⟩=>by
  subst w
  rw[dQ]at e
  have N:q.length<=900:=by
   have:=congrArg List.length e
   simp at this;lia
  have A:=qw S.1 S.2 ok
  have C:(eE aq row).length<=50:=by lia
  generalize h:eE aq row=W at A C
  have f:=Ds t (aq:=W) u hl lW
  generalize E:FI aa W=O at f
  have s:cB 7 (bh (eZ t) (af (ah 0) (af (ah 5) az))) [ai (aD aa),ai (aD aq),ai (.int c),ai (.int most),ai (cQ row),ai (aD W),ai (.int (k:Nat)),y,z] =.nx [ai (aD aa),ai (aD aq),ai (.int c),ai (.int most),ai (cQ row),ai (aD W),ai (.int (k:Nat)),ai (cQ O),z]:=by simp[f]
  by_cases F:0<O.length
  ·obtain⟨m,H,P,a⟩:=qu t c (61+k) O.length (by lia)
   obtain⟨m,rfl⟩:=xD H
   have g:m<O.length:=by lia
   have b:=af2 g
   have I:O[m]∈FI aa W:=by rw[E];exact nP g
   have d:=v8 t (aq:=W) O[m] (by lia)
   refine⟨[ai (aD aa),ai (aD aq),ai (.int c),ai (.int most),ai (cQ row),ai (aD W),ai (.int (k:Nat)),y,z],[ai (aD aa),ai (aD aq),ai (.int c),ai (.int most),ai (cQ (row++[O[m]])),ai (aD (cu W O[m])),ai (.int (k:Nat)),ai (cQ O),ai (lD O[m])],rfl,?_,row++[O[m]],_,_,_,wK ok (by rw[h];exact I),by simpa using l,by rw[qI,h]⟩
   rw[aK s,nE (by simp;lia)]
   rw[aK (st':=[ai (aD aa),ai (aD aq),ai (.int c),ai (.int most),ai (cQ row),ai (aD W),ai (.int (k:Nat)),ai (cQ O),ai (lD O[m])]) (fq (aI4 (eV (a:=cQ O) (b:=.int (m:Int)) rfl (by simpa using a) b) (RZ _)))]
   rw[aK (st':=[ai (aD aa),ai (aD aq),ai (.int c),ai (.int most),ai (cQ (row++[O[m]])),ai (aD W),ai (.int (k:Nat)),ai (cQ O),ai (lD O[m])]) (by
    have:row.length<=5000:=by lia
    simp[jI,this])]
   exact fq (tP (a:=aD W) (b:=lD O[m]) rfl rfl d)
  ·refine⟨[ai (aD aa),ai (aD aq),ai (.int c),ai (.int most),ai (cQ row),ai (aD W),ai (.int (k:Nat)),y,z],[ai (aD aa),ai (aD aq),ai (.int c),ai (.int most),ai (cQ row),ai (aD W),ai (.int (k:Nat)),ai (cQ O),z],rfl,?_,row,_,_,_,ok,by simp;lia,by rw[h]⟩
   rw[aK s,ir (eV (a:=.int (O.length:Nat)) (b:=.int 0) (by simp) rfl (by rw[VX,bh9 (by lia)]))];rfl) ⟨[],_,_,_,trivial,by simp,rfl⟩
 subst v;refine⟨row,ok,by simp at l;lia,?_⟩;unfold jg;refine cJ [ai (aD aa),ai (aD aq),ai (.int c),ai (.int most),aj,aj,aj,aj,aj] ?_;rw[aK (st':=[ai (aD aa),ai (aD aq),ai (.int c),ai (.int most),ai (cQ []),aj,aj,aj,aj]) (by simp),
  aK (st':=[ai (aD aa),ai (aD aq),ai (.int c),ai (.int most),ai (cQ []),ai (aD aq),aj,aj,aj]) (by simp),
  aK (by rw[B6,Ym];exact p)]
 simp
end Pk
namespace Pk
open L2 Dm
variable (t:iX)
def r01(x:Int):decide (x % 3∈[0,1])=decide (x % 3<2):=by
 rw[mH];simp only[cK,j0,bi6,bi1];lia
def r12(x:Int):decide (x % 3∈[1,2])=decide (0<x % 3):=by
 rw[mH];simp only[cK,j0,bi6,bi1];lia
def Kv(aq:List Cell)(k:Cell->Int)(two:List Int)(f:Cell->Bool)(h:∀c,decide (k c∈two)=f c)(hl:aq.length<=5000):lP t [.lst (aq.map λc=>.int (k c)),tI two] =.ok (.int (par f aq)):=by
 unfold lP;refine cJ [ai (.lst (aq.map λc=>.int (k c))),ai (tI two)] (ez (eV (a:=.int ((aq.filter f).length:Nat)) (b:=.int 2) ?_ rfl (by unfold par;exact kP (by decide))));refine Aj (a:=.lst ((aq.filter f).map λc=>.int (k c))) (ie (ds:=aq.map λc=>.int (k c)) rfl (by simpa using hl) (iF (S:=λx=>[ai (.int (k x)),ai (tI two)]) (P:=λst=>∃y,st=[y,ai (tI two)]) aq (λx _=>⟨_,rfl⟩) (λx _ st ⟨y,e⟩=>by subst e;rfl) (λx _=>?_) (λx _ _=>by simp) _ ⟨aj,rfl⟩)) (by simp);rw[<- h x];exact eV (a:=.int (k x)) (b:=tI two) rfl rfl (by rw[ae9];simp)
def wL{aa aq:List Cell}(l:aq.length<=50)(S:bW aa aq):fj t [bB aa,aD aq] =.ok (v7 aq):=by
 have h:=(jZ t (aa:=aa) l).1 S;have o1:=Kv t aq kS [0,1] f1 (λc=>r01 _) (by lia);have o2:=Kv t aq kS [1,2] f2 (λc=>r12 _) (by lia);have o3:=Kv t aq kD [0,1] f3 (λc=>r01 _) (by lia);have o4:=Kv t aq kD [1,2] f4 (λc=>r12 _) (by lia);unfold fj;refine cJ [ai (bB aa),ai (aD aq),aj,aj] ?_;rw[aK (st':=[ai (bB aa),ai (aD aq),aj,aj]) (by simp[h])];rw[aK (st':=[ai (bB aa),ai (aD aq),ai (.lst (aq.map λc=>.int (kS c))),aj]) (fq (ie (ds:=aq.map cD) rfl (by simp;lia) (comp_map (S:=λx=>[ai (cD x)]) (P:=λst=>∃y,st=[y]) aq (λx _=>⟨_,rfl⟩) (λx _ st ⟨y,e⟩=>by subst e;rfl) (λx _=>rfl) (λx _=>eV (a:=.int (x.1+x.2)) (b:=.int 3) (eV (a:=.int x.1) (b:=.int x.2) rfl rfl rfl) rfl (kP (by decide))) _ ⟨aj,rfl⟩)))];rw[aK (st':=[ai (bB aa),ai (aD aq),ai (.lst (aq.map λc=>.int (kS c))),ai (.lst (aq.map λc=>.int (kD c)))]) (fq (ie (ds:=aq.map cD) rfl (by simp;lia) (comp_map (S:=λx=>[ai (cD x)]) (P:=λst=>∃y,st=[y]) aq (λx _=>⟨_,rfl⟩) (λx _ st ⟨y,e⟩=>by subst e;rfl) (λx _=>rfl) (λx _=>eV (a:=.int (x.1-x.2)) (b:=.int 3) (eV (a:=.int x.1) (b:=.int x.2) rfl rfl rfl) rfl (kP (by decide))) _ ⟨aj,rfl⟩)))];refine ez ?_;simp[tI]at o1 o2 o3 o4;simp[o1,o2,o3,o4,v7,tI,k8]
end Pk
namespace Pk
open L2 Dm
variable (t:iX)
def SA{aq:List Cell}(a:List Int)(s:Int)(hs:s=1\/s = -1)(y:Option D)(l:a.length<=10)(hl:aq.length<=50):(aZ (cB 3 (dm (di (ah 0)) 2 [2] (gy 0 1) (dC (.bl bT)) (aL gw (aL iE (ah 0) (aL ou (ah 2) (ah 1))) (dC (.int 3)))))
  (aZ (jI 1 (aL gw (bh gQ (af (dm (di (ah 3)) 1 [] (br 0) (aL gLt (ah 0) (dC (.int 2))) (aX (ah 0))) az)) (dC (.int 2))))
  (jI 1 (aL gw (bh gQ (af (dm (di (ah 3)) 1 [] (br 0) (aL yy (ah 0) (dC (.int 0))) (aX (ah 0))) az)) (dC (.int 2)))))) [ai (aD aq),ai (lI a),ai (.int s),y]
  =.nx [ai (aD aq),ai (lI (a++[par (λc=>decide ((c.1+s*c.2) % 3<2)) aq,par (λc=>decide (0<(c.1+s*c.2) % 3)) aq])),ai (.int s),ai (.lst (aq.map λc=>.int ((c.1+s*c.2) % 3)))]:=by
 rw[aK (st':=[ai (aD aq),ai (lI a),ai (.int s),ai (.lst (aq.map λc=>.int ((c.1+s*c.2) % 3)))]) (fq (ie (ds:=aq.map cD) rfl (by simp;lia) (comp_map (S:=λx=>[ai (.int x.1),ai (.int x.2),ai (.int s)]) (P:=λst=>∃y z,st=[y,z,ai (.int s)]) aq (λx _=>⟨_,_,rfl⟩) (λx _ st ⟨y,z,e⟩=>by subst e;rfl) (λx _=>rfl) (λx _=>eV (a:=.int (x.1+s*x.2)) (b:=.int 3) (eV (a:=.int x.1) (b:=.int (s*x.2)) rfl (eV (a:=.int s) (b:=.int x.2) rfl rfl (rX (by lia))) rfl) rfl (kP (by decide))) _ ⟨aj,aj,rfl⟩)))];have b:∀(A:List Int) (f:DF) (w:D) (v:Int),A.length<=100->f [ai (aD aq),ai (lI A),ai (.int s),ai w] =.ok (.int v)->jI 1 f [ai (aD aq),ai (lI A),ai (.int s),ai w] =.nx [ai (aD aq),ai (lI (A++[v])),ai (.int s),ai w]:=λA f w v j i=>by
  have:(A.map D.int).length<=5000:=by simp;lia
  unfold jI lI;unfold lI at i;simp[i,this];lia
 have d:∀(A:List Int) (g:DF) (f:Cell->Bool),(∀x:Cell,g [ai (.int ((x.1+s*x.2) % 3))] =.ok (.bl (f x)))->(aL gw (bh gQ (af (dm (di (ah 3)) 1 [] (br 0) g (aX (ah 0))) az)) (dC (.int 2))) [ai (aD aq),ai (lI A),ai (.int s),ai (.lst (aq.map λc=>.int ((c.1+s*c.2) % 3)))] =.ok (.int (par f aq)):=λA g f h=>
  eV (a:=.int ((aq.filter f).length:Nat)) (b:=.int 2) (Aj (a:=.lst ((aq.filter f).map λc=>.int ((c.1+s*c.2) % 3))) (ie (ds:=aq.map λc=>.int ((c.1+s*c.2) % 3)) rfl (by simp;lia) (iF (S:=λx:Cell=>[ai (.int ((x.1+s*x.2) % 3))]) (P:=λst=>∃y,st=[y]) aq (λx _=>⟨_,rfl⟩) (λx _ st ⟨y,e⟩=>by subst e;rfl) (λx _=>h x) (λx _ _=>by simp) _ ⟨aj,rfl⟩)) (by simp)) rfl (by unfold par;exact kP (by decide))
 rw[aK (b _ _ _ _ (by lia) (d _ _ _ λx=>by simp;rfl)),b _ _ _ _ (by simp;lia) (d _ _ _ λx=>by simp;rfl)];simp
def tR{aq:List Cell}(hl:aq.length<=50):dI t [aD aq] =.ok (v7 aq):=by
 unfold dI;refine cJ [ai (aD aq),aj,aj,aj] ?_;rw[aK (st':=[ai (aD aq),ai (lI []),aj,aj]) (by simp[lI])];rw[aK (by
  rw[B6,show di (cF 100 (af (dC (.int 1)) (af (oY UY (dC (.int 1))) az))) [ai (aD aq),ai (lI []),aj,aj] =.ok [.int 1,.int (-1)] by simp];exact af0 rfl (SA (aq:=aq) [] 1 (.inl rfl) _ (by simp) hl) rfl (SA (aq:=aq) _ (-1) (.inr rfl) _ (by simp) hl))]
 refine ez (Aj (a:=lI (k8 aq)) ?_ ?_);have e:(λc:Cell=>decide ((c.1+1*c.2) % 3<2))=f1:=by funext c;unfold f1 kS;rw[Int.one_mul]
 have a:(λc:Cell=>decide (0<(c.1+1*c.2) % 3))=f2:=by funext c;unfold f2 kS;rw[Int.one_mul]
 have b:(λc:Cell=>decide ((c.1 + -1*c.2) % 3<2))=f3:=by funext c;unfold f3 kD;rw[show c.1 + -1*c.2=c.1-c.2 by lia]
 have d:(λc:Cell=>decide (0<(c.1 + -1*c.2) % 3))=f4:=by funext c;unfold f4 kD;rw[show c.1 + -1*c.2=c.1-c.2 by lia]
 rw[e,a,b,d];rfl;unfold gW lI;dsimp only;rw[bh6 (Sz _)];rfl
end Pk
namespace Dm
open L2 HT
theorem Ws(p q:α->Bool):∀l:List α,(l.filter p).length+(l.filter q).length<=l.length+(l.filter λa=>p a&&q a).length
 |[]=>by simp
 |a::l=>by
  have:=Ws p q l;simp only[List.filter_cons,cS];cases p a <;> cases q a <;> simp <;> lia
theorem zh:∀l:List α,boolsOf (l.map λ_=>D.bl bT)=ai (l.map λ_=>bT)
 |[]=>rfl
 |x::l=>by rw[bz,boolsOf,zh l];rfl
def all_true(l:List α):QY [.lst (l.map λ_=>D.bl bT)] =.ok (.bl bT):=by
 unfold QY;dsimp only;rw[zh];simp
end Dm
namespace Fr
variable {S L:Type}[BEq S][LawfulBEq S]
noncomputable def ins(d:List (S×List L))(k:S)(v:List L):List (S×List L):=if d.any (·.1==k)then d else d++[(k,v)]
noncomputable def gx(d:List (S×List L))(X:List (S×List L)):List (S×List L):=X.foldl (λd p=>ins d p.1 p.2) d
noncomputable def ext(step:S->List (L×S))(p:S×List L):List (S×List L):=(step p.1).map λq=>(q.2,p.2++[q.1])
def Wu{t:S}:(ins d k v).any (·.1==t)=(d.any (·.1==t) || k==t):=by
 unfold ins;split;rename_i h;by_cases e:k=t;subst e;rw[h];rfl;simp[e];simp
theorem Dt:∀(X d:List (S×List L)) (t:S),(gx d X).any (·.1==t)=(d.any (·.1==t) || X.any (·.1==t))
 |[],d,t=>by simp[gx]
 |p::X,d,t=>by
  show(gx (ins d p.1 p.2) X).any _=_;rw[Dt X,Wu,pM,Bool.or_assoc]
def tT(d X Y:List (S×List L)):gx d (X++Y)=gx (gx d X) Y:=by unfold gx;rw[O0]
theorem FQ:∀(X d:List (S×List L)),(∀p∈X,d.any (·.1==p.1)=bT)->gx d X=d
 |[],d,_=>rfl
 |p::X,d,h=>by
  show gx (ins d p.1 p.2) X=d;rw[ins,bh6 (h p (.head _))];exact FQ X d λq m=>h q (.tail _ m)
theorem Du:∀(X d e:List (S×List L)),(∀p∈d,(ext step p).all (λq=>e.any (·.1==q.1))=bT)->
  ∃d',gx d X=d++d'/\gx e (d'.flatMap (ext step))=gx e (X.flatMap (ext step))
 |[],d,e,_=>⟨[],by simp[gx],rfl⟩
 |p::X,d,e,h=>by
  show ∃d',gx (ins d p.1 p.2) X=d++d'/\_;rw[rC,tT];by_cases k:d.any (·.1==p.1)=bT;rw[ins,bh6 k];obtain⟨q,m,c⟩:=pP.mp k;have c:=bj1 c;have b:=h q m;rw[FQ (ext step p) e];exact Du X d e h;intro r a;unfold ext at b a;rw[c]at b;rw[Ny]at b;obtain⟨x,f,rfl⟩:=aN.mp a;exact(dZ.mp b) x f;rw[ins,bh7 k];have g:∀q∈d++[(p.1,p.2)],(ext step q).all (λr=>(gx e (ext step p)).any (·.1==r.1))=bT:=by intro q m;rw[dZ];intro r a;rw[Dt];rcases i6.mp m with m|m;rw[(dZ.mp (h q m)) r a];rfl;obtain rfl:=gC.mp m;rw[kZ];exact .inr (pP.mpr ⟨r,a,bi7 _⟩)
  obtain⟨d',i,j⟩:=Du X (d++[(p.1,p.2)]) (gx e (ext step p)) g;refine⟨(p.1,p.2)::d',by rw[i,fQ];rfl,?_⟩;rw[rC,tT];exact j
def SD(X:List (S×List L)):gx [] ((gx [] X).flatMap (ext step))=gx [] (X.flatMap (ext step)):=by
 obtain⟨d,e,a⟩:=Du X [] [] (step:=step) (λ_ m=>nomatch m);rw[e];exact a
noncomputable def rows(step:S->List (L×S)):Nat->S->List (S×List L)
 |0,s=>[(s,[])]
 |n+1,s=>(step s).flatMap λq=>(rows step n q.2).map λr=>(r.1,q.1::r.2)
noncomputable def iter(step:S->List (L×S)):Nat->List (S×List L)->List (S×List L)
 |0,X=>X
 |n+1,X=>iter step n (X.flatMap (ext step))
theorem FT:∀(n:Nat) (X Y:List (S×List L)),iter step n (X++Y)=iter step n X++iter step n Y
 |0,_,_=>rfl
 |n+1,X,Y=>by rw[iter,iter,iter,pN,FT n]
theorem Bb(n:Nat)(f:α->List (S×List L)):∀(l:List α),iter step n (l.flatMap f)=l.flatMap λa=>iter step n (f a)
 |[]=>by
  show iter step n []=[]
  induction n with
  |zero=>rfl
  |succ n i=>rw[iter];exact i
 |a::l=>by rw[rC,FT,Bb n f l,rC]
theorem FU(f:α->β):∀(l:List α),l.map f=l.flatMap λa=>[f a]
 |[]=>rfl
 |a::l=>by rw[bz,rC,<- FU f l];rfl
theorem Bc:∀(n:Nat) (s:S) (pre:List L),iter step n [(s,pre)]=(rows step n s).map λr=>(r.1,pre++r.2)
 |0,s,pre=>by simp[iter,rows]
 |n+1,s,pre=>by
  rw[iter,rows,O2,ext];rw[FU,Bb,List.map_flatMap];congr 1;funext q;rw[Bc n];simp
noncomputable def eG(step:S->List (L×S))(s:S):Nat->List (S×List L)
 |0=>[(s,[])]
 |n+1=>gx [] ((eG step s n).flatMap (ext step))
theorem FW:∀(n:Nat) (X:List (S×List L)),iter step (n+1) X=(iter step n X).flatMap (ext step)
 |0,X=>rfl
 |n+1,X=>by rw[iter,FW n];rfl
theorem zj(s:S):∀n,eG step s n=gx [] (rows step n s)
 |0=>rfl
 |n+1=>by
  have e:∀m,rows step m s=iter step m [(s,[])]:=λm=>by rw[Bc];simp
  rw[eG,zj s n,SD,e n,<- FW,<- e]
theorem Bd(t:S):∀(X:List (S×List L)),X.any (·.1==t)=bT->∃r,X.lookup t=ai r
 |p::X,h=>by
  rw[nS];by_cases e:t=p.1;subst e;rw[bi7];exact⟨_,rfl⟩;rw[show(t==p.1)=b4 by simpa using e];rw[pM,show(p.1==t)=b4 by simpa using eW e,BD]at h;exact Bd t X h
def FY(step:S->List (L×S))(t:S)(n:Nat)(s:S):(rows step (n+1) s).any (·.1==t)=(step s).any λq=>(rows step n q.2).any (·.1==t):=by
 rw[rows,List.any_flatMap];congr 1;funext q;rw[Bx];rfl
end Fr
namespace Pk
open L2 Dm
variable (t:iX)
def tS(l:List Cell):D:=.tup (l.map cD)
def Jg(n:Bool)(c:Cell)(l:List Cell):iT n (cD c) (tS l)=.ok (.bl (if n then !decide (c∈l)else decide (c∈l))):=by
 have h:=fU n c l;unfold iT aD at h;unfold iT tS;exact h
def af8(aq:List Cell)(p:bO):jP t [tS aq,lD p] =.ok (.bl (qt aq p)):=by
 unfold jP qt;refine cJ [ai (tS aq),ai (lD p)] (ez ?_);have g1:=Jg b4 p.1 aq;have g2:=Jg bT p.2 aq;have g:=Jg b4 (mid p.1 p.2) aq;by_cases h:p.1∈aq <;> by_cases a:p.2∈aq <;> simp[Kp,g1,g2,g,h,a]
def SE(n:Bool)(x a b:Cell):iT n (cD x) (.tup [cD a,cD b])=.ok (.bl (if n then !(decide (a=x) || decide (b=x))else(decide (a=x) || decide (b=x)))):=by
 unfold iT;dsimp only;rw[bh6 (by simp[cC,jU])];simp
def Mu{aq:List Cell}(p:bO)(hl:aq.length<=60):jQ t [tS aq,lD p] =.ok (aD (cu aq p)):=by
 have hb:=Kp t p.1 p.2;have g1:(dm (iTp (ah 0)) 1 [2] (br 0) (aL (iT bT) (ah 0) (ah 1)) (aX (ah 0))) [ai (tS aq),ai (lD p),ai (.tup [cD p.1,cD (mid p.1 p.2)])] =.ok (aD (left aq p)):=by
  refine ie (ds:=aq.map cD) rfl (by simp;lia) ?_;refine iF (S:=λx=>[ai (cD x),ai (.tup [cD p.1,cD (mid p.1 p.2)])]) (P:=λst=>∃y,st=[y,ai (.tup [cD p.1,cD (mid p.1 p.2)])]) aq (λx _=>⟨_,rfl⟩) (λx _ st ⟨y,e⟩=>by subst e;rfl) (λx _=>?_) (λx _ _=>by simp) _ ⟨aj,rfl⟩;refine eV (a:=cD x) (b:=.tup [cD p.1,cD (mid p.1 p.2)]) rfl rfl ?_;rw[SE];have a:decide (p.1=x)=decide (x=p.1):=by rw[mH];simp[eq_comm]
  have b:decide (mid p.1 p.2=x)=decide (x=mid p.1 p.2):=by rw[mH];simp[eq_comm]
  rw[a,b];cases decide (x=p.1) <;> cases decide (x=mid p.1 p.2) <;> rfl
 have h:(left aq p).length<=aq.length:=pO ..;unfold jQ;refine cJ [ai (tS aq),ai (lD p),aj] ?_;rw[aK (st':=[ai (tS aq),ai (lD p),ai (.tup [cD p.1,cD (mid p.1 p.2)])]) (by simp[hb])];refine ez (Aj (a:=aD (left aq p++[p.2])) (eV (a:=aD (left aq p)) (b:=aD [p.2]) g1 (by simp) (J8 (by simp;lia))) ?_);exact Kr (by simp;lia)
noncomputable def bV(aa:List Cell)(s:List Cell):List (bO×List Cell):=(FI aa s).map λp=>(p,cu s p)
def SH(aa:List Cell):(aV aa).length<=4*aa.length:=by
 have h:∀a,((Gf aa a).map λb=>(a,b)).length<=4:=λa=>by rw[bw];exact cz (pO ..) (by simp[four])
 have:=wJ (λa=>(Gf aa a).map λb=>(a,b)) 4 aa λa _=>h a;unfold aV;lia
def qJ(l:List Cell):gW [aD l] =.ok (tS l):=by
 unfold gW aD tS;dsimp only;rw[bh6 (fY λd hd=>by obtain⟨c,_,rfl⟩:=aN.mp hd;unfold cD;simp[gq,dR])]
def Kw{aa s:List Cell}(hl:aa.length<=200)(l:s.length<=60):fP t [cQ (aV aa),tS s] =.ok (.lst ((bV aa s).map λq=>.tup [lD q.1,tS q.2])):=by
 have e:(bV aa s).map (λq=>D.tup [lD q.1,tS q.2])=((aV aa).filter (qt s)).map λp=>D.tup [lD p,tS (cu s p)]:=by unfold bV FI;rw[dY];rfl
 rw[e];unfold fP;refine cJ [ai (cQ (aV aa)),ai (tS s)] (ez (ie (ds:=(aV aa).map lD) rfl ?_ ?_));rw[bw];have:=SH aa;lia;exact iF (S:=λx=>[ai (lD x),ai (tS s)]) (P:=λst=>∃y,st=[y,ai (tS s)]) (aV aa) (λx _=>⟨_,rfl⟩) (λx _ st ⟨y,e⟩=>by subst e;rfl) (λx _=>by simp[af8]) (λx _ _=>by
  have n:gq (lD x)=bT:=by unfold lD cD;simp[gq,dR]
  have a:∀ds,oX (.tup (lD x::ds))=bT:=λ_=>rfl;simp[Mu t x l,qJ,n,a]) _ ⟨aj,rfl⟩
noncomputable def kS(s:List Cell):List (List Int):=s.map λc=>[c.1,c.2]
theorem zq:∀{a b:List Cell},kS a=kS b->a=b
 |[],[],_=>rfl
 |[],_::_,h=>by cases h
 |_::_,[],h=>by cases h
 |x::a,y::b,h=>by
  unfold kS at h;rw[bz,bz]at h;injection h with e f;injection e with c g;injection g with d _;rw[zq (a:=a) (b:=b) f];obtain⟨i,j⟩:=x;obtain⟨k,l⟩:=y;dsimp only at c d;rw[c,d]
theorem FZ:∀(s:List Cell),mS (s.map cD)=ai (kS s)
 |[]=>rfl
 |c::s=>by
  rw[bz,mS,FZ s];rfl
def m9(s:List Cell):uT (tS s)=ai (kS s):=FZ s
noncomputable def gR(L:List (List Cell×List bO)):List D:=L.flatMap λz=>[tS z.1,cQ z.2]
noncomputable def qP(L:List (List Cell×List bO)):List (List (List Int)×D×D):=L.map λz=>(kS z.1,tS z.1,cQ z.2)
theorem nF:∀(L:List (List Cell×List bO)),fC (gR L)=ai (qP L)
 |[]=>rfl
 |z::L=>by
  show fC (tS z.1::cQ z.2::gR L)=_;rw[fC,m9,nF L];rfl
def G1(L:List (List Cell×List bO))(b:List Cell):((qP L).map (·.1)).any (λk=>decide (k=kS b))=L.any (·.1==b):=by
 unfold qP;rw[dY,Bx];congr 1;funext z;show decide (kS z.1=kS b)=(z.1==b)
 by_cases h:z.1=b;rw[h];simp;rw[bh9 λe=>h (zq e)];exact(bi3.mpr h).symm
def G3(n:Bool)(b:List Cell)(L:List (List Cell×List bO)):mT n (tS b) (.bN 2 (gR L))=.ok (.bl (if n then !L.any (·.1==b)else L.any (·.1==b))):=by
 simp only[mT,m9,nF,G1]
def lR(L:List (List Cell×List bO)):gv (ai (ai (.bN 2 (gR L))))=ai (gR L,qP L):=rT rfl (nF L)
end Pk
namespace Pk
open L2 Dm
def SI(aa:List Cell)(L:List (List Cell×List bO)):Prop:=(L.map (·.1)).Nodup/\∀z∈L,bW aa z.1
def Bound(aa:List Cell):Prop:=∀L,SI aa L->L.length<=4096
theorem SI.ins{aa:List Cell}{L:List (List Cell×List bO)}(h:SI aa L){k:List Cell}{v:List bO}(S:bW aa k):SI aa (Fr.ins L k v):=by
 unfold Fr.ins;split;exact h;rename_i c;refine⟨?_,λz m=>?_⟩;rw[j4,xq];refine⟨h.1,by simp,λa d b hb e=>c ?_⟩;have hb:b=k:=by simpa using hb
 obtain⟨z,f,rfl⟩:=aN.mp d;exact pP.mpr ⟨z,f,by rw[e,hb];exact bi7 _⟩;rcases i6.mp m with m|m;exact h.2 z m;obtain rfl:=gC.mp m;exact S
def ag0{l m:List bO}(h:l.length+m.length<=5000):qN (cQ l) (cQ m)=.ok (cQ (l++m)):=by
 have n:∀l:List bO,dR (l.map lD)=bT:=λl=>fY λd hd=>by obtain⟨c,_,rfl⟩:=aN.mp hd;unfold lD cD;simp[gq,dR]
 unfold qN cQ;dsimp only;simp[n,h]
def Kx(L M:List (List Cell×List bO)):gR (L++M)=gR L++gR M:=by unfold gR;rw[pN]
def Jh{aa:List Cell}(m:Bound aa)(a b c:D){row:List bO}(Z:row.length<=900)(f:List (bO×List Cell))(n:∀q∈f,bW aa q.2)(d:List (List Cell×List bO))(ok:SI aa d)(y z:Option D) :
  ∃h i,fW (gy 5 6) (Dm.bS (aL (mT bT) (ah 6) (ah 2)) (zS 2 (ah 6) (aL qN (ah 4) (cF 100 (af (aX (ah 5)) az)))) bf) (f.map λq=>D.tup [lD q.1,tS q.2]) [ai a,ai b,ai (.bN 2 (gR d)),ai c,ai (cQ row),y,z]=
   .nx [ai a,ai b,ai (.bN 2 (gR (Fr.gx d (f.map λq=>(q.2,row++[q.1]))))),ai c,ai (cQ row),h,i]/\SI aa (Fr.gx d (f.map λq=>(q.2,row++[q.1]))):=by
 obtain⟨s,o,h,i,k,l⟩:=gZ (bind:=gy 5 6) (F:=Dm.bS (aL (mT bT) (ah 6) (ah 2)) (zS 2 (ah 6) (aL qN (ah 4) (cF 100 (af (aX (ah 5)) az)))) bf) (f:=λq:bO×List Cell=>D.tup [lD q.1,tS q.2])
  (Q:=λpre st=>∃y z,st=[ai a,ai b,ai (.bN 2 (gR (Fr.gx d (pre.map λq=>(q.2,row++[q.1]))))),ai c,ai (cQ row),y,z]/\SI aa (Fr.gx d (pre.map λq=>(q.2,row++[q.1])))) f [] [ai a,ai b,ai (.bN 2 (gR d)),ai c,ai (cQ row),y,z] (λp x r e st ⟨y,z,t,hk⟩=>by
  subst t
  rw[dQ]at e
  have u:x∈f:=by rw[e];simp
  refine⟨[ai a,ai b,ai (.bN 2 (gR (Fr.gx d (p.map λq=>(q.2,row++[q.1]))))),ai c,ai (cQ row),ai (lD x.1),ai (tS x.2)],?_⟩
  generalize v:Fr.gx d (p.map λq=>(q.2,row++[q.1]))=M at hk ⊢
  have j:Fr.gx d ((p++[x]).map λq=>(q.2,row++[q.1]))=Fr.ins M x.2 (row++[x.1]):=by
   rw[j4,Fr.tT,v];rfl
  rw[j]
  have g:=G3 bT x.2 M
  have w:gq (lD x.1)=bT:=by unfold lD cD;simp[gq,dR]
  refine⟨[ai a,ai b,ai (.bN 2 (gR (Fr.ins M x.2 (row++[x.1])))),ai c,ai (cQ row),ai (lD x.1),ai (tS x.2)],rfl,?_,_,_,rfl,hk.ins (n x u)⟩
  cases S:M.any (·.1==x.2)with
  |true=>
   rw[S]at g
   rw[ir (eV (a:=tS x.2) (b:=.bN 2 (gR M)) rfl rfl g)]
   unfold Fr.ins
   rw[bh6 S];rfl
  |false=>
   rw[S]at g
   rw[nE (eV (a:=tS x.2) (b:=.bN 2 (gR M)) rfl rfl g)]
   have A:(aL qN (ah 4) (cF 100 (af (aX (ah 5)) az))) [ai a,ai b,ai (.bN 2 (gR M)),ai c,ai (cQ row),ai (lD x.1),ai (tS x.2)] =.ok (cQ (row++[x.1])):=
    eV (a:=cQ row) (b:=cQ [x.1]) rfl (by simp[w]) (ag0 (by simp;lia))
   unfold zS
   rw[A]
   show(match gv (ai (ai (.bN 2 (gR M))))with|some z=>_|none=>_)=_
   rw[lR]
   show LS 2 _ (gR M,qP M) (tS x.2) (cQ (row++[x.1]))=_
   unfold LS
   rw[m9]
   dsimp only
   rw[bh6 ⟨by unfold qP;rw[bw];have:=m M hk;lia,by rw[G1];exact S,rfl⟩]
   unfold Fr.ins
   rw[bh7 (by rw[S];decide),Kx]
   rfl) ⟨y,z,rfl,ok⟩
 rw[dQ]at k l;subst k;exact⟨h,i,o,l⟩
variable (t:iX)
def zu{aa s:List Cell}(S:bW aa s):∀q∈bV aa s,bW aa q.2:=λq m=>by
 unfold bV at m;obtain⟨p,hp,rfl⟩:=aN.mp m;exact S.row (row:=[p]) ⟨hp,trivial⟩
def SM{aa:List Cell}(hl:aa.length<=60)(f:Bound aa)(L:List (List Cell×List bO))(hS:∀z∈L,bW aa z.1)(h:∀z∈L,z.1.length<=60)(hr:∀z∈L,z.2.length<=900) :
  jY t [cQ (aV aa),.bN 2 (gR L)] =.ok (.bN 2 (gR (Fr.gx [] (L.flatMap (Fr.ext (bV aa))))))/\SI aa (Fr.gx [] (L.flatMap (Fr.ext (bV aa)))):=by
 obtain⟨st',g,y,z,u,v,c,d⟩:=gZ (bind:=gy 3 4) (F:=cZ (di (bh (fP t) (af (ah 0) (af (ah 3) az)))) (gy 5 6) (Dm.bS (aL (mT bT) (ah 6) (ah 2)) (zS 2 (ah 6) (aL qN (ah 4) (cF 100 (af (aX (ah 5)) az)))) bf)) (f:=λz:List Cell×List bO=>D.tup [tS z.1,cQ z.2])
  (Q:=λpre st=>∃y z u v,st=[ai (cQ (aV aa)),ai (.bN 2 (gR L)),ai (.bN 2 (gR (Fr.gx [] (pre.flatMap (Fr.ext (bV aa)))))),y,z,u,v]/\SI aa (Fr.gx [] (pre.flatMap (Fr.ext (bV aa))))) L [] [ai (cQ (aV aa)),ai (.bN 2 (gR L)),ai (.bN 2 (gR [])),aj,aj,aj,aj] (λp x r e st ⟨y,z,u,v,i,hk⟩=>by
  subst i
  rw[dQ]at e
  have a:x∈L:=by rw[e];simp
  refine⟨[ai (cQ (aV aa)),ai (.bN 2 (gR L)),ai (.bN 2 (gR (Fr.gx [] (p.flatMap (Fr.ext (bV aa)))))),ai (tS x.1),ai (cQ x.2),u,v],?_⟩
  have j:=Kw t (aa:=aa) (s:=x.1) (by lia) (h x a)
  obtain⟨k,l,g1,g2⟩:=Jh f (cQ (aV aa)) (.bN 2 (gR L)) (tS x.1) (hr x a) (bV aa x.1) (zu (hS x a)) _ hk u v
  have n:Fr.gx [] ((p++[x]).flatMap (Fr.ext (bV aa)))=Fr.gx (Fr.gx [] (p.flatMap (Fr.ext (bV aa)))) ((bV aa x.1).map λq=>(q.2,x.2++[q.1])):=by
   rw[pN,Fr.tT,O2];rfl
  rw[n]
  refine⟨_,rfl,?_,ai (tS x.1),ai (cQ x.2),k,l,rfl,g2⟩
  have b:di (bh (fP t) (af (ah 0) (af (ah 3) az))) [ai (cQ (aV aa)),ai (.bN 2 (gR L)),ai (.bN 2 (gR (Fr.gx [] (p.flatMap (Fr.ext (bV aa)))))),ai (tS x.1),ai (cQ x.2),u,v] =.ok ((bV aa x.1).map λq=>D.tup [lD q.1,tS q.2]):=by
   unfold di
   rw[tP (a:=cQ (aV aa)) (b:=tS x.1) rfl rfl j]
  unfold cZ
  rw[b]
  exact g1) ⟨aj,aj,aj,aj,rfl,⟨GP,λz m=>nomatch m⟩⟩
 rw[dQ]at c d;subst c;refine⟨?_,d⟩;unfold jY;refine cJ [ai (cQ (aV aa)),ai (.bN 2 (gR L)),aj,aj,aj,aj,aj] ?_;rw[aK (st':=[ai (cQ (aV aa)),ai (.bN 2 (gR L)),ai (.bN 2 (gR [])),aj,aj,aj,aj]) (fq rfl)];have b:IT (ah 1) [ai (cQ (aV aa)),ai (.bN 2 (gR L)),ai (.bN 2 (gR [])),aj,aj,aj,aj] =.ok (L.map λz=>D.tup [tS z.1,cQ z.2]):=by unfold IT;show(match gv (ai (ai (.bN 2 (gR L))))with|some y=>_|none=>_)=_;rw[lR];show R.ok ((qP L).map λt=>D.tup [t.2.1,t.2.2])=_;unfold qP;rw[dY];rfl
 rw[aK (F:=cZ (IT (ah 1)) (gy 3 4) _) (by unfold cZ;rw[b];exact g)];exact ez rfl
end Pk
namespace Pk
open L2 Dm
theorem qK:∀{aa s:List Cell},bK aa->bK s->(∀c∈s,c∈aa)->s.Sublist aa
 |_,[],_,_,_=>List.nil_sublist _
 |[],a::s,_,_,h=>by cases h a (.head _)
 |x::r,a::s,g,f,h=>by
  have u:=xr.mp g;have b:=xr.mp f;by_cases e:a=x;subst e;refine List.Sublist.cons_cons a (qK u.2 b.2 λc m=>?_);rcases cK.mp (h c (.tail _ m))with rfl|d;exact bi8 (b.1 _ m) (oG _);exact d;have i:a∈r:=(cK.mp (h a (.head _))).resolve_left e;refine List.Sublist.cons x (qK u.2 f λc m=>?_);rcases cK.mp (h c m)with rfl|d;rcases cK.mp m with z|j;exact bi8 z.symm e;exact bi8 (B8 (u.1 _ i) (b.1 _ j)) (oG _);exact d
noncomputable def subs:List Cell->List (List Cell)
 |[]=>[[]]
 |c::l=>(subs l).map (c :: ·)++subs l
theorem G4:∀l,(subs l).length=2 ^ l.length
 |[]=>rfl
 |c::l=>by rw[subs,bX,bw,G4 l,cS,Nh];lia
theorem zv:∀{l s:List Cell},s.Sublist l->s∈subs l
 |_,_,.slnil=>by simp[subs]
 |_,_,.cons c h=>by rw[subs];exact mW _ (zv h)
 |_,_,.cons_cons c h=>by rw[subs];exact DJ _ (aN.mpr ⟨_,zv h,rfl⟩)
theorem len_sub:∀{l m:List (List Cell)},l.Nodup->(∀x∈l,x∈m)->l.length<=m.length
 |[],_,_,_=>eS _
 |a::l,m,f,h=>by
  have b:=kX.mp f;have c:a∈m:=h a (.head _);have:=len_sub (l:=l) (m:=m.erase a) b.2 λx d=>(NW λe=>b.1 (by rw[<- e];exact d)).mpr (h x (.tail _ d));rw[NX c]at this;have p:0<m.length:=NY c;rw[cS];lia
def zw{aa:List Cell}(u:bK aa)(hl:aa.length<=12):Bound aa:=λL h=>by
 have b:∀s∈L.map (·.1),s∈subs aa:=λs m=>by obtain⟨z,a,rfl⟩:=aN.mp m;exact zv (qK u (h.2 z a).1 (h.2 z a).2)
 have c:=len_sub h.1 b;rw[bw,G4]at c;have d:2 ^ aa.length<=2 ^ 12:=Nat.pow_le_pow_right (by decide) hl;have:(2:Nat) ^ 12=4096:=rfl;lia
variable (t:iX)
theorem Ky:∀{X d:List (List Cell×List bO)} {z:List Cell×List bO},z∈Fr.gx d X->z∈d\/z∈X
 |[],d,z,h=>.inl h
 |p::X,d,z,h=>by
  have h:z∈Fr.gx (Fr.ins d p.1 p.2) X:=h;rcases Ky h with h|h;unfold Fr.ins at h;split at h;exact .inl h;rcases i6.mp h with h|h;exact .inl h;obtain rfl:=gC.mp h;exact .inr (.head _);exact .inr (.tail _ h)
structure be1(aa aq:List Cell)(n:Nat)(z:List Cell×List bO):Prop where
 st:bW aa z.1
 len:z.1.length+n=aq.length
 row:z.2.length=n
 ok:lQ aa aq z.2
 wk:eE aq z.2=z.1
theorem s8{aa aq:List Cell}(S:bW aa aq):∀n,∀z∈Fr.eG (bV aa) aq n,be1 aa aq n z
 |0,z,m=>by
  obtain rfl:=gC.mp (show z∈[(aq,[])]from m);exact⟨S,rfl,rfl,trivial,rfl⟩
 |n+1,z,m=>by
  rcases Ky (show z∈Fr.gx [] _ from m)with m|m;cases m;obtain⟨w,b,m⟩:=NV.mp m;have c:=s8 S n w b;unfold Fr.ext at m;obtain⟨q,h,rfl⟩:=aN.mp m;have U:=h;unfold bV at U;obtain⟨p,a,rfl⟩:=aN.mp U;obtain⟨_,_,_,o4⟩:=qw (row:=[p]) c.st.1 c.st.2 ⟨a,trivial⟩;have o4:(cu w.1 p).length+1=w.1.length:=by simpa[eE]using o4
  exact⟨zu c.st _ h,by show(cu w.1 p).length+(n+1)=_;have:=c.len;lia,by show(w.2++[p]).length=_;rw[bX,c.row];rfl,wK c.ok (by rw[c.wk];exact a),by show eE aq (w.2++[p])=_;rw[qI,c.wk]⟩
theorem Mv(t:iX){aa aq:List Cell}(hl:aa.length<=60)(b:Bound aa)(S:bW aa aq)(l:aq.length<=60):∀n,SI aa (Fr.eG (bV aa) aq n)
 |0=>⟨by simp[Fr.eG],λz m=>(s8 S 0 z m).st⟩
 |n+1=>(SM t hl b (Fr.eG (bV aa) aq n) (λz m=>(s8 S n z m).st) (λz m=>by have:=(s8 S n z m).len;lia) (λz m=>by have:=(s8 S n z m).len;have:=(s8 S n z m).row;lia)).2
noncomputable def jA(aa aq:List Cell):Nat->List (List Cell×List bO)
 |0=>[]
 |n+1=>jA aa aq n++Fr.eG (bV aa) aq n
theorem zx{aa aq:List Cell}:∀{n:Nat} {z},z∈jA aa aq n->∃k,k<n/\z∈Fr.eG (bV aa) aq k
 |n+1,z,m=>by
  rcases i6.mp (show z∈jA aa aq n++_ from m)with m|m;obtain⟨k,hk,h⟩:=zx m;exact⟨k,by lia,h⟩;exact⟨n,by lia,m⟩
def zy{aa aq:List Cell}(S:bW aa aq){n:Nat}:∀z∈Fr.eG (bV aa) aq n,z.1∉(jA aa aq n).map (·.1):=λz m h=>by
 obtain⟨w,a,e⟩:=aN.mp h;obtain⟨k,hk,a⟩:=zx a;have b:=(s8 S k w a).len;have c:=(s8 S n z m).len;have e:w.1=z.1:=e;rw[e]at b;lia
theorem Dv(t:iX){aa aq:List Cell}(hl:aa.length<=60)(c:Bound aa)(S:bW aa aq)(l:aq.length<=60):∀n,SI aa (jA aa aq n)
 |0=>⟨by simp[jA],λz m=>nomatch m⟩
 |n+1=>by
  have h:=Dv t hl c S l n;have d:=Mv t hl c S l n;refine⟨?_,λz m=>?_⟩;show((jA aa aq n++Fr.eG (bV aa) aq n).map (·.1)).Nodup;rw[j4,xq];exact⟨h.1,d.1,λa f b hb e=>by
   obtain⟨z,g,rfl⟩:=aN.mp hb;exact zy S z g (by rw[<- e];exact f)⟩
  rcases i6.mp (show z∈jA aa aq n++Fr.eG (bV aa) aq n from m)with m|m;exact h.2 z m;exact d.2 z m
end Pk
namespace Pk
open L2 Dm
variable (t:iX)
def Mw(L:List (List Cell×List bO)):qZ [.bN 2 (gR L)] =.ok (.int (L.length:Nat)):=by
 simp only[qZ,nF,qP,bw]
def Wv{L M:List (List Cell×List bO)}{st:gM}{i:Nat}{f:DF}(h:st[i]?=ai (ai (.bN 2 (gR L))))(a:f st=.ok (.bN 2 (gR M)))(hz:L.length+M.length<=5000)(d:∀z∈M,z.1∉L.map (·.1))(lW:L=[]->M.length<=1) :
  LY i f st=.nx (st.set i (ai (.bN 2 (gR (L++M))))):=by
 unfold LY;rw[h,lR];dsimp only;rw[a];dsimp only;rw[lR];dsimp only;rw[bh6,Kx];refine⟨by unfold qP;rw[bw,bw];exact hz,λk mk hk=>?_,λe=>?_⟩;unfold qP at mk hk;rw[dY]at mk hk;obtain⟨z,hz,rfl⟩:=aN.mp mk;obtain⟨w,b,e⟩:=aN.mp hk;exact d z hz (aN.mpr ⟨w,b,zq e⟩);unfold qP at e ⊢;rw[bw];exact lW (O3.mp e)
theorem sf{aa aq:List Cell}{n:Nat}(h:Fr.eG (bV aa) aq n=[]):∀k,Fr.eG (bV aa) aq (n+k)=[]
 |0=>h
 |k+1=>by
  show Fr.eG (bV aa) aq (n+k+1)=[]
  rw[Fr.eG,sf h k];rfl
theorem Be{aa aq:List Cell}{n:Nat}(h:Fr.eG (bV aa) aq n=[]):∀k,jA aa aq (n+k)=jA aa aq n
 |0=>rfl
 |k+1=>by
  show jA aa aq (n+k)++Fr.eG (bV aa) aq (n+k)=_;rw[sf h k,kC,Be h k]
noncomputable def SN:DF:=aL yy (bh qZ (af (ah 4) az)) (dC (.int 0))
def fBody(t:iX):DS:=aZ (LY 3 (ah 4)) (cB 4 (bh (jY t) (af (ah 2) (af (ah 4) az))))
theorem zA(t:iX){aa aq:List Cell}(hl:aa.length<=60)(d:Bound aa)(S:bW aa aq)(o:aq.length<=60)(a b:D):∀(k n f:Nat),n+k=aq.length+1->k<f->
  vP SN (fBody t) f [ai a,ai b,ai (cQ (aV aa)),ai (.bN 2 (gR (jA aa aq n))),ai (.bN 2 (gR (Fr.eG (bV aa) aq n)))]=
   .nx [ai a,ai b,ai (cQ (aV aa)),ai (.bN 2 (gR (jA aa aq (aq.length+1)))),ai (.bN 2 (gR []))]
 |k,n,0,_,h=>by lia
 |k,n,f+1,e,h=>by
  have p:SN [ai a,ai b,ai (cQ (aV aa)),ai (.bN 2 (gR (jA aa aq n))),ai (.bN 2 (gR (Fr.eG (bV aa) aq n)))] =.ok (.bl (decide ((0:Int)<((Fr.eG (bV aa) aq n).length:Nat)))):=
   eV (a:=.int ((Fr.eG (bV aa) aq n).length:Nat)) (b:=.int 0) (Aj (a:=.bN 2 (gR (Fr.eG (bV aa) aq n))) rfl (Mw _)) rfl rfl
  rw[vP,p];cases c:Fr.eG (bV aa) aq n with
  |nil=>have:=Be c k;rw[e]at this;rw[this];rfl
  |cons r r0=>
   rw[<- c];have g:decide ((0:Int)<((Fr.eG (bV aa) aq n).length:Nat))=bT:=by rw[c];simp
   rw[g];dsimp only;have s:n<=aq.length:=by have:=(s8 S n r (by rw[c];exact .head _)).len;lia
   cases k with
   |zero=>lia
   |succ k=>
    have i:=d _ (Dv t hl d S o (n+1));have i:(jA aa aq n++Fr.eG (bV aa) aq n).length<=4096:=i;rw[bX]at i;have j:=(SM t hl d (Fr.eG (bV aa) aq n) (λz m=>(s8 S n z m).st) (λz m=>by have:=(s8 S n z m).len;lia) (λz m=>by have:=(s8 S n z m).len;have:=(s8 S n z m).row;lia)).1;have hb:fBody t [ai a,ai b,ai (cQ (aV aa)),ai (.bN 2 (gR (jA aa aq n))),ai (.bN 2 (gR (Fr.eG (bV aa) aq n)))] =.nx [ai a,ai b,ai (cQ (aV aa)),ai (.bN 2 (gR (jA aa aq (n+1)))),ai (.bN 2 (gR (Fr.eG (bV aa) aq (n+1))))]:=by
     unfold fBody;rw[aK (Wv (i:=3) (f:=ah 4) rfl rfl (by lia) (zy S) (λz=>by
      cases n with
      |zero=>simp[Fr.eG]
      |succ n=>
       exfalso;have l:Fr.eG (bV aa) aq n=[]:=by have:jA aa aq n++Fr.eG (bV aa) aq n=[]:=z;exact(List.append_eq_nil_iff.mp this).2
       have:=sf l 1;rw[c]at this;cases this))]
     exact fq (tP (a:=cQ (aV aa)) (b:=.bN 2 (gR (Fr.eG (bV aa) aq n))) rfl rfl j)
    rw[hb];dsimp only;exact zA t hl d S o a b k (n+1) f (by lia) (by lia)
def SO{aa aq:List Cell}(hl:aa.length<=60)(b:Bound aa)(S:bW aa aq)(l:aq.length<=30):jD t [bB aa,aD aq] =.ok (.bN 2 (gR (jA aa aq (aq.length+1)))):=by
 have h:=zA t hl b S (by lia) (bB aa) (aD aq) (aq.length+1) 0 40 (by lia) (by lia);have a:EZ (bh gW (af (ah 1) az)) (cF 100 az) [ai (bB aa),ai (aD aq),ai (cQ (aV aa)),ai (.bN 2 (gR [])),aj] =.ok (.bN 2 (gR [(aq,[])])):=by have c:(bh gW (af (ah 1) az)) [ai (bB aa),ai (aD aq),ai (cQ (aV aa)),ai (.bN 2 (gR [])),aj] =.ok (tS aq):=Aj (a:=aD aq) rfl (qJ _);unfold EZ;rw[c];dsimp only;rw[show(cF 100 az) [ai (bB aa),ai (aD aq),ai (cQ (aV aa)),ai (.bN 2 (gR [])),aj] =.ok (.lst [])from rfl];dsimp only;rw[m9];rfl
 unfold jD;refine cJ [ai (bB aa),ai (aD aq),aj,aj,aj] ?_;rw[aK (st':=[ai (bB aa),ai (aD aq),ai (cQ (aV aa)),aj,aj]) (fq (Aj (a:=bB aa) rfl (Kq t (by lia)))),
  aK (st':=[ai (bB aa),ai (aD aq),ai (cQ (aV aa)),ai (.bN 2 (gR [])),aj]) (fq rfl),
  aK (st':=[ai (bB aa),ai (aD aq),ai (cQ (aV aa)),ai (.bN 2 (gR [])),ai (.bN 2 (gR [(aq,[])]))]) (fq a)]
 show aZ (vP SN (fBody t) 40) (cP (ah 3)) [ai (bB aa),ai (aD aq),ai (cQ (aV aa)),ai (.bN 2 (gR (jA aa aq 0))),ai (.bN 2 (gR (Fr.eG (bV aa) aq 0)))]=_;rw[aK h];exact ez rfl
end Pk
namespace Pk
open L2 Dm
theorem zC:∀(a b:List Cell),eT (a.map cD) (b.map cD)=decide (a=b)
 |[],[]=>by simp[eT]
 |[],_::_=>by simp[eT]
 |_::_,[]=>by simp[eT]
 |x::a,y::b=>by
  rw[bz,bz,eT,zC a b];have:iJ (cD x) (cD y)=decide (x=y):=by obtain⟨c,d⟩:=x;obtain⟨e,f⟩:=y;unfold cD;simp only[iJ,eT,ur];rw[mH];simp
  rw[this,mH];simp
def Dw(a b:List Cell):iJ (aD a) (aD b)=decide (a=b):=by unfold aD;rw[iJ];exact zC a b
noncomputable def fD(F:List (List Cell)):D:=.lst (F.map aD)
def tU(n:Bool)(s:List Cell)(F:List (List Cell)):iT n (aD s) (fD F)=.ok (.bl (if n then !decide (s∈F)else decide (s∈F))):=by
 have fl:∀a:List Cell,flat (aD a)=bT:=λa=>by unfold aD;rw[flat];exact iC λd hd=>by obtain⟨c,_,rfl⟩:=aN.mp hd;unfold cD;simp[flat,cC]
 have dp:∀a:List Cell,dep (aD a)<=2:=λa=>by have:=qH a;unfold aD;rw[dep];lia
 unfold iT fD;dsimp only;rw[bh6 (by
  simp only[bI,bi1];refine⟨⟨fl s,iC λd hd=>by obtain⟨c,_,rfl⟩:=aN.mp hd;exact fl c⟩,cz (nW (n:=2) λd hd=>by obtain⟨c,_,rfl⟩:=aN.mp hd;exact dp c) (by decide)⟩)]
 have e:(F.map aD).any (λe=>iJ e (aD s))=decide (s∈F):=by rw[Bx,mH,pP,decide_eq_true_iff];constructor;rintro⟨x,b,h⟩;have h:iJ (aD x) (aD s)=bT:=h;rw[Dw,decide_eq_true_iff]at h;exact h▸b;intro h;exact⟨s,h,by show iJ (aD s) (aD s)=bT;rw[Dw];simp⟩
 rw[e]
def Gg(aa s u:List Cell):Prop:=∃row,lQ aa s row/\eE s row=u
def Gg.qV{aa s u:List Cell}(S:bW aa s)(h:Gg aa s u):bW aa u:=by
 obtain⟨row,ok,e⟩:=h;rw[<- e];exact S.row ok
def Gg.snoc{aa s u:List Cell}(h:Gg aa s u){p:bO}(a:p∈FI aa u):Gg aa s (cu u p):=by
 obtain⟨row,ok,e⟩:=h;subst e;exact⟨row++[p],wK ok a,qI ..⟩
theorem zD{aa:List Cell}:∀{row:List bO} {aq:List Cell},lQ aa aq row->(Fr.rows (bV aa) row.length aq).any (·.1==eE aq row)=bT
 |[],aq,_=>by show([(aq,[])]:List (List Cell×List bO)).any _=bT;simp[eE]
 |p::row,aq,h=>by
  rw[cS,Fr.FY,pP];refine⟨(p,cu aq p),?_,?_⟩;unfold bV;exact aN.mpr ⟨p,h.1,rfl⟩;exact zD h.2
theorem Bf:∀{L:List (List Cell×List bO)} {s:List Cell} {r:List bO},L.lookup s=ai r->(qP L).find? (λz=>decide (z.1=kS s))=ai (kS s,tS s,cQ r)
 |z::L,s,r,h=>by
  rw[nS]at h;show List.find? _ ((kS z.1,tS z.1,cQ z.2)::qP L)=_;by_cases e:s=z.1;subst e;rw[bi7]at h;cases h;rw[List.find?_cons_of_pos (by simp)];rw[show(s==z.1)=b4 by simpa using e]at h;rw[List.find?_cons_of_neg (by simp;exact λw=>e (zq w).symm)];exact Bf h
def Ww{L:List (List Cell×List bO)}{s:List Cell}{r:List bO}(h:L.lookup s=ai r):r8 (.bN 2 (gR L)) (tS s)=.ok (cQ r):=by
 simp only[r8,m9,nF,Bf h];rfl
theorem vK{aa:List Cell}{u:List Cell}:∀{n:Nat} {s:List Cell},(Fr.rows (bV aa) n s).any (·.1==u)=bT->Gg aa s u
 |0,s,h=>by
  have:s=u:=by simpa[Fr.rows]using h
  exact⟨[],trivial,this⟩
 |n+1,s,h=>by
  rw[Fr.FY,pP]at h;obtain⟨q,a,h⟩:=h;unfold bV at a;obtain⟨p,b,rfl⟩:=aN.mp a;obtain⟨row,ok,e⟩:=vK h;exact⟨p::row,⟨b,ok⟩,e⟩
variable (t:iX)
theorem Kz:∀{a b:List Cell},a.length=b.length->gk (a.map cD) (b.map cD)=bT
 |[],[],_=>rfl
 |[],_::_,h=>by cases h
 |_::_,[],h=>by cases h
 |a::l,b::m,h=>by rw[bz,bz,gk,J9,Kz (by simpa using h)];rfl
theorem SQ:∀(l:List Cell),Ik (l.map cD)=bT
 |[]=>rfl
 |a::l=>by rw[bz,Ik,RX,SQ l];rfl
def Wx{F:List (List Cell)}(h:∀s∈F,s.length<=60):VB (F.map aD)=bT:=by
 unfold VB;rw[bI,bI];refine⟨⟨dZ.mpr λa c=>?_,dZ.mpr λa c=>dZ.mpr λb hb=>?_⟩,iC λd hd=>?_⟩;obtain⟨x,f,rfl⟩:=aN.mp c;have:=h x f;exact bh8 (by rw[bw];lia);rw[dY]at c hb;obtain⟨x,_,rfl⟩:=aN.mp c;obtain⟨y,_,rfl⟩:=aN.mp hb;have d:=qH x;show(Ik (x.map cD)&&cC (x.map cD)&&decide (jU (x.map cD)<=50)&&(decide (-((x.map cD).length:Int)≠ -((y.map cD).length:Int)) || gk (x.map cD) (y.map cD)))=bT;rw[SQ,z7,bh8 (by lia:jU (x.map cD)<=50),bw,bw];by_cases e:x.length=y.length;rw[Kz e];simp;rw[bh8 (by lia : -((x.length:Nat):Int)≠ -((y.length:Nat):Int))];rfl;obtain⟨x,_,rfl⟩:=aN.mp hd;unfold aD;rw[flat];exact z7 x
def SR{l:List β}{m:List α}(h:l.Perm (m.map f)):∃k:List α,k.Perm m/\l=k.map f:=by
 generalize e:m.map f=n at h;induction h generalizing m with
 |nil=>exact⟨[],by rw[O3.mp e],rfl⟩
 |cons x _ i=>
  cases m with
  |nil=>cases e
  |cons a m=>injection e with d c;obtain⟨k,hk,rfl⟩:=i c;exact⟨a::k,hk.cons a,by rw[<- d];rfl⟩
 |swap x y l=>
  match m,e with
  |a::b::m,e=>injection e with d c;injection c with c g;subst d c g;exact⟨b::a::m,.swap a b m,rfl⟩
 |trans _ _ o p=>obtain⟨k,hk,rfl⟩:=p e;obtain⟨j,r,rfl⟩:=o rfl;exact⟨j,r.trans hk,rfl⟩
def Mz{F:List (List Cell)}(h:∀s∈F,s.length<=60):∃G,G.Perm F/\rV (fD F)=.ok (fD G):=by
 have p:=cX ((F.map aD).map CP);rw[dY]at p;obtain⟨k,hk,e⟩:=SR p;refine⟨k,hk,?_⟩;unfold rV fD;dsimp only;rw[bh6 (Wx h),dY,e,dY];rfl
def Wy{L:List (List Cell×List bO)}(hl:L.length<=5000)(h:∀z∈L,z.1.length<=60):∃G,G.Perm (L.map (·.1))/\jO t [.bN 2 (gR L)] =.ok (fD G):=by
 obtain⟨G,a,e⟩:=Mz (F:=L.map (·.1)) (λs m=>by obtain⟨z,b,rfl⟩:=aN.mp m;exact h z b);refine⟨G,a,?_⟩;unfold jO;refine cJ [ai (.bN 2 (gR L))] (ez (un1 (a:=fD (L.map (·.1))) ?_ e));unfold fD;rw[dY];refine ie (ds:=L.map λz=>tS z.1) ?_ (by rw[bw];exact hl) ?_;unfold CO;show(match gv (ai (ai (.bN 2 (gR L))))with|some y=>_|none=>_)=_;rw[lR];show R.ok ((qP L).map λt=>t.2.1)=_;unfold qP;rw[dY];rfl;exact comp_map (S:=λz=>[ai (tS z.1)]) (P:=λst=>∃y,st=[y]) L (λx _=>⟨_,rfl⟩) (λx _ st l=>by obtain⟨y,e⟩:=l;subst e;rfl) (λx _=>rfl) (λx _=>Aj (a:=tS x.1) rfl (by
  unfold lJ tS;dsimp only;rw[bh6 (fY λd hd=>by obtain⟨c,_,rfl⟩:=aN.mp hd;unfold cD;simp[gq,dR])];rfl)) _ ⟨aj,rfl⟩
theorem KA:∀N,(jA aa aq N).any (·.1==u)=bT↔∃n,n<N/\(Fr.rows (bV aa) n aq).any (·.1==u)=bT
 |0=>⟨λh=>(by cases h),λo=>by obtain⟨n,h,_⟩:=o;lia⟩
 |N+1=>by
  show(jA aa aq N++Fr.eG (bV aa) aq N).any _=bT↔_;rw[List.any_append,kZ,KA N,Fr.zj,Fr.Dt];show _\/(b4 || _)=bT↔_;rw[BD];constructor;rintro(⟨n,h,e⟩|e);exact⟨n,by lia,e⟩;exact⟨N,by lia,e⟩;rintro⟨n,h,e⟩;by_cases c:n=N;exact .inr (c▸e);exact .inl ⟨n,by lia,e⟩
def KC(S:bW aa aq):(jA aa aq (aq.length+1)).any (·.1==u)=bT↔Gg aa aq u:=by
 rw[KA];refine⟨λs=>s.elim λn a=>a.elim λ_ h=>vK h,λI=>I.elim λrow J=>J.elim λok e=>⟨row.length,?_,by rw[<- e];exact zD ok⟩⟩;have:=(qw S.1 S.2 ok).2.2.2;lia
end Pk
namespace Pk
open L2 Dm
variable (t:iX)
def d7(u:bK aa)(S:bW aa s):s.length<=aa.length:=(qK u S.1 S.2).length_le
def up_eq{a b:List Cell}(d:bK a)(hb:bK b)(h:∀c,c∈a↔c∈b):a=b:=
 BG (λ_ _ _ _ e f=>bi8 f (qp e)) d hb ((Bv d.nodup hb.nodup).mpr h)
def Ji(u:bK l)(S:bW l s):l.filter (λc=>decide (c∈s))=s:=
 up_eq (u.sublist kY) S.1 λc=>by
  rw[sD,decide_eq_true_iff];exact⟨λh=>h.2,λh=>⟨S.2 c h,h⟩⟩
theorem G5:∀{L:List (List Cell×List bO)},L.lookup u=ai r->(u,r)∈L
 |z::L,h=>by
  rw[nS]at h;by_cases e:u=z.1;subst e;rw[bi7]at h;cases h;exact .head _;rw[show(u==z.1)=b4 by simpa using e]at h;exact .tail _ (G5 h)
def Wz(u:bK aa)(hl:aa.length<=12)(S:bW aa aq):∃G,(∀s,s∈G↔Gg aa aq s)/\G.length<=4096/\G.Nodup/\jO t [.bN 2 (gR (jA aa aq (aq.length+1)))] =.ok (fD G):=by
 have l:=d7 u S;have k:=Dv t (by lia) (zw u hl) S (by lia) (aq.length+1);have b:=zw u hl _ k;obtain⟨G,h,e⟩:=Wy t (L:=jA aa aq (aq.length+1)) (by lia) λz m=>by have:=d7 u (k.2 z m);lia
 refine⟨G,λs=>?_,by rw[h.length_eq,bw];exact b,h.nodup_iff.mpr k.1,e⟩;rw[h.mem_iff,<- KC S,pP,aN];exact⟨λP=>P.elim λz c=>c.elim λm e=>⟨z,m,by rw[<- e];exact bi7 _⟩,λZ=>Z.elim λz a=>a.elim λm e=>⟨z,m,bj1 e⟩⟩
def aJ3(aa aq u:List Cell)(d:D):Prop:=(k8 aq≠k8 u/\d=.tup [.str "never",.tup [.str "class"]])\/(∃row,lQ aa aq row/\eE aq row=u/\d=.tup [.str "leaps",cQ row])\/∃G,(∀s,s∈G↔Gg aa aq s)/\G.length<=4096/\G.Nodup/\¬ Gg aa aq u/\d=.tup [.str "never",.tup [.str "closed",fD G]]
def WA{f:DF}{st:gM}{d:D}(h:f st=.ok d)(n:AQ d=bT):vA f st=.rt d:=by
 unfold vA;rw[h];dsimp only;rw[bh6 n]
def SS(a:bK aa)(hl:aa.length<=12)(S:bW aa aq)(f:bW aa u) :
  ∃d:D,aJ3 aa aq u d/\qk t [bB aa,aD aq,aD u] =.ok d:=by
 have I:=d7 a S;have J:=d7 a f;have v:=(jZ t (aa:=aa) (aq:=aq) (by lia)).1 S;have w:=(jZ t (aa:=aa) (aq:=u) (by lia)).1 f;have x:=wL t (aa:=aa) (aq:=aq) (by lia) S;have y:=wL t (aa:=aa) (aq:=u) (by lia) f;have l:=SO t (by lia) (zw a hl) S (by lia);have A:∀z,(aL (i9 bT) (bh (fj t) (af (ah 0) (af (ah 1) az))) (bh (fj t) (af (ah 0) (af (ah 2) az)))) [ai (bB aa),ai (aD aq),ai (aD u),z] =.ok (.bl (!decide (k8 aq=k8 u))):=λz=>
  eV (a:=v7 aq) (b:=v7 u) (tP (a:=bB aa) (b:=aD aq) rfl rfl x) (tP (a:=bB aa) (b:=aD u) rfl rfl y) (by rw[tQ];rfl)
 have b:=A aj;suffices h:∃d:D,aJ3 aa aq u d/\(aZ (Dm.bS (aL (i9 bT) (bh (fj t) (af (ah 0) (af (ah 1) az))) (bh (fj t) (af (ah 0) (af (ah 2) az))))
 (vA (bY 100 (af (dC (.str "never")) (af (bY 100 (af (dC (.str "class")) az)) az))))
 bf)
 (aZ (cB 3 (bh (jD t) (af (ah 0) (af (ah 1) az))))
 (aZ (Dm.bS (aL (mT b4) (bh gW (af (ah 2) az)) (ah 3))
 (vA (EY "leaps" (aL r8 (ah 3) (bh gW (af (ah 2) az)))))
 bf)
 (cP (F6 "never" "closed" (bh (jO t) (af (ah 3) az))))))) [ai (bB aa),ai (aD aq),ai (aD u),aj] =.rt d by
  obtain⟨d,C,h⟩:=h
  refine⟨d,C,?_⟩
  unfold qk
  refine cJ [ai (bB aa),ai (aD aq),ai (aD u),aj] ?_
  rw[aK (oH (tP (a:=bB aa) (b:=aD aq) rfl rfl v)),aK (oH (tP (a:=bB aa) (b:=aD u) rfl rfl w))]
  exact h
 by_cases g:k8 aq=k8 u;rw[bh8 g]at b;rw[aK (st':=[ai (bB aa),ai (aD aq),ai (aD u),aj]) (by rw[ir b];rfl)];have i:=KC (u:=u) S;obtain⟨G,E,F,H,n⟩:=Wz t a hl S;have o:∀z∈jA aa aq (aq.length+1),lQ aa aq z.2/\eE aq z.2=z.1:=λz m=>by obtain⟨k,_,p⟩:=zx m;exact⟨(s8 S k z p).ok,(s8 S k z p).wk⟩
 generalize M:jA aa aq (aq.length+1)=L at l i n o;rw[aK (st':=[ai (bB aa),ai (aD aq),ai (aD u),ai (.bN 2 (gR L))]) (fq (tP (a:=bB aa) (b:=aD aq) rfl rfl l))];have j:(bh gW (af (ah 2) az)) [ai (bB aa),ai (aD aq),ai (aD u),ai (.bN 2 (gR L))] =.ok (tS u):=Aj (a:=aD u) rfl (qJ _);have e:=G3 b4 u L;by_cases c:Gg aa aq u;have X:=i.mpr c;obtain⟨r,hr⟩:=Fr.Bd u L X;rw[X]at e;have s:=o _ (G5 hr);refine⟨_,.inr (.inl ⟨r,s.1,s.2,rfl⟩),mU ?_⟩;rw[nE (eV (a:=tS u) (b:=.bN 2 (gR L)) j rfl e)];refine WA ?_ rfl;unfold EY;rw[eV (a:=.bN 2 (gR L)) (b:=tS u) rfl j (Ww hr)];have X:L.any (·.1==u)=b4:=uu.mpr λz=>c (i.mp z);rw[X]at e;rw[aK (st':=[ai (bB aa),ai (aD aq),ai (aD u),ai (.bN 2 (gR L))]) (by rw[ir (eV (a:=tS u) (b:=.bN 2 (gR L)) j rfl e)];rfl)];refine⟨_,.inr (.inr ⟨G,E,F,H,c,rfl⟩),ez ?_⟩;unfold F6;rw[Aj (a:=.bN 2 (gR L)) rfl n];rfl;rw[bh9 g]at b;refine⟨_,.inl ⟨g,rfl⟩,mU ?_⟩;rw[nE b];rfl
end Pk
namespace Pk
open L2 Dm
variable (t:iX)
def fn4{g:List D->R D}{f1 f2 f3 f4:DF}{st:gM}(h1:f1 st=.ok a)(d:f2 st=.ok b)(f:f3 st=.ok c)(i:f4 st=.ok e)(h:g [a,b,c,e]=r):bh g (af f1 (af f2 (af f3 (af f4 az)))) st=r:=by simp[h1,d,f,i,h]
def zE{f:DF}(h:f st=.ok (.lst ds)):di f st=.ok ds:=by rw[aI2,h]
def SV:gI t [.tup [.str "class"]] =.ok (.bl bT):=by
 unfold gI;refine cJ [ai (.tup [.str "class"])] ?_;rw[aK (st':=[ai (.tup [.str "class"])]) (by rw[ir (qq (vI (b:=bT) rfl) (eV (a:=.int 1) (b:=.int 0) rfl rfl (by rw[gJ];rfl)))];rfl)];refine mU ?_;rw[nE (eV (a:=.str "class") (b:=.str "class") rfl rfl rfl)];exact ez (eV (a:=.int 1) (b:=.int 1) rfl rfl (by rw[gJ];rfl))
def SW(a:G.length<=4096):gI t [.tup [.str "closed",fD G]] =.ok (.bl bT):=by
 unfold gI;refine cJ [ai (.tup [.str "closed",fD G])] ?_;rw[aK (st':=[ai (.tup [.str "closed",fD G])]) (by rw[ir (qq (vI (b:=bT) rfl) (eV (a:=.int 2) (b:=.int 0) rfl rfl (by rw[gJ];rfl)))];rfl),
  aK (st':=[ai (.tup [.str "closed",fD G])]) (by rw[ir (eV (a:=.str "closed") (b:=.str "class") rfl rfl rfl)];rfl),
  aK (st':=[ai (.tup [.str "closed",fD G])]) (by rw[ir (qq (eV (a:=.int 2) (b:=.int 2) rfl rfl (by rw[gJ];rfl)) (qq (eV (a:=.str "closed") (b:=.tup [.str "weights",.str "closed"]) rfl rfl rfl) (vI (b:=bT) rfl)))];rfl)]
 refine mU ?_;rw[nE (eV (a:=.str "closed") (b:=.str "closed") rfl rfl rfl)];exact ez (Aj (ie (ds:=G.map aD) rfl (by rw[bw];lia) (comp_map (S:=λs=>[ai (aD s)]) (P:=λst=>∃y,st=[y]) G (λx _=>⟨_,rfl⟩) (λx _ st l=>by obtain⟨y,e⟩:=l;subst e;rfl) (λx _=>rfl) (λx _=>rfl) _ ⟨aj,rfl⟩)) (all_true G))
def MA(l:g.length<=50)(a:u.length<=50)(h:k8 g≠k8 u)(x:D):gH t [x,aD g,aD u,.tup [.str "class"]] =.ok (.bl bT):=by
 unfold gH;refine cJ [ai x,ai (aD g),ai (aD u),ai (.tup [.str "class"]),aj,aj,aj] (mU ?_);rw[nE (eV (a:=.str "class") (b:=.str "class") rfl rfl rfl)];exact ez (eV (a:=v7 g) (b:=v7 u) (Aj (a:=aD g) rfl (tR t l)) (Aj (a:=aD u) rfl (tR t a)) (by rw[tQ];simp[h]))
def MB(a:bK l)(hl:l.length<=12)(lW:(aV l).length<64)(S:bW l g)(h:∀s,s∈G↔Gg l g s)(n:¬ Gg l g u):gH t [aD l,aD g,aD u,.tup [.str "closed",fD G]] =.ok (.bl bT):=by
 have g1:=tU bT g G;rw[bh8 ((h g).mpr ⟨[],trivial,rfl⟩)]at g1;have g2:=tU b4 u G;rw[bh9 λm=>n ((h u).mp m)]at g2;unfold gH;refine cJ [ai (aD l),ai (aD g),ai (aD u),ai (.tup [.str "closed",fD G]),aj,aj,aj] ?_;rw[aK (st':=[ai (aD l),ai (aD g),ai (aD u),ai (.tup [.str "closed",fD G]),aj,aj,aj]) (by rw[ir (eV (a:=.str "closed") (b:=.str "class") rfl rfl rfl)];rfl)];refine mU ?_;rw[nE (eV (a:=.str "closed") (b:=.str "closed") rfl rfl rfl),
  aK (st':=[ai (aD l),ai (aD g),ai (aD u),ai (.tup [.str "closed",fD G]),aj,aj,aj]) (by rw[ir (qq (eV (a:=aD g) (b:=fD G) rfl rfl g1) (eV (a:=aD u) (b:=fD G) rfl rfl g2))];rfl)]
 obtain⟨st',b,x,y,z,d⟩:=gZ (bind:=br 4) (F:=(aZ (Dm.bS (aL (i9 bT) (ah 4) (dm (di (ah 0)) 1 [4] (br 0) (aL (iT b4) (ah 0) (ah 1)) (aX (ah 0))))
 (cP (dC (.bl b4)))
 bf)
 (cZ (di (bh (eZ t) (af (ah 0) (af (ah 4) az)))) (br 5)
 (Dm.bS (aL (iT bT) (bh (dw t) (af (ah 4) (af (ah 5) az))) (aL dh (ah 3) (dC (.int 1))))
 (cP (dC (.bl b4)))
 bf)))) (f:=aD) (Q:=λ_ st=>∃x y z,st=[ai (aD l),ai (aD g),ai (aD u),ai (.tup [.str "closed",fD G]),x,y,z]) G [] [ai (aD l),ai (aD g),ai (aD u),ai (.tup [.str "closed",fD G]),aj,aj,aj] (λp s r e st f=>by
  obtain⟨x,y,z,rfl⟩:=f
  rw[dQ]at e
  have o:s∈G:=by rw[e];simp
  have i:=(h s).mp o
  have j:=i.qV S
  have C:=d7 a j
  obtain⟨st',b,v,d⟩:=gZ (bind:=br 5) (F:=(Dm.bS (aL (iT bT) (bh (dw t) (af (ah 4) (af (ah 5) az))) (aL dh (ah 3) (dC (.int 1))))
 (cP (dC (.bl b4)))
 bf)) (f:=lD) (Q:=λ_ st=>∃y,st=[ai (aD l),ai (aD g),ai (aD u),ai (.tup [.str "closed",fD G]),ai (aD s),y,z]) (FI l s) [] [ai (aD l),ai (aD g),ai (aD u),ai (.tup [.str "closed",fD G]),ai (aD s),y,z] (λp q r e st f=>by
   obtain⟨y,rfl⟩:=f
   rw[dQ]at e
   have w:q∈FI l s:=by rw[e];simp
   have k:=tU bT (cu s q) G
   rw[bh8 ((h _).mpr (i.snoc w))]at k
   refine⟨[ai (aD l),ai (aD g),ai (aD u),ai (.tup [.str "closed",fD G]),ai (aD s),ai (lD q),z],_,rfl,?_,ai (lD q),rfl⟩
   rw[ir (eV (a:=aD (cu s q)) (b:=fD G) (tP (a:=aD s) (b:=lD q) rfl rfl (v8 t q (by lia))) rfl k)]
   rfl) ⟨y,rfl⟩
  subst d
  refine⟨[ai (aD l),ai (aD g),ai (aD u),ai (.tup [.str "closed",fD G]),ai (aD s),y,z],_,rfl,?_,ai (aD s),v,z,rfl⟩
  have A:(dm (di (ah 0)) 1 [4] (br 0) (aL (iT b4) (ah 0) (ah 1)) (aX (ah 0))) [ai (aD l),ai (aD g),ai (aD u),ai (.tup [.str "closed",fD G]),ai (aD s),y,z] =.ok (aD s):=by
   refine ie (ds:=l.map cD) rfl (by simp;lia) ?_
   rw[show s.map cD=(l.filter λc=>decide (c∈s)).map cD by rw[Ji a j]]
   refine iF (S:=λx=>[ai (cD x),ai (aD s)]) (P:=λst=>∃y,st=[y,ai (aD s)]) l (λx _=>⟨_,rfl⟩) (λx _ st ⟨y,e⟩=>by subst e;rfl) (λx _=>eV (a:=cD x) (b:=aD s) rfl rfl (by rw[fU];rfl)) (λx _ _=>by simp) _ ⟨aj,rfl⟩
  rw[aK (st':=[ai (aD l),ai (aD g),ai (aD u),ai (.tup [.str "closed",fD G]),ai (aD s),y,z]) (by
   rw[ir (eV (a:=aD s) (b:=aD s) rfl A (by rw[Dp];simp))];rfl)]
  unfold cZ
  rw[zE (tP (a:=aD l) (b:=aD s) rfl rfl (Ds t a (by lia) lW))]
  exact b) ⟨aj,aj,aj,rfl⟩
 subst d;rw[aK (F:=cZ (di (aL dh (ah 3) (dC (.int 1)))) (br 4) _) (by unfold cZ;rw[zE (ds:=G.map aD) (eV (a:=.tup [.str "closed",fD G]) (b:=.int 1) rfl rfl rfl)];exact b)];exact ez rfl
def SX(S:bW l g)(a:bW l u)(b:g.length<=50)(c:u.length<=50)(h:k8 g≠k8 u):oF t [bB l,aD g,aD u,.tup [.str "class"]] =.ok (.bl bT):=by
 have d:=(jZ t (aa:=l) (aq:=g) b).1 S;have e:=(jZ t (aa:=l) (aq:=u) c).1 a;unfold oF;refine cJ [ai (bB l),ai (aD g),ai (aD u),ai (.tup [.str "class"])] ?_;rw[aK (oH (tP (a:=bB l) (b:=aD g) rfl rfl d)),aK (oH (tP (a:=bB l) (b:=aD u) rfl rfl e))];refine mU ?_;rw[nE (eV (a:=.str "class") (b:=.str "class") rfl rfl rfl)];exact ez (eV (a:=v7 g) (b:=v7 u) (tP (a:=bB l) (b:=aD g) rfl rfl (wL t b S)) (tP (a:=bB l) (b:=aD u) rfl rfl (wL t c a)) (by rw[tQ];simp[h]))
def ag9(hs:∀s∈G,bW l s/\s.length<=12):iY t [bB l,fD G] =.ok (.bl bT):=by
 obtain⟨a,h,x,b⟩:=gZ (bind:=br 2) (F:=(oQ (bh (cW t) (af (ah 0) (af (ah 2) az))))) (f:=aD) (Q:=λ_ st=>∃x,st=[ai (bB l),ai (fD G),x]) G [] [ai (bB l),ai (fD G),aj] (λp s r e st z=>by
  obtain⟨x,rfl⟩:=z;rw[dQ]at e;obtain⟨S,c⟩:=hs s (by rw[e];simp);exact⟨[ai (bB l),ai (fD G),ai (aD s)],_,rfl,oH (tP (a:=bB l) (b:=aD s) rfl rfl ((jZ t (aa:=l) (aq:=s) (by lia)).1 S)),_,rfl⟩) ⟨aj,rfl⟩
 subst b;unfold iY;refine cJ [ai (bB l),ai (fD G),aj] ?_;rw[aK (F:=F0 _) (by unfold F0 cZ;rw[zE (f:=ah 1) (ds:=G.map aD) rfl];dsimp only;rw[h])];exact ez rfl
noncomputable def dB(G:List (List Cell)):List D:=G.flatMap λs=>[tS s,.bl bT]
noncomputable def Y0(G:List (List Cell)):List (List (List Int)×D×D):=G.map λs=>(kS s,tS s,.bl bT)
theorem zF:∀G,fC (dB G)=ai (Y0 G)
 |[]=>rfl
 |s::G=>by
  show fC (tS s :: .bl bT::dB G)=_;rw[fC,m9,zF G];rfl
def Bg(G:List (List Cell)):gv (ai (ai (.bN 2 (dB G))))=ai (dB G,Y0 G):=rT rfl (zF G)
def KG(G:List (List Cell))(b:List Cell):((Y0 G).map (·.1)).any (λk=>decide (k=kS b))=decide (b∈G):=by
 unfold Y0;rw[dY,Bx,mH,pP,decide_eq_true_iff];exact⟨λz=>by obtain⟨x,m,e⟩:=z;rw[<- zq (bi2 e)];exact m,λm=>⟨b,m,bh8 rfl⟩⟩
def WB(n:Bool)(b:List Cell)(G:List (List Cell)):mT n (tS b) (.bN 2 (dB G))=.ok (.bl (if n then !decide (b∈G)else decide (b∈G))):=by
 simp only[mT,m9,zF,KG]
def WC(G:List (List Cell))(s:List Cell):dB (G++[s])=dB G++[tS s,.bl bT]:=by unfold dB;rw[pN];rfl
def Jj(u:bK l)(hl:l.length<=12)(I:G.length<=4096)(n:G.Nodup)(hs:∀s∈G,bW l s)(o:∀s∈G,∀p∈FI l s,cu s p∈G):m8 t [bB l,fD G] =.ok (.bl bT):=by
 have v:=Kq t (aa:=l) (by lia);obtain⟨st',g,x,h⟩:=gZ (bind:=br 4) (F:=zS 3 (bh gW (af (ah 4) az)) (dC (.bl bT))) (f:=aD) (Q:=λpre st=>∃x,st=[ai (bB l),ai (fD G),ai (cQ (aV l)),ai (.bN 2 (dB pre)),x,aj,aj,aj]) G [] [ai (bB l),ai (fD G),ai (cQ (aV l)),ai (.bN 2 (dB [])),aj,aj,aj,aj] (λp s r e st f=>by
  obtain⟨x,rfl⟩:=f;rw[dQ]at e;have w:s∉p:=λm=>by rw[e,xq]at n;exact n.2.2 s m s (.head _) rfl
  have J:p.length<=4096:=by have:=congrArg List.length e;rw[bX]at this;lia
  refine⟨[ai (bB l),ai (fD G),ai (cQ (aV l)),ai (.bN 2 (dB p)),ai (aD s),aj,aj,aj],_,rfl,?_,ai (aD s),rfl⟩;unfold zS;show(match gv (ai (ai (.bN 2 (dB p))))with|some z=>_|none=>_)=_;rw[Bg,Aj (a:=aD s) rfl (qJ s)];show LS 3 _ (dB p,Y0 p) (tS s) (.bl bT)=_;unfold LS;rw[m9];dsimp only;rw[bh6 ⟨by unfold Y0;rw[bw];lia,by rw[KG,bh9 w],rfl⟩,WC];rfl) ⟨aj,rfl⟩
 rw[dQ]at h;subst h;obtain⟨st',g1,a,b,c,g2⟩:=gZ (bind:=br 5) (F:=cZ (di (bh (fP t) (af (ah 2) (af (ah 5) az)))) (gy 6 7)
 (Dm.bS (aL (mT bT) (ah 7) (ah 3))
 (cP (dC (.bl b4)))
 bf)) (f:=tS) (Q:=λ_ st=>∃a b c,st=[ai (bB l),ai (fD G),ai (cQ (aV l)),ai (.bN 2 (dB G)),x,a,b,c]) G [] [ai (bB l),ai (fD G),ai (cQ (aV l)),ai (.bN 2 (dB G)),x,aj,aj,aj] (λp s r e st f=>by
  obtain⟨a,b,c,rfl⟩:=f
  rw[dQ]at e
  have i:s∈G:=by rw[e];simp
  have L:=d7 u (hs s i)
  have A:=Kw t (aa:=l) (s:=s) (by lia) (by lia)
  obtain⟨st',g,C,E,h⟩:=gZ (bind:=gy 6 7) (F:=(Dm.bS (aL (mT bT) (ah 7) (ah 3))
 (cP (dC (.bl b4)))
 bf)) (f:=λq:bO×List Cell=>D.tup [lD q.1,tS q.2]) (Q:=λ_ st=>∃b c,st=[ai (bB l),ai (fD G),ai (cQ (aV l)),ai (.bN 2 (dB G)),x,ai (tS s),b,c]) (bV l s) [] [ai (bB l),ai (fD G),ai (cQ (aV l)),ai (.bN 2 (dB G)),x,ai (tS s),b,c] (λp q r e st f=>by
   obtain⟨b,c,rfl⟩:=f
   rw[dQ]at e
   have j:q∈bV l s:=by rw[e];simp
   unfold bV at j
   obtain⟨d,F,rfl⟩:=aN.mp j
   have k:=WB bT (cu s d) G
   rw[bh8 (o s i d F)]at k
   refine⟨[ai (bB l),ai (fD G),ai (cQ (aV l)),ai (.bN 2 (dB G)),x,ai (tS s),ai (lD d),ai (tS (cu s d))],_,rfl,?_,ai (lD d),ai (tS (cu s d)),rfl⟩
   rw[ir (eV (a:=tS (cu s d)) (b:=.bN 2 (dB G)) rfl rfl k)]
   rfl) ⟨b,c,rfl⟩
  subst h
  refine⟨[ai (bB l),ai (fD G),ai (cQ (aV l)),ai (.bN 2 (dB G)),x,ai (tS s),b,c],_,rfl,?_,ai (tS s),C,E,rfl⟩
  unfold cZ
  rw[zE (tP (a:=cQ (aV l)) (b:=tS s) rfl rfl A)]
  exact g) ⟨aj,aj,aj,rfl⟩
 subst g2;unfold m8;refine cJ [ai (bB l),ai (fD G),aj,aj,aj,aj,aj,aj] ?_;rw[aK (st':=[ai (bB l),ai (fD G),ai (cQ (aV l)),aj,aj,aj,aj,aj]) (fq (Aj (a:=bB l) rfl v)),
  aK (st':=[ai (bB l),ai (fD G),ai (cQ (aV l)),ai (.bN 2 (dB [])),aj,aj,aj,aj]) (fq rfl),
  aK (F:=cZ (di (ah 1)) (br 4) _) (by unfold cZ;rw[zE (f:=ah 1) (ds:=G.map aD) rfl];exact g)]
 unfold dSw;rw[aK (F:=cZ (CO (ah 3)) (br 5) _) (by
  have H:CO (ah 3) [ai (bB l),ai (fD G),ai (cQ (aV l)),ai (.bN 2 (dB G)),x,aj,aj,aj] =.ok (G.map tS):=by unfold CO;show(match gv (ai (ai (.bN 2 (dB G))))with|some y=>_|none=>_)=_;rw[Bg];show R.ok ((Y0 G).map λt=>t.2.1)=_;unfold Y0;rw[dY];rfl
  unfold cZ;rw[H];exact g1)]
 rfl
def SY(a:bK l)(hl:l.length<=12)(S:bW l g)(c:bW l u)(h:∀s,s∈G↔Gg l g s)(d:G.length<=4096)(n:G.Nodup)(e:¬ Gg l g u):oF t [bB l,aD g,aD u,.tup [.str "closed",fD G]] =.ok (.bl bT):=by
 have v:=d7 a S;have w:=d7 a c;have f:=(jZ t (aa:=l) (aq:=g) (by lia)).1 S;have i:=(jZ t (aa:=l) (aq:=u) (by lia)).1 c;have b:∀s∈G,bW l s:=λs m=>((h s).mp m).qV S;have g1:=tU bT g G;rw[bh8 ((h g).mpr ⟨[],trivial,rfl⟩)]at g1;have g2:=tU b4 u G;rw[bh9 λm=>e ((h u).mp m)]at g2;have j:=ag9 t (l:=l) (G:=G) λs m=>⟨b s m,by have:=d7 a (b s m);lia⟩
 have k:=Jj t a hl d n b λs m p o=>(h _).mpr (((h s).mp m).snoc o);have r:jE t [bB l,aD g,aD u,fD G] =.ok (.bl bT):=by
  unfold jE;refine cJ [ai (bB l),ai (aD g),ai (aD u),ai (fD G)] ?_;rw[aK (st':=[ai (bB l),ai (aD g),ai (aD u),ai (fD G)]) (by
   rw[ir (qq (vI (b:=bT) (tP (a:=bB l) (b:=fD G) rfl rfl j)) (qq (eV (a:=aD g) (b:=fD G) rfl rfl g1) (eV (a:=aD u) (b:=fD G) rfl rfl g2)))];rfl)]
  exact ez (tP (a:=bB l) (b:=fD G) rfl rfl k)
 unfold oF;refine cJ [ai (bB l),ai (aD g),ai (aD u),ai (.tup [.str "closed",fD G])] ?_;rw[aK (oH (tP (a:=bB l) (b:=aD g) rfl rfl f)),aK (oH (tP (a:=bB l) (b:=aD u) rfl rfl i)),
  aK (st':=[ai (bB l),ai (aD g),ai (aD u),ai (.tup [.str "closed",fD G])]) (by rw[ir (eV (a:=.str "closed") (b:=.str "class") rfl rfl rfl)];rfl),
  aK (st':=[ai (bB l),ai (aD g),ai (aD u),ai (.tup [.str "closed",fD G])]) (by rw[ir (eV (a:=.str "closed") (b:=.str "weights") rfl rfl rfl)];rfl)]
 exact ez (fn4 (a:=bB l) (b:=aD g) (c:=aD u) (e:=fD G) rfl rfl rfl rfl r)
end Pk
namespace Pk
open L2 Dm
variable (t:iX)
def Y3{f g:DF}{st:gM}{a b:Bool}(h:f st=.ok (.bl a))(c:g st=.ok (.bl b)):j8 f g st=.ok (.bl (a&&b)):=by cases a <;> simp[h,c]
def Jk{f:DF}{st:gM}(h:f st=.ok (aD w)):(bh gQ (af f az)) st=.ok (.int (w.length:Nat)):=Aj h (by unfold aD;rw[ad2,bw])
noncomputable def T4:DS:=(Dm.bS (j8 (aL gGe (bh gQ (af (ah 4) az)) (bh gQ (af (ah 2) az))) (j8 (aL (iT b4) (ah 5) (ah 4)) (aL yy (bh gQ (af (ah 4) az)) (dC (.int 0)))))
 (cB 4 (dm (di (ah 4)) 1 [5] (br 0) (aL (i9 bT) (ah 0) (ah 1)) (aX (ah 0))))
 bf)
def ah0(hl:l.length<=12)(u:bK l)(x:Cell)(a b:D)(W:bW l w)(y z:Option D):∃d,bW l d/\T4 [ai a,ai (aD l),ai (aD g),ai b,ai (aD w),ai (cD x),y,z] =.nx [ai a,ai (aD l),ai (aD g),ai b,ai (aD d),ai (cD x),y,z]:=by
 have i:=d7 u W;obtain⟨c,h⟩:∃c:Bool,(j8 (aL gGe (bh gQ (af (ah 4) az)) (bh gQ (af (ah 2) az))) (j8 (aL (iT b4) (ah 5) (ah 4)) (aL yy (bh gQ (af (ah 4) az)) (dC (.int 0))))) [ai a,ai (aD l),ai (aD g),ai b,ai (aD w),ai (cD x),y,z] =.ok (.bl c):=
  ⟨_,Y3 (eV (Jk (w:=w) rfl) (Jk (w:=g) rfl) (bd3 ..)) (Y3 (eV (a:=cD x) (b:=aD w) rfl rfl (fU ..)) (eV (Jk (w:=w) rfl) (b:=.int 0) rfl (VX ..)))⟩
 unfold T4;cases c with
 |false=>exact⟨w,W,(ir h).trans rfl⟩
 |true=>refine⟨w.filter λc=>!decide (c=x),⟨W.1.sublist kY,λc m=>W.2 c (kY.subset m)⟩,(nE h).trans (fq ?_)⟩;refine ie (ds:=w.map cD) rfl (by simp;lia) ?_;exact iF (S:=λc=>[ai (cD c),ai (cD x)]) (P:=λst=>∃y,st=[y,ai (cD x)]) w (λx _=>⟨_,rfl⟩) (λx _ st f=>by obtain⟨y,e⟩:=f;subst e;rfl) (λc _=>eV (a:=cD c) (b:=cD x) rfl rfl (by rw[Ks];rfl)) (λx _ _=>by simp) _ ⟨aj,rfl⟩
def pick(t:iX):DS:=(aZ (cB 7 (dm (CK (ah 1)) 2 [0,6] (gy 0 1) (aL (i9 b4) (bh (b7 t) (af (bh (aO t) (af (ah 2) (af (dC (.int 5)) az))) (af (aL iE (aL ou (dC (.int 9)) (ah 3)) (ah 0)) (af (dC (.int 3)) az)))) (dC (.int 0))) (aX (ah 1))))
 (Dm.bS (aL (i9 b4) (bh (dI t) (af (ah 7) az)) (bh (dI t) (af (ah 2) az)))
 (cB 4 (ah 7))
 bf))
def ah1{ns:List Int}(hl:l.length<=12)(d:bK l)(S:bW l g)(b:D)(W:bW l w)(y z:Option D)(k:Nat):∃i m,bW l i/\pick t [ai (iL ns),ai (aD l),ai (aD g),ai b,ai (aD w),y,ai (.int (k:Nat)),z] =.nx [ai (iL ns),ai (aD l),ai (aD g),ai b,ai (aD i),y,ai (.int (k:Nat)),m]:=by
 obtain⟨c,X⟩:∃c:Int,aO t [iL ns,.int 5] =.ok (.int c):=⟨_,Jb t ns 5⟩
 have n:=d7 d S;have f:(dm (CK (ah 1)) 2 [0,6] (gy 0 1) (aL (i9 b4) (bh (b7 t) (af (bh (aO t) (af (ah 2) (af (dC (.int 5)) az))) (af (aL iE (aL ou (dC (.int 9)) (ah 3)) (ah 0)) (af (dC (.int 3)) az)))) (dC (.int 0))) (aX (ah 1))) [ai (iL ns),ai (aD l),ai (aD g),ai b,ai (aD w),y,ai (.int (k:Nat)),z] =.ok (aD ((l.zipIdx.filter λx=>!Ak t c 3 (9*k+x.2)).map (·.1))):=by
  show _=R.ok (D.lst (List.map cD (List.map _ _)));rw[dY];refine ie (ds:=l.zipIdx.map λp=>.tup [.int (p.2:Nat),cD p.1]) ?_ (by simp;lia) ?_;simp[CK,Km];refine iF (S:=λx=>[ai (.int (x.2:Nat)),ai (cD x.1),ai (iL ns),ai (.int (k:Nat))]) (P:=λst=>∃y z,st=[y,z,ai (iL ns),ai (.int (k:Nat))]) l.zipIdx (λx _=>⟨_,_,rfl⟩) (λx _ st o=>by obtain⟨y,z,e⟩:=o;subst e;rfl) (λx _=>?_) (λx _ _=>by simp) _ ⟨aj,aj,rfl⟩;obtain⟨v,r,A,j⟩:=qu t c ((9*k+x.2:Nat):Int) 3 (by decide);have e:Ak t c 3 (9*k+x.2)=decide (0<v):=by unfold Ak;rw[j]
  refine eV (a:=.int v) (b:=.int 0) (fn3 (a:=.int c) (b:=.int ((9*k+x.2:Nat):Int)) (c:=.int 3) (tP (a:=iL ns) (b:=.int 5) rfl rfl X) (eV (a:=.int (9*(k:Int))) (b:=.int (x.2:Nat)) (eV (a:=.int 9) (b:=.int (k:Nat)) rfl rfl (rX (by decide))) rfl ?_) rfl j) rfl ?_;rfl;rw[gJ,e];by_cases h:v=0;simp[h];have:0<v:=by lia
  simp[h,this]
 have s:bW l ((l.zipIdx.filter λx=>!Ak t c 3 (9*k+x.2)).map (·.1)):=.sub d (by
  have:=(kY (p:=λx:Cell×Nat=>!Ak t c 3 (9*k+x.2)) (l:=l.zipIdx)).map Prod.fst;rwa [NZ]at this)
 generalize (l.zipIdx.filter λx=>!Ak t c 3 (9*k+x.2)).map (·.1)=u at f s;have C:=d7 d s;have a:(aL (i9 b4) (bh (dI t) (af (ah 7) az)) (bh (dI t) (af (ah 2) az))) [ai (iL ns),ai (aD l),ai (aD g),ai b,ai (aD w),y,ai (.int (k:Nat)),ai (aD u)] =.ok (.bl (decide (k8 u=k8 g))):=
  eV (a:=v7 u) (b:=v7 g) (Aj (a:=aD u) rfl (tR t (by lia))) (Aj (a:=aD g) rfl (tR t (by lia))) (tQ ..)
 unfold pick;by_cases h:k8 u=k8 g;rw[bh8 h]at a;refine⟨u,ai (aD u),s,?_⟩;rw[aK (fq f)];exact(nE a).trans rfl;rw[bh9 h]at a;refine⟨w,ai (aD u),W,?_⟩;rw[aK (fq f)];exact(ir a).trans rfl
def T5(ns:List Int)(j:bK l)(h1:1<=l.length)(hl:l.length<=12)(lW:(aV l).length<64)(S:bW l g):∃u,bW l u/\iI t [iL ns,aD l,aD g] =.ok (aD u):=by
 obtain⟨m,n⟩:∃c:Int,aO t [iL ns,.int 3] =.ok (.int c):=⟨_,Jb t ns 3⟩
 obtain⟨o,C⟩:∃c:Int,aO t [iL ns,.int 4] =.ok (.int c):=⟨_,Jb t ns 4⟩
 have Z:=d7 j S;have Q:gw (.int o) (.int 4)=.ok (.int (o % 4)):=kP (by decide);generalize o % 4=v at Q;suffices h:∃u,bW l u/\(aZ (Dm.bS (aL (i9 b4) (ah 3) (dC (.int 0)))
 (cP (aL dh (bh (jg t) (af (ah 1) (af (ah 2) (af (bh (aO t) (af (ah 0) (af (dC (.int 3)) az))) (af (dC (.int 8)) az))))) (dC (.int 1))))
 bf)
 (aZ (cB 4 (bh (fm t) (af (bh (aO t) (af (ah 0) (af (dC (.int 3)) az))) (af (ah 1) az))))
 (aZ (Dm.bS (aL yy (ah 3) (dC (.int 1)))
 (cZ (di (ah 1)) (br 5) T4)
 bf)
 (aZ (Dm.bS (aL yy (ah 3) (dC (.int 2)))
 (cZ (qM (af (dC (.int 8)) az)) (br 6) (pick t))
 bf)
 (cP (ah 4)))))) [ai (iL ns),ai (aD l),ai (aD g),ai (.int v),aj,aj,aj,aj] =.rt (aD u) by
  obtain⟨u,U,h⟩:=h
  refine⟨u,U,?_⟩
  unfold iI
  refine cJ [ai (iL ns),ai (aD l),ai (aD g),aj,aj,aj,aj,aj] ?_
  rw[aK (st':=[ai (iL ns),ai (aD l),ai (aD g),ai (.int v),aj,aj,aj,aj]) (fq (eV (a:=.int o) (b:=.int 4) (tP (a:=iL ns) (b:=.int 4) rfl rfl C) rfl Q))]
  exact h
 by_cases T:v=0;obtain⟨row,ok,lr,E⟩:=af3 t m (most:=8) (by decide) S (by lia) j (by lia) lW;have E:jg t [aD l,aD g,.int m,.int 8] =.ok (.tup [cQ row,aD (eE g row)]):=E;refine⟨eE g row,S.row ok,mU ?_⟩;rw[nE (eV (a:=.int v) (b:=.int 0) rfl rfl (by rw[gJ];simp[T]))];exact ez (eV (a:=.tup [cQ row,aD (eE g row)]) (b:=.int 1) (fn4 (a:=aD l) (b:=aD g) (c:=.int m) (e:=.int 8) rfl rfl (tP (a:=iL ns) (b:=.int 3) rfl rfl n) rfl E) rfl rfl);rw[aK (st':=[ai (iL ns),ai (aD l),ai (aD g),ai (.int v),aj,aj,aj,aj]) (by rw[ir (eV (a:=.int v) (b:=.int 0) rfl rfl (by rw[gJ];simp[T]))];rfl)];obtain⟨w,X,F⟩:=Sf t m (l:=l) h1 (by lia);have W:bW l w:=.sub j F;rw[aK (st':=[ai (iL ns),ai (aD l),ai (aD g),ai (.int v),ai (aD w),aj,aj,aj]) (fq (tP (a:=.int m) (b:=aD l) (tP (a:=iL ns) (b:=.int 3) rfl rfl n) rfl X))];obtain⟨b,a,s,H⟩:∃b a,bW l b/\(Dm.bS (aL yy (ah 3) (dC (.int 1))) (cZ (di (ah 1)) (br 5) T4) bf) [ai (iL ns),ai (aD l),ai (aD g),ai (.int v),ai (aD w),aj,aj,aj] =.nx [ai (iL ns),ai (aD l),ai (aD g),ai (.int v),ai (aD b),a,aj,aj]:=by
  have d:(aL yy (ah 3) (dC (.int 1))) [ai (iL ns),ai (aD l),ai (aD g),ai (.int v),ai (aD w),aj,aj,aj] =.ok (.bl (decide (1<v))):=eV (a:=.int v) (b:=.int 1) rfl rfl (VX ..);cases hb:decide (1<v)with
  |false=>rw[hb]at d;exact⟨w,aj,W,(ir d).trans rfl⟩
  |true=>
   rw[hb]at d;obtain⟨st',I,b,a,s,J⟩:=gZ (bind:=br 5) (F:=T4) (f:=cD) (Q:=λ_ st=>∃w y,bW l w/\st=[ai (iL ns),ai (aD l),ai (aD g),ai (.int v),ai (aD w),y,aj,aj]) l [] [ai (iL ns),ai (aD l),ai (aD g),ai (.int v),ai (aD w),aj,aj,aj] (λp x r e st L=>by
    obtain⟨w,y,W,rfl⟩:=L;obtain⟨M,N,h⟩:=ah0 (g:=g) hl j x (iL ns) (.int v) W aj aj;exact⟨[ai (iL ns),ai (aD l),ai (aD g),ai (.int v),ai (aD w),ai (cD x),aj,aj],_,rfl,h,M,_,N,rfl⟩) ⟨w,aj,W,rfl⟩
   subst J;exact⟨b,a,s,(nE d).trans (by unfold cZ;rw[zE (f:=ah 1) (ds:=l.map cD) rfl];exact I)⟩
 rw[aK H];obtain⟨f,z,A,O,P⟩:∃f z A,bW l f/\(Dm.bS (aL yy (ah 3) (dC (.int 2))) (cZ (qM (af (dC (.int 8)) az)) (br 6) (pick t)) bf) [ai (iL ns),ai (aD l),ai (aD g),ai (.int v),ai (aD b),a,aj,aj] =.nx [ai (iL ns),ai (aD l),ai (aD g),ai (.int v),ai (aD f),a,z,A]:=by
  have d:(aL yy (ah 3) (dC (.int 2))) [ai (iL ns),ai (aD l),ai (aD g),ai (.int v),ai (aD b),a,aj,aj] =.ok (.bl (decide (2<v))):=eV (a:=.int v) (b:=.int 2) rfl rfl (VX ..);cases hb:decide (2<v)with
  |false=>rw[hb]at d;exact⟨b,aj,aj,s,(ir d).trans rfl⟩
  |true=>
   rw[hb]at d;obtain⟨st',I,f,z,A,O,J⟩:=gZ (bind:=br 6) (F:=pick t) (f:=λi:Nat=>D.int (i:Nat)) (Q:=λ_ st=>∃w x y,bW l w/\st=[ai (iL ns),ai (aD l),ai (aD g),ai (.int v),ai (aD w),a,x,y]) (cY 8) [] [ai (iL ns),ai (aD l),ai (aD g),ai (.int v),ai (aD b),a,aj,aj] (λp k r e st L=>by
    obtain⟨w,x,y,W,rfl⟩:=L;obtain⟨M,z',N,h⟩:=ah1 t (ns:=ns) hl j S (.int v) W a y k;exact⟨[ai (iL ns),ai (aD l),ai (aD g),ai (.int v),ai (aD w),a,ai (.int (k:Nat)),y],_,rfl,h,M,_,_,N,rfl⟩) ⟨b,aj,aj,s,rfl⟩
   subst J;have Y:qM (af (dC (.int 8)) az) [ai (iL ns),ai (aD l),ai (aD g),ai (.int v),ai (aD b),a,aj,aj] =.ok ((cY 8).map λi:Nat=>D.int (i:Nat)):=rfl;exact⟨f,z,A,O,(nE d).trans (by unfold cZ;rw[Y];exact I)⟩
 rw[aK P];exact⟨f,O,ez rfl⟩
theorem KH:∀F:List (List Cell),eT (F.map aD) (F.map aD)=bT
 |[]=>by simp[eT]
 |a::F=>by rw[bz,eT,Dw,bh8 rfl,uv];exact KH F
def WD(n:Bool)(F:List (List Cell)):i9 n (fD F) (fD F)=.ok (.bl (!n)):=by
 have fl:∀a:List Cell,flat (aD a)=bT:=λa=>by unfold aD;rw[flat];exact z7 a
 have dp:∀a:List Cell,dep (aD a)<=2:=λa=>by have:=qH a;unfold aD;rw[dep];lia
 have f:flat (fD F)=bT:=by unfold fD;rw[flat];exact iC λd hd=>by obtain⟨c,_,rfl⟩:=aN.mp hd;exact fl c
 have b:dep (fD F)<=60:=by
  have:=nW (n:=2) (ds:=F.map aD) λd hd=>by obtain⟨c,_,rfl⟩:=aN.mp hd;exact dp c
  unfold fD;rw[dep];lia
 have e:iJ (fD F) (fD F)=bT:=by unfold fD;rw[iJ];exact KH F
 unfold i9;rw[f,bh6 (by simp[b]),e];cases n <;> rfl
def ah3(c:Int)(st:gM)(f:DF)(h:f st=.ok (.int c)):∃m:Nat,(m=8\/m=12)/\(aL dh (cF 100 (af (dC (.int 8)) (af (dC (.int 8)) (af (dC (.int 8)) (af (dC (.int 12)) az))))) (aL gw (aL n9 f (dC (.int 4))) (dC (.int 4)))) st=.ok (.int (m:Nat)):=by
 have e:(aL gw (aL n9 f (dC (.int 4))) (dC (.int 4))) st=.ok (.int (c / 4 % 4)):=eV (a:=.int (c / 4)) (b:=.int 4) (eV (a:=.int c) (b:=.int 4) h rfl (B7 (by decide) (by decide))) rfl (kP (by decide));have a:(cF 100 (af (dC (.int 8)) (af (dC (.int 8)) (af (dC (.int 8)) (af (dC (.int 12)) az))))) st=.ok (.lst [.int 8,.int 8,.int 8,.int 12]):=rfl;have b:0<=c / 4 % 4:=by lia
 have d:c / 4 % 4<4:=by lia
 generalize c / 4 % 4=j at e b d;have:j=0\/j=1\/j=2\/j=3:=by lia
 rcases this with rfl|rfl|rfl|rfl;exact⟨8,.inl rfl,eV a e rfl⟩;exact⟨8,.inl rfl,eV a e rfl⟩;exact⟨8,.inl rfl,eV a e rfl⟩;exact⟨12,.inr rfl,eV a e rfl⟩
theorem Jl:∀{a:List bO} {s:List Cell},lQ aa s (a++x::b)->lQ aa s a/\x∈FI aa (eE s a)
 |[],s,h=>⟨trivial,h.1⟩
 |p::a,s,h=>⟨⟨h.1,(Jl (a:=a) h.2).1⟩,(Jl (a:=a) h.2).2⟩
def T6{G:List (List Cell)}(h:∀s∈G,s.length<=12):lnB (G.map aD)=bT:=dZ.mpr λd m=>by
 obtain⟨s,a,rfl⟩:=aN.mp m;have:=h s a;show(dR (s.map cD)&&decide ((s.map cD).length<=400))=bT;rw[Kg,uv,decide_eq_true_iff,bw];lia
def WE{f:DF}{st:gM}(a:CT js st=bT)(h:f st=.ok d):F8 i js f st=.nx (st.set i (ai d)):=by
 unfold F8;rw[bh6 a,h]
def aJ6(ns:List Int):B5 t [iL ns] =.ok (.bl bT):=by
 obtain⟨c,X⟩:∃c:Int,aO t [iL ns,.int 2] =.ok (.int c):=⟨_,Jb t ns 2⟩
 obtain⟨N,A⟩:∃c:Int,aO t [iL ns,.int 4] =.ok (.int c):=⟨_,Jb t ns 4⟩
 obtain⟨m,hm,O⟩:=ah3 N [ai (iL ns),aj,aj,aj,aj,aj,aj,aj,aj,aj,aj] (bh (aO t) (af (ah 0) (af (dC (.int 4)) az))) (tP (a:=iL ns) (b:=.int 4) rfl rfl A);obtain⟨l,hl,f⟩:=Wn t ns m (by lia);have ll:=f.le;have i:l.length<=12:=by lia
 obtain⟨g,P,C⟩:=Sf t c (l:=l) f.pos (by lia);have S:bW l g:=.sub f.up C;have lg:=d7 f.up S;have Q:=Wo t (f.mono (by lia:m<=24));obtain⟨u,v,T⟩:=T5 t ns f.up f.pos i f.lW S;have lu:=d7 f.up v;obtain⟨d,U,hd⟩:=SS t f.up i S v;have eh:∀(n:Bool) (x y z w q:Option D),(aL (i9 n) (ah 5) (cF 100 (af (ah 3) (af (ah 4) az)))) [ai (iL ns),ai (aD l),ai (bB l),ai (aD g),ai (aD u),ai (fD [g,u]),x,y,z,w,q] =.ok (.bl (!n)):=λn x y z w q=>eV (a:=fD [g,u]) (b:=fD [g,u]) rfl (by simp[fD]) (WD ..);unfold B5;refine cJ [ai (iL ns),aj,aj,aj,aj,aj,aj,aj,aj,aj,aj] ?_;rw[aK (st':=[ai (iL ns),ai (aD l),aj,aj,aj,aj,aj,aj,aj,aj,aj]) (fq (tP (a:=iL ns) (b:=.int (m:Nat)) rfl O hl)),
  aK (st':=[ai (iL ns),ai (aD l),ai (bB l),aj,aj,aj,aj,aj,aj,aj,aj]) (by simp[Q]),
  aK (st':=[ai (iL ns),ai (aD l),ai (bB l),ai (aD g),aj,aj,aj,aj,aj,aj,aj]) (by simp[X,P]),
  aK (st':=[ai (iL ns),ai (aD l),ai (bB l),ai (aD g),ai (aD u),aj,aj,aj,aj,aj,aj]) (by
   exact WE rfl (fn3 (a:=iL ns) (b:=aD l) (c:=aD g) rfl rfl rfl T)),
  aK (st':=[ai (iL ns),ai (aD l),ai (bB l),ai (aD g),ai (aD u),ai (fD [g,u]),aj,aj,aj,aj,aj]) (fq (by simp[fD]))]
 have F:∀G:List (List Cell),(∀s,s∈G↔Gg l g s)->∀s∈G,s.length<=12:=λG j s m=>by have:=d7 f.up (((j s).mp m).qV S);lia
 have k:dpB d=bT->F5 6 (bh (qk t) (af (ah 2) (af (aL dh (ah 5) (dC (.int 0))) (af (aL dh (ah 5) (dC (.int 1))) az)))) [ai (iL ns),ai (aD l),ai (bB l),ai (aD g),ai (aD u),ai (fD [g,u]),aj,aj,aj,aj,aj] =.nx [ai (iL ns),ai (aD l),ai (bB l),ai (aD g),ai (aD u),ai (fD [g,u]),ai d,aj,aj,aj,aj]:=λh=>by unfold F5;rw[fn3 (a:=bB l) (b:=aD g) (c:=aD u) rfl rfl rfl hd];dsimp only;rw[bh6 h];rfl
 have o:∀a b,d=.tup [a,b]->Dm.bS (Ga (aL (i9 bT) (ah 5) (cF 100 (af (ah 3) (af (ah 4) az)))) (Ga (om (oY (EO nC) (ah 6))) (aL (i9 bT) (bh gQ (af (ah 6) az)) (dC (.int 2))))) (cP (dC (.bl b4))) bf [ai (iL ns),ai (aD l),ai (bB l),ai (aD g),ai (aD u),ai (fD [g,u]),ai d,aj,aj,aj,aj] =.nx [ai (iL ns),ai (aD l),ai (bB l),ai (aD g),ai (aD u),ai (fD [g,u]),ai d,aj,aj,aj,aj]:=λa b e=>by subst e;rw[ir (qq (eh ..) (qq (vI (b:=bT) rfl) (eV (a:=.int 2) (b:=.int 2) rfl rfl (by rw[gJ];rfl))))];rfl
 have two:(∃p,d=.tup [.str "never",p]/\dpB d=bT/\gI t [p] =.ok (.bl bT)/\gH t [aD l,aD g,aD u,p] =.ok (.bl bT)/\oF t [bB l,aD g,aD u,p] =.ok (.bl bT)/\yN 11 6 (dm (iTp (VJ (aL dh (ah 6) (dC (.int 1))) (ai (dC (.int 1))) aj)) 1 [6] (br 0) (aL (i9 b4) (aL dh (aL dh (ah 1) (dC (.int 1))) (dC (.int 0))) (dC (.str "closed"))) (ah 0)) d=bT)\/∃row,lQ l g row/\eE g row=u/\d=.tup [.str "leaps",cQ row]:=by rcases U with⟨H,e⟩|h|⟨G,j,I,Y,J,e⟩;exact .inl ⟨_,e,by subst e;rfl,SV t,MA t (by lia) (by lia) H _,SX t S v (by lia) (by lia) H,by subst e;rfl⟩;exact .inr h;refine .inl ⟨_,e,by subst e;exact T6 (F G j),SW t I,MB t f.up i f.lW S j J,SY t f.up i S v j I Y J,?_⟩;subst e;show(lnB (G.map aD)&&decide ((G.map aD).length<=4500)&&Kc _)=bT;rw[T6 (F G j),uv,bh8 (by rw[bw];lia:(G.map aD).length<=4500),uv];rfl
 rcases two with⟨p,e,Z,h2,h3,h4,h5⟩|⟨row,ok,wk,e⟩;rw[aK (k Z),aK (o _ _ e)];subst e;refine mU ?_;rw[nE (eV (a:=.str "never") (b:=.str "never") rfl rfl rfl),
  aK (st':=[ai (iL ns),ai (aD l),ai (bB l),ai (aD g),ai (aD u),ai (fD [g,u]),ai (.tup [.str "never",p]),aj,aj,aj,aj]) (by
   rw[ir (qq (vI (b:=bT) (Aj (a:=p) (eV (a:=.tup [.str "never",p]) (b:=.int 1) rfl rfl rfl) h2)) (vI (b:=bT) (fn4 (a:=aD l) (b:=aD g) (c:=aD u) (e:=p) rfl rfl rfl (eV (a:=.tup [.str "never",p]) (b:=.int 1) rfl rfl rfl) h3)))];rfl),
  aK (st':=[ai (iL ns),ai (aD l),ai (bB l),ai (aD g),ai (aD u),ai (fD [g,u]),ai (.tup [.str "never",p]),aj,aj,aj,aj]) (by
   rw[ir (eV (a:=.bl bT) (b:=.bl bT) (fn4 (a:=bB l) (b:=aD g) (c:=aD u) (e:=p) rfl rfl rfl (eV (a:=.tup [.str "never",p]) (b:=.int 1) rfl rfl rfl) h4) rfl rfl)];rfl),
  aK (st':=[ai (iL ns),ai (aD l),ai (bB l),ai (aD g),ai (aD u),ai (fD [g,u]),aj,aj,aj,aj,aj]) (by
   unfold CS
   show(if yN 11 6 _ _=bT then _ else _)=_
   rw[bh6 h5];rfl)]
 exact ez (eh b4 ..)
 ·rw[aK (k (by subst e;rfl)),aK (o _ _ e)]
  subst e
  rw[aK (st':=[ai (iL ns),ai (aD l),ai (bB l),ai (aD g),ai (aD u),ai (fD [g,u]),ai (.tup [.str "leaps",cQ row]),aj,aj,aj,aj]) (by rw[ir (eV (a:=.str "leaps") (b:=.str "never") rfl rfl rfl)];rfl),
   aK (st':=[ai (iL ns),ai (aD l),ai (bB l),ai (aD g),ai (aD u),ai (fD [g,u]),ai (.tup [.str "leaps",cQ row]),aj,aj,aj,aj]) (by rw[ir (qq (eV (a:=.str "leaps") (b:=.str "leaps") rfl rfl rfl) (vI (b:=bT) rfl))];rfl),
   aK (st':=[ai (iL ns),ai (aD l),ai (bB l),ai (aD g),ai (aD u),ai (fD [g,u]),ai (.tup [.str "leaps",cQ row]),aj,aj,ai (aD g),aj]) (fq rfl)]
  obtain⟨st',L,y,k2⟩:=gZ (bind:=br 10) (F:=(aZ (Dm.bS (aL (iT bT) (ah 10) (bh (eZ t) (af (ah 1) (af (ah 9) az))))
 (cP (dC (.bl b4)))
 bf)
 (cB 9 (bh (dw t) (af (ah 9) (af (ah 10) az)))))) (f:=lD) (Q:=λpre st=>∃y,st=[ai (iL ns),ai (aD l),ai (bB l),ai (aD g),ai (aD u),ai (fD [g,u]),ai (.tup [.str "leaps",cQ row]),aj,aj,ai (aD (eE g pre)),y]) row [] [ai (iL ns),ai (aD l),ai (bB l),ai (aD g),ai (aD u),ai (fD [g,u]),ai (.tup [.str "leaps",cQ row]),aj,aj,ai (aD g),aj] (λp x r e st zz=>by
   obtain⟨y,rfl⟩:=zz
   rw[dQ]at e
   obtain⟨E,mx⟩:=Jl (a:=p) (x:=x) (b:=r) (by rw[<- e];exact ok)
   have lw:=d7 f.up (S.row E)
   have M:=ad7 bT x (FI l (eE g p))
   rw[bh8 mx]at M
   refine⟨[ai (iL ns),ai (aD l),ai (bB l),ai (aD g),ai (aD u),ai (fD [g,u]),ai (.tup [.str "leaps",cQ row]),aj,aj,ai (aD (eE g p)),ai (lD x)],_,rfl,?_,ai (lD x),rfl⟩
   rw[aK (st':=[ai (iL ns),ai (aD l),ai (bB l),ai (aD g),ai (aD u),ai (fD [g,u]),ai (.tup [.str "leaps",cQ row]),aj,aj,ai (aD (eE g p)),ai (lD x)]) (by rw[ir (eV (a:=lD x) (b:=cQ (FI l (eE g p))) rfl (tP (a:=aD l) (b:=aD (eE g p)) rfl rfl (Ds t f.up (by lia) f.lW)) M)];rfl),qI]
   exact fq (tP (a:=aD (eE g p)) (b:=lD x) rfl rfl (v8 t x (by lia)))) ⟨aj,rfl⟩
  subst k2
  rw[dQ,wk]at L
  rw[aK (F:=cZ _ _ _) (by unfold cZ;rw[zE (ds:=row.map lD) (eV (a:=.tup [.str "leaps",cQ row]) (b:=.int 1) rfl rfl rfl)];exact L)]
  exact ez (eV (a:=aD u) (b:=aD u) rfl rfl (by rw[Dp];simp))
end Pk
section ah4
noncomputable section
namespace Hd
open PySem PySem.W PySem.Calls PyProof.Rows
abbrev pq:dz:=PySem.Challenge.pw_pegleap_k10_whole_a_row_or_a_paper
noncomputable def nth:List aY → Nat → aY
  |[],_=>.Pass ⟨0,0,0,0⟩
  |s::_,0=>s
  |_::r,n+1=>nth r n
noncomputable def tk:Nat → List aY → List aY
  |0,_=>[]
  |_,[]=>[]
  |n+1,s::r=>s::tk n r
noncomputable def dr:Nat → List aY → List aY
  |0,l=>l
  |_,[]=>[]
  |n+1,_::r=>dr n r
noncomputable def st(i:Nat):aY:=nth pq.main.body i
noncomputable def sc(i j:Nat):aY:=match st i with |.ClassDef _ _ _ b _ _ _ _ _ _ _=>nth b j|s=>s
noncomputable def fN:aY → Str |.FunctionDef n _ _ _ _ _ _ _ _ _=>n|_=>default
noncomputable def fX(s:aY)(q:Str)(g:av)(c:List (Str×av))(e k d p:au)(f:Option av)(h ct:au)(bi:av):PySem.Data:=match s with |.FunctionDef n a b _ _ _ sc _ _ _=>.func ⟨n,q,a,.stmts b,sc,g,c,e,k,d,p,f,h,ct,bi⟩|_=>.plain
noncomputable def en(P:eX)(x:Str)(t:Tok)(v:au):pF:=⟨PyData.keyHash P x,.str x t,v⟩
def WG{t:String → Option Builtin}{p:dz}{w:bL}{n:Nat}{a:Option au}{N:Nat}{s r:ay}{env:Env}{c:Code}{d:Pos}{B:List Frame}{b f:List aY}(e:b=f)(k:topRun t p w n a N s (restOf f env c d B)=ai r):topRun t p w n a N s (restOf b env c d B)=ai r:=e▸k
noncomputable def tO (vs:Array au):Obj:=⟨.type "tuple",aj,.seq vs 0,#[]⟩
noncomputable def cO (n q:Str) (t:Tok) (L a k:Int) (r:av) (b:Bool) (c:av) (x y z:au) (u:Nat):Obj:=⟨.type "code",aj,.fields #[.str n t,.str q (t+1),.str "/claim/cut.py" (t+2),.int L 0,.int a 0,.int 0 0,.int 0 0,.int k 0,.ref r,.bool b,.int 181 0,.ref c,.none,x,y,z,.int u 0,.int L 0,.str "/claim/cut.py" (u+1)],#[]⟩
noncomputable def fO (s:aY) (g:av) (m:Str) (t:Tok) (c:av):Obj:=⟨.type "function",aj,fX s (fN s) g [] .none .none .none (.str m t) aj (.ref c) .none 0,#[]⟩
noncomputable def fZ (s:aY):Obj:=⟨.none,aj,fX s (fN s) 0 [] .none .none .none .none aj .none .none 0,#[]⟩
noncomputable def od:List Obj → List Obj
  |x::_::l=>x::od l
  |l=>l
noncomputable def ev:List Obj → List Obj
  |_::l=>od l
  |[]=>[]
noncomputable def bt:Nat → List Obj → BT
  |0,_=>.nil
  |_,[]=>.nil
  |n+1,x::l=>.node x (bt n (od l)) (bt n (ev l))
noncomputable def rO (a b c:av) (m:Str) (t:Tok):Obj:=⟨.type "frame",aj,.plain,#[ai (.ref a),ai (.ref b),ai (.ref c),aj,ai (.str m t),aj,ai (.ref 0)]⟩
noncomputable def dO (n:Nat) (e:Array pF):Obj:=⟨.type "dict",aj,.dict e n,#[]⟩
def o0:Obj:=tO #[]
noncomputable def o1:Obj:=⟨.none,aj,(.fields #[]),#[]⟩
def o2:Obj:=cO "<module>" "<module>" 182 1 0 0 11 b4 12 .none .none .none 185
def o3:Obj:=rO 13 3 3 "__main__" 164
noncomputable def lf0:Life:={}
def Ha(P:eX):aW:=⟨⟨[boot_o_0 P,boot_o_1 P,boot_o_2 P,boot_o_3 P,boot_o_4 P,boot_o_5 P,boot_o_6 P,boot_o_7 P,boot_o_8 P,boot_o_9 P,boot_o_10 P,o0,o1,o2,o3]⟩,lf0⟩
def T0(P:eX):BT:=bt 5 [boot_o_0 P,boot_o_1 P,boot_o_2 P,boot_o_3 P,boot_o_4 P,boot_o_5 P,boot_o_6 P,boot_o_7 P,boot_o_8 P,boot_o_9 P,boot_o_10 P,o0,o1,o2,o3]
def S0(w:bL)(o:OsState):SharedT:=⟨T0 w.params,15,lf0,#[],⟨0,0,0,0⟩,187,o⟩
def o4(P:eX):Obj:=⟨.type "dict",aj,(.dict #[en P "__name__" 165 (.str "pegleap.boards" 255),en P "__doc__" 166 .none,en P "__package__" 167 .none,en P "__loader__" 168 (.builtin "__main__.__loader__#opaque"),en P "__spec__" 169 .none,en P "__annotations__" 170 (.ref 6),en P "__builtins__" 171 (.ref 4),en P "__file__" 173 (.str "/claim/cut.py" 172),en P "__cached__" 174 .none,en P "PegError" 206 (.ref 24),en P "BadBoard" 222 (.ref 37),en P "BadPegs" 238 (.ref 49),en P "BadWeights" 254 (.ref 61),en P "LAST" 258 (.int 7 257),en P "MOST_CELLS" 260 (.int 24 259),en P "is_rising" 267 (.ref 70)] 16),#[]⟩
noncomputable def o5:Obj:=⟨.none,aj,(.fields #[.int 2 0,.int 0 0,.ref 20,.int 4 0,.int 0 0,.ref 33,.int 6 0,.int 0 0,.ref 45,.int 8 0,.int 0 0,.ref 57,.int 13 0,.int 0 0,.ref 69]),#[]⟩
def o6:Obj:=tO #[.type "ValueError"]
noncomputable def o7:Obj:=⟨.type "builtin_function_or_method",aj,(.fields #[.builtin "type.__prepare__",.type "type"]),#[]⟩
def o8(P:eX):Obj:=⟨.type "dict",aj,(.dict #[en P "__module__" 196 (.str "pegleap.errors" 187),en P "__qualname__" 198 (.str "PegError" 197),en P "__firstlineno__" 200 (.int 2 199),en P "__static_attributes__" 201 (.ref 22)] 4),#[]⟩
def o9:Obj:=cO "PegError" "PegError" 191 2 0 0 18 b4 19 .none .none .none 194
def o10:Obj:=rO 20 3 17 "pegleap.errors" 187
def o11(P:eX):Obj:=⟨.type "dict",aj,(.dict #[en P "__module__" 196 (.str "pegleap.errors" 187),en P "__firstlineno__" 200 (.int 2 199),en P "__static_attributes__" 201 (.ref 22),en P "__weakref__" 203 (.ref 25),en P "__doc__" 204 .none] 3),#[]⟩
noncomputable def o12:Obj:=⟨.type "type",aj,(.cls ⟨"PegError",[.type "ValueError"],[.ref 24,.type "ValueError",.type "Exception",.type "BaseException",.type "object"],23,"PegError",bT,[],[.ref 37,.ref 49,.ref 61],b4,aj,b4⟩),#[(ai (.ref 15)),aj,(ai (.str "PegError" 189)),(ai (.str "PegError" 197)),(ai (.builtin "ValueError.__new__")),(ai (.bool bT))]⟩
noncomputable def o13:Obj:=⟨.type "getset_descriptor",aj,(.fields #[.str "__weakref__" 202,.ref 24,.builtin "ExceptionGroup.__weakref__",.none]),#[]⟩
def o14:Obj:=⟨.type "super",aj,(.fields #[.ref 24,.ref 24,.ref 24]),#[]⟩
def o15:Obj:=⟨.type "builtin_function_or_method",aj,(.fields #[.builtin "object.__init_subclass__",.ref 24]),#[]⟩
def MR:Obj:=tO #[.ref 24]
def o17(P:eX):Obj:=⟨.type "dict",aj,(.dict #[en P "__module__" 214 (.str "pegleap.errors" 187),en P "__qualname__" 216 (.str "BadBoard" 215),en P "__firstlineno__" 218 (.int 4 217),en P "__static_attributes__" 219 (.ref 35)] 4),#[]⟩
def o18:Obj:=cO "BadBoard" "BadBoard" 209 4 0 0 31 b4 32 .none .none .none 212
def o19:Obj:=rO 33 3 30 "pegleap.errors" 187
def o20(P:eX):Obj:=⟨.type "dict",aj,(.dict #[en P "__module__" 214 (.str "pegleap.errors" 187),en P "__firstlineno__" 218 (.int 4 217),en P "__static_attributes__" 219 (.ref 35),en P "__doc__" 220 .none] 2),#[]⟩
noncomputable def o21:Obj:=⟨.type "type",aj,(.cls ⟨"BadBoard",[.ref 24],[.ref 37,.ref 24,.type "ValueError",.type "Exception",.type "BaseException",.type "object"],36,"BadBoard",bT,[],[],b4,aj,b4⟩),#[(ai (.ref 28)),aj,(ai (.str "BadBoard" 207)),(ai (.str "BadBoard" 215)),(ai (.builtin "ValueError.__new__")),(ai (.bool bT))]⟩
def o22:Obj:=⟨.type "super",aj,(.fields #[.ref 37,.ref 37,.ref 37]),#[]⟩
def o23:Obj:=⟨.type "builtin_function_or_method",aj,(.fields #[.builtin "object.__init_subclass__",.ref 37]),#[]⟩
def o24(P:eX):Obj:=⟨.type "dict",aj,(.dict #[en P "__module__" 230 (.str "pegleap.errors" 187),en P "__qualname__" 232 (.str "BadPegs" 231),en P "__firstlineno__" 234 (.int 6 233),en P "__static_attributes__" 235 (.ref 47)] 4),#[]⟩
def o25:Obj:=cO "BadPegs" "BadPegs" 225 6 0 0 43 b4 44 .none .none .none 228
def o26:Obj:=rO 45 3 42 "pegleap.errors" 187
def o27(P:eX):Obj:=⟨.type "dict",aj,(.dict #[en P "__module__" 230 (.str "pegleap.errors" 187),en P "__firstlineno__" 234 (.int 6 233),en P "__static_attributes__" 235 (.ref 47),en P "__doc__" 236 .none] 2),#[]⟩
noncomputable def o28:Obj:=⟨.type "type",aj,(.cls ⟨"BadPegs",[.ref 24],[.ref 49,.ref 24,.type "ValueError",.type "Exception",.type "BaseException",.type "object"],48,"BadPegs",bT,[],[],b4,aj,b4⟩),#[(ai (.ref 40)),aj,(ai (.str "BadPegs" 223)),(ai (.str "BadPegs" 231)),(ai (.builtin "ValueError.__new__")),(ai (.bool bT))]⟩
noncomputable def o29:Obj:=⟨.type "super",aj,(.fields #[.ref 49,.ref 49,.ref 49]),#[]⟩
noncomputable def o30:Obj:=⟨.type "builtin_function_or_method",aj,(.fields #[.builtin "object.__init_subclass__",.ref 49]),#[]⟩
def o31(P:eX):Obj:=⟨.type "dict",aj,(.dict #[en P "__module__" 246 (.str "pegleap.errors" 187),en P "__qualname__" 248 (.str "BadWeights" 247),en P "__firstlineno__" 250 (.int 8 249),en P "__static_attributes__" 251 (.ref 59)] 4),#[]⟩
def o32:Obj:=cO "BadWeights" "BadWeights" 241 8 0 0 55 b4 56 .none .none .none 244
def o33:Obj:=rO 57 3 54 "pegleap.errors" 187
def o34(P:eX):Obj:=⟨.type "dict",aj,(.dict #[en P "__module__" 246 (.str "pegleap.errors" 187),en P "__firstlineno__" 250 (.int 8 249),en P "__static_attributes__" 251 (.ref 59),en P "__doc__" 252 .none] 2),#[]⟩
noncomputable def o35:Obj:=⟨.type "type",aj,(.cls ⟨"BadWeights",[.ref 24],[.ref 61,.ref 24,.type "ValueError",.type "Exception",.type "BaseException",.type "object"],60,"BadWeights",bT,[],[],b4,aj,b4⟩),#[(ai (.ref 52)),aj,(ai (.str "BadWeights" 239)),(ai (.str "BadWeights" 247)),(ai (.builtin "ValueError.__new__")),(ai (.bool bT))]⟩
def o36:Obj:=⟨.type "super",aj,(.fields #[.ref 61,.ref 61,.ref 61]),#[]⟩
def o37:Obj:=⟨.type "builtin_function_or_method",aj,(.fields #[.builtin "object.__init_subclass__",.ref 61]),#[]⟩
def o38:Obj:=tO #[.str "cells" 264]
def o39:Obj:=fZ (st 8)
def o40:Obj:=cO "is_rising" "is_rising" 261 13 1 3 64 bT 65 (.ref 66) (.ref 67) (.ref 68) 265
def o41:Obj:=fO (st 8) 3 "pegleap.boards" 255 69
def T1(P:eX):BT:=bt 8 [boot_o_0 P,boot_o_1 P,boot_o_2 P,o4 P,boot_o_4 P,boot_o_5 P,boot_o_6 P,boot_o_7 P,boot_o_8 P,boot_o_9 P,boot_o_10 P,o0,o5,o2,o3,o6,o7,o8 P,o0,o1,o9,o10,o0,o11 P,o12,o13,o14,o15,MR,o7,o17 P,o0,o1,o18,o19,o0,o20 P,o21,o22,o23,MR,o7,o24 P,o0,o1,o25,o26,o0,o27 P,o28,o29,o30,MR,o7,o31 P,o0,o1,o32,o33,o0,o34 P,o35,o36,o37,o0,o1,o38,o0,o39,o40,o41]
def S1(w:bL)(o:OsState):SharedT:=⟨T1 w.params,71,lf0,#[],⟨0,0,0,0⟩,268,o⟩
def o42(P:eX):Obj:=⟨.type "dict",aj,(.dict #[en P "__name__" 165 (.str "pegleap.search" 410),en P "__doc__" 166 .none,en P "__package__" 167 .none,en P "__loader__" 168 (.builtin "__main__.__loader__#opaque"),en P "__spec__" 169 .none,en P "__annotations__" 170 (.ref 6),en P "__builtins__" 171 (.ref 4),en P "__file__" 173 (.str "/claim/cut.py" 172),en P "__cached__" 174 .none,en P "PegError" 206 (.ref 24),en P "BadBoard" 222 (.ref 37),en P "BadPegs" 238 (.ref 49),en P "BadWeights" 254 (.ref 61),en P "LAST" 258 (.int 7 257),en P "MOST_CELLS" 260 (.int 24 259),en P "is_rising" 267 (.ref 70),en P "is_cell" 274 (.ref 77),en P "check_cells" 282 (.ref 84),en P "Board" 311 (.ref 101),en P "check_pegs" 320 (.ref 112),en P "two_apart" 329 (.ref 119),en P "between" 337 (.ref 126),en P "leaps" 347 (.ref 133),en P "COLOURS" 351 (.int 3 350),en P "can_be_done" 359 (.ref 140),en P "pegs_behind" 365 (.ref 145),en P "odd_on" 371 (.ref 150),en P "class_of" 377 (.ref 155),en P "LEAST" 382 (.int (-1000) 381),en P "MOST" 384 (.int 1000 383),en P "check_weights" 393 (.ref 162),en P "fair" 403 (.ref 169),en P "weight" 409 (.ref 174),en P "steps_from" 417 (.ref 179),en P "next_rows" 430 (.ref 186),en P "first_rows" 441 (.ref 193),en P "in_order" 447 (.ref 198),en P "answer" 457 (.ref 205),en P "holds" 467 (.ref 212),en P "weights_hold" 478 (.ref 219)] 40),#[]⟩
noncomputable def o43:Obj:=⟨.none,aj,(.fields #[.int 2 0,.int 0 0,.ref 20,.int 4 0,.int 0 0,.ref 33,.int 6 0,.int 0 0,.ref 45,.int 8 0,.int 0 0,.ref 57,.int 13 0,.int 0 0,.ref 69,.int 15 0,.int 0 0,.ref 76,.int 17 0,.int 0 0,.ref 83,.int 25 0,.int 0 0,.ref 90,.int 30 0,.int 0 0,.ref 111,.int 36 0,.int 0 0,.ref 118,.int 40 0,.int 0 0,.ref 125,.int 42 0,.int 0 0,.ref 132,.int 51 0,.int 0 0,.ref 139,.int 53 0,.int 0 0,.ref 144,.int 56 0,.int 0 0,.ref 149,.int 58 0,.int 0 0,.ref 154,.int 66 0,.int 0 0,.ref 161,.int 72 0,.int 0 0,.ref 168,.int 79 0,.int 0 0,.ref 173,.int 85 0,.int 0 0,.ref 178,.int 87 0,.int 0 0,.ref 185,.int 94 0,.int 0 0,.ref 192,.int 102 0,.int 0 0,.ref 197,.int 104 0,.int 0 0,.ref 204,.int 113 0,.int 0 0,.ref 211,.int 121 0,.int 0 0,.ref 218]),#[]⟩
def o44:Obj:=tO #[.str "cell" 271]
def o45:Obj:=fZ (st 9)
def o46:Obj:=cO "is_cell" "is_cell" 268 15 1 3 71 bT 72 (.ref 73) (.ref 74) (.ref 75) 272
def o47:Obj:=fO (st 9) 3 "pegleap.boards" 255 76
def o48:Obj:=tO #[.str "cells" 278,.str "cell" 279]
def o49:Obj:=fZ (st 10)
def o50:Obj:=cO "check_cells" "check_cells" 275 17 1 3 78 bT 79 (.ref 80) (.ref 81) (.ref 82) 280
def o51:Obj:=fO (st 10) 3 "pegleap.boards" 255 83
def o52(P:eX):Obj:=⟨.type "dict",aj,(.dict #[en P "__module__" 290 (.str "pegleap.boards" 255),en P "__qualname__" 292 (.str "Board" 291),en P "__firstlineno__" 294 (.int 25 293),en P "__init__" 302 (.ref 98),en P "__static_attributes__" 304 (.ref 99)] 5),#[]⟩
noncomputable def o53:Obj:=⟨.none,aj,(.fields #[.int 27 0,.int 4 0,.ref 97]),#[]⟩
def o54:Obj:=cO "Board" "Board" 285 25 0 0 88 b4 89 .none .none .none 288
def o55:Obj:=rO 90 3 87 "pegleap.boards" 255
def o56:Obj:=tO #[.str "self" 298,.str "cells" 299]
noncomputable def o57:Obj:=⟨.none,aj,(fX (sc 11 0) "Board.__init__" 0 [] .none .none .none .none aj .none .none 0),#[]⟩
def o58:Obj:=cO "__init__" "Board.__init__" 295 27 2 3 92 bT 93 (.ref 94) (.ref 95) (.ref 96) 300
noncomputable def o59:Obj:=⟨.type "function",aj,(fX (sc 11 0) "Board.__init__" 3 [] .none .none .none (.str "pegleap.boards" 255) aj (.ref 97) .none 0),#[]⟩
def o60:Obj:=tO #[.str "cells" 303]
def o61(P:eX):Obj:=⟨.type "dict",aj,(.dict #[en P "__module__" 290 (.str "pegleap.boards" 255),en P "__firstlineno__" 294 (.int 25 293),en P "__init__" 302 (.ref 98),en P "__static_attributes__" 304 (.ref 99),en P "__dict__" 306 (.ref 102),en P "__weakref__" 308 (.ref 103),en P "__doc__" 309 .none] 4),#[]⟩
noncomputable def o62:Obj:=⟨.type "type",aj,(.cls ⟨"Board",[.type "object"],[.ref 101,.type "object"],100,"Board",bT,[],[],b4,aj,b4⟩),#[aj,aj,(ai (.str "Board" 283)),(ai (.str "Board" 291)),(ai (.builtin "object.__new__")),(ai (.bool bT))]⟩
noncomputable def o63:Obj:=⟨.type "getset_descriptor",aj,(.fields #[.str "__dict__" 305,.ref 101,.builtin "function.__dict__",.builtin "function.__dict__#set"]),#[]⟩
noncomputable def o64:Obj:=⟨.type "getset_descriptor",aj,(.fields #[.str "__weakref__" 307,.ref 101,.builtin "ExceptionGroup.__weakref__",.none]),#[]⟩
def o65:Obj:=⟨.type "super",aj,(.fields #[.ref 101,.ref 101,.ref 101]),#[]⟩
def o66:Obj:=⟨.type "builtin_function_or_method",aj,(.fields #[.builtin "object.__init_subclass__",.ref 101]),#[]⟩
def o67:Obj:=tO #[.str "board" 315,.str "pegs" 316,.str "cell" 317]
def o68:Obj:=fZ (st 12)
def o69:Obj:=cO "check_pegs" "check_pegs" 312 30 2 3 106 bT 107 (.ref 108) (.ref 109) (.ref 110) 318
def o70:Obj:=fO (st 12) 3 "pegleap.boards" 255 111
def o71:Obj:=tO #[.str "cell" 324,.str "row" 325,.str "column" 326]
def o72:Obj:=fZ (st 13)
def o73:Obj:=cO "two_apart" "two_apart" 321 36 1 3 113 bT 114 (.ref 115) (.ref 116) (.ref 117) 327
def o74:Obj:=fO (st 13) 3 "pegleap.boards" 255 118
def o75:Obj:=tO #[.str "cell" 333,.str "other" 334]
def o76:Obj:=fZ (st 14)
def o77:Obj:=cO "between" "between" 330 40 2 3 120 bT 121 (.ref 122) (.ref 123) (.ref 124) 335
def o78:Obj:=fO (st 14) 3 "pegleap.boards" 255 125
def o79:Obj:=tO #[.str "board" 341,.str "found" 342,.str "first" 343,.str "second" 344]
def o80:Obj:=fZ (st 15)
def o81:Obj:=cO "leaps" "leaps" 338 42 1 3 127 bT 128 (.ref 129) (.ref 130) (.ref 131) 345
def o82:Obj:=fO (st 15) 3 "pegleap.boards" 255 132
def o83:Obj:=tO #[.str "pegs" 355,.str "leap" 356]
def o84:Obj:=fZ (st 18)
def o85:Obj:=cO "can_be_done" "can_be_done" 352 51 2 3 134 bT 135 (.ref 136) (.ref 137) (.ref 138) 357
def o86:Obj:=fO (st 18) 3 "pegleap.standings" 348 139
def o87:Obj:=fZ (st 19)
def o88:Obj:=cO "pegs_behind" "pegs_behind" 360 53 2 3 141 bT 142 .none .none (.ref 143) 363
def o89:Obj:=fO (st 19) 3 "pegleap.standings" 348 144
def o90:Obj:=fZ (st 20)
def o91:Obj:=cO "odd_on" "odd_on" 366 56 2 3 146 bT 147 .none .none (.ref 148) 369
def o92:Obj:=fO (st 20) 3 "pegleap.standings" 348 149
def o93:Obj:=fZ (st 21)
def o94:Obj:=cO "class_of" "class_of" 372 58 2 3 151 bT 152 .none .none (.ref 153) 375
def o95:Obj:=fO (st 21) 3 "pegleap.standings" 348 154
def o96:Obj:=tO #[.str "board" 388,.str "weights" 389,.str "number" 390]
def o97:Obj:=fZ (st 25)
def o98:Obj:=cO "check_weights" "check_weights" 385 66 2 3 156 bT 157 (.ref 158) (.ref 159) (.ref 160) 391
def o99:Obj:=fO (st 25) 3 "pegleap.weights" 378 161
def ah5:Obj:=tO #[.str "board" 397,.str "weights" 398,.str "by_cell" 399,.str "leap" 400]
def ah6:Obj:=fZ (st 26)
def WH:Obj:=cO "fair" "fair" 394 72 2 3 163 bT 164 (.ref 165) (.ref 166) (.ref 167) 401
def WI:Obj:=fO (st 26) 3 "pegleap.weights" 378 168
def ah7:Obj:=fZ (st 27)
def WJ:Obj:=cO "weight" "weight" 404 79 3 3 170 bT 171 .none .none (.ref 172) 407
def WK:Obj:=fO (st 27) 3 "pegleap.weights" 378 173
def ah8:Obj:=fZ (st 29)
def WL:Obj:=cO "steps_from" "steps_from" 412 85 2 3 175 bT 176 .none .none (.ref 177) 415
def WM:Obj:=fO (st 29) 3 "pegleap.search" 410 178
def ah9:Obj:=tO #[.str "all_leaps" 421,.str "layer" 422,.str "found" 423,.str "standing" 424,.str "row" 425,.str "leap" 426,.str "behind" 427]
def ai0:Obj:=fZ (st 30)
def WN:Obj:=cO "next_rows" "next_rows" 418 87 2 3 180 bT 181 (.ref 182) (.ref 183) (.ref 184) 428
def WO:Obj:=fO (st 30) 3 "pegleap.search" 410 185
def ai1:Obj:=tO #[.str "board" 434,.str "pegs" 435,.str "all_leaps" 436,.str "found" 437,.str "layer" 438]
def ai2:Obj:=fZ (st 31)
def WQ:Obj:=cO "first_rows" "first_rows" 431 94 2 3 187 bT 188 (.ref 189) (.ref 190) (.ref 191) 439
def WR:Obj:=fO (st 31) 3 "pegleap.search" 410 192
def ai3:Obj:=fZ (st 32)
def WS:Obj:=cO "in_order" "in_order" 442 102 1 3 194 bT 195 .none .none (.ref 196) 445
def WT:Obj:=fO (st 32) 3 "pegleap.search" 410 197
def ai4:Obj:=tO #[.str "board" 451,.str "pegs" 452,.str "others" 453,.str "rows" 454]
def ai5:Obj:=fZ (st 33)
def WU:Obj:=cO "answer" "answer" 448 104 3 3 199 bT 200 (.ref 201) (.ref 202) (.ref 203) 455
def WV:Obj:=fO (st 33) 3 "pegleap.search" 410 204
def ai6:Obj:=tO #[.str "board" 461,.str "pegs" 462,.str "others" 463,.str "paper" 464]
def ai7:Obj:=fZ (st 34)
def WW:Obj:=cO "holds" "holds" 458 113 4 3 206 bT 207 (.ref 208) (.ref 209) (.ref 210) 465
def WX:Obj:=fO (st 34) 3 "pegleap.search" 410 211
def ai8:Obj:=tO #[.str "board" 471,.str "pegs" 472,.str "others" 473,.str "weights" 474,.str "is_fair" 475]
def ai9:Obj:=fZ (st 35)
def WY:Obj:=cO "weights_hold" "weights_hold" 468 121 4 3 213 bT 214 (.ref 215) (.ref 216) (.ref 217) 476
def WZ:Obj:=fO (st 35) 3 "pegleap.search" 410 218
def T2(P:eX):BT:=bt 9 [boot_o_0 P,boot_o_1 P,boot_o_2 P,o42 P,boot_o_4 P,boot_o_5 P,boot_o_6 P,boot_o_7 P,boot_o_8 P,boot_o_9 P,boot_o_10 P,o0,o43,o2,o3,o6,o7,o8 P,o0,o1,o9,o10,o0,o11 P,o12,o13,o14,o15,MR,o7,o17 P,o0,o1,o18,o19,o0,o20 P,o21,o22,o23,MR,o7,o24 P,o0,o1,o25,o26,o0,o27 P,o28,o29,o30,MR,o7,o31 P,o0,o1,o32,o33,o0,o34 P,o35,o36,o37,o0,o1,o38,o0,o39,o40,o41,o0,o1,o44,o0,o45,o46,o47,o0,o1,o48,o0,o49,o50,o51,o0,o7,o52 P,o0,o53,o54,o55,o0,o1,o56,o0,o57,o58,o59,o60,o61 P,o62,o63,o64,o65,o66,o0,o1,o67,o0,o68,o69,o70,o0,o1,o71,o0,o72,o73,o74,o0,o1,o75,o0,o76,o77,o78,o0,o1,o79,o0,o80,o81,o82,o0,o1,o83,o0,o84,o85,o86,o0,o1,o87,o88,o89,o0,o1,o90,o91,o92,o0,o1,o93,o94,o95,o0,o1,o96,o0,o97,o98,o99,o0,o1,ah5,o0,ah6,WH,WI,o0,o1,ah7,WJ,WK,o0,o1,ah8,WL,WM,o0,o1,ah9,o0,ai0,WN,WO,o0,o1,ai1,o0,ai2,WQ,WR,o0,o1,ai3,WS,WT,o0,o1,ai4,o0,ai5,WU,WV,o0,o1,ai6,o0,ai7,WW,WX,o0,o1,ai8,o0,ai9,WY,WZ]
def S2(w:bL)(o:OsState):SharedT:=⟨T2 w.params,220,lf0,#[],⟨0,0,0,0⟩,479,o⟩
def aj0(P:eX):Obj:=⟨.type "dict",aj,(.dict #[en P "__name__" 165 (.str "law_pegleap_k10_whole_a_row_or_a_paper" 512),en P "__doc__" 166 .none,en P "__package__" 167 .none,en P "__loader__" 168 (.builtin "__main__.__loader__#opaque"),en P "__spec__" 169 .none,en P "__annotations__" 170 (.ref 6),en P "__builtins__" 171 (.ref 4),en P "__file__" 173 (.str "/claim/cut.py" 172),en P "__cached__" 174 .none,en P "PegError" 206 (.ref 24),en P "BadBoard" 222 (.ref 37),en P "BadPegs" 238 (.ref 49),en P "BadWeights" 254 (.ref 61),en P "LAST" 258 (.int 7 257),en P "MOST_CELLS" 260 (.int 24 259),en P "is_rising" 267 (.ref 70),en P "is_cell" 274 (.ref 77),en P "check_cells" 282 (.ref 84),en P "Board" 311 (.ref 101),en P "check_pegs" 320 (.ref 112),en P "two_apart" 329 (.ref 119),en P "between" 337 (.ref 126),en P "leaps" 347 (.ref 133),en P "COLOURS" 351 (.int 3 350),en P "can_be_done" 359 (.ref 140),en P "pegs_behind" 365 (.ref 145),en P "odd_on" 371 (.ref 150),en P "class_of" 377 (.ref 155),en P "LEAST" 382 (.int (-1000) 381),en P "MOST" 384 (.int 1000 383),en P "check_weights" 393 (.ref 162),en P "fair" 403 (.ref 169),en P "weight" 409 (.ref 174),en P "steps_from" 417 (.ref 179),en P "next_rows" 430 (.ref 186),en P "first_rows" 441 (.ref 193),en P "in_order" 447 (.ref 198),en P "answer" 457 (.ref 205),en P "holds" 467 (.ref 212),en P "weights_hold" 478 (.ref 219),en P "closed_holds" 488 (.ref 226),en P "all_standings" 497 (.ref 233),en P "is_closed" 511 (.ref 240),en P "_law_cell_at" 521 (.ref 247),en P "_law_mix" 532 (.ref 254),en P "_law_whole" 539 (.ref 261),en P "_law_cells_by" 554 (.ref 268),en P "_law_pegs_by" 560 (.ref 273),en P "_law_between" 567 (.ref 280),en P "_law_leaps" 578 (.ref 287),en P "_law_open" 589 (.ref 294),en P "_law_behind" 595 (.ref 299),en P "_law_gone" 610 (.ref 306),en P "_law_class" 616 (.ref 311),en P "_law_fair" 627 (.ref 318),en P "_law_weight" 633 (.ref 323),en P "_law_holds" 639 (.ref 328),en P "_law_paper" 645 (.ref 333),en P "_law_others_by" 651 (.ref 338),en P "law" 657 (.ref 343)] 60),#[]⟩
noncomputable def aJ7:Obj:=⟨.none,aj,(.fields #[.int 2 0,.int 0 0,.ref 20,.int 4 0,.int 0 0,.ref 33,.int 6 0,.int 0 0,.ref 45,.int 8 0,.int 0 0,.ref 57,.int 13 0,.int 0 0,.ref 69,.int 15 0,.int 0 0,.ref 76,.int 17 0,.int 0 0,.ref 83,.int 25 0,.int 0 0,.ref 90,.int 30 0,.int 0 0,.ref 111,.int 36 0,.int 0 0,.ref 118,.int 40 0,.int 0 0,.ref 125,.int 42 0,.int 0 0,.ref 132,.int 51 0,.int 0 0,.ref 139,.int 53 0,.int 0 0,.ref 144,.int 56 0,.int 0 0,.ref 149,.int 58 0,.int 0 0,.ref 154,.int 66 0,.int 0 0,.ref 161,.int 72 0,.int 0 0,.ref 168,.int 79 0,.int 0 0,.ref 173,.int 85 0,.int 0 0,.ref 178,.int 87 0,.int 0 0,.ref 185,.int 94 0,.int 0 0,.ref 192,.int 102 0,.int 0 0,.ref 197,.int 104 0,.int 0 0,.ref 204,.int 113 0,.int 0 0,.ref 211,.int 121 0,.int 0 0,.ref 218,.int 127 0,.int 0 0,.ref 225,.int 131 0,.int 0 0,.ref 232,.int 138 0,.int 0 0,.ref 239,.int 149 0,.int 0 0,.ref 246,.int 153 0,.int 0 0,.ref 253,.int 158 0,.int 0 0,.ref 260,.int 160 0,.int 0 0,.ref 267,.int 173 0,.int 0 0,.ref 272,.int 179 0,.int 0 0,.ref 279,.int 181 0,.int 0 0,.ref 286,.int 189 0,.int 0 0,.ref 293,.int 195 0,.int 0 0,.ref 298,.int 198 0,.int 0 0,.ref 305,.int 208 0,.int 0 0,.ref 310,.int 215 0,.int 0 0,.ref 317,.int 221 0,.int 0 0,.ref 322,.int 223 0,.int 0 0,.ref 327,.int 242 0,.int 0 0,.ref 332,.int 252 0,.int 0 0,.ref 337,.int 267 0,.int 0 0,.ref 342]),#[]⟩
def aJ8:Obj:=tO #[.str "board" 482,.str "pegs" 483,.str "others" 484,.str "standings" 485]
def aJ9:Obj:=fZ (st 36)
def aj1:Obj:=cO "closed_holds" "closed_holds" 479 127 4 3 220 bT 221 (.ref 222) (.ref 223) (.ref 224) 486
def aj2:Obj:=fO (st 36) 3 "pegleap.search" 410 225
def aK0:Obj:=tO #[.str "board" 492,.str "standings" 493,.str "pegs" 494]
def aK1:Obj:=fZ (st 37)
def aj3:Obj:=cO "all_standings" "all_standings" 489 131 2 3 227 bT 228 (.ref 229) (.ref 230) (.ref 231) 495
def aj4:Obj:=fO (st 37) 3 "pegleap.search" 410 232
def aK2:Obj:=tO #[.str "board" 501,.str "standings" 502,.str "all_leaps" 503,.str "among" 504,.str "pegs" 505,.str "standing" 506,.str "leap" 507,.str "behind" 508]
def aK3:Obj:=fZ (st 38)
def aj5:Obj:=cO "is_closed" "is_closed" 498 138 2 3 234 bT 235 (.ref 236) (.ref 237) (.ref 238) 509
def aj6:Obj:=fO (st 38) 3 "pegleap.search" 410 239
def aK4:Obj:=tO #[.str "script" 517,.str "k" 518]
def aK5:Obj:=fZ (st 40)
def aj7:Obj:=cO "_law_cell_at" "_law_cell_at" 514 149 2 3 241 bT 242 (.ref 243) (.ref 244) (.ref 245) 519
def aj8:Obj:=fO (st 40) 3 "law_pegleap_k10_whole_a_row_or_a_paper" 512 246
def aK6:Obj:=tO #[.str "cell" 525,.str "k" 526,.str "many" 527,.str "some" 528,.str "number" 529]
def aK7:Obj:=fZ (st 41)
def aj9:Obj:=cO "_law_mix" "_law_mix" 522 153 3 3 248 bT 249 (.ref 250) (.ref 251) (.ref 252) 530
def ak0:Obj:=fO (st 41) 3 "law_pegleap_k10_whole_a_row_or_a_paper" 512 253
def aK8:Obj:=tO #[.str "found" 536]
def aK9:Obj:=fZ (st 42)
def ak1:Obj:=cO "_law_whole" "_law_whole" 533 158 1 3 255 bT 256 (.ref 257) (.ref 258) (.ref 259) 537
def ak2:Obj:=fO (st 42) 3 "law_pegleap_k10_whole_a_row_or_a_paper" 512 260
def aL0:Obj:=tO #[.str "script" 543,.str "most" 544,.str "cell" 545,.str "height" 546,.str "width" 547,.str "down" 548,.str "across" 549,.str "some" 550,.str "k" 551]
def aL1:Obj:=fZ (st 43)
def ak3:Obj:=cO "_law_cells_by" "_law_cells_by" 540 160 2 3 262 bT 263 (.ref 264) (.ref 265) (.ref 266) 552
def ak4:Obj:=fO (st 43) 3 "law_pegleap_k10_whole_a_row_or_a_paper" 512 267
def aL2:Obj:=fZ (st 44)
def ak5:Obj:=cO "_law_pegs_by" "_law_pegs_by" 555 173 2 3 269 bT 270 .none .none (.ref 271) 558
def ak6:Obj:=fO (st 44) 3 "law_pegleap_k10_whole_a_row_or_a_paper" 512 272
def aL3:Obj:=tO #[.str "leap" 564]
def aL4:Obj:=fZ (st 45)
def ak7:Obj:=cO "_law_between" "_law_between" 561 179 1 3 274 bT 275 (.ref 276) (.ref 277) (.ref 278) 565
def ak8:Obj:=fO (st 45) 3 "law_pegleap_k10_whole_a_row_or_a_paper" 512 279
def aL5:Obj:=tO #[.str "cells" 571,.str "found" 572,.str "one" 573,.str "two" 574,.str "apart" 575]
def aL6:Obj:=fZ (st 46)
def ak9:Obj:=cO "_law_leaps" "_law_leaps" 568 181 1 3 281 bT 282 (.ref 283) (.ref 284) (.ref 285) 576
def al0:Obj:=fO (st 46) 3 "law_pegleap_k10_whole_a_row_or_a_paper" 512 286
def aL7:Obj:=tO #[.str "cells" 582,.str "pegs" 583,.str "found" 584,.str "one" 585,.str "two" 586]
def aL8:Obj:=fZ (st 47)
def al1:Obj:=cO "_law_open" "_law_open" 579 189 2 3 288 bT 289 (.ref 290) (.ref 291) (.ref 292) 587
def al2:Obj:=fO (st 47) 3 "law_pegleap_k10_whole_a_row_or_a_paper" 512 293
def aL9:Obj:=fZ (st 48)
def al3:Obj:=cO "_law_behind" "_law_behind" 590 195 2 3 295 bT 296 .none .none (.ref 297) 593
def al4:Obj:=fO (st 48) 3 "law_pegleap_k10_whole_a_row_or_a_paper" 512 298
def aM0:Obj:=tO #[.str "cells" 599,.str "pegs" 600,.str "cell" 601,.str "most" 602,.str "row" 603,.str "here" 604,.str "k" 605,.str "some" 606,.str "leap" 607]
def aM1:Obj:=fZ (st 49)
def al5:Obj:=cO "_law_gone" "_law_gone" 596 198 4 3 300 bT 301 (.ref 302) (.ref 303) (.ref 304) 608
def al6:Obj:=fO (st 49) 3 "law_pegleap_k10_whole_a_row_or_a_paper" 512 305
def aM2:Obj:=fZ (st 50)
def al7:Obj:=cO "_law_class" "_law_class" 611 208 1 3 307 bT 308 .none .none (.ref 309) 614
def al8:Obj:=fO (st 50) 3 "law_pegleap_k10_whole_a_row_or_a_paper" 512 310
def aM3:Obj:=tO #[.str "cells" 620,.str "weights" 621,.str "one" 622,.str "two" 623,.str "left" 624]
def aM4:Obj:=fZ (st 51)
def al9:Obj:=cO "_law_fair" "_law_fair" 617 215 2 3 312 bT 313 (.ref 314) (.ref 315) (.ref 316) 625
def am0:Obj:=fO (st 51) 3 "law_pegleap_k10_whole_a_row_or_a_paper" 512 317
def aM5:Obj:=fZ (st 52)
def am1:Obj:=cO "_law_weight" "_law_weight" 628 221 3 3 319 bT 320 .none .none (.ref 321) 631
def am2:Obj:=fO (st 52) 3 "law_pegleap_k10_whole_a_row_or_a_paper" 512 322
def aM6:Obj:=fZ (st 53)
def am3:Obj:=cO "_law_holds" "_law_holds" 634 223 4 3 324 bT 325 .none .none (.ref 326) 637
def am4:Obj:=fO (st 53) 3 "law_pegleap_k10_whole_a_row_or_a_paper" 512 327
def aM7:Obj:=fZ (st 54)
def am5:Obj:=cO "_law_paper" "_law_paper" 640 242 1 3 329 bT 330 .none .none (.ref 331) 643
def am6:Obj:=fO (st 54) 3 "law_pegleap_k10_whole_a_row_or_a_paper" 512 332
def aM8:Obj:=fZ (st 55)
def am7:Obj:=cO "_law_others_by" "_law_others_by" 646 252 3 3 334 bT 335 .none .none (.ref 336) 649
def am8:Obj:=fO (st 55) 3 "law_pegleap_k10_whole_a_row_or_a_paper" 512 337
def aM9:Obj:=fZ (st 56)
def am9:Obj:=cO "law" "law" 652 267 1 3 339 bT 340 .none .none (.ref 341) 655
def an0:Obj:=fO (st 56) 3 "law_pegleap_k10_whole_a_row_or_a_paper" 512 342
def T3(P:eX):BT:=bt 10 [boot_o_0 P,boot_o_1 P,boot_o_2 P,aj0 P,boot_o_4 P,boot_o_5 P,boot_o_6 P,boot_o_7 P,boot_o_8 P,boot_o_9 P,boot_o_10 P,o0,aJ7,o2,o3,o6,o7,o8 P,o0,o1,o9,o10,o0,o11 P,o12,o13,o14,o15,MR,o7,o17 P,o0,o1,o18,o19,o0,o20 P,o21,o22,o23,MR,o7,o24 P,o0,o1,o25,o26,o0,o27 P,o28,o29,o30,MR,o7,o31 P,o0,o1,o32,o33,o0,o34 P,o35,o36,o37,o0,o1,o38,o0,o39,o40,o41,o0,o1,o44,o0,o45,o46,o47,o0,o1,o48,o0,o49,o50,o51,o0,o7,o52 P,o0,o53,o54,o55,o0,o1,o56,o0,o57,o58,o59,o60,o61 P,o62,o63,o64,o65,o66,o0,o1,o67,o0,o68,o69,o70,o0,o1,o71,o0,o72,o73,o74,o0,o1,o75,o0,o76,o77,o78,o0,o1,o79,o0,o80,o81,o82,o0,o1,o83,o0,o84,o85,o86,o0,o1,o87,o88,o89,o0,o1,o90,o91,o92,o0,o1,o93,o94,o95,o0,o1,o96,o0,o97,o98,o99,o0,o1,ah5,o0,ah6,WH,WI,o0,o1,ah7,WJ,WK,o0,o1,ah8,WL,WM,o0,o1,ah9,o0,ai0,WN,WO,o0,o1,ai1,o0,ai2,WQ,WR,o0,o1,ai3,WS,WT,o0,o1,ai4,o0,ai5,WU,WV,o0,o1,ai6,o0,ai7,WW,WX,o0,o1,ai8,o0,ai9,WY,WZ,o0,o1,aJ8,o0,aJ9,aj1,aj2,o0,o1,aK0,o0,aK1,aj3,aj4,o0,o1,aK2,o0,aK3,aj5,aj6,o0,o1,aK4,o0,aK5,aj7,aj8,o0,o1,aK6,o0,aK7,aj9,ak0,o0,o1,aK8,o0,aK9,ak1,ak2,o0,o1,aL0,o0,aL1,ak3,ak4,o0,o1,aL2,ak5,ak6,o0,o1,aL3,o0,aL4,ak7,ak8,o0,o1,aL5,o0,aL6,ak9,al0,o0,o1,aL7,o0,aL8,al1,al2,o0,o1,aL9,al3,al4,o0,o1,aM0,o0,aM1,al5,al6,o0,o1,aM2,al7,al8,o0,o1,aM3,o0,aM4,al9,am0,o0,o1,aM5,am1,am2,o0,o1,aM6,am3,am4,o0,o1,aM7,am5,am6,o0,o1,aM8,am7,am8,o0,o1,aM9,am9,an0]
def S3(w:bL)(o:OsState):SharedT:=⟨T3 w.params,344,lf0,#[],⟨0,0,0,0⟩,658,o⟩
def H1(P:eX):aW:=⟨⟨[boot_o_0 P,boot_o_1 P,boot_o_2 P,aj0 P,boot_o_4 P,boot_o_5 P,boot_o_6 P,boot_o_7 P,boot_o_8 P,boot_o_9 P,boot_o_10 P,o0,aJ7,o2,o3,o6,o7,o8 P,o0,o1,o9,o10,o0,o11 P,o12,o13,o14,o15,MR,o7,o17 P,o0,o1,o18,o19,o0,o20 P,o21,o22,o23,MR,o7,o24 P,o0,o1,o25,o26,o0,o27 P,o28,o29,o30,MR,o7,o31 P,o0,o1,o32,o33,o0,o34 P,o35,o36,o37,o0,o1,o38,o0,o39,o40,o41,o0,o1,o44,o0,o45,o46,o47,o0,o1,o48,o0,o49,o50,o51,o0,o7,o52 P,o0,o53,o54,o55,o0,o1,o56,o0,o57,o58,o59,o60,o61 P,o62,o63,o64,o65,o66,o0,o1,o67,o0,o68,o69,o70,o0,o1,o71,o0,o72,o73,o74,o0,o1,o75,o0,o76,o77,o78,o0,o1,o79,o0,o80,o81,o82,o0,o1,o83,o0,o84,o85,o86,o0,o1,o87,o88,o89,o0,o1,o90,o91,o92,o0,o1,o93,o94,o95,o0,o1,o96,o0,o97,o98,o99,o0,o1,ah5,o0,ah6,WH,WI,o0,o1,ah7,WJ,WK,o0,o1,ah8,WL,WM,o0,o1,ah9,o0,ai0,WN,WO,o0,o1,ai1,o0,ai2,WQ,WR,o0,o1,ai3,WS,WT,o0,o1,ai4,o0,ai5,WU,WV,o0,o1,ai6,o0,ai7,WW,WX,o0,o1,ai8,o0,ai9,WY,WZ,o0,o1,aJ8,o0,aJ9,aj1,aj2,o0,o1,aK0,o0,aK1,aj3,aj4,o0,o1,aK2,o0,aK3,aj5,aj6,o0,o1,aK4,o0,aK5,aj7,aj8,o0,o1,aK6,o0,aK7,aj9,ak0,o0,o1,aK8,o0,aK9,ak1,ak2,o0,o1,aL0,o0,aL1,ak3,ak4,o0,o1,aL2,ak5,ak6,o0,o1,aL3,o0,aL4,ak7,ak8,o0,o1,aL5,o0,aL6,ak9,al0,o0,o1,aL7,o0,aL8,al1,al2,o0,o1,aL9,al3,al4,o0,o1,aM0,o0,aM1,al5,al6,o0,o1,aM2,al7,al8,o0,o1,aM3,o0,aM4,al9,am0,o0,o1,aM5,am1,am2,o0,o1,aM6,am3,am4,o0,o1,aM7,am5,am6,o0,o1,aM8,am7,am8,o0,o1,aM9,am9,an0]⟩,lf0⟩
noncomputable def env:Env:={scope:=pq.main.scope,locals:=mainNs,globals:=mainNs,cells:=[],code:=(.ref 13),frame:=ai 14}
abbrev bE:List aY:=behindTheImports pq
def cE:Code:= .body bE env
abbrev fp:Pos:=⟨0,0,0,0⟩
noncomputable abbrev B:List Frame:=[topFrame fp]
def pre(w:bL)(o:OsState):topGo treeTable pq w 11 (ai (.ref 6)) 12 ⟨boot_heap w.params,#[],boot_drawn,boot_toks,o⟩ (topStub pq)=ai (⟨Ha w.params,#[],⟨0,0,0,0⟩,187,o⟩,⟨denote treeTable cE,cE,⟨0,0,0,0⟩,B⟩):=by kernel_rfl
def block(w:bL)(o:OsState):segRun treeTable pq w 11 (ai (.ref 6)) 1 1 ⟨Ha w.params,#[],⟨0,0,0,0⟩,187,o⟩ (blockOf bE env cE ⟨0,0,0,0⟩ B)=ai (.next,(S0 w o).abs,cE,⟨0,0,0,0⟩):=by kernel_rfl
def g0:List aY:=tk 9 (dr 0 bE)
def r0(w:bL)(o:OsState):segRunT treeTable pq w 11 (ai (.ref 6)) 1 891 (S0 w o) (piecesOf g0 env cE ⟨0,0,0,0⟩ B)=ai (.next,S1 w o,cE,⟨13,0,14,38⟩):=by kernel_rfl
def g1:List aY:=tk 27 (dr 9 bE)
def r1(w:bL)(o:OsState):segRunT treeTable pq w 11 (ai (.ref 6)) 1 879 (S1 w o) (piecesOf g1 env cE ⟨13,0,14,38⟩ B)=ai (.next,S2 w o,cE,⟨121,0,126,84⟩):=by kernel_rfl
noncomputable def g2:List aY:=tk 21 (dr 36 bE)
def r2(w:bL)(o:OsState):segRunT treeTable pq w 11 (ai (.ref 6)) 1 611 (S2 w o) (piecesOf g2 env cE ⟨121,0,126,84⟩ B)=ai (.next,S3 w o,cE,⟨267,0,292,25⟩):=by kernel_rfl
def fin(w:bL)(o:OsState):topRun treeTable pq w 11 (ai (.ref 6)) 2 (S3 w o).abs ⟨doneF .next,cE,⟨267,0,292,25⟩,B⟩=ai ⟨H1 w.params,#[],⟨0,0,0,0⟩,658,o⟩:=by kernel_rfl
def hb:bE=(g0++(g1++(g2++[]))):=by kernel_rfl
def run(w:bL)(o:OsState):topRun treeTable pq w 11 (ai (.ref 6)) (12+(1+(891+(879+(611+2))))) ⟨boot_heap w.params,#[],boot_drawn,boot_toks,o⟩ (topStub pq)=ai ⟨H1 w.params,#[],⟨0,0,0,0⟩,658,o⟩:=
  go_top (pre w o) (piece_block (block w o) (WG hb (piece_app (segRun_of (r0 w o)) (piece_app (segRun_of (r1 w o)) (piece_app (segRun_of (r2 w o)) (piece_nil (fin w o)))))))
def K(P:eX):Frag:=(nat_lit 0,boot_o_0 P)::(nat_lit 1,boot_o_1 P)::(nat_lit 2,boot_o_2 P)::(nat_lit 3,aj0 P)::(nat_lit 4,boot_o_4 P)::(nat_lit 5,boot_o_5 P)::(nat_lit 6,boot_o_6 P)::(nat_lit 7,boot_o_7 P)::(nat_lit 8,boot_o_8 P)::(nat_lit 9,boot_o_9 P)::(nat_lit 10,boot_o_10 P)::(nat_lit 13,o2)::(nat_lit 23,o11 P)::(nat_lit 24,o12)::(nat_lit 36,o20 P)::(nat_lit 37,o21)::(nat_lit 48,o27 P)::(nat_lit 49,o28)::(nat_lit 60,o34 P)::(nat_lit 61,o35)::(nat_lit 69,o40)::(nat_lit 70,o41)::(nat_lit 76,o46)::(nat_lit 77,o47)::(nat_lit 83,o50)::(nat_lit 84,o51)::(nat_lit 97,o58)::(nat_lit 98,o59)::(nat_lit 100,o61 P)::(nat_lit 101,o62)::(nat_lit 111,o69)::(nat_lit 112,o70)::(nat_lit 118,o73)::(nat_lit 119,o74)::(nat_lit 125,o77)::(nat_lit 126,o78)::(nat_lit 132,o81)::(nat_lit 133,o82)::(nat_lit 139,o85)::(nat_lit 140,o86)::(nat_lit 144,o88)::(nat_lit 145,o89)::(nat_lit 149,o91)::(nat_lit 150,o92)::(nat_lit 154,o94)::(nat_lit 155,o95)::(nat_lit 161,o98)::(nat_lit 162,o99)::(nat_lit 168,WH)::(nat_lit 169,WI)::(nat_lit 173,WJ)::(nat_lit 174,WK)::(nat_lit 178,WL)::(nat_lit 179,WM)::(nat_lit 185,WN)::(nat_lit 186,WO)::(nat_lit 192,WQ)::(nat_lit 193,WR)::(nat_lit 197,WS)::(nat_lit 198,WT)::(nat_lit 204,WU)::(nat_lit 205,WV)::(nat_lit 211,WW)::(nat_lit 212,WX)::(nat_lit 218,WY)::(nat_lit 219,WZ)::(nat_lit 225,aj1)::(nat_lit 226,aj2)::(nat_lit 232,aj3)::(nat_lit 233,aj4)::(nat_lit 239,aj5)::(nat_lit 240,aj6)::(nat_lit 246,aj7)::(nat_lit 247,aj8)::(nat_lit 253,aj9)::(nat_lit 254,ak0)::(nat_lit 260,ak1)::(nat_lit 261,ak2)::(nat_lit 267,ak3)::(nat_lit 268,ak4)::(nat_lit 272,ak5)::(nat_lit 273,ak6)::(nat_lit 279,ak7)::(nat_lit 280,ak8)::(nat_lit 286,ak9)::(nat_lit 287,al0)::(nat_lit 293,al1)::(nat_lit 294,al2)::(nat_lit 298,al3)::(nat_lit 299,al4)::(nat_lit 305,al5)::(nat_lit 306,al6)::(nat_lit 310,al7)::(nat_lit 311,al8)::(nat_lit 317,al9)::(nat_lit 318,am0)::(nat_lit 322,am1)::(nat_lit 323,am2)::(nat_lit 327,am3)::(nat_lit 328,am4)::(nat_lit 332,am5)::(nat_lit 333,am6)::(nat_lit 337,am7)::(nat_lit 338,am8)::(nat_lit 342,am9)::(nat_lit 343,an0)::[]
noncomputable abbrev as:List av:=[195,0,1,2,3,4,5,6,7,8,9,10,13,23,24,36,37,48,49,60,61,69,70,76,77,83,84,97,98,100,101,111,112,118,119,125,126,132,133,139,140,144,145,149,150,154,155,161,162,168,169,173,174,178,179,185,186,192,193,197,198,204,205,211,212,218,219,225,226,232,233,239,240,246,247,253,254,260,261,267,268,272,273,279,280,286,287,293,294,298,299,305,306,310,311,317,318,322,323,327,328,332,333,337,338,342,343]
noncomputable abbrev q:dz:=view PySem.Challenge.pw_pegleap_k10_whole_a_row_or_a_paper [1,2,3,4,6,7,8,9,10,11,12,13,14,15,17,18,19,20,21,23,24,25,26,27,29,30,31,32,33,34,35,36,37,38,40,41,42,43,44,45,46,47,48,49,50,51,52,53,54,55,56]
abbrev loose:List Str:=[]
abbrev lv:List (Str×WData):=[]
noncomputable def dL:DefRec:=match st 56 with |.FunctionDef n a b _ _ _ sc _ _ p=>⟨n,a,b,sc,p⟩|_=>⟨default,default,[],default,⟨0,0,0,0⟩⟩
theorem ws:PySem.Challenge.rw_pegleap_k10_whole_a_row_or_a_paper.wellSaid=bT:=by kernel_rfl
theorem size(w:bL):((boot_heap w.params).isNs dS&&(#[]:Array GenState).size==0,(boot_heap w.params).objs.size,(boot_heap w.params).nsMap dS "__annotations__")=(bT,11,(ai (.ref 6))):=by kernel_rfl
theorem aN0(w:bL):(λo=>((staticsOk (importedModules pq.main.body) (boot_heap w.params) (H1 w.params)&&namesBound pq (H1 w.params)&&gensDone ⟨H1 w.params,#[],⟨0,0,0,0⟩,658,o⟩&&laidKept (boot_heap w.params) (H1 w.params)),openSeen q loose (importedModules pq.main.body) (λs=>xlAt q lv s&&recOk (RowW.records (OpenRow.toRowW (OpenLaw.row PySem.Challenge.rw_pegleap_k10_whole_a_row_or_a_paper))) s) bT ⟨H1 w.params,#[],⟨0,0,0,0⟩,658,o⟩,(λs:ay=>as.map s.heap.get?) ⟨H1 w.params,#[],⟨0,0,0,0⟩,658,o⟩))=λ_=>(bT,openGood q loose,(λw:bL=>(((nat_lit 195,o1)::K w.params)).map λp=>ai p.2) w):=by kernel_rfl
theorem hl:LeftO pq q loose (λs=>xlAt q lv s&&recOk (RowW.records (OpenRow.toRowW (OpenLaw.row PySem.Challenge.rw_pegleap_k10_whole_a_row_or_a_paper))) s) (λs:ay=>as.map s.heap.get?) (λw:bL=>(((nat_lit 195,o1)::K w.params)).map λp=>ai p.2) 4882:=
  LeftO.of_pieces (boot_open (by kernel_rfl) (by kernel_rfl) (λs=>by kernel_rfl)) size run (by kernel_rfl) aN0
end Hd
end
open PySem PySem.W PyProof.Rows
set_option maxRecDepth 100000 in
set_option maxHeartbeats 0 in
theorem PySem.Challenge.cw_pegleap_k10_whole_a_row_or_a_paper_holds : PySem.Challenge.rw_pegleap_k10_whole_a_row_or_a_paper.Holds := by
  refine holds_law Hd.ws fun be3=> ?_
  refine holds_openX (r:=OpenLaw.row PySem.Challenge.rw_pegleap_k10_whole_a_row_or_a_paper) (d:=Hd.dL) (kwd:=[]) Hd.hl (fun s e=>xl_of s (Bool.and_eq_true_iff.mp e).1) XL.keeps (by kernel_rfl) (by kernel_rfl) (by kernel_rfl) (fun s e=>recFacts_of (Bool.and_eq_true_iff.mp e).2) (by kernel_rfl) be3 (by kernel_rfl) ⟨rfl,rfl,rfl,rfl,rfl,by kernel_rfl⟩ ?hw ?hc
  (case hw=>w_on;w_witness2)
  k_fill
  refine Pk.aH8 (l:=PySem.Challenge.rw_pegleap_k10_whole_a_row_or_a_paper) (K:=fun P=>(nat_lit 195,Hd.o1)::Hd.K P) (K1:=Hd.K) (T0:=195) (by kernel_rfl) (by kernel_rfl) (fun _=>by kernel_rfl) (fun _=>by kernel_rfl) (fun _=>by kernel_rfl) (fun _=>⟨197,by kernel_rfl⟩) ?F
  case F=>
    intro w mg fa h KX G hmg
    exact Pk.aH7 (h:=h) hmg ⟨⟨_,_,_,_,_,195,_,_,0,0,_⟩,⟨Dm.qD KX G,Dm.qD KX G,Dm.qD KX G,Dm.qD KX G,Dm.qD KX G,Dm.qD KX G,Dm.qD KX G,Dm.qD KX G,Dm.qD KX G,Dm.qD KX G,Dm.qD KX G,Dm.qD KX G,Dm.qD KX G,Dm.qD KX G,Dm.qD KX G,Dm.qD KX G,Dm.qD KX G,Dm.qD KX G,Dm.qD KX G,Dm.qD KX G,Dm.qD KX G,Dm.qD KX G,Dm.qD KX G,Dm.qD KX G,Dm.qD KX G,Dm.qD KX G,Dm.qD KX G,Dm.qD KX G,Dm.qD KX G,Dm.qD KX G,Dm.qD KX G,Dm.qD KX G,Dm.qD KX G,Dm.qD KX G,Dm.Tq KX G,Dm.Tq KX G,Dm.Tq KX G,Dm.Tq KX G,Dm.Tq KX G,Dm.Tq KX G,Dm.Tq KX G,Dm.Tq KX G,Dm.Tq KX G,Dm.Tq KX G,Dm.XT KX G,Dm.XT KX G,Dm.XT KX G,Dm.XT KX G,Dm.XT KX G,Dm.XT KX G,Dm.XT KX G,Dm.XT KX G,by kernel_rfl,by kernel_rfl,Dm.bb4 KX G,Dm.bmS KX G,by decide,Dm.clS,Dm.naS,Dm.inS⟩,rfl⟩ (fun t ns hl=>Pk.aJ6 t ns)
end ah4
