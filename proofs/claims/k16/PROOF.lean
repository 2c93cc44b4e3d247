import PyProof.Rows.All
import Wide.All
import OpenK.AllK
import Wide.FinOn
import Lean
import PyProof.EqAt
import PyProof.EqKinds
import PyProof.TupleCall
import KE.KTryMore
import KE.KDictLaws
import KE.KDictList
import KE.KDictOf
import PyProof.AttrMiss
import KE.KSortTup
import PyProof.SetScanFacts
import PyProof.SetKind
import PyProof.ZipIter
import PyProof.WalkInts
import KE.KMinKey
import KE.KIntText
import PyProof.Draws
import PySem.Challenge.RW_askbook_k16_whole_sound_parts
import KE.RegKTryMore
set_option Elab.async false
set_option linter.all false
set_option maxRecDepth 100000
set_option maxHeartbeats 4000000
set_option tactic.hygienic false
open PySem renaming wpAny_bind->iA,wpAny_pure->iB,sizeLine->iN,Value->jB,model->jG,starEach->jI,wpAny->jK,Shared->jP,wpAny_call_entry->kL,wpAny_mono->kN,sizeLine_eq->kP,Program->kR,wpAny_newObj_type->kX,wpAny_holding->kY,wpAny_callSpecial?_slot->lE,cLine->lN,compareOp->lS,wpAny_truthy_bool->lZ,mainGlobals->mB,World->mG,rawInt->mK,codeAny_builtin->mN,mem_of_lookup->mP,wpAny_pyIter_list->mS,wpAny_setState_of->mT,wpAny_rule->nJ,plainId_quiet->nR,IsTupleKey->nS,wpAny_seqItems->nT,backTo->nU,wpAny_forIn_list->oC,wpAny_isInstance->oE,wpAny_Call_Name_kw->oF,wpAny_typeNameOfWhole_itemiter->oH,codeAny_mono->oK,Around->oN,wpAny_typeNameOfWhole_keyiter->oP,wpAny_setField->oQ,foldedSetIterable->oS,wpAny_dictEntries->oT,sysModules->oV,Scope->pA,wpAny_setEntries_of->pC,wpAny_typeOf->pF,wpAny_attempt->pI,wpAny_fieldsOf->pO,firstArgMember->pQ,codeAny->pR,Keyword->pS,wpAny_passesOwn->pX,wpAny_updateSeq->pY,bootBuiltins->qA,wpAny_pyIter_slot->qE,attributeBase->qH,binaryOp->qO,wpAny_askSetting->qR,SetTable->qT,keywordEach->qU,wpAny_setField_rec->qZ,wpAny_specialOf->rA,wpAny_loadPart'->rB,wpAny_dictEpoch->rD,swapsWith->rF,wpAny_notOrdered_dict->rG,assignEach->rQ,PyData->rS,wpAny_of_eq->rU,cellsFrom->rZ,builtinsNs->sP,call_meets->sQ,IsItemIter->sT,sliceBounds->sX,wpAny_field->sZ,atKey_none_of_get->tQ,wpAny_storeSet_of->tT,wpAny_pyIter_enum->tU,wpAny_isOneOf_itemiter->tV,wpAny_tryCatch->tW,isSubtype_tuple_tuple->tZ,behindInMarks->uO,backToKw->uR,codeAny_call_builtin->uV,wpAny_execs_nil->uX,wpAny_ite_split->vD,argBest->vM,PassesOwn->vN,wpAny_tupleItemsOf->vP,pyNext->vR,recursionLimit->vS,FuncData->vT,NameKind->vU,isSubtype_stop->vY,storedH->wD,Reads->wF,relabel->wG,ofAClassStatement->wK,wpAny_letGo->wL,wpAny_standAt->wO,wpAny_handled->wQ,Arguments->wV,noFill_tuple_add->wW,seqIndex?->wX,wpAny_call->xF,concat_meets->xH,IsPart->xI,getItem->xJ,call_meetsIn->xK,notedBy->xN,letOwnedTupleGo->xQ,atKey->xT,codeAny_of_tree->xX,pyIter->xZ,wpAny_throw->yA,hashByValue->yB,eqIsQuiet->yG,lastMarks->yH,pushCells->yI,Addr->o_,Str->x_,Heap->C_,eval->I_,Builtin->K_,Stmt->S_,Obj->_d,Within->g?,Env->j?,valueAt->l?,callerA->m?,entryOfKey->s?,bindArgs->t?,wpAny_newFunctionEnv_cells->w?,typeIs_int->x?,newFunctionEnv->z?,wpAny_newTuple->C?,wpAny_letOwnedTupleGo_enum->E?,seq_tuple_add->M?,wpAny_comprehension_free->N?,IsItemIterOut->R?,pickOrder->X?,Pos->h!,BindsTo->i!,richCompare_meets_room->t!,codeAny_call_function->G!,wpAny_isOneOf_keyiter->I!,hashByValue_scannable->K!,weight_type_call_type->L!,bindL->P!,bindC->R!,wpAny_alloc->S!,richCompare->T!,entryFor->U!,storedH_new->X!,setField->Y!
open List renaming length->_7,length_cons->iC,length_map->iD,mem_cons_of_mem->iI,map_cons->iJ,getD_eq_getElem?_getD->iK,mem_cons_self->iM,length_append->iO,getElem?_eq_getElem->iR,replicate->iT,range->jD,getElem?_map->jF,getElem?_set_ne->jL,getElem?_set_self->jQ,size_toArray->jS,mem_of_getElem?->jT,map_map->jV,append_nil->jX,map_congr_left->jY,getElem?_cons_zero->kA,getElem?_cons_succ->kB,mem_append_left->kE,append_assoc->kF,length_range->kG,getElem?_append_left->kI,all_cons->kJ,map_append->kQ,mem_append_right->kS,getElem?_append_right->kW,take_append_drop->lA,length_nil->lB,length_drop->lD,drop_eq_getElem_cons->lG,take_of_length_le->lJ,idxOf_lt_length_of_mem->lM,length_set->lO,length_replicate->lQ,length_filter_le->lR,length_take->lX,lookup_cons->lY,length->mD,mem_cons->mF,cons_append->mI,set_cons_succ->mL,getElem?_eq_none->mQ,getElem?_of_mem->mV,any_cons->mZ,length_singleton->nC,nodup_nil->nE,map_nil->nI,length_range'->nM,set_cons_zero->nN,flatten_cons->nX,mem_map->oA,getElem_mem->oG,nil_append->oX,filterMap_cons->pB,drop_of_length_le->pH,filter_cons->pJ,mem_singleton->pN,pairwise_map->qD,replicate_succ->qM,getElem?_range->qN,ext_getElem->qQ,nodup_append->rL,ext_getElem?->rN,lookup->rR,mem_of_mem_drop->rV,mem_of_mem_take->rW,lt_irrefl->rX,perm_ext_iff_of_nodup->rY,isEmpty_iff->sA,lt_trans->sM,getElem?_replicate->sV,pairwise_singleton->tD,pairwise_lt_range->tS,eraseIdxIfInBounds_toArray->tX,cons_lt_cons_iff->uB,drop_length->uF,any_eq_true->uJ,not_mem_nil->uK,of_mem_zip->uY,foldl_cons->uZ,mem_append->vF,mem_filter->vG,mem_map_of_mem->vJ,drop_drop->vW,drop_zero->vX,flatMap_cons->wM,nodup_range->xA,range'_succ->xB,map_fst_zip->xC,map_id->yE,Perm->yJ,getElem?_eq_some_iff->h_,mem_map->k_,mem_cons->l_,mem_singleton->q_,mem_append->s_,mem_range->v_,all_eq_true->w_,pairwise_cons->y_,mem_filter->z_,nodup_cons->B_,pairwise_iff_getElem->F_,length_eq_zero_iff->H_,cons_lt_cons_iff->N_,nodup_append->O_,length_pos_iff->R_,mem_filterMap->U_,filter_eq_nil_iff->V_,any_eq_false->Z_,mem_flatMap->_a,mem_iff_getElem->_b,map_inj_left->_e,mem_iff_getElem?->_h,findIdx?_eq_some_iff_getElem->_n,foldl->_I,setIfInBounds_toArray->_L,length_eraseIdx_of_lt->_M,mem_of_find?_eq_some->_V,getElem?_zip_eq_some->_W,findIdx?_eq_none_iff->_X,exists_mem_of_ne_nil->d?,sum_cons->f?,map_id'->n?,toArray->o?,length_pos_of_mem->p?,getElem?_toArray->D?,pairwise_append->J?,filter_eq_self->S?,zip_cons_cons->Z?,getElem?_take->a!,findIdx?_cons->e!,take_sublist->j!,mapM_toArray->y!,flatten_nil->H!,flatMap_nil->M!,mem_flatten->N!,zip_append->_1,find?_some->_2
open PySem.Heap renaming get?_push_of_some->iE,get?_push_size->iS,lt_size->jA,get?_update_self->kM,SameBut->kZ,get?_update_other->mJ,size_push->mM,ExtBut->wJ,get?_none_of_le->G?,get?_update_ne->O?
open Nat renaming le_refl->iF,ne_of_lt->jJ,lt_of_lt_of_le->jR,zero_le->jW,le_trans->kC,lt_irrefl->kU,lt_succ_self->mH,le_add_right->mO,ne_of_gt->nH,lt_or_ge->nY,zero_add->nZ,le_of_eq->oJ,le_succ->oO,lt_succ_of_lt->oU,add_assoc->qF,lt_trichotomy->rM,lt_of_le_of_lt->sR,lt_or_gt_of_ne->sS,add_sub_cancel_left->tB,lt_trans->tJ,min_le_right->uE,not_lt_zero->vC,sub_lt_sub_left->vH,sub_zero->vL,le_of_not_lt->wY,le_of_lt->xE,mul_comm->xM,pow_succ->xP,le_antisymm->xW,min_eq_left->xY,add_mul->yC,one_mul->yD,mod_lt->_R,lt_of_succ_lt_succ->A?,pow_le_pow_right->T?,lt_or_eq_of_le->v!,pos_of_ne_zero->x!,le_of_lt_succ->J!,div_eq_of_lt->_0,succ_ne_self->_5
open PySem.W renaming Frag->iL,kasC_bind->jC,kasC_pure->jH,fnOf->lI,keepIn->mC,codeIn->nD,kasC_range->nL,findIn->nV,emptyDict->nW,instObj->oW,kia_one->oY,kitOne->rT,codeHdIn->sC,nsIn->sD,hasDictIn->tF,cellsFrom_some->tG,kasC_get->tO,plainGet->uD,kasC_modify->uT,kasC_lift->vO,plainOver->wB,takerIn->xR,makesIn->xS,kla_obj->xU,kasC->M_,OpenLaw->_m,lookIn->_v,tabObj->_y,mg_of->_G,envX->_Y,callWith_K->u?,codeRec_of->v?,kitx_dict->H?,handedIn->L?,CodeHd->q!,kas_rev->u!,noTabs->E!,isFn->O!
open Array renaming length_toList->iP,getElem?_toList->jO,getElem?_eq_getElem->jU,toList_append->lT,size_map->pL,map_push->pM,forIn_toList->qV,map_extract->tP,getElem?_eq_some_iff->L_,perm_iff_toList_perm->_E,getElem?_eq_none->i?,getElem?_mapIdx->q?,toList_reverse->B?,toList_push->W?,toList_inj->w!
open Bool renaming and_eq_true->iQ,or_eq_true->pZ,not_eq_true'->qC,true->c_,false->e_,false_ne_true->D_
open Option.some renaming inj->jM,injEq->e?
open PySem.PyData renaming canLayAll0->jN,eqv->lC,depthAll->lF,int->lK,canLay0->mY,depth->oM,eqvAll->qL
open PySem.SeqAt renaming shaped->jZ,canLay_of_shaped->pG
open PySem.Heap.SameBut renaming update->kK
open False renaming elim->lV
open Int renaming toNat_natCast->mE,eq_ofNat_of_zero_le->sY,toNat->yK,zero_add->F?,natCast_nonneg->n!,not_lt->o!,emod_lt_of_pos->F!
open PySem.F renaming plainAttrs_list->mU,slot_dict_itemiterator_next->oR,slot_dict_keyiterator_next->oZ,plainAttrs_dict->qP,slot_dict_setdefault->rC,slot_set_iter->rH,args_tuple_add_2->sI,slot_list_append->sJ,type_list_append->sL,entry_tuple_add->sW,slot_tuple_add->tH,args_dict_itemiterator_next_1->tY,slot_dict_get->uA,args_dict_keyiterator_next_1->uH,entry_dict_itemiterator_next->uL,plain_min_loop->uM,entry_dict_keyiterator_next->uU,slot_tuple_lt->vB,type_dict_setdefault->vE,args_tuple_lt_2->wI,entry_tuple_lt->wZ,entry_min_loop->xD,called_set->J_,slot_list_extend->_B,type_list_extend->_C,args_dict_get_3->_H,slot_list_index->_J,args_set_iter_1->_N,slot_dict_items->_O,entry_dict_get->_Q
open LawfulBEq renaming eq_of_beq->nA
open PySem.Value renaming none->nB,ref->pW,type->qW,bool->vQ,int->yF,str->g!
open PySem.NameKind renaming free->nF,cell->nQ
open PyProof.Rows renaming Keyed->nG,SortSt->nO,slot_tuple_getitem->oB,callWith_type1->rJ,room_in_shaped->tL,SortKind->tM,lt_int->vI,AllBare->wA,envOfC->xG,slot_tuple_getitem->_c,boot_sorted->_o,boot_tuple->_q,boot_list->_r,boot_int->_w,bubble->_S,listUpdate_at->P?,IsTup->U?,subscriptTail_builtinR->l!,IntsAre->p!,seqObj->A!,failedOf->V!,seqEpoch_at->W!
open Ne renaming symm->pE
open List.Perm renaming refl->pK,swap->qS,eq_of_pairwise->sN,append_left->_K
open PySem.Builtin.Tuple renaming tupleHashOf->pT,tupleExact->qJ,tupleItemsOf->rP
open PySem.Builtin.Slice renaming slicePlaces->pU,sliceAdjust->sE,sliceApplied->_j
open Classical renaming byContradiction->pV
open List.Pairwise renaming nil->qB,imp->tR,filter->uW,map->wN,and_mem->_t
open True renaming intro->qG
open PySem.Builtin.List renaming listTooLong->qI,listSameRef->_p
open PySem.AutoSeq1 renaming wpAny_loadPart'->qK
open PySem.Calls renaming spliced_cons->qX,callWith_builtin->qY,evalArgs_plain->uS,spliced_nil->wC,Name_function_global->_A
open PySem.Builtin.Dict_items renaming ownsTuple->rE,ownedTupleFields->sO
open PySem.SetTable renaming insertAt->rO,below->vZ,grown->_s,fits->_z,fill->C!
open PyProof.Rows.F renaming entry_set_update_loop->sF,plain_set_update_loop->sG
open PySem.Paired renaming length->sH
open PySem.Builtin.Str renaming occurrences->sU
open Option renaming bind_eq_some_iff->tE,map_some->xV,some->a_,none->d_,getD_none->V?,getD_some->d!
open PySem.Builtin.Dict renaming showsAll->uC
open PyProof.Rows.SortSt renaming mk'->uG
open PySem.Obj renaming putSet->uI,mapSeq->vV,data_mapDictKeys->Q?,data_mapFields->B!
open Sum renaming inl->uN,inr->vK
open Inhabited renaming default->uP
open Sum.inl renaming inj->uQ
open ForInStep renaming yield->vA
open PySem.Shared renaming TypeIs->wR
open Int.ofNat renaming inj->wU
open PySem.Walks renaming list->xO
open _root_ renaming rfl->_6,List->b_,Option->f_,Nat->g_,decide_eq_false->i_,Int->j_,decide_eq_true->m_,decide_eq_true_eq->n_,Array->p_,Bool->r_,absurd->t_,congrArg->u_,of_decide_eq_true->A_,beq_iff_eq->E_,beq_eq_false_iff_ne->G_,DecidableEq->P_,False->T_,beq_self_eq_true->W_,decide_eq_false_iff_not->X_,String->Y_,if_true->_g,if_false->_l,True->_u,of_decide_eq_false->_x,bne_self_eq_false->_F,StateT->_T,ForInStep->_U,exists_eq_or_imp->_Z,decide_eq_decide->b?,or_false->_3
open Pure renaming pure->Q_
open PySem.Builtin.Frozenset renaming slot0->_i,updateFrom->_4
open Lean.Omega.Int renaming ofNat_min->_k
open PySem.pickOrder renaming go->_D
open Nat.succ renaming inj->_P
open PySem.Around renaming frames_deeper->k?,under_plain->K?
open PySem.PassesOwn renaming leaving->r?
open PySem.Str renaming ofString->y?
open List.cons renaming injEq->I?,inj->Y?
open PySem.Code renaming quiet_builtin->b!
open PyProof.Rows.IsTup renaming new->k!
open Std renaming lt_of_le_of_ne->z!
open Decidable renaming isFalse->D!
abbrev iG.{u}:=@if_neg.{u}
abbrev iH.{u}:=@if_pos.{u}
set_option bootstrap.genMatcherCode false
set_option compiler.extract_closed false
set_option compiler.maxRecSpecialize 0
noncomputable section
open _root_ renaming autoParam->Q!
open PySem PySem.Spec PyProof.Rows
theorem Qx0(_:0=0:=by first|exact .inl _6|exact .inr _6|assumption):True:=⟨⟩
def Q0!:=Qx0._auto_1
theorem Qx1(_:0=0:=by decide):True:=⟨⟩
def Q1!:=Qx1._auto_1
theorem Qx2(_:0=0:=by rfl):True:=⟨⟩
def Q2!:=Qx2._auto_1
theorem Qx3(_:0=0:=by intro _;rfl):True:=⟨⟩
def Q3!:=Qx3._auto_1
theorem Qx4(_:0=0:=by with_unfolding_all rfl):True:=⟨⟩
def Q4!:=Qx4._auto_1
set_option genInjectivity false
set_option genSizeOf false
namespace L2
def rf:b_ x_:=["many"]
end L2
namespace L2
abbrev vz:=Sum j_ x_
noncomputable def Ec:vz->jB->r_
 |.inl k,v=>Value.isInt k v
 |.inr x,v=>Value.isStrOf x v
noncomputable def eZ(w:mG):vz->j_
 |.inl k=>hashInt k
 |.inr x=>hashStr w x
def b8:∀{k}{v},Ec k v=c_->(∃i t,k=uN i/\v=yF i t)\/(∃x t,k=vK x/\v=g! x t)
 |.inl i,v,h=>by obtain⟨t,e⟩:=Value.isInt_shape h;exact .inl ⟨i,t,_6,e⟩
 |.inr x,v,h=>by obtain⟨t,e⟩:=Value.isStrOf_shape h;exact .inr ⟨x,t,_6,e⟩
def Vd(i:j_)(t:Tok):Ec (.inl i) (.int i t)=c_:=by simp[Ec,Value.isInt]
def Ve(x:x_)(t:Tok):Ec (.inr x) (.str x t)=c_:=by simp[Ec,Value.isStrOf]
def QM(a b:j_):decide ((uN a:vz)=uN b)=(a==b):=by
 by_cases e:a=b
 .subst e;simp
 .rw[i_ (λq=>e (uQ q))];exact(G_.mpr e).symm
def QJ(a b:x_):decide ((vK a:vz)=vK b)=decide (a=b):=by
 by_cases e:a=b
 .simp
 .rw[i_ (λq=>e (Sum.inr.inj q)),i_ e]
def QL(a:j_)(b:x_):decide ((uN a:vz)=vK b)=e_:=i_ (λq=>nomatch q)
def QK(a:x_)(b:j_):decide ((vK a:vz)=uN b)=e_:=i_ (λq=>nomatch q)
def bg(c:kR)(w:mG):PySem.KeyKind c w vz where
 is:=Ec
 hash:=eZ w
 inj:=λv a b m g=>by
  rcases b8 m with⟨i,t,rfl,rfl⟩|⟨x,t,rfl,rfl⟩
  .rcases b8 g with⟨j,u,rfl,e⟩|⟨y,u,rfl,e⟩
   .injection e with d _;rw[d]
   .exact nomatch e
  .rcases b8 g with⟨j,u,rfl,e⟩|⟨y,u,rfl,e⟩
   .exact nomatch e
   .injection e with d _;rw[d]
 byValue:=λk v h=>by rcases b8 h with⟨i,t,rfl,rfl⟩|⟨x,t,rfl,rfl⟩<;>rfl
 pyHash:=λf h=>by
  rcases b8 f with⟨i,t,rfl,rfl⟩|⟨x,t,rfl,rfl⟩
  .exact wpAny_pyHash_int h
  .exact wpAny_pyHash_str h
 eqBool:=λl f h=>by
  rcases b8 l with⟨i,t,rfl,rfl⟩|⟨x,t,rfl,rfl⟩
  .rcases b8 f with⟨j,u,rfl,rfl⟩|⟨y,u,rfl,rfl⟩
   .rw[QM]at h;exact wpAny_eqBool_int h
   .rw[QL]at h;exact SeqAt.EqAt.int_str i t y u _ _ _ _ h
  .rcases b8 f with⟨j,u,rfl,rfl⟩|⟨y,u,rfl,rfl⟩
   .rw[QK]at h;exact SeqAt.EqAt.str_int x t j u _ _ _ _ h
   .rw[QJ]at h;exact wpAny_eqBool_str h
 «strs»:=λk x t v h=>by
  rcases b8 h with⟨i,u,rfl,e⟩|⟨y,u,rfl,e⟩
  .exact nomatch e
  .injection e with d _
   subst d;cases v<;>rfl
def L5(a:kR)(w:mG)(i:j_)(t:Tok):(bg a w).is (.inl i) (.int i t)=c_:=Vd i t
def L6(a:kR)(w:mG)(x:x_)(t:Tok):(bg a w).is (.inr x) (.str x t)=c_:=Ve x t
abbrev NK:=Sum vz (b_ vz)
abbrev fm:=b_ NK
def Bg(a:kR)(w:mG)(h:C_):NK->jB->Prop
 |.inl k,v=>(bg a w).is k v=c_
 |.inr c,v=>∃b,v=.ref b/\nS (bg a w) h c b
inductive Cn{α:Type}(P:α->Prop)(Q:b_ α->Prop)(vs:b_ α):Prop
 |mk (v t) (_:vs=v::t) (_:P v) (_:Q t):Cn P Q vs
def hG(a:kR)(w:mG)(h:C_):fm->b_ jB->Prop
 |[],b=>b=[]
 |k::r,b=>Cn (Bg a w h k) (hG a w h r) b
inductive kv(prog:kR)(w:mG)(h:C_)(ks:fm)(a:o_):Prop
 |mk (o items n) (_:h.get? a=a_ o) (_:o.cls=.type "tuple") (_:o.data=.seq items n) (_:hG prog w h ks items.toList):kv prog w h ks a
section
variable{prog:kR}{w:mG}
def AS:∀{x y}{v},Bg prog w h x v->Bg prog w h y v->x=y
 |.inl a,.inl b,v,l,j=>by rw[(bg prog w).inj v a b l j]
 |.inl a,.inr m,v,l,i=>by obtain⟨b,e,_⟩:=i;subst e;exact t_ ((bg prog w).byValue _ _ l) (by intro z;cases z)
 |.inr xs,.inl b,v,g,j=>by obtain⟨c,e,_⟩:=g;subst e;exact t_ ((bg prog w).byValue _ _ j) (by intro z;cases z)
 |.inr xs,.inr m,v,f,d=>by obtain⟨b,e,q⟩:=f;obtain⟨c,o,n⟩:=d;subst e;cases o;rw[q.inj n]
theorem hG.inj:∀{x y}{c},hG prog w h x c->hG prog w h y c->x=y
 |[],[],_,_,_=>rfl
 |[],_::_,c,n,i=>by obtain⟨v,t,e,_⟩:=i;rw[n]at e;cases e
 |_::_,[],c,g,l=>by obtain⟨v,t,e,_⟩:=g;rw[l]at e;cases e
 |a::x,b::y,c,f,d=>by obtain⟨v,t,e,n,l⟩:=f;obtain⟨p,q,o,m,j⟩:=d;subst e;cases o;rw[AS n m,hG.inj l j]
def Pg{es j}(f:h.get? d=a_ o)(g:o.data=.dict es j)(c:kZ d h i):∀{k}{v},Bg prog w h k v->Bg prog w i k v
 |.inl k,v,e=>e
 |.inr l,v,a=>by obtain⟨b,e,q⟩:=a;exact⟨b,e,q.keeps f g c⟩
def hG.keeps{es p}(i:h.get? d=a_ o)(j:o.data=.dict es p)(g:kZ d h n):∀{f}{c},hG prog w h f c->hG prog w n f c:=by
 intro a;induction a with
 |nil=>rintro _ e;exact e
 |cons _ _ b=>rintro _ ⟨v,t,e,m,l⟩;exact⟨v,t,e,Pg i j g m,b l⟩
def c9(w:mG)(prog:kR):NK->j_
 |.inl k=>(bg prog w).hash k
 |.inr a=>tupleKeyHash (bg prog w) a
noncomputable def Sq:NK->g_
 |.inl _=>1
 |.inr a=>_7 a+1
def Dh(k:fm):g_:=(k.map Sq).sum
variable{A:oN}{E:jB->jP->Prop}{s:jP}
def Hf(c:A.units<lN)(a:Bg prog w s.1 k v)(h:Q (c9 w prog k) {s with toks:=s.toks+Sq k}):jK (jG prog w) A (pyHash v) Q E s:=by
 cases k with
 |inl k=>exact(bg prog w).pyHash a h
 |inr d=>obtain⟨b,rfl,q⟩:=a;exact wpAny_pyHash_tuple c q h
def Wi(C:A.units+4<lN)(r:kv prog w s.1 d a)(h:Q (reduceHash (pT (d.map (c9 w prog)))) {s with toks:=s.toks+(Dh d+1)}):
  jK (jG prog w) A (pyHash (.ref a)) Q E s:=by
 obtain⟨o,l,n,q,z,y,u⟩:=r;have i:s.TypeIs (.ref a) "tuple":=⟨o,q,z⟩
 first|unfold pyHashByItsType|skip
 first|refine iA (wpAny_cRoomFor_or (.inr (by lia)) ?_)|skip
 refine iA (rA i F.slot_tuple_hash.lookup (iA (rA i F.slot_tuple_hash.lookup (iA (wpAny_callSpecialIfBoundUnlessNone?_slot i F.slot_tuple_hash (kL F.slot_tuple_hash i F.entry_tuple_hash ?_ (F.args_tuple_hash_1 _)))))));show jK _ _ (rP _>>=_) _ _ s;refine iA (vP q y (iA ?_));rw[<-qV];refine oC _
  (λcW b j=>∃done left,d=done++left/\hG prog w s.1 left cW/\b.toList=done.map (c9 w prog)/\j={s with toks:=s.toks+Dh done})
  _ ?_ ?_ _ _ ⟨[],d,_6,u,_6,_6⟩
 .rintro x cW b j ⟨done,left,rfl,g,p,rfl⟩
  cases left with
  |nil=>cases (g)
  |cons k c=>
   obtain⟨v,t,e,B,m⟩:=g;cases e;refine iA (Hf (by show A.units+_<lN;lia) B ?_)
   first
    |exact iB ⟨done++[k],c,by simp,m,by simp[p],by simp[Dh,qF]⟩
    |exact iA _
 .rintro b j ⟨done,left,rfl,g,p,rfl⟩
  cases left with
  |cons k c=>obtain⟨v,t,e,_⟩:=g;cases e
  |nil=>
  rw[jX]at h;show jK _ _ (retInt _) _ _ _;rw[p];refine wpAny_ret_mkInt ?_;show jK _ _ (if _=c_ then _ else _) Q E _;unfold reduceHash at h
  by_cases f:(decide (-2^63<=pT (done.map (c9 w prog)))&&decide (pT (done.map (c9 w prog))<2^63))=c_
  .rw[iH f];rw[iH f]at h;exact iB (by simpa[qF]using h)
  .rw[iG f];rw[iG f]at h;exact iA (nJ (iB (by simpa[qF]using h)))
def Bh(g:nS (bg prog w) s.1 x a)(h:Q c_ s):jK (jG prog w) A (yG (n+1) (.ref a)) Q E s:=by
 have i:=g.typeIs;obtain⟨o,d,n,j,_,m,l⟩:=g;unfold yG;refine iA (rA i F.slot_tuple_eq.lookup (iA (oE i tZ (iA (nT j m (iA ?_))))));rw[<-qV];refine oC _ (λcW r c=>r.1=d_/\c=s/\∀v∈cW,carriedByValue v=c_) _ ?_ ?_ _ _ ⟨_6,_6,l.byValue⟩
 .rintro v cW r c ⟨f,rfl,b⟩
  rw[eqIsQuiet_byValue _ (b v iM)];exact iA (iB (iB ⟨_6,_6,λu e=>b u (iI _ e)⟩))
 .rintro⟨q,p⟩ c ⟨f,rfl,_⟩
  subst f;exact iB h
def CN(y:kv prog w s.1 x a)(h:Q c_ s):jK (jG prog w) A (yG 8 (.ref a)) Q E s:=by
 obtain⟨o,g,n,l,C,B,z⟩:=y;have p:s.TypeIs (.ref a) "tuple":=⟨o,l,C⟩;unfold yG;refine iA (rA p F.slot_tuple_eq.lookup (iA (oE p tZ (iA (nT l B (iA ?_))))));rw[<-qV];refine oC _ (λcW r d=>r.1=d_/\d=s/\∃left,hG prog w s.1 left cW) _ ?_ ?_ _ _ ⟨_6,_6,x,z⟩
 .rintro v cW r d ⟨j,rfl,left,m⟩
  cases left with
  |nil=>cases (m)
  |cons k f=>
   obtain⟨L,t,e,u,i⟩:=m;cases e;refine iA ?_;have G:jK (jG prog w) A (yG 7 v) (λb c=>b=c_/\c=d) E d:=by
    cases k with
    |inl k=>rw[eqIsQuiet_byValue _ ((bg prog w).byValue _ _ u)];exact iB ⟨_6,_6⟩
    |inr J=>obtain⟨b,rfl,q⟩:=u;exact Bh q ⟨_6,_6⟩
   refine kN G (λb c ⟨I,H⟩=>?_) λZ Z q=>q;subst I H;exact iB ⟨_6,_6,f,i⟩
 .rintro⟨N,M⟩ d ⟨j,rfl,_⟩
  subst j;exact iB h
def Gv(a:A.units<lN)(e:Ec k v=c_)(c:s.1.IsTuple b d)(h:Q e_ s):jK (jG prog w) A (eqBool v (.ref b)) Q E s/\jK (jG prog w) A (eqBool (.ref b) v) Q E s:=by
 rcases b8 e with⟨i,t,rfl,rfl⟩|⟨x,t,rfl,rfl⟩
 .exact⟨SeqAt.EqAt.int_tuple i t c a _ _ _ _ h,SeqAt.EqAt.tuple_int i t c a _ _ _ _ h⟩
 .exact⟨SeqAt.EqAt.str_tuple x t c a _ _ _ _ h,SeqAt.EqAt.tuple_str x t c a _ _ _ _ h⟩
def Gi(j:A.units<lN)(g:Bg prog w s.1 x u)(f:Bg prog w s.1 y v)(h:Q (decide (x=y)) s):jK (jG prog w) A (eqBool u v) Q E s:=by
 cases x with
 |inl a=>
  cases y with
  |inl b=>exact(bg prog w).eqBool g f (by
    have e:decide (a=b)=decide ((uN a:NK)=uN b):=by by_cases q:a=b<;>simp
    rwa[e])
  |inr d=>obtain⟨b,rfl,o,i,n,p,m,l,_⟩:=f;exact(Gv j g ⟨o,p,m,n,l⟩ h).1
 |inr xs=>
  cases y with
  |inl b=>obtain⟨c,rfl,o,i,n,p,m,l,_⟩:=g;exact(Gv j f ⟨o,p,m,n,l⟩ h).2
  |inr d=>
   obtain⟨b,rfl,q⟩:=g;obtain⟨c,rfl,r⟩:=f;exact wpAny_eqBool_tuple j q r (by
    have e:decide (xs=d)=decide ((vK xs:NK)=vK d):=by by_cases q:xs=d<;>simp
    rwa[e])
def hG.length:∀{x}{b},hG prog w h x b->_7 x=_7 b:=by
 intro a;induction a with
 |nil=>rintro b e;rw[e];rfl
 |cons _ _ c=>rintro _ ⟨v,t,e,_,d⟩;rw[e,iC,iC,c d]
def Qp(hu:A.units+2<lN)(hx:kv prog w s.1 x a)(hy:kv prog w s.1 y b)(h:P (.done (.ret (.bool (decide (x=y))))) s):
  jK (jG prog w) A (K_.«tuple.__eq__» ⟨[.ref a,.ref b],[]⟩) P E s:=by
 obtain⟨oa,xs,na,J,η,Q,N⟩:=hx;obtain⟨Y,I,nb,C,T,O,M⟩:=hy;show jK _ _ (isInstance _ _>>=_) _ _ s;refine iA (oE (⟨Y,C,T⟩) tZ (iA (vP J Q (iA (vP C O (iA (oC _
  (λcW r H=>r.1=d_/\H=s/\∃m j e d,cW=List.zip e d/\hG prog w s.1 m e/\hG prog w s.1 j d/\decide (m=j)=decide _/\(_7 e==_7 d)=(xs.size==I.size))
  _ ?_ ?_ _ _ ⟨_6,_6,x,y,xs.toList,I.toList,_6,N,M,_6,by simp⟩)))))))
 .rintro⟨u,v⟩ cW r H ⟨U,rfl,m,j,e,d,l,g,f,c,i⟩
  cases m with
  |nil=>rw[g]at l;simp at l
  |cons k1 q=>
   cases j with
   |nil=>rw[f]at l;simp at l
   |cons k2 o=>
    obtain⟨u',p,rfl,h1,B⟩:=g;obtain⟨v',n,rfl,h2,z⟩:=f;obtain⟨⟨rfl,rfl⟩,rfl⟩:=l;refine iA (Gi (by lia) h1 h2 ?_)
    by_cases L:k1=k2
    .subst L;rw[m_ _6];refine iB ⟨_6,_6,q,o,p,n,_6,B,z,?_,by simpa using i⟩;rw[<-c]
     by_cases δ:q=o
     .simp
     .simp
    .rw[i_ L];have hf:decide (x=y)=e_:=by rw[<-c];simp[L]
     rw[hf]at h;exact iA (iB (iB (iB h)))
 .rintro⟨r1,r2⟩ H ⟨U,rfl,m,j,e,d,l,g,f,c,i⟩
  subst U;refine iB ?_;have G:(xs.size==I.size)=decide (x=y):=by
   rw[<-c,<-i,<-g.length,<-f.length];cases m with
   |nil=>
    cases j with
    |nil=>simp
    |cons _ _=>simp
   |cons _ _=>
    cases j with
    |nil=>simp
    |cons _ _=>obtain⟨_,_,rfl,_⟩:=g;obtain⟨_,_,rfl,_⟩:=f;simp at l
  show P (.done (.ret (.bool _))) H;rwa[G]
def Us(G:A.units+4<lN)(l:kv prog w s.1 x a)(j:kv prog w s.1 y b)(h:Q (decide (x=y)) s):
  jK (jG prog w) A (eqBool (.ref a) (.ref b)) Q E s:=by
 have r:s.TypeIs (.ref a) "tuple":=let ⟨o,_,_,f,q,_,_⟩:=l;⟨o,f,q⟩;have ty:s.TypeIs (.ref b) "tuple":=let ⟨o,_,_,f,q,_,_⟩:=j;⟨o,f,q⟩;unfold eqBool
 try with_reducible refine kY ?_
 by_cases c:(pW a==pW b)=c_
 .rw[iH c];have e:a=b:=by have:=nA c;injection this
  subst e;obtain⟨o,i,n,v,_,B,z⟩:=l;obtain⟨u,g,C,m,_,d,p⟩:=j;obtain rfl:o=u:=jM (v.symm.trans m);rw[B]at d;injection d with f _
  subst f;obtain rfl:=z.inj p;exact iA (nJ (iB (by simpa using h)))
 .rw[iG c];exact iA (wpAny_richCompare_same_room r ty F.slot_tuple_eq
   (kL F.slot_tuple_eq r F.entry_tuple_eq (Qp (by show A.units+1+2<lN;lia) l j ⟨_,_6,(λe=>nomatch e),lZ h⟩) (F.args_tuple_eq_2 _ _)) (by lia))
end
noncomputable def gj(b:kR)(w:mG):HeapKind b w fm where
 is:=kv b w
 hash:=λk=>reduceHash (pT (k.map (c9 w b)))
 draws:=λk=>Dh k+1
 room:=λA=>A.units+4<lN
 inj:=λl j=>by
  obtain⟨o,c,n,f,_,g,r⟩:=l;obtain⟨i,e,y,d,_,a,q⟩:=j;obtain rfl:o=i:=jM (f.symm.trans d);rw[g]at a;injection a with v _
  subst v;exact r.inj q
 keeps:=λx f g s=>by
  obtain⟨i,c,n,d,u,a,r⟩:=x;refine⟨i,c,n,(s.2 _ ?_).trans d,u,a,r.keeps f g s⟩
  rintro rfl
  obtain rfl:=jM (d.symm.trans f);rw[g]at a;exact nomatch a
 pyHash:=λm p h=>Wi m p h
 eqBool:=λm l j h=>Us m l j h
 quiet:=λp h=>CN p h
def lx{A:oN}(h:A.units+5<lN):(gj a w).room A.in1:=by show A.units+1+4<lN;lia
inductive V where
 |fD|bl (b:r_)|int (i:j_)|str (x:x_)|byt (b:p_ UInt8)|flt (b:UInt64)|ref (a:o_)|ty (n:Y_)
 deriving P_
def ez:V->jB->Prop
 |.fD,u=>u=nB
 |.bl b,u=>u=vQ b
 |.int i,u=>∃t,u=yF i t
 |.str x,u=>∃t,u=g! x t
 |.byt b,u=>∃t,u=Value.bytes b t
 |.flt b,u=>∃t,u=Value.float b t
 |.ref a,u=>u=pW a
 |.ty n,u=>u=qW n
abbrev dL:b_ V->b_ jB->Prop:=Paired ez
def dL.length{xs:b_ V}{a:b_ jB}(r:dL xs a):_7 xs=_7 a:=sH r
theorem dL.get:∀{xs}{a}{i:g_}{x},dL xs a->xs[i]?=a_ x->∃u,a[i]?=a_ u/\ez x u
 |_,_,_,_,.nil,e=>by simp at e
 |_,_,0,_,.cons r _,e=>by simp at e;subst e;exact⟨_,_6,r⟩
 |_,_,i+1,x,.cons _ t,e=>by obtain⟨u,c,b⟩:=dL.get t (by simpa using e);exact⟨u,by simpa using c,b⟩
theorem dL.append:∀{xs a}{c b},dL xs c->dL a b->dL (xs++a) (c++b)
 |_,_,_,_,.nil,s=>s
 |_,_,_,_,.cons r t,s=>.cons r (dL.append t s)
theorem dL.take:∀{xs}{a} n,dL xs a->dL (xs.take n) (a.take n)
 |_,_,0,_=>.nil
 |_,_,_+1,.nil=>.nil
 |_,_,n+1,.cons r t=>.cons r (dL.take n t)
theorem dL.drop:∀{xs}{a} n,dL xs a->dL (xs.drop n) (a.drop n)
 |_,_,0,r=>r
 |_,_,_+1,.nil=>.nil
 |_,_,n+1,.cons _ t=>dL.drop n t
def pc:f_ V->f_ jB->Prop
 |some v,a_ u=>ez v u
 |none,d_=>_u
 |_,_=>T_
def KV:b_ (κ×V)->b_ (κ×jB)->Prop:=Paired λ(p:κ×V)(q:κ×jB)=>p.1=q.1/\ez p.2 q.2
noncomputable def kV:vz->V
 |.inl i=>.int i
 |.inr x=>.str x
inductive HO where
 |au (xs:b_ V)
 |ci (xs:b_ V)
 |dK (kvs:b_ (vz×V))|dT (kvs:b_ (fm×V))
 |set (S:j_->r_) (n:g_)
 |ins (C dx:o_) (fs:b_ (x_×V))
 |own (x:o_)
 |xd (fs:b_ (x_×V))
 |met (f x:o_)
 |rng (lo hi:j_)
 |il (o:_d) (u:HO)
 |tbl (q:x_)
 |ext (φ:C_->Prop)
abbrev Hp:=o_->f_ HO
def eT(H:Hp)(a:o_)(o:HO):Hp:=λb=>if b=a then a_ o else H b
def aj:eT H a o a=a_ o:=by unfold eT;rw[iH _6]
def ai(h:b≠a):eT H a o b=H b:=by unfold eT;rw[iG h]
def Di:eT (eT H a o) a u=eT H a u:=by funext b;unfold eT;split<;>rfl
def NS{H:Hp}(h:H a=a_ o)(c:H b=a_ u)(d:o≠u):a≠b:=by intro e;subst e;rw[h]at c;exact d (jM c)
def a8{H:Hp}(h:H a=a_ o)(c:H b=d_):a≠b:=by intro e;subst e;rw[h]at c;cases c
def re(H:Hp):NK->V->Prop
 |.inl k,v=>v=kV k
 |.inr a,v=>∃b,v=.ref b/\H b=a_ (.ci (a.map kV))
def NkL(H:Hp):fm->b_ V->Prop
 |[],a=>a=[]
 |k::r,a=>Cn (re H k) (NkL H r) a
inductive mo(H:Hp)(k:fm)(b:o_):Prop
 |mk (vs) (_:H b=a_ (.ci vs)) (_:NkL H k vs):mo H k b
def re.be(c:∀b xs,H b=a_ (.ci xs)->d b=a_ (.ci xs)):∀{k}{v},re H k v->re d k v
 |.inl _,_,e=>e
 |.inr _,_,a=>by obtain⟨b,e,q⟩:=a;exact⟨b,e,c _ _ q⟩
def NkL.be(f:∀b xs,H b=a_ (.ci xs)->g b=a_ (.ci xs)):∀{k}{d},NkL H k d->NkL g k d:=by
 intro a;induction a with
 |nil=>rintro _ e;exact e
 |cons _ _ c=>rintro _ ⟨v,t,e,q,r⟩;exact⟨v,t,e,re.be f q,c r⟩
def mo.be(a:∀b xs,H b=a_ (.ci xs)->f b=a_ (.ci xs))(h:mo H k b):mo f k b:=
 let ⟨c,e,d⟩:=h
 ⟨c,a _ _ e,d.be a⟩
def nz(H:Hp)(q:x_):b_ jB->Prop
 |[]=>_u
 |.int _ _::.int _ _::.ref c::r=>(∃(b:_d) (a:p_ jB) (t:Tok),H c=a_ (.il b (.own 0))/\b.data=.fields a/\a[1]?=a_ (.str q t))/\nz H q r
 |_=>T_
def nz.be(e:∀b o u,H b=a_ (.il o u)->j b=a_ (.il o u))(l:b_ jB)(h:nz H q l):nz j q l:=by
 fun_induction nz H q l with
 |case1=>unfold nz;trivial
 |case2 _ _ _ _ m r d=>obtain⟨⟨c,a,t,i,g⟩,f⟩:=h;unfold nz;exact⟨⟨c,a,t,e _ _ _ i,g⟩,d f⟩
 |case3=>exact h.elim
section
variable(P:kR)(w:mG)
def ka(H:Hp)(h:C_)(a:o_):HO->Prop
 |.au xs=>_7 xs<=iN/\∃(c:b_ jB) (n:g_),dL xs c/\h.get? a=a_ {cls:=.type "list",data:=.seq c.toArray n}
 |.ci xs=>_7 xs<=iN/\∃c:b_ jB,dL xs c/\U? h a c.toArray
 |.dK b=>_7 b<=iN/\(a==oV)=e_/\∃g,KV b g/\h.DictOf (bg P w) a g
 |.dT b=>_7 b<=iN/\(a==oV)=e_/\∃xs:b_ (fm×o_×jB),
   Paired (λ(p:fm×V)(q:fm×o_×jB)=>p.1=q.1/\mo H p.1 q.2.1/\ez p.2 q.2.2) b xs/\
   ∃o m s,h.get? a=a_ o/\o.ExactDict/\o.data=.dict m s/\m.toList=xs.map (s? (gj P w))/\(xs.map (·.1)).Nodup
 |.set S n=>h.SetOf (intKind P w) a S n
 |.ins C e fs=>H e=a_ (.own a)/\_7 fs<=1000/\e≠a/\h.get? a=a_ (oW C e)/\
   ∃d,h.Ns1 e d/\(∀f,pc (fs.lookup f) (d f))/\g? d (fs.map (·.1))
 |.own _=>∃o,h.get? a=a_ o
 |.xd fs=>∃d,h.Ns1 a d/\∀f,pc (fs.lookup f) (d f)
 |.rng lo r=>∃t u v,h.get? a=a_ {cls:=.type "range",data:=.fields #[.int lo t,.int r u,.int 1 v]}
 |.il o u=>h.get? a=a_ o/\ka H h a u
 |.tbl q=>∃i:p_ jB,h.get? a=a_ {cls:=.none,data:=.fields i}/\nz H q i.toList
 |.met f x=>h.get? a=a_ (PySem.W.methodObj (.ref f) (.ref x))
 |.ext φ=>φ h/\(∃o,h.get? a=a_ o)/\∀l j:C_,φ l->(∀o,l.get? a=a_ o->j.get? a=a_ o)->φ j
def l0(H:Hp)(h:C_):Prop:=∀a o,H a=a_ o->ka P w H h a o
end
section
variable{P:kR}{w:mG}{H H':Hp}{h h':C_}{a:o_}{o:HO}
def ka.lt(x:ka P w H h a o):a<h.objs.size:=by
 cases o with
 |au xs=>obtain⟨_,_,_,_,e⟩:=x;exact jA e
 |ci xs=>obtain⟨_,_,_,p⟩:=x;exact p.lt
 |dK b=>obtain⟨_,_,_,_,o,_,_,e,_⟩:=x;exact jA e
 |dT b=>obtain⟨_,_,_,_,o,_,_,e,_⟩:=x;exact jA e
 |set S n=>obtain⟨o,_,_,_,e,_⟩:=x;exact jA e
 |ins C i fs=>obtain⟨_,_,_,e,_⟩:=x;exact jA e
 |own y=>obtain⟨_,e⟩:=x;exact jA e
 |xd fs=>obtain⟨_,⟨_,_,_,e,_⟩,_⟩:=x;exact jA e
 |rng lo g=>obtain⟨_,_,_,e⟩:=x;exact jA e
 |il d u=>obtain⟨e,_⟩:=x;exact jA e
 |tbl q=>obtain⟨c,e,_⟩:=x;exact jA e
 |met f y=>exact jA (x)
 |ext φ=>obtain⟨_,⟨_,e⟩,_⟩:=x;exact jA e
theorem Paired.mapP:∀{d}{c},Paired F d c->(∀a b,F a b->G a b)->Paired G d c
 |_,_,.nil,_=>.nil
 |_,_,.cons r t,f=>.cons (f _ _ r) (Paired.mapP t f)
def ka.t3(x:ka P w H h a o)(k:∀b u,(b=a\/H b=a_ (.own a))->h.get? b=a_ u->h'.get? b=a_ u)
  (J:∀b,H b=a_ (.own a)->H' b=a_ (.own a))(I:∀b xs,H b=a_ (.ci xs)->H' b=a_ (.ci xs))(G:∀b o u,H b=a_ (.il o u)->H' b=a_ (.il o u):=by exact λZ Z Z q=>q):ka P w H' h' a o:=by
 induction o with
 |au xs=>obtain⟨z,l,n,r,e⟩:=x;exact⟨z,l,n,r,k _ _ (.inl _6) e⟩
 |ci xs=>obtain⟨z,l,r,g,e,c⟩:=x;exact⟨z,l,r,g,k _ _ (.inl _6) e,c⟩
 |dK s=>obtain⟨z,y,A,r,g,i,j,e,c⟩:=x;exact⟨z,y,A,r,g,i,j,k _ _ (.inl _6) e,c⟩
 |dT s=>obtain⟨z,y,xs,r,g,i,j,e,c⟩:=x;exact⟨z,y,xs,Paired.mapP r λp q z=>⟨z.1,z.2.1.be I,z.2.2⟩,g,i,j,k _ _ (.inl _6) e,c⟩
 |set S n=>obtain⟨g,i,j,t,e,c⟩:=x;exact⟨g,i,j,t,k _ _ (.inl _6) e,c⟩
 |ins C N fs=>obtain⟨d,z,ne,e,m,⟨od,i,j,L,c⟩,r⟩:=x;exact⟨J _ d,z,ne,k _ _ (.inl _6) e,m,⟨od,i,j,k _ _ (.inr d) L,c⟩,r⟩
 |own y=>obtain⟨g,e⟩:=x;exact⟨g,k _ _ (.inl _6) e⟩
 |xd fs=>obtain⟨m,⟨od,i,j,e,c⟩,r⟩:=x;exact⟨m,⟨od,i,j,k _ _ (.inl _6) e,c⟩,r⟩
 |rng lo M=>obtain⟨t,u,v,e⟩:=x;exact⟨t,u,v,k _ _ (.inl _6) e⟩
 |il g u E=>obtain⟨e,q⟩:=x;exact⟨k _ _ (.inl _6) e,E q⟩
 |tbl q=>obtain⟨B,e,r⟩:=x;exact⟨B,k a _ (.inl _6) e,r.be G⟩
 |met f y=>have e:=x;exact k a _ (.inl _6) e
 |ext φ=>obtain⟨p,⟨o,e⟩,st⟩:=x;exact⟨st _ _ p λo q=>k _ _ (.inl _6) q,⟨o,k _ _ (.inl _6) e⟩,st⟩
def l0.lt(x:l0 P w H h)(e:H a=a_ o):a<h.objs.size:=(x a o e).lt
def l0.fresh(x:l0 P w H h)(e:h.objs.size<=a):H a=d_:=by
 cases q:H a with
 |none=>rfl
 |some u=>exact t_ (jR (x.lt q) e) (kU _)
def l0.h7(x:l0 P w H h)(k:∀b u,h.get? b=a_ u->h'.get? b=a_ u):l0 P w H h':=λa o e=>
 (x a o e).t3 (λb u z q=>k b u q) (λz q=>q) λz z q=>q
def l0.laid(x:l0 P w H h)(k:∀b u,h.get? b=a_ u->h'.get? b=a_ u)(g:h.objs.size<=a)(new:ka P w (eT H a o) h' a o):l0 P w (eT H a o) h':=λb u e=>by
 have d:=x.fresh g
 by_cases f:b=a
 .subst f;rw[aj]at e;cases e;exact new
 .rw[ai f]at e;exact(x b u e).t3 (λc v z q=>k c v q) (λc q=>by rwa[ai (a8 q d)]) (λc xs q=>by rwa[ai (a8 q d)]) λc i u q=>by rwa[ai (a8 q d)]
end
def Rd(H:Hp)(a:o_)(u:HO):Prop:=H a=a_ u\/∃o,H a=a_ (.il o u)
def Rd.ok(r:Rd H a u)(x:l0 P w H h):ka P w H h a u:=by
 obtain r|⟨o,r⟩:=r
 .exact x a u r
 .obtain⟨_,q⟩:=x a _ r;exact q
def WO:f_ HO->Prop
 |some (.au _)=>_u
 |some (.dK _)=>_u
 |some (.dT _)=>_u
 |some (.set _ _)=>_u
 |some (.ins _ _ _)=>_u
 |some (.ext _)=>_u
 |_=>T_
section
variable{P:kR}{w:mG}{H:Hp}{h h':C_}{x e:o_}{o':HO}
def l0.qy(ok:l0 P w H h)(f:WO (H x))(p:e=x\/H e=a_ (.own x))(k:∀b u,b≠e->h.get? b=a_ u->h'.get? b=a_ u)(n:∃u,h'.get? e=a_ u)
  (new:ka P w (eT H x o') h' x o'):l0 P w (eT H x o') h':=λb u q=>by
 have d:∀c y,H c=a_ (.own y)->c≠x:=λc y r z=>by subst z;rw[r]at f;exact f
 have g:∀c xs,H c=a_ (.ci xs)->c≠x:=λc xs r z=>by subst z;rw[r]at f;exact f
 have i:∀c j v,H c=a_ (.il j v)->c≠x:=λc j v r z=>by subst z;rw[r]at f;exact f
 by_cases m:b=x
 .subst m;rw[aj]at q;cases q;exact new
 .rw[ai m]at q
  by_cases a:b=e
  .have o:H b=a_ (.own x):=by
    obtain z|z:=p
    .exact t_ (a.trans z) m
    .rwa[a]
   rw[q]at o;cases o;obtain⟨v,s⟩:=n;exact⟨v,by rwa[a]⟩
  .refine(ok b u q).t3 (λc v l r=>k c v ?_ r) (λc r=>by rwa[ai (d c b r)]) (λc xs r=>by rwa[ai (g c xs r)]) λc j v r=>by rwa[ai (i c j v r)]
   obtain rfl|l:=l
   .exact a
   .rintro rfl
    obtain z|z:=p
    .exact d c b l z
    .rw[l]at z;cases z;exact m _6
end
structure Un(fs ex:b_ o_)(H H':Hp)(h h':C_):Prop where
 keep:∀b o,h.get? b=a_ o->H b=d_->b∉fs->b∉ex->h'.get? b=a_ o
 slot:∀b o,h.get? b=a_ o->H b=d_->b∈fs->b∉ex->∃sl,h'.get? b=a_ {o with slots:=sl}
 free:∀b o,h.get? b=a_ o->H b=d_->b∉ex->H' b=d_
 there:∀b o,h.get? b=a_ o->b∉ex->∃o',h'.get? b=a_ o'
 q7:∀b xs,H b=a_ (.ci xs)->H' b=a_ (.ci xs)
 kO:∀b o u,H b=a_ (.il o u)->H' b=a_ (.il o u)
 qe:∀b q,H b=a_ (.tbl q)->H' b=a_ (.tbl q)
section
variable{fs fs' ex ex':b_ o_}{H H1 H2:Hp}{h h1 h2 h':C_}{a x e:o_}{o:HO}
def Un.any(u:Un fs ex H H1 h h1)(q:h.get? b=a_ c)(n:H b=d_)(d:b∉ex):∃g,h1.get? b=a_ {c with slots:=g}:=by
 by_cases f:b∈fs
 .exact u.slot b c q n f d
 .exact⟨c.slots,u.keep b c q n f d⟩
def Un.trans(a:Un fs ex H H1 h h1)(b:Un fs ex H1 H2 h1 h2):Un fs ex H H2 h h2 where
 keep:=λc d q n g f=>b.keep c d (a.keep c d q n g f) (a.free c d q n f) g f
 slot:=λc d q n g f=>by obtain⟨r,i⟩:=a.slot c d q n g f;obtain⟨j,m⟩:=b.slot c _ i (a.free c d q n f) g f;exact⟨j,m⟩
 free:=λc d q n f=>by obtain⟨l,i⟩:=a.there c d q f;exact b.free c l i (a.free c d q n f) f
 there:=λc d q f=>by obtain⟨l,i⟩:=a.there c d q f;exact b.there c l i f
 q7:=λc xs q=>b.q7 c xs (a.q7 c xs q)
 kO:=λc d xs q=>b.kO c d xs (a.kO c d xs q)
 qe:=λp q z=>b.qe p q (a.qe p q z)
def Un.h7(k:∀b u,h.get? b=a_ u->h'.get? b=a_ u):Un fs ex H H h h':=
 ⟨λb c q z z z=>k b c q,λb c q z z z=>⟨c.slots,k b c q⟩,λz z z n z=>n,λb c q z=>⟨c,k b c q⟩,λz z q=>q,λz z z q=>q,λz z q=>q⟩
def Un.refl:Un fs ex H H h h:=Un.h7 λz z q=>q
def Un.laid(k:∀b u,h.get? b=a_ u->h'.get? b=a_ u)(d:h.objs.size<=a)(c:H a=d_):Un fs ex H (eT H a o) h h' where
 keep:=λb u q z z z=>k b u q
 slot:=λb u q z z z=>⟨u.slots,k b u q⟩
 free:=λb u q n z=>by rwa[ai (jJ (jR (jA q) d))]
 there:=λb u q z=>⟨u,k b u q⟩
 q7:=λb xs q=>by rwa[ai (a8 q c)]
 kO:=λb u xs q=>by rwa[ai (a8 q c)]
 qe:=λb z q=>by rwa[ai (a8 q c)]
def Un.qy(d:WO (H x))(m:e=x\/H e=a_ (.own x))(k:∀b u,b≠e->h.get? b=a_ u->h'.get? b=a_ u)(g:∃u,h'.get? e=a_ u):Un fs ex H (eT H x o) h h':=by
 have i:∀b,H b=d_->b≠x:=λb n z=>by subst z;rw[n]at d;exact d
 have j:∀b,H b=d_->b≠e:=λb n z=>by
  subst z;obtain r|r:=m
  .exact i b n r
  .rw[n]at r;cases r
 have f:∀b u,H b=a_ u->¬WO (a_ u)->b≠x:=λb u q l z=>by subst z;rw[q]at d;exact l d
 refine⟨λb u q n y y=>k b u (j b n) q,λb u q n y y=>⟨u.slots,k b u (j b n) q⟩,λb u q n y=>by rwa[ai (i b n)],λb u q y=>?_,
  λb xs q=>by rwa[ai (f b _ q λz=>z)],λb u xs q=>by rwa[ai (f b _ q λz=>z)],λb y q=>by rwa[ai (f b _ q λz=>z)]⟩
 by_cases c:b=e
 .subst c;exact g
 .exact⟨u,k b u c q⟩
end
def gG(h:C_)(H:Hp):b_ o_:=(jD h.objs.size).filter λa=>(H a).isSome
def Ol(h:C_)(H:Hp):C_:=PySem.W.hideAll h (gG h H)
def Ux(h:C_)(H:Hp):(Ol h H).objs.size=h.objs.size:=PySem.W.hideAll_size _ _
def Y1(e:h.get? b=a_ o)(n:H b=d_):(Ol h H).get? b=a_ o:=
 PySem.W.hideAll_get _ e λa=>by have q:=(z_.mp a).2;rw[n]at q;simp at q
def JU(e:(Ol h H).get? b=a_ o):h.get? b=a_ o/\H b=d_:=by
 have a:=PySem.W.of_hideAll _ e;refine⟨a,?_⟩;cases q:H b with
 |none=>rfl
 |some x=>have z:(Ol h H).get? b=d_:=PySem.W.hideAll_none _ (z_.mpr ⟨v_.mpr (jA a),by simp[q]⟩);rw[z]at e;cases e
structure Mod(K:iL)(mg:x_->f_ jB)(base:C_):Prop where
 kin:K.In base
 se:base.Ns mB mg
 blt:∃mb,base.Ns sP mb/\∀x:x_,x≠"__name__"->mb x=qA x
 nolimit:base.NoLimit
structure Cx where
 prog:kR
 w:mG
 K:iL
 mg:x_->f_ jB
 base:C_
 A:oN
 N:b_ x_
 im:jP
 n7:Hp
 bi:j?
 cc:b_ j?
 stack:b_ j?
 ex:b_ o_
 fn:x_->r_
 calm:r_
 pn:b_ (o_×_d)
 xe:jB->jP->Prop
def Yq(l:b_ j?):b_ o_:=l.filterMap (·.frame)
abbrev Cx.fs(X:Cx):b_ o_:=Yq X.cc
def WM(a:pA)(x:x_):Prop:=a.names.lookup x=a_ .local\/a.names.lookup x=a_ .cell\/a.names.lookup x=a_ .free
def Xa(a:pA)(x:x_):Prop:=a.names.lookup x=a_ .local\/a.names.lookup x=a_ .cell
def dS(a:j?)(h:C_)(m:x_->f_ jB)(x:x_)(u:jB):Prop:=
 (a.kindOf x=a_ .local/\m x=a_ u)\/((a.kindOf x=a_ .cell\/a.kindOf x=a_ .free)/\∃c,a.cells.lookup x=a_ c/\h.IsCell c (a_ u))
structure Cx.Ok(X:Cx):Prop where
 tz:Mod X.K X.mg X.base
 kind:X.bi.scope.kind=.function
 se:X.bi.globals=mB
 blt:X.bi.builtins=sP
 above:X.im.1.1.size<=X.bi.locals
 inj:∀x y c,X.bi.cells.lookup x=a_ c->X.bi.cells.lookup y=a_ c->x=y
 has:∀x,(X.bi.kindOf x=a_ .cell\/X.bi.kindOf x=a_ .free)->∃c,X.bi.cells.lookup x=a_ c
 cab:∀x c,X.fn x=c_->X.bi.cells.lookup x=a_ c->X.im.1.1.size<=c
 hd:X.calm=c_->X.A.handled=d_
 frames:X.A.frames=a_ X.stack
 stk:X.stack=X.cc\/(X.stack=X.bi::X.cc/\X.bi.frame=a_ X.bi.locals)
 exf:∀b∈X.ex,b≠X.bi.locals/\∀x c,X.bi.cells.lookup x=a_ c->c≠b
 bs:∀b o,X.base.get? b=a_ o->X.im.1.get? b=a_ o/\X.n7 b=d_
 bsz:X.base.objs.size<=X.im.1.1.size
 noex:∀b o,X.base.get? b=a_ o->b∉X.ex
 exfs:∀b∈X.ex,b∉X.fs
 sh:X.im.1.FunFrames X.base X.cc
 frf:∀b∈X.fs,X.n7 b=d_
structure c5(X:Cx)(c7:b_ (o_×_d))(Z:b_ (f_ V))(H:Hp)(s:jP):Prop where
 ok:X.Ok
 os:s.os=X.im.os
 lU:wA s.gens
 base:Un X.fs X.ex X.n7 H X.im.1 s.1
 loc:∃m,s.1.Ns X.bi.locals m/\∀(i:g_)(x:x_)(v:V),X.N[i]?=a_ x->Z[i]?=a_ (a_ v)->WM X.bi.scope x->∃u,ez v u/\dS X.bi s.1 m x u
 cell:∀x c,X.bi.cells.lookup x=a_ c->∃v,s.1.IsCell c v
 free:H X.bi.locals=d_
 nm:∀x c,X.bi.cells.lookup x=a_ c->H c=d_\/(X.fn x=e_/\∃o,H c=a_ (.il o (.own 0)))
 pin:∀p∈X.pn++c7,s.1.get? p.1=a_ p.2/\H p.1=d_/\p.1≠X.bi.locals/\p.1∉X.fs/\∀v,p.2.data≠.cell v
 fg:l0 X.prog X.w H s.1
 len:_7 Z=_7 X.N
section
variable{X:Cx}{c7:b_ (o_×_d)}{Z:b_ (f_ V)}{H H':Hp}{s:jP}{h':C_}
def Cx.Ok.nofr(ok:X.Ok)(e:X.base.get? b=a_ o):b∉X.fs:=λa=>by have:=(ok.sh.mem a).1;rw[e]at this;cases this
def c5.bs(I:c5 X c7 Z H s):∀b o,X.base.get? b=a_ o->s.1.get? b=a_ o/\H b=d_:=λb o e=>
 ⟨I.base.keep b o (I.ok.bs b o e).1 (I.ok.bs b o e).2 (I.ok.nofr e) (I.ok.noex b o e),I.base.free b o (I.ok.bs b o e).1 (I.ok.bs b o e).2 (I.ok.noex b o e)⟩
def c5.bk(I:c5 X c7 Z H s):∀b o,X.base.get? b=a_ o->s.1.get? b=a_ o:=λb o e=>(I.bs b o e).1
def c5.tz(I:c5 X c7 Z H s):Mod X.K X.mg X.base:=I.ok.tz
def c5.u6(I:c5 X c7 Z H s):X.K.In s.1:=I.ok.tz.kin.keeps I.bk
def c5.lt(I:c5 X c7 Z H s):X.bi.locals<s.1.1.size:=let ⟨_,a,_⟩:=I.loc;a.lt
def c5.sz(I:c5 X c7 Z H s):X.im.1.1.size<=s.1.1.size:=kC I.ok.above (xE I.lt)
def c5.nofs(I:c5 X c7 Z H s)(h:s.1.1.size<=a):a∉X.fs:=λc=>by obtain⟨_,o,b,_⟩:=I.ok.sh.mem c;exact t_ (jR (jA b) (kC I.sz h)) (kU _)
def c5.cne(I:c5 X c7 Z H s):∀x c,X.bi.cells.lookup x=a_ c->c≠X.bi.locals:=λx c e z=>by obtain⟨v,o,d,f⟩:=I.cell x c e;obtain⟨m,⟨g,h,i,a,b,_⟩,_⟩:=I.loc;rw[z,a]at d;cases d;rw[b]at f;cases f
def c5.sh(I:c5 X c7 Z H s):s.1.FunFrames X.base X.cc:=by
 have all:∀l,(∀b∈Yq l,b∈X.fs)->X.im.1.FunFrames X.base l->s.1.FunFrames X.base l:=by
  intro l;induction l with
  |nil=>intro _ _;trivial
  |cons q r g=>intro f m;obtain⟨n,⟨L,o,a,j,i,p⟩,h⟩:=m;have d:=f L (by unfold Yq;rw[pB,a];exact iM);obtain⟨u,e⟩:=I.base.slot L o i (I.ok.frf L d) d λz=>I.ok.exfs L z d;exact⟨n,⟨L,_,a,j,e,p⟩,g (λb c=>f b (by unfold Yq;rw[pB,a];exact iI _ c)) h⟩
 exact all X.cc (λy c=>c) I.ok.sh
def c5.stack(I:c5 X c7 Z H s):s.1.FunFrames X.base X.stack:=by
 obtain e|⟨e,b⟩:=I.ok.stk
 .rw[e];exact I.sh
 .rw[e];obtain⟨m,a,_⟩:=I.loc;exact .cons (by rw[I.ok.kind];decide) b a (G? (kC I.ok.bsz I.ok.above)) I.sh
def c5.rc(I:c5 X c7 Z H s):∀b∈Yq X.stack,b∈X.bi.locals::X.fs:=λb a=>by
 obtain e|⟨e,c⟩:=I.ok.stk
 .rw[e]at a;exact iI _ a
 .rw[e]at a;unfold Yq at a;rw[pB,c]at a;exact a
def c5.stkFree(I:c5 X c7 Z H s):∀b∈Yq X.stack,H b=d_:=λb a=>by
 rcases l_.mp (I.rc b a)with e|a
 .rw[e];exact I.free
 .obtain⟨_,o,c,_⟩:=I.ok.sh.mem a;exact I.base.free b o c (I.ok.frf b a) λz=>I.ok.exfs b z a
def c5.step{g':p_ GenState}{t':g_}{d':Drawn}{ch:b_ o_}(I:c5 X c7 Z H s)
  (g:∀b∈ch,(b∈X.ex\/X.im.1.1.size<=b)/\b≠X.bi.locals/\(∀x c,X.bi.cells.lookup x=a_ c->c≠b)/\∀p∈X.pn++c7,p.1≠b)
  (keep:∀b o,b≠X.bi.locals->b∉X.fs->b∉ch->s.1.get? b=a_ o->H b=d_->h'.get? b=a_ o)
  (slot:∀b o,b≠X.bi.locals->b∈X.fs->b∉ch->s.1.get? b=a_ o->H b=d_->∃T,h'.get? b=a_ {o with slots:=T}) (free:∀b o,b∉ch->s.1.get? b=a_ o->H b=d_->H' b=d_)
  (there:∀b o,b∉ch->s.1.get? b=a_ o->∃J,h'.get? b=a_ J)
  (E:∀b xs,H b=a_ (.ci xs)->H' b=a_ (.ci xs)) (kO:∀b o u,H b=a_ (.il o u)->H' b=a_ (.il o u)) (G:∀b q,H b=a_ (.tbl q)->H' b=a_ (.tbl q))
  (ns:∀m,s.1.Ns X.bi.locals m->h'.Ns X.bi.locals m) (M:l0 X.prog X.w H' h') (hg:wA g'):
  c5 X c7 Z H' {s with heap:=h',gens:=g',drawn:=d',toks:=t'}:=by
 have L:∀b o,X.im.1.get? b=a_ o->b≠X.bi.locals:=λb o e=>jJ (jR (jA e) I.ok.above);have j:∀b o,X.im.1.get? b=a_ o->b∉X.ex->b∉ch:=λb o e a B=>by
  rcases(g b B).1 with z|z
  .exact a z
  .exact t_ (jR (jA e) z) (kU _)
 have h:∀x c,X.bi.cells.lookup x=a_ c->∀v,s.1.IsCell c v->h'.IsCell c v:=by
  rintro x c e v ⟨o,A,O⟩
  have f:c∉ch:=λz=>(g c z).2.2.1 x c e _6;rcases I.nm x c e with y|⟨_,N,y⟩
  .by_cases hc:c∈X.fs
   .obtain⟨T,q⟩:=slot c o (I.cne x c e) hc f A y;exact⟨_,q,O⟩
   .exact⟨o,keep c o (I.cne x c e) hc f A y,O⟩
  .obtain⟨Y,_⟩:=I.fg c _ y;obtain⟨q2,_⟩:=M c _ (kO c N _ y);rw[A]at Y;cases Y;exact⟨o,q2,O⟩
 refine⟨I.ok,I.os,hg,⟨λb o e n B a=>?_,λb o e n B a=>?_,λb o e n a=>?_,λb o e a=>?_,λb xs e=>E b xs (I.base.q7 b xs e),λb o xs e=>kO b o xs (I.base.kO b o xs e),λb q e=>G b q (I.base.qe b q e)⟩,?_,λx c e=>?_,?_,λx c e=>?_,λp hp=>?_,M,I.len⟩
 .exact keep b o (L b o e) B (j b o e a) (I.base.keep b o e n B a) (I.base.free b o e n a)
 .obtain⟨T,C⟩:=I.base.slot b o e n B a;obtain⟨Q,U⟩:=slot b _ (L b o e) B (j b o e a) C (I.base.free b o e n a);exact⟨Q,U⟩
 .obtain⟨J,C⟩:=I.base.there b o e a;exact free b J (j b o e a) C (I.base.free b o e n a)
 .obtain⟨J,C⟩:=I.base.there b o e a;exact there b J (j b o e a) C
 .obtain⟨m,hn,hl⟩:=I.loc;refine⟨m,ns m hn,λi x v C U e3=>?_⟩;obtain⟨u,r,l⟩:=hl i x v C U e3;refine⟨u,r,?_⟩;obtain l|⟨k,c,e,z⟩:=l
  .exact .inl l
  .exact .inr ⟨k,c,e,h x c e _ z⟩
 .obtain⟨v,z⟩:=I.cell x c e;exact⟨v,h x c e v z⟩
 .obtain⟨m,⟨o,_,_,A,_⟩,_⟩:=I.loc;exact free _ o (λz=>(g _ z).2.1 _6) A I.free
 .obtain⟨v,o,A,O⟩:=I.cell x c e;rcases I.nm x c e with y|⟨hf,N,y⟩
  .exact .inl (free c o (λz=>(g c z).2.2.1 x c e _6) A y)
  .exact .inr ⟨hf,N,kO c N _ y⟩
 .obtain⟨e,n,ne,nf,d⟩:=I.pin p hp;have f:p.1∉ch:=λz=>(g p.1 z).2.2.2 p hp _6;exact⟨keep p.1 p.2 ne nf f e n,free p.1 p.2 f e n,ne,nf,d⟩
def c5.un(I:c5 X c7 Z H s)(u:Un X.fs [] H H' s.1 h')(c:l0 X.prog X.w H' h'):c5 X c7 Z H' {s with heap:=h',toks:=p}:=by
 obtain⟨m,⟨o,y,A,h,r⟩,_⟩:=id I.loc;obtain⟨q,l⟩:=u.any h I.free (by simp);exact I.step (ch:=[]) (λt z=>nomatch z) (λb o t d t e n=>u.keep b o e n d (by simp)) (λb o t d t e n=>u.slot b o e n d (by simp)) (λb o t e n=>u.free b o e n (by simp)) (λb o t e=>u.there b o e (by simp)) u.q7 u.kO u.qe (λx j=>by
  obtain⟨v,f,g,a,i⟩:=j;rw[h]at a;cases a;exact⟨_,f,g,l,i⟩) c I.lU
def c5.call(I:c5 X c7 Z H s)(u:Un (Yq X.stack) ch H H' s.1 h')(g:l0 X.prog X.w H' h')(y:wA B)
  (f:∀b∈ch,(b∈X.ex\/X.im.1.1.size<=b)/\b≠X.bi.locals/\(∀x c,X.bi.cells.lookup x=a_ c->c≠b)/\∀p∈X.pn++c7,p.1≠b):
  c5 X c7 Z H' {s with heap:=h',gens:=B,drawn:=d',toks:=t'}:=by
 obtain⟨m,⟨o,J,L,l,r⟩,_⟩:=id I.loc;obtain⟨C,h⟩:=u.any l I.free λz=>(f _ z).2.1 _6;exact I.step f (λb o h A a e n=>u.keep b o e n (λz=>(l_.mp (I.rc b z)).elim h A) a) (λb o t t a e n=>u.any e n a) (λb o a e n=>u.free b o e n a) (λb o a e=>u.there b o e a) u.q7 u.kO u.qe (λG v=>by
  obtain⟨E,i,j,d,q⟩:=v;rw[l]at d;cases d;exact⟨_,i,j,h,q⟩) g y
def c5.hZ(I:c5 X c7 Z H s)(k:∀b o,b≠it->s.1.get? b=a_ o->h'.get? b=a_ o)(h:H it=d_)(f:it≠X.bi.locals)
  (y:it∈X.ex\/X.im.1.1.size<=it)(w:∀x c,X.bi.cells.lookup x=a_ c->c≠it)(l:∀p∈X.pn++c7,p.1≠it):c5 X c7 Z H {s with heap:=h',toks:=C}:=by
 have d:∀b u,H b=a_ u->b≠it:=λb u e z=>by rw[z,h]at e;cases e
 refine I.step (ch:=[it]) (λb j=>?_) (λb o t t a e t=>k b o (λz=>a (by simp[z])) e) (λb o t t a e t=>⟨o.slots,k b o (λz=>a (by simp[z])) e⟩) (λt t t t n=>n)
  (λb o a e=>⟨o,k b o (λz=>a (by simp[z])) e⟩) (λt t e=>e) (λt t t e=>e) (λt t e=>e) (λm i=>?_) (λb u e=>?_) I.lU
 .have e:b=it:=by simpa using j
  subst e;exact⟨y,f,w,l⟩
 .obtain⟨o,A,B,g,r⟩:=i;exact⟨o,A,B,k _ o (pE f) g,r⟩
 .refine(I.fg b u e).t3 (λc v a q=>k c v ?_ q) (λt q=>q) λt t q=>q;obtain z|z:=a
  .rw[z];exact d b u e
  .exact d c _ z
def c5.qd(I:c5 X c7 Z H s)(t:g_):c5 X c7 Z H {s with toks:=t}:=I.un Un.refl I.fg
def c5.h7(I:c5 X c7 Z H s)(k:∀b u,s.1.get? b=a_ u->h'.get? b=a_ u):c5 X c7 Z H {s with heap:=h',toks:=t'}:=I.un (Un.h7 k) (I.fg.h7 k)
def c5.laid(I:c5 X c7 Z H s)(k:∀b u,s.1.get? b=a_ u->h'.get? b=a_ u)(c:s.1.1.size<=a)(new:ka X.prog X.w (eT H a o) h' a o):
  c5 X c7 Z (eT H a o) {s with heap:=h',toks:=t'}:=I.un (Un.laid k c (I.fg.fresh c)) (I.fg.laid k c new)
def c5.qy(I:c5 X c7 Z H s)(c:WO (H x))(d:e=x\/H e=a_ (.own x))(k:∀b u,b≠e->s.1.get? b=a_ u->h'.get? b=a_ u)(a:∃u,h'.get? e=a_ u)
  (new:ka X.prog X.w (eT H x o) h' x o):c5 X c7 Z (eT H x o) {s with heap:=h',toks:=f}:=I.un (Un.qy c d k a) (I.fg.qy c d k a new)
def c5.pins_of(I:c5 X c7 Z H s)(h:∀p∈a,s.1.get? p.1=a_ p.2/\H p.1=d_/\p.1≠X.bi.locals/\p.1∉X.fs/\∀v,p.2.data≠.cell v):c5 X a Z H s:=
 ⟨I.ok,I.os,I.lU,I.base,I.loc,I.cell,I.free,I.nm,λp b=>(s_.mp b).elim (λz=>I.pin p (kE _ z)) (h p),I.fg,I.len⟩
def L9{N:b_ x_}(c:N.Nodup){i:g_}(a:N[i]?=a_ x)(b:N[j]?=a_ x):i=j:=by obtain⟨g,e⟩:=h_.mp a;obtain⟨f,d⟩:=h_.mp b;exact(List.getElem_inj c).mp (e.trans d.symm)
def Hl(I:c5 X c7 Z H s)(hN:X.N.Nodup)(hi:X.N[i]?=a_ x)(C:Xa X.bi.scope x)(r:ez v u)
  (h:∀s',c5 X c7 (Z.set i (a_ v)) H s'->(∃a,kZ a s.1 s'.1/\(a=X.bi.locals\/X.bi.cells.lookup x=a_ a))->Q () s')(hf:Q! (X.fn x=c_\/X.bi.scope.names.lookup x=a_ .local) Q0!):jK M A (storeName X.bi x u) Q E s:=by
 obtain⟨m,hn,hl⟩:=id I.loc;have γ:(X.bi.scope.kind==.class||(X.bi.scope.kind==.module&&X.bi.locals !=X.bi.globals))=e_:=by rw[I.ok.kind];rfl
 have T:i<_7 Z:=by rw[I.len];exact(h_.mp hi).1
 have cne:=I.cne;have g:∀{a}{h'},(∃o,s.1.get? a=a_ o/\H a=d_)->kZ a s.1 h'->l0 X.prog X.w H h':=λ{a h'} ha f b ob e=>by
  obtain⟨_,_,G⟩:=ha;refine(I.fg b ob e).t3 (λc w' B q=>(f.2 c ?_).trans q) (λt q=>q) λt t q=>q
  rintro rfl
  obtain rfl|B:=B
  .rw[G]at e;cases e
  .rw[G]at B;cases B
 obtain O|O:=C
 .refine wpAny_storeName_local O hn (λh' υ f=>?_) γ;obtain⟨oL,_,_,τ,_⟩:=id hn;refine h _ ⟨I.ok,I.os,I.lU,⟨λb o e n Y C=>?_,λb o e n Y C=>?_,I.base.free,λb o e C=>?_,I.base.q7,I.base.kO,I.base.qe⟩,⟨_,υ,λj y v' l L e3=>?_⟩,λy c e=>?_,I.free,I.nm,λp hp=>?_,g ⟨oL,τ,I.free⟩ f,by simpa using I.len⟩ ⟨_,f,.inl _6⟩
  .exact(f.2 b (jJ (jR (jA e) I.ok.above))).trans (I.base.keep b o e n Y C)
  .obtain⟨sl,l⟩:=I.base.slot b o e n Y C;exact⟨sl,(f.2 b (jJ (jR (jA e) I.ok.above))).trans l⟩
  .obtain⟨o',l⟩:=I.base.there b o e C;exact⟨o',(f.2 b (jJ (jR (jA e) I.ok.above))).trans l⟩
  .by_cases U:j=i
   .subst U;rw[hi]at l;cases l;rw[jQ T]at L;cases L;exact⟨u,r,.inl ⟨O,by simp⟩⟩
   .rw[jL (pE U)]at L;obtain⟨u',r',q⟩:=hl j y v' l L e3;refine⟨u',r',?_⟩;obtain ⟨k,e⟩|⟨k,c,e,z⟩:=q
    .refine .inl ⟨k,?_⟩;have:y≠x:=λe=>U (L9 hN l (e▸hi));simp[this,e]
    .exact .inr ⟨k,c,e,z.sameBut f (cne y c e)⟩
  .obtain⟨w',z⟩:=I.cell y c e;exact⟨w',z.sameBut f (cne y c e)⟩
  .obtain⟨e,n,ne,nf,d⟩:=I.pin p hp;exact⟨(f.2 p.1 ne).trans e,n,ne,nf,d⟩
 .have J:X.fn x=c_:=by
   obtain z|z:=hf
   .exact z
   .rw[z]at O;cases O
  obtain⟨c,B⟩:=I.ok.has x (.inl O);obtain⟨w',z⟩:=I.cell x c B;refine wpAny_storeName_cell I.ok.kind O B z (λh' ε f=>?_);obtain⟨oc,α,ω⟩:=id z;have χ:=(I.nm x c B).elim (λz=>z) λz=>by rw[J]at z;exact t_ z.1 (by decide)
  refine h {s with heap:=h'} ⟨I.ok,I.os,I.lU,⟨λb o e n Y C=>?_,λb o e n Y C=>?_,I.base.free,λb o e C=>?_,I.base.q7,I.base.kO,I.base.qe⟩,⟨m,hn.sameBut f (pE (cne x c B)),λj y v' l L e3=>?_⟩,λy c' e=>?_,I.free,I.nm,λp hp=>?_,g ⟨oc,α,χ⟩ f,by simpa using I.len⟩ ⟨c,f,.inr B⟩
  .exact(f.2 b (jJ (jR (jA e) (I.ok.cab x c J B)))).trans (I.base.keep b o e n Y C)
  .obtain⟨sl,l⟩:=I.base.slot b o e n Y C;exact⟨sl,(f.2 b (jJ (jR (jA e) (I.ok.cab x c J B)))).trans l⟩
  .obtain⟨o',l⟩:=I.base.there b o e C;exact⟨o',(f.2 b (jJ (jR (jA e) (I.ok.cab x c J B)))).trans l⟩
  .by_cases U:j=i
   .subst U;rw[hi]at l;cases l;rw[jQ T]at L;cases L;exact⟨u,r,.inr ⟨.inl O,c,B,ε⟩⟩
   .rw[jL (pE U)]at L;obtain⟨u',r',q⟩:=hl j y v' l L e3;refine⟨u',r',?_⟩;obtain q|⟨k,c',e,z'⟩:=q
    .exact .inl q
    .refine .inr ⟨k,c',e,z'.sameBut f ?_⟩
     rintro rfl
     exact U (L9 hN l (I.ok.inj _ _ _ e B▸hi))
  .by_cases δ:c'=c
   .subst δ;exact⟨_,ε⟩
   .obtain⟨w2,z2⟩:=I.cell y c' e;exact⟨w2,z2.sameBut f δ⟩
  .obtain⟨e,n,ne,nf,d⟩:=I.pin p hp;refine⟨(f.2 p.1 ?_).trans e,n,ne,nf,d⟩;intro q;rw[q,α]at e;exact d w' (by rwa[<-(jM e)])
def M8(I:c5 X c7 Z H s)(e:X.N.Nodup)(c:X.N[i]?=a_ x)(b:Xa X.bi.scope x)(r:ez v u)
  (h:∀a,c5 X c7 (Z.set i (a_ v)) H a->Q () a)(d:Q! (X.fn x=c_\/X.bi.scope.names.lookup x=a_ .local) Q0!):jK M A (storeName X.bi x u) Q E s:=
 Hl I e c b r (λa f z=>h a f) d
def c5.call'(I:c5 X c7 Z H s)(f:a.os=s.os)(u:Un (Yq X.stack) i H H' s.1 a.1)(d:l0 X.prog X.w H' a.1)(g:wA a.gens)
  (e:∀b∈i,(b∈X.ex\/X.im.1.1.size<=b)/\b≠X.bi.locals/\(∀x c,X.bi.cells.lookup x=a_ c->c≠b)/\∀p∈X.pn++c7,p.1≠b):c5 X c7 Z H' a:=by
 obtain⟨h',m,h,j,l⟩:=a;subst f;exact I.call (d':=h) u d g e
end
abbrev XK:=jB->f_ o_->Hp->Prop
abbrev St:=b_ (f_ V)
abbrev VK:=V->Hp->Prop
abbrev TE:=St->Hp->VK->Prop
abbrev TT:=St->Hp->(r_->Hp->Prop)->Prop
abbrev TA:=St->Hp->(b_ V->Hp->Prop)->Prop
structure qt where
 nx:St->Hp->Prop
 rt:VK
 bk:St->Hp->Prop:=λ_ _=>T_
 ct:St->Hp->Prop:=λ_ _=>T_
abbrev TS:=qt->St->Hp->Prop
inductive EP(X:Cx)(c7:b_ (o_×_d))(Z:St)(Q:VK)(u:jB)(s':jP):Prop
 |mk (v H') (_:c5 X c7 Z H' s') (_:ez v u) (_:Q v H'):EP X c7 Z Q u s'
def TP(X:Cx)(a:b_ (o_×_d))(Z:St)(Q:r_->Hp->Prop)(b:r_)(d:jP):Prop:=∃c,c5 X a Z c d/\Q b c
inductive AP(X:Cx)(c7:b_ (o_×_d))(Z:St)(Q:b_ V->Hp->Prop)(us:b_ jB)(s':jP):Prop
 |mk (vs H') (_:c5 X c7 Z H' s') (_:dL vs us) (_:Q vs H'):AP X c7 Z Q us s'
def SP(X:Cx)(b:b_ (o_×_d))(D:qt)(f:Flow)(d:jP):Prop:=
 match f with
 |.next=>∃a c,c5 X b a c d/\D.nx a c
 |.brk=>∃a c,c5 X b a c d/\D.bk a c
 |.cont=>∃a c,c5 X b a c d/\D.ct a c
 |.ret u=>∃v a c,c5 X b a c d/\ez v u/\D.rt v c
def PE(X:Cx)(e:Expr)(t:TE):Prop:=
 ∀(a:b_ (o_×_d))(s:jP)(Z:St)(H:Hp)(Q:VK),c5 X a Z H s->t Z H Q->jK (jG X.prog X.w) X.A (I_ e X.bi) (EP X a Z Q) X.xe s
def PT(X:Cx)(e:Expr)(t:TT):Prop:=
 ∀(a:b_ (o_×_d))(s:jP)(Z:St)(H:Hp)(Q:r_->Hp->Prop),c5 X a Z H s->t Z H Q->jK (jG X.prog X.w) X.A (isTrue e X.bi (I_ e X.bi)) (TP X a Z Q) X.xe s
def PW(X:Cx)(e:Expr)(t:TT):Prop:=
 ∀(b:Sem jB)(a:b_ (o_×_d))(s:jP)(Z:St)(H:Hp)(Q:r_->Hp->Prop),c5 X a Z H s->t Z H Q->jK (jG X.prog X.w) X.A (isTrue e X.bi b) (TP X a Z Q) X.xe s
def PW.pt(h:PW X e t):PT X e t:=h _
def PA(X:Cx)(es:b_ Expr)(t:TA):Prop:=
 ∀(b:h!)(a:b_ (o_×_d))(s:jP)(Z:St)(H:Hp)(Q:b_ V->Hp->Prop),c5 X a Z H s->t Z H Q->jK (jG X.prog X.w) X.A (spliced (nU b (jI es X.bi))) (AP X a Z Q) X.xe s
def PS(X:Cx)(st:S_)(t:TS):Prop:=
 ∀(a:b_ (o_×_d))(s:jP)(Z:St)(H:Hp)(D:qt),c5 X a Z H s->t D Z H->jK (jG X.prog X.w) X.A (exec st X.bi) (SP X a D) X.xe s
def PSs(X:Cx)(st:b_ S_)(t:TS):Prop:=
 ∀(a:b_ (o_×_d))(s:jP)(Z:St)(H:Hp)(D:qt),c5 X a Z H s->t D Z H->jK (jG X.prog X.w) X.A (execs st X.bi) (SP X a D) X.xe s
def jf(h:jK M A t Q E s)(b:∀a s,Q a s->c a s):jK M A t c E s:=kN h b λz z x=>x
section
variable{X:Cx}
def ya(i:g_):TE:=λZ H Q=>∃v,Z[i]?=a_ (a_ v)/\Q v H
def tC(v:V):TE:=λz H Q=>Q v H
def Jn(z:X.N[i]?=a_ x)(p:WM X.bi.scope x)(g:Q! ((x==("__debug__":x_))=e_) Q1!)(j:Q! ((x==("__classdict__":x_))=e_) Q1!):PE X (.Name x o) (ya i):=by
 intro f s Z H Q I h;obtain⟨v,e,h⟩:=h;obtain⟨m,q,y⟩:=I.loc;obtain⟨u,r,l⟩:=y i x v z e p;have d:EP X f Z Q u s:=⟨v,H,I,r,h⟩;obtain ⟨b,w⟩|⟨b,c,n,a⟩:=l
 .exact wpAny_Name (wpAny_loadName_local I.ok.kind b q w d) g
 .obtain b|b:=b
  .exact wpAny_Name (wpAny_loadName_cell I.ok.kind b n a d) g
  .exact wpAny_Name (wpAny_loadName_free I.ok.kind b n a d j) g
def BW{i j pos}:PE X (.Constant (.int i) j pos) (tC (.int i)):=λz z z H z I h=>wpAny_Constant_int ⟨.int i,H,I.qd _,⟨_,_6⟩,h⟩
def YO{b j a}:PE X (.Constant (.bool b) j a) (tC (.bl b)):=λz z z H z I h=>Constant_bool ⟨.bl b,H,I,_6,h⟩
def SY{j a}:PE X (.Constant .none j a) (tC .fD):=λz z z H z I h=>Constant_none ⟨.fD,H,I,_6,h⟩
def SV{x j a}:PE X (.Constant (.str x) j a) (tC (.str x)):=λz z z H z I h=>Calls.Constant_str ⟨.str x,H,I.qd _,⟨_,_6⟩,h⟩
def Gl(X:Cx)(x:x_):Prop:=X.bi.kindOf x=a_ .globalImplicit
def C5(I:c5 X a Z H s)(d:Gl X x)(c:X.mg x=a_ u)(h:Q u s)
  (e:Q! ((x==("__debug__":x_))=e_) Q1!):jK (jG X.prog X.w) X.A (I_ (.Name x b) X.bi) Q E s:=
 _A I.ok.kind d (Calls.loadGlobal_global (by rw[I.ok.se];exact I.tz.se.keeps I.bk) c h) e
def Ba(I:c5 X a Z H s)(f:Gl X x)(e:X.mg x=d_)(c:qA x=a_ u)(h:Q u s)
  (d:Q! (x≠"__name__") Q1!)(g:Q! ((x==("__debug__":x_))=e_) Q1!):jK (jG X.prog X.w) X.A (I_ (.Name x b) X.bi) Q E s:=by
 obtain⟨l,j,i⟩:=I.tz.blt;exact _A I.ok.kind f (Calls.loadGlobal_builtin (by rw[I.ok.se];exact I.tz.se.keeps I.bk) e (by rw[I.ok.blt];exact j.keeps I.bk) ((i x d).trans c) h) g
def Sz(c:Gl X x)(b:X.mg x=a_ u)(r:ez v u)(d:Q! ((x==("__debug__":x_))=e_) Q1!):PE X (.Name x a) (tC v):=
 λz z z H z I h=>C5 I c b ⟨v,H,I,r,h⟩ d
def JJ(e:Gl X x)(d:X.mg x=d_)(b:qA x=a_ u)(r:ez v u)(c:Q! (x≠"__name__") Q1!)(f:Q! ((x==("__debug__":x_))=e_) Q1!):PE X (.Name x a) (tC v):=
 λz z z H z I h=>Ba I e d b ⟨v,H,I,r,h⟩ c f
variable{a b:Expr}{ta tb:TE}{pos:h!}
variable{tA tB':TT}{cW:b_ Expr}
def eM(t u:TT):TT:=λZ H Q=>t Z H λc d=>if c=c_ then u Z d Q else Q e_ d
def gK(t u:TT):TT:=λZ H Q=>t Z H λc d=>if c=c_ then Q c_ d else u Z d Q
def eF(t:TT):TT:=λZ H Q=>t Z H λc d=>Q (!c) d
def LY(f:PT X a tA):PW X (.BoolOp .And [a] pos) tA:=by
 intro g d s Z H Q I h;refine isTrue_and (jf (f d s Z H Q I h) λc i e=>?_);cases c with
 |true=>exact isTrue_and_nil e
 |false=>exact e
def UV(f:PT X a tA):PW X (.BoolOp .Or [a] pos) tA:=by
 intro g d s Z H Q I h;refine isTrue_or (jf (f d s Z H Q I h) λc i e=>?_);cases c with
 |false=>exact isTrue_or_nil e
 |true=>exact e
def UY(m:PT X a tA)(l:PW X (.BoolOp .And (b::cW) pos) tB'):PW X (.BoolOp .And (a::b::cW) pos) (eM tA tB'):=by
 intro i d s Z H Q I h;refine isTrue_and (jf (m d s Z H _ I h) λc j ⟨g,f,e⟩=>?_);cases c with
 |true=>exact l i d j Z g Q f e
 |false=>exact⟨g,f,e⟩
def YC(m:PT X a tA)(l:PW X (.BoolOp .Or (b::cW) pos) tB'):PW X (.BoolOp .Or (a::b::cW) pos) (gK tA tB'):=by
 intro i d s Z H Q I h;refine isTrue_or (jf (m d s Z H _ I h) λc j ⟨g,f,e⟩=>?_);cases c with
 |true=>exact⟨g,f,e⟩
 |false=>exact l i d j Z g Q f e
def SJ(d:PT X a tA):PT X (.UnaryOp .Not a pos) (eF tA):=by intro c s Z H Q I h;exact isTrue_not (d c s Z H _ I h)
def ZP(ta tb:TE):TE:=λZ H Q=>ta Z H λx d=>∃c,x=.bl c/\if c=c_ then tb Z d Q else Q (.bl e_) d
def eD(ta tb:TE):TE:=λZ H Q=>ta Z H λx d=>∃c,x=.bl c/\if c=c_ then Q (.bl c_) d else tb Z d Q
def ZJ(ta:TE):TE:=λZ H Q=>ta Z H λx d=>∃c,x=.bl c/\Q (.bl (!c)) d
def SW{d}(h:PE X a t):PE X (.BoolOp d [a] pos) t:=λc s Z H Q I e=>BoolOp_one (h c s Z H Q I e)
def RB(m:PE X a ta)(l:PE X (.BoolOp .And (b::cW) pos) tb):PE X (.BoolOp .And (a::b::cW) pos) (ZP ta tb):=by
 intro d s Z H Q I h;refine BoolOp_and (jf (m d s Z H _ I h) λv i ⟨x,g,f,j,e⟩=>?_);obtain⟨c,rfl,e⟩:=e;cases j;refine lZ ?_;cases c with
 |true=>exact l d i Z g Q f e
 |false=>exact⟨.bl e_,g,f,_6,e⟩
def YM(m:PE X a ta)(l:PE X (.BoolOp .Or (b::cW) pos) tb):PE X (.BoolOp .Or (a::b::cW) pos) (eD ta tb):=by
 intro d s Z H Q I h;refine BoolOp_or (jf (m d s Z H _ I h) λv i ⟨x,g,f,j,e⟩=>?_);obtain⟨c,rfl,e⟩:=e;cases j;refine lZ ?_;cases c with
 |false=>exact l d i Z g Q f e
 |true=>exact⟨.bl c_,g,f,_6,e⟩
def SX(g:PE X a ta):PE X (.UnaryOp .Not a pos) (ZJ ta):=by intro d s Z H Q I h;refine UnaryOp_ (jf (g d s Z H _ I h) λv l ⟨x,j,i,f,e⟩=>?_);obtain⟨c,rfl,e⟩:=e;cases f;exact not_of (lZ ⟨.bl (!c),j,i,_6,e⟩)
def gN(t:TT)(ta tb:TE):TE:=λZ H Q=>t Z H λc d=>if c=c_ then ta Z d Q else tb Z d Q
def BX(l:PT X c tA)(n:PE X a ta)(m:PE X b tb):PE X (.IfExp c a b pos) (gN tA ta tb):=by
 intro e s Z H Q I h;refine wpAny_IfExp (jf (l e s Z H _ I h) λd f ⟨j,i,g⟩=>?_);cases d with
 |true=>exact n e f Z j Q i g
 |false=>exact m e f Z j Q i g
end
inductive SqI(P:p_ jB->Prop)(xs:b_ V):Prop
 |mk (its:b_ jB) (_:dL xs its) (_:P its.toArray) (_:_7 xs<=iN):SqI P xs
inductive KsL(K:iL)(a:o_)(xs:b_ V):Prop
 |mk (o its n) (_:K.lookup a=a_ o) (_:o.cls=.type "list") (_:o.dict=d_) (_:o.data=.seq its n) (_:its.size<=iN) (_:dL xs its.toList):KsL K a xs
inductive KsT(K:iL)(a:o_)(xs:b_ V):Prop
 |mk (o its n) (_:K.lookup a=a_ o) (_:o.cls=.type "tuple") (_:o.data=.seq its n) (_:its.size<=iN) (_:dL xs its.toList):KsT K a xs
def gL(K:iL)(H:Hp)(a:o_)(xs:b_ V):Prop:=
 Rd H a (.au xs)\/KsL K a xs
def ng(K:iL)(H:Hp)(a:o_)(xs:b_ V):Prop:=
 Rd H a (.ci xs)\/KsT K a xs
noncomputable def dO:jB->f_ V
 |.none=>a_ .fD
 |.bool b=>a_ (.bl b)
 |.int i _=>a_ (.int i)
 |.str x _=>a_ (.str x)
 |.bytes b _=>a_ (.byt b)
 |.float b _=>a_ (.flt b)
 |.ref a=>a_ (.ref a)
 |.type n=>a_ (.ty n)
 |_=>d_
def ez.abs(r:ez x u):dO u=a_ x:=by
 cases x with
 |fD=>cases r;rfl
 |bl _=>cases r;rfl
 |int _=>obtain⟨t,rfl⟩:=r;rfl
 |str _=>obtain⟨t,rfl⟩:=r;rfl
 |byt _=>obtain⟨t,rfl⟩:=r;rfl
 |flt _=>obtain⟨t,rfl⟩:=r;rfl
 |ref _=>cases r;rfl
 |ty _=>cases r;rfl
def ez.inj(r:ez x u)(q:ez y u):x=y:=jM (r.abs.symm.trans q.abs)
theorem dL.inj:∀{xs a}{b},dL xs b->dL a b->xs=a
 |_,_,_,.nil,.nil=>rfl
 |_,_,_,.cons r t,.cons d c=>by rw[r.inj d,dL.inj t c]
section
variable{X:Cx}{c7:b_ (o_×_d)}{Z:St}{H:Hp}{s:jP}{a:o_}{xs ys:b_ V}
def gL.of{K:iL}(h:H a=a_ (.au xs)):gL K H a xs:=.inl (.inl h)
def ng.of{K:iL}(h:H a=a_ (.ci xs)):ng K H a xs:=.inl (.inl h)
def c5.list(I:c5 X c7 Z H s)(h:gL X.K H a xs):SqI (PlainL s.1 a) xs:=by
 obtain h|⟨o,b,n,d,g,f,c,i,r⟩:=h
 .obtain⟨z,b,n,r,e⟩:=h.ok I.fg;exact⟨b,r,⟨_,n,e,_6,_6,_6⟩,z⟩
 .refine⟨b.toList,r,⟨o,n,I.u6 a o d,g,f,by simpa using c⟩,?_⟩;have e:=r.length;simp only[iP]at e
  lia
def c5.tuple(I:c5 X c7 Z H s)(h:ng X.K H a xs):SqI (U? s.1 a) xs:=by
 obtain h|⟨o,b,n,d,f,c,g,r⟩:=h
 .obtain⟨z,b,r,p⟩:=h.ok I.fg;exact⟨b,r,p,z⟩
 .refine⟨b.toList,r,⟨o,I.u6 a o d,f,n,by simpa using c⟩,?_⟩;have e:=r.length;simp only[iP]at e
  lia
def c5.rm(I:c5 X c7 Z H s)(h:gL X.K H a xs)(j:gL X.K H a ys):xs=ys:=by
 obtain⟨c,r,⟨o,n,e,_,_,d⟩,_⟩:=I.list h;obtain⟨b,i,⟨m,p,f,_,_,g⟩,_⟩:=I.list j;rw[e]at f;cases f;rw[d]at g;injection g with l _
 have:c=b:=by simpa using u_ Array.toList l
 subst this;exact r.inj i
def c5.tuple_inj(I:c5 X c7 Z H s)(h:ng X.K H a xs)(j:ng X.K H a ys):xs=ys:=by
 obtain⟨c,r,⟨o,e,_,n,d⟩,_⟩:=I.tuple h;obtain⟨b,i,⟨m,f,_,p,g⟩,_⟩:=I.tuple j;rw[e]at f;cases f;rw[d]at g;injection g with l _
 have:c=b:=by simpa using u_ Array.toList l
 subst this;exact r.inj i
end
section
variable{X:Cx}{st:S_}{cW:b_ S_}{t u:TS}{e:Expr}{te:TE}{pos:h!}
def ZL:TS:=λD Z H=>D.nx Z H
def ZE(t u:TS):TS:=λD Z H=>t {D with nx:=u D} Z H
def KP:PSs X [] ZL:=λz z Z H z I h=>uX ⟨Z,H,I,h⟩
def Ml(g:PS X st t)(d:PSs X cW u):PSs X (st::cW) (ZE t u):=by
 intro a s Z H D I h;refine wpAny_execs_cons (jf (g a s Z H {D with nx:=u D} I h) λf c q=>?_);cases f with
 |next=>obtain⟨b,j,i,q⟩:=q;exact d a c b j D i q
 |ret v=>exact q
 |brk=>exact q
 |cont=>exact q
def Dc(b:PS X st t):PSs X [st] t:=by
 intro a s Z H D I h;refine wpAny_execs_cons (jf (b a s Z H D I h) λf c q=>?_);cases f with
 |next=>exact uX q
 |ret v=>exact q
 |brk=>exact q
 |cont=>exact q
def c5.quiet(I:c5 X a Z H s):interactive X.bi=e_:=by simp[interactive,I.ok.kind]
def ZN(te:TE):TS:=λD Z H=>te Z H λz a=>D.nx Z a
def uq(d:PE X e te)(c:Q! (rF e d_ pos.line X.bi=Q_ e_) Q2!):PS X (.Expr e pos) (ZN te):=by intro a s Z H D I h;exact wpAny_Expr_any (jf (d a s Z H _ I h) (by rintro v i ⟨x,g,f,j,b⟩;exact⟨Z,g,f,b⟩)) I.quiet c
def eB(te:TE):TS:=λD Z H=>te Z H D.rt
def SL(d:PE X e te):PS X (.Return (a_ e) pos) (eB te):=by intro a s Z H D I h;exact wpAny_Return_some (jf (d a s Z H _ I h) (by rintro v i ⟨x,g,f,b,c⟩;exact⟨x,Z,g,f,b,c⟩))
def eJ(c:TT)(t u:TS):TS:=λD Z H=>c Z H λb a=>if b=c_ then t D Z a else u D Z a
def YK(n:PT X c m)(p:PSs X a t)(o:PSs X b u):PS X (.If c a b pos) (eJ m t u):=by
 intro f s Z H D I h;refine wpAny_If (jf (n f s Z H _ I h) λd g ⟨l,j,i⟩=>?_);cases d with
 |true=>exact p f g Z l D j i
 |false=>exact o f g Z l D j i
end
abbrev TG:=V->St->Hp->(St->Hp->Prop)->Prop
abbrev aE:=b_ V->St->Hp->(St->Hp->Prop)->Prop
def PG(X:Cx)(a:Expr)(t:TG):Prop:=
 ∀(b:b_ (o_×_d))(s:jP)(Z:St)(H:Hp)(v:V)(u:jB)(Q:St->Hp->Prop),c5 X b Z H s->ez v u->t v Z H Q->
  jK (jG X.prog X.w) X.A (assign a X.bi u) (λz e=>∃c d,c5 X b c d e/\Q c d) X.xe s
def WN(X:Cx)(f:b_ Expr)(t:aE):Prop:=
 ∀(a:b_ (o_×_d))(s:jP)(Z:St)(H:Hp)(c:b_ V)(d:b_ jB)(Q:St->Hp->Prop),c5 X a Z H s->dL c d->t c Z H Q->
  jK (jG X.prog X.w) X.A (assignInOrder ((rQ f X.bi).map (·.2)) d) (λz g=>∃b e,c5 X a b e g/\Q b e) X.xe s
section
variable{X:Cx}{pos:h!}
def vp(i:g_):TG:=λv Z H Q=>Q (Z.set i (a_ v)) H
def S0(e:X.N.Nodup)(c:X.N[i]?=a_ x)(b:Xa X.bi.scope x)(d:Q! (X.fn x=c_\/X.bi.scope.names.lookup x=a_ .local) Q0!):PG X (.Name x pos) (vp i):=by intro a s Z H v u Q I r h;exact wpAny_assign_Name (M8 I e c b r (λg f=>⟨_,H,f,h⟩) d)
noncomputable def af:aE:=λa Z H Q=>a=[]/\Q Z H
inductive am(t:TG)(u:aE)(vs:b_ V)(Z:St)(H:Hp)(Q:St->Hp->Prop):Prop
 |mk (v r) (_:vs=v::r) (_:t v Z H λσ' H'=>u r σ' H' Q):am t u vs Z H Q
def JF:WN X [] af:=by intro a s Z H b c Q I r h;obtain⟨e,h⟩:=h;subst e;cases r;exact assignInOrder_nil ⟨Z,H,I,h⟩
def BS(j:PG X e t)(i:WN X es u)
  (g:Q! ((rQ (e::es) X.bi).map (·.2)=assign e X.bi::(rQ es X.bi).map (·.2)) Q2!):WN X (e::es) (am t u):=by
 intro a s Z H o q Q I r h;obtain⟨v,p,l,h⟩:=h;subst l;cases r with
 |cons r d=>rw[g];exact assignInOrder_cons (jf (j a s Z H _ _ _ I r h) λz c ⟨b,n,m,f⟩=>(i a c b n _ _ Q m d f))
inductive h8(K:iL)(n:g_)(t:aE)(v:V)(Z:St)(H:Hp)(Q:St->Hp->Prop):Prop
 |mk (a xs) (_:v=.ref a) (_:ng K H a xs) (_:_7 xs=n) (_:t xs Z H Q):h8 K n t v Z H Q
def SS(w:X.calm=c_)(h:WN X es t)
  (p:Q! ((rQ es X.bi).length=n) Q2!)(f:Q! ((rQ es X.bi).findIdx? (·.1)=d_) Q2!):PG X (.Tuple es k pos) (h8 X.K n t):=by
 intro c s Z H v u Q I r d;obtain⟨a,xs,x,m,q,d⟩:=d;subst x;cases r;obtain⟨i,g,l,y⟩:=I.tuple m;exact assign_Tuple_tuple (I.ok.hd w) l (by simp[p,<-q,g.length]) f λz j=>(h c _ Z H xs _ Q (I.h7 λb o e=>j b o (jJ (jA e)) e) (by simpa using g) d)
def Ws(a:TE)(g:TG):TS:=λD Z H=>a Z H λx b=>g x Z b D.nx
def SK(o:X.N.Nodup)(l:X.N[i]?=a_ x)(g:Xa X.bi.scope x)(n:PE X e c)(j:Q! (rF e (a_ (.Name x a)) pos.line X.bi=Q_ e_) Q2!)(m:Q! (X.fn x=c_\/X.bi.scope.names.lookup x=a_ .local) Q0!):
  PS X (.Assign [.Name x a] e pos) (Ws c (vp i)):=by
 intro b s Z H D I h;exact wpAny_Assign_Name (jf (n b s Z H _ I h) λv w ⟨y,r,q,d,f⟩=>(M8 q o l g d (λu p=>⟨_,r,p,f⟩) m)) j
end
section
variable{X:Cx}{pos:h!}
inductive tWhile(c:TT)(tb:TS)(D:qt)(Z:St)(H:Hp):Prop
 |mk (W:g_->St->Hp->Prop) (_:(∃m,W m Z H)) (_:∀m Z H,W m Z H->c Z H λb H1=>if b=c_ then∃N:St->Hp->Prop,(∀σ' H',N σ' H'->∃m',m'<m/\W m' σ' H')/\tb {D with nx:=N,ct:=N,bk:=D.nx} Z H1 else D.nx Z H1):tWhile c tb D Z H
def BG(y:vN (jG X.prog X.w) X.A X.bi X.xe)(Y:PT X c M)(hb:PSs X j tb):PS X (.While c j [] pos) (tWhile M tb):=by
 intro d s Z H D I h;obtain⟨W,⟨U,L⟩,i⟩:=h;refine wpAny_While (codeAny_whileLoop (λn T=>∃g G,c5 X d g G T/\W n g G) ?_ U ⟨Z,H,I,L⟩)
 rintro n Q ⟨e,E,I1,J⟩
 refine pX y (jf (Y d Q e E _ I1 (i n e E J)) λb O ⟨C,B,o⟩=>?_);cases b with
 |true=>
  obtain⟨N,z,o⟩:=o;refine pX y (jf (hb d O e C _ B o) λf s3 m=>?_);cases f with
  |next=>obtain⟨a,l,x,q⟩:=m;obtain⟨r,u,p⟩:=z a l q;exact⟨r,u,a,l,x,p⟩
  |cont=>obtain⟨a,l,x,q⟩:=m;obtain⟨r,u,p⟩:=z a l q;exact⟨r,u,a,l,x,p⟩
  |brk=>exact m
  |ret v=>exact m
 |false=>exact uX ⟨e,C,B,o⟩
end
structure It where
 go:g_->Hp->Prop
 yld:g_->Hp->V->Hp->Prop
 stop:g_->Hp->Prop
inductive pk(X:Cx)(c7:b_ (o_×_d))(H:Hp)(b:o_):Prop
 |mk (_:H b=d_) (_:b≠X.bi.locals) (_:b∉X.fs) (_:(b∈X.ex\/X.im.1.1.size<=b)) (_:(∀x c,X.bi.cells.lookup x=a_ c->c≠b)) (_:∀p∈X.pn++c7,p.1≠b):pk X c7 H b
def c5.p9(I:c5 X a Z H s)(d:s.1.1.size<=b)(g:h b=d_):pk X a h b:=by
 refine⟨g,nH (jR I.lt d),I.nofs d,.inr (kC I.sz d),λx c e z=>?_,λp f z=>?_⟩
 .obtain⟨v,q⟩:=I.cell x c e;exact t_ (jR q.lt (by rwa[z])) (kU _)
 .exact t_ (jR (jA (I.pin p f).1) (by rwa[z])) (kU _)
structure qh(P:kR)(w:mG)(K:iL)(tg:Expr)(J:It)(fp:b_ o_)(it:o_)(tn:g_->C_->Prop):Prop where
 mem:it∈fp
 obj:∀i h,tn i h->∀b∈fp,∃o,h.get? b=a_ o/\∀v,o.data≠.cell v
 keep:∀i h h',tn i h->(∀b∈fp,∀o,h.get? b=a_ o->h'.get? b=a_ o)->tn i h'
 item:∀(X:Cx),X.prog=P->X.w=w->X.K=K->X.calm=c_->∀(i:g_)(c7:b_ (o_×_d))(s:jP)(Z:St)(H:Hp)(E:jB->jP->Prop),c5 X c7 Z H s->(∀b∈fp,pk X c7 H b)->tn i s.1->J.go i H->
  jK (jG P w) X.A (vR (.ref it)) (λr s1=>∃u,r=a_ u/\
   jK (jG P w) X.A (xQ tg (.ref it) u) (λ_ s2=>∃x H',c5 X c7 Z H' s2/\ez x u/\J.yld i H x H'/\tn (i+1) s2.1/\∀b∈fp,H' b=d_) E s1) E s
 done:∀(X:Cx),X.prog=P->X.w=w->X.K=K->X.calm=c_->∀(i:g_)(c7:b_ (o_×_d))(s:jP)(Z:St)(H:Hp)(E:jB->jP->Prop),c5 X c7 Z H s->(∀b∈fp,pk X c7 H b)->tn i s.1->J.stop i H->
  jK (jG P w) X.A (vR (.ref it)) (λr s1=>r=d_/\c5 X c7 Z H s1) E s
 self:∀(A:oN)(i:g_)(s:jP)(Q:jB->jP->Prop)(E:jB->jP->Prop),tn i s.1->Q (.ref it) s->jK (jG P w) A (xZ (.ref it)) Q E s
abbrev TI:=St->Hp->(It->Hp->Prop)->Prop
inductive PIE(X:Cx)(c7:b_ (o_×_d))(Z:St)(tg:Expr)(R:It->Hp->Prop)(itv:jB)(s2:jP):Prop
 |mk (it:o_) (fp:b_ o_) (tn:g_->C_->Prop) (J:It) (H':Hp) (_:itv=.ref it) (_:c5 X c7 Z H' s2) (_:qh X.prog X.w X.K tg J fp it tn) (_:tn 0 s2.1) (_:(∀b∈fp,pk X c7 H' b)) (_:R J H'):PIE X c7 Z tg R itv s2
def PI(X:Cx)(tg iter:Expr)(b:TI):Prop:=
 ∀(a:b_ (o_×_d))(s:jP)(Z:St)(H:Hp)(R:It->Hp->Prop),c5 X a Z H s->b Z H R->
  jK (jG X.prog X.w) X.A (I_ iter X.bi) (λv c=>jK (jG X.prog X.w) X.A (xZ v) (PIE X a Z tg R) X.xe c) X.xe s
def Gq(b:s.1.get? it=a_ o)(e:o.cls=.type n)(d:o.data=.fields f)
  (c:["enumerate","zip","dict_itemiterator","dict_reverseitemiterator","odict_iterator","itertools.zip_longest","itertools.pairwise"].contains n=e_)(a:Q () s):jK M A (xQ tg (.ref it) u) Q E s:=by
 cases tg<;>first
  |exact iB a
  | (cases u <;> first
    |exact iB a
    | (refine iA (wpAny_load b ?_)
       rw[e,d];show jK M A (if _=c_ then _ else _) Q E s;rw[iG (by intro h;rw[c,Bool.false_and]at h;cases h)];exact iB a))
def aJ(K:iL)(a:o_):It:=
 ⟨λi H=>∃xs x,gL K H a xs/\xs[i]?=a_ x,λi H x b=>b=H/\∀xs,gL K H a xs->xs[i]?=a_ x,λi H=>∃xs,gL K H a xs/\_7 xs<=i⟩
def aG(K:iL)(a:o_):It:=
 ⟨λi H=>∃xs x,ng K H a xs/\xs[i]?=a_ x,λi H x b=>b=H/\∀xs,ng K H a xs->xs[i]?=a_ x,λi H=>∃xs,ng K H a xs/\_7 xs<=i⟩
def aI(lo:j_)(n:g_):It:=⟨λi z=>i<n,λi H x a=>a=H/\x=.int (lo+i),λi z=>n<=i⟩
def Ho{P:kR}{w:mG}{K:iL}{tg:Expr}(a it:o_):qh P w K tg (aJ K a) [it] it (λi h=>h.IsListIter it a i) where
 mem:=by simp
 obj:=λi h st b f=>by
  have e:b=it:=by simpa using f
  subst e;obtain⟨o,e,c,d⟩:=st;exact⟨o,e,λv z=>by rw[d]at z;cases z⟩
 keep:=λi h Q st k=>st.at λo e=>k it (by simp) o e
 item:=by intro X A r B O i j s Z H E I m st y;subst A r B;obtain⟨xs,x,l,N⟩:=y;obtain⟨q,n,p,Y⟩:=I.list l;obtain⟨u,hu,U⟩:=n.get N;obtain⟨M,L,f2,J,G,C⟩:=m it (by simp);refine wpAny_pyNext_list_item st p.isList (by simpa using hu) λQ g T=>?_;obtain⟨o,e,c,d⟩:=id g;exact⟨u,_6,Gq e c d (by decide) ⟨x,H,(I.hZ (λb o f e=>(T.2 b f).trans e) M L J G C),U,⟨_6,λys hy=>by rwa[I.rm hy l]⟩,g,λb f=>(m b f).1⟩⟩
 done:=by intro X A r B O i j s Z H E I m st y;subst A r B;obtain⟨xs,l,N⟩:=y;obtain⟨q,n,p,Y⟩:=I.list l;obtain⟨M,L,f2,J,G,C⟩:=m it (by simp);have hl:=n.length;exact wpAny_pyNext_list_end (I.ok.hd O) st p.isList (by simp;lia) λQ eb=>⟨_6,I.hZ (λb o f e=>eb b o f e) M L J G C⟩
 self:=λW W W W W st h=>wpAny_pyIter_listiter st h
def Fn{P:kR}{w:mG}{K:iL}{tg:Expr}(a it:o_):qh P w K tg (aG K a) [it] it (λi h=>h.IsTupleIter it a i) where
 mem:=by simp
 obj:=λi h st b f=>by
  have e:b=it:=by simpa using f
  subst e;obtain⟨o,e,c,d⟩:=st;exact⟨o,e,λv z=>by rw[d]at z;cases z⟩
 keep:=λi h Q st k=>st.at λo e=>k it (by simp) o e
 item:=by intro X A r B O i j s Z H E I m st y;subst A r B;obtain⟨xs,x,l,N⟩:=y;obtain⟨q,n,p,Y⟩:=I.tuple l;obtain⟨u,hu,U⟩:=n.get N;obtain⟨M,L,f2,J,G,C⟩:=m it (by simp);refine wpAny_pyNext_tuple_item st (p) (x:=u) (by simpa using hu) λQ g T=>?_;obtain⟨o,e,c,d⟩:=id g;exact⟨u,_6,Gq e c d (by decide) ⟨x,H,(I.hZ (λb o f e=>(T.2 b f).trans e) M L J G C),U,⟨_6,λys hy=>by rwa[I.tuple_inj hy l]⟩,g,λb f=>(m b f).1⟩⟩
 done:=by intro X A r B O i j s Z H E I m st y;subst A r B;obtain⟨xs,l,N⟩:=y;obtain⟨q,n,p,Y⟩:=I.tuple l;obtain⟨M,L,f2,J,G,C⟩:=m it (by simp);have hl:=n.length;exact wpAny_pyNext_tuple_end (I.ok.hd O) st (p) (by simp;lia) λQ eb=>⟨_6,I.hZ (λb o f e=>eb b o f e) M L J G C⟩
 self:=λW W W W W st h=>wpAny_pyIter_tupleiter st h
def Qv{P:kR}{w:mG}{K:iL}{tg:Expr}(it:o_)(lo:j_)(n:g_):qh P w K tg (aI lo n) [it] it (λi h=>IsRangeIter h it (lo+(i:g_)*1) ((n:j_)-(i:g_)) 1) where
 mem:=by simp
 obj:=λi h st b a=>by
  have e:b=it:=by simpa using a
  subst e;exact⟨_,st,λv z=>by
   cases z⟩
 keep:=λi h A st k=>k it (by simp) _ st
 item:=by intro X x u y j i d s Z H E I f st g;subst x u y;obtain⟨r,q,G,p,m,l⟩:=f it (by simp);refine(Walks.range (w:=X.w) (I.ok.hd j) it lo 1 n).item i s _ _ g st λv A L C c B=>?_;obtain⟨t,rfl⟩:=C;refine⟨_,_6,Gq c _6 _6 (by decide) ⟨.int _,H,(I.hZ (λb o a e=>B b o (by simpa using a) e) r q p m l),⟨t,?_⟩,⟨_6,_6⟩,c,λb a=>(f b a).1⟩⟩;rw[Int.mul_one]
 done:=by intro X x u y j i d s Z H E I f st g;obtain⟨r,q,G,p,m,l⟩:=f it (by simp);exact wpAny_pyNext_range_end (I.ok.hd j) st (by have:n<=i:=g;lia) λA J=>⟨_6,I.hZ (λb o a e=>J b o a e) r q p m l⟩
 self:=λY Y Y Y Y st h=>wpAny_pyIter_rangeiter st h
section
variable{X:Cx}{tg:Expr}
def CL{lo:j_}(I:c5 X c Z H s)(l:-(2^62)<=lo)(j:lo<2^62)(i:-(2^62)<=a)(h:a<2^62)
  (q:R (aI lo (a-lo).toNat) H):jK (jG X.prog X.w) X.A (xZ (.ref s.1.1.size)) (PIE X c Z tg R) E {s with heap:=s.1.push {cls:=.type "range",data:=.fields #[.int lo t,.int a u,.int 1 v]},toks:=f}:=by
 refine wpAny_pyIter_range (IsRange.new ..) (small_one l j i h) ?_;have d:c5 X c Z H {s with heap:=s.1.push {cls:=.type "range",data:=.fields #[.int lo t,.int a u,.int 1 v]},toks:=f}:=I.h7 λb o e=>iE _ e;refine⟨(s.1.push {cls:=.type "range",data:=.fields #[.int lo t,.int a u,.int 1 v]}).objs.size,_,_,_,H,_6,
  d.h7 λb o e=>iE _ e,Qv _ lo (a-lo).toNat,?_,λb g=>?_,q⟩
 .have n:lo+((0:g_):j_)*1=lo:=by simp
  have m:(((a-lo).toNat:g_):j_)-((0:g_):j_)=Builtin.Range.rangeSize lo a 1:=by rw[rangeSize_one];split<;>lia
  rw[n,m];exact iS _ _6
 .have e:b=(s.1.push {cls:=.type "range",data:=.fields #[.int lo t,.int a u,.int 1 v]}).objs.size:=by simpa using g
  subst e;exact d.p9 (iF _) (d.fg.fresh (iF _))
def XY(ta:TA):TI:=λZ H R=>ta Z H λa b=>∃j:j_,a=[.int j]/\-(2^62)<=j/\j<2^62/\R (aI 0 j.toNat) b
def V9(n:Gl X "range")(m:X.mg "range"=d_)(o:PA X [a] ta)(l:Q! (jI [a] X.bi=[(e_,I_ a X.bi)]) Q2!):PI X tg (.Call (.Name "range" p) [a] [] d) (XY ta):=by
 intro b s Z H R I h;refine Call_ (Ba I n m boot_range (rJ (jf (o d b s Z H _ I h) λw x ⟨v,y,u,g,c⟩=>?_) l _6));obtain⟨j,e,c,i,q⟩:=c;subst e;cases g with
 |cons r f=>cases f;obtain⟨t,rfl⟩:=r;exact call_range_1 (CL u (by lia) (by lia) c i (by simpa using q))
def eK(e:TI)(g:TG)(tb:TS):TS:=λD Z H=>e Z H λJ h=>∃W:g_->g_->St->Hp->Prop,(∃m,W 0 m Z h)/\∀i m Z H,W i m Z H->
 (J.stop i H/\D.nx Z H)\/(J.go i H/\∃N:St->Hp->Prop,(∀a b,N a b->∃d,d<m/\W (i+1) d a b)/\∀x b,J.yld i H x b->g x Z b λc f=>tb {D with nx:=N,ct:=N,bk:=D.nx} c f)
def Ex(a:b_ o_)(h:C_):b_ (o_×_d):=a.filterMap λb=>(h.get? b).map λo=>(b,o)
def y8(a:b∈c)(e:h.get? b=a_ o):(b,o)∈Ex c h:=U_.mpr ⟨b,a,by rw[e];rfl⟩
def Vy(a:p∈Ex d h):p.1∈d/\h.get? p.1=a_ p.2:=by
 obtain⟨b,c,e⟩:=U_.mp a;cases q:h.get? b with
 |none=>rw[q]at e;cases e
 |some o=>rw[q]at e;have f:=jM e;subst f;exact⟨c,q⟩
def c5.pinned(I:c5 X a Z H s)(j:∀b∈f,pk X a H b)(i:∀b∈f,∃o,s.1.get? b=a_ o/\∀v,o.data≠.cell v):c5 X (a++Ex f s.1) Z H s:=
 I.pins_of λp h=>(s_.mp h).elim (λz=>I.pin p (kS _ z)) λz=>by obtain⟨c,e⟩:=Vy z;obtain⟨n,m,l,_⟩:=j p.1 c;obtain⟨o,g,d⟩:=i p.1 c;rw[e]at g;cases g;exact⟨e,n,m,l,d⟩
def c5.o0(I:c5 X (a++c) Z H s):c5 X a Z H s:=I.pins_of λp b=>I.pin p (kS _ (kE _ b))
def Px(U:vN (jG X.prog X.w) X.A X.bi X.xe)(hc:X.calm=c_)(hi:PI X tg iter wi)(hg:PG X tg g)(q:PSs X α tb)
  (hs:Q! (∀x,oS iter X.bi x=Q_ x) Q3!):PS X (.For tg iter α [] pos) (eK wi g tb):=by
 intro c s Z H D I h;refine wpAny_For (jf (hi c s Z H _ I h) λv s1 h1=>jf h1 λitv s2 h2=>?_) hs;obtain⟨it,fp,tn,J,H2,e,I2,T,ε,f2,W,⟨m0,w0⟩,L⟩:=h2;subst e;have p:∀{C},(∀b∈fp,C b=d_)->∀b∈fp,pk X c C b:=λhn b q=>have z:=f2 b q;⟨hn b q,z.2,z.3,z.4,z.5,z.6⟩;refine codeAny_forLoop_any (λn s'=>∃i l C,c5 X c l C s'/\tn i s'.1/\(∀b∈fp,C b=d_)/\W i n l C) ?_ m0 ⟨0,Z,H2,I2,ε,λb q=>(f2 b q).1,w0⟩
 rintro n s3 ⟨i,j,H3,I3,O,Y,w3⟩
 rcases L i n j H3 w3 with⟨M,qn⟩|⟨go,N,hN,step⟩
 .refine pX U (jf (T.done X _6 _6 _6 hc i c s3 j H3 X.xe I3 (p Y) O M) λr s4 ⟨hr,I4⟩=>?_);subst hr;exact uX ⟨j,H3,I4,qn⟩
 .refine pX U (jf (T.item X _6 _6 _6 hc i c s3 j H3 X.xe I3 (p Y) O go) λr s4 ⟨u,hr,h4⟩=>?_);subst hr;refine pX U (jf h4 λk s5 ⟨x,H5,I5,r5,y5,G,θ⟩=>(pX U (jf (hg _ s5 j H5 x u _ (I5.pinned (p θ) (T.obj _ _ G)) r5 (step x H5 y5)) λk s6 ⟨δ,H6,I6,q6⟩=>(pX U (jf (q _ s6 δ H6 _ I6 q6) λf s7 E=>?_)))));have again:∀{a}{B},c5 X _ a B s7->N a B->∃m,m<n/\∃i l C,c5 X c l C s7/\tn i s7.1/\(∀b∈fp,C b=d_)/\W i m l C:=λ{a B} y Q=>by obtain⟨m',hm,w7⟩:=hN a B Q;refine⟨m',hm,i+1,a,B,y.o0,T.keep _ _ _ G λb q o e=>(y.pin _ (kS _ (kS _ (y8 q e)))).1,λb q=>?_,w7⟩;obtain⟨o,e,d⟩:=T.obj _ _ G b q;exact(y.pin _ (kS _ (kS _ (y8 q e)))).2.1
  cases f with
  |next=>obtain⟨a,B,y,Q⟩:=E;exact again y Q
  |cont=>obtain⟨a,B,y,Q⟩:=E;exact again y Q
  |brk=>obtain⟨a,B,y,E⟩:=E;exact⟨a,B,y.o0,E⟩
  |ret v=>obtain⟨x7,a,B,y,r7,E⟩:=E;exact⟨x7,a,B,y.o0,r7,E⟩
end
abbrev R2:=V->V->Hp->VK->Prop
def lz(X:Cx)(f:jB->jB->Sem jB)(r:R2):Prop:=
 ∀(a:b_ (o_×_d))(s:jP)(Z:St)(H:Hp)(x y:V)(v u:jB)(Q:VK),c5 X a Z H s->ez x v->ez y u->r x y H Q->
  jK (jG X.prog X.w) X.A (f v u) (EP X a Z Q) X.xe s
def ie(X:Cx)(f:jB)(r:b_ V->Hp->VK->Prop):Prop:=
 ∀(a:b_ (o_×_d))(s:jP)(Z:St)(H:Hp)(xs:b_ V)(b:b_ jB)(Q:VK),c5 X a Z H s->dL xs b->r xs H Q->
  jK (jG X.prog X.w) X.A (call f b) (EP X a Z Q) X.xe s
def dQ(X:Cx)(r:V->Hp->(r_->Hp->Prop)->Prop):Prop:=
 ∀(a:b_ (o_×_d))(s:jP)(Z:St)(H:Hp)(x:V)(v:jB)(Q:r_->Hp->Prop),c5 X a Z H s->ez x v->r x H Q->
  jK (jG X.prog X.w) X.A (truthy v) (TP X a Z Q) X.xe s
def ZH(r:R2)(ta tb:TE):TE:=λZ H Q=>ta Z H λx b=>tb Z b λy a=>r x y a Q
inductive rI(C:j_->j_->Prop)(g:j_->j_->V)(x:V)(y:V)(H:Hp)(Q:VK):Prop
 |mk (i j) (_:x=.int i) (_:y=.int j) (_:C i j) (_:Q (g i j) H):rI C g x y H Q
inductive rI0(g:j_->j_->V)(x:V)(y:V)(H:Hp)(Q:VK):Prop
 |mk (i j) (_:x=.int i) (_:y=.int j) (_:Q (g i j) H):rI0 g x y H Q
section
variable{X:Cx}{a b c:Expr}{ta tb tc:TE}{pos:h!}
def OI(B:PE X a ta)(z:PE X b tb){R:V->V->Hp->Prop}(I:c5 X d Z H s)
  (h:ta Z H λx l=>tb Z l λy e=>R x y e){f:jB->jB->Sem jB}
  (r:∀v u j x y e,c5 X d Z e j->ez x v->ez y u->R x y e->jK (jG X.prog X.w) X.A (f v u) Q X.xe j):
  jK (jG X.prog X.w) X.A (I_ a X.bi) (λv i=>jK (jG X.prog X.w) X.A (I_ b X.bi) (λu g=>jK (jG X.prog X.w) X.A (f v u) Q X.xe g) X.xe i) X.xe s:=by
 exact jf (B d s Z H _ I h) λv m ⟨x,l,E,o,q⟩=>(jf (z d m Z l _ E q) λu j ⟨y,e,C,n,p⟩=>(r v u j x y e C o n p))
def NP(j:lz X (qO i) r)(m:PE X a ta)(l:PE X b tb):PE X (.BinOp a i b pos) (ZH r ta tb):=by intro d s Z H Q I h;exact wpAny_BinOp (OI m l I h λv u e x y o n g f q=>j d e Z o x y v u Q n g f q)
def fJ{g:j_->j_->j_}
  (rule:∀i j t u s Q E,C i j->Q (.int (g i j) s.toks) {s with toks:=s.toks+1}->jK (jG X.prog X.w) X.A (f (.int i t) (.int j u)) Q E s):
  lz X f (rI C λi j=>.int (g i j)):=by
 intro d s Z H x y v u Q I m l h;obtain⟨i,j,rfl,rfl,n,q⟩:=h;obtain⟨t,rfl⟩:=m;obtain⟨e,rfl⟩:=l;exact rule i j t e s _ _ n ⟨.int _,H,I.qd _,⟨_,_6⟩,q⟩
def YW{g:j_->j_->j_}
  (rule:∀i j t u s Q E,Q (.int (g i j) s.toks) {s with toks:=s.toks+1}->jK (jG X.prog X.w) X.A (f (.int i t) (.int j u)) Q E s):
  lz X f (rI0 λi j=>.int (g i j)):=by
 intro d s Z H x y v u Q I m l h;obtain⟨i,j,rfl,rfl,q⟩:=h;obtain⟨t,rfl⟩:=m;obtain⟨e,rfl⟩:=l;exact rule i j t e s _ _ ⟨.int _,H,I.qd _,⟨_,_6⟩,q⟩
def RP{g:j_->j_->r_}
  (rule:∀i j t u s Q E,Q (.bool (g i j)) s->jK (jG X.prog X.w) X.A (f (.int i t) (.int j u)) Q E s):
  lz X f (rI0 λi j=>.bl (g i j)):=by
 intro d s Z H x y v u Q I m l h;obtain⟨i,j,rfl,rfl,q⟩:=h;obtain⟨t,rfl⟩:=m;obtain⟨e,rfl⟩:=l;exact rule i j t e s _ _ ⟨.bl _,H,I,_6,q⟩
def CMul(i j:j_):Prop:=(-(2^64)<i/\i<2^64)\/(-(2^64)<j/\j<2^64)
def CMul.ok(h:CMul i j):IntMulOk i j:=by
 obtain ⟨e,d⟩|⟨e,d⟩:=h
 .exact .of_left (intBits_le_64 e d)
 .exact .of_right (intBits_le_64 e d)
def RN:lz X (qO .Add) (rI0 λi j=>.int (i+j)):=YW λz z z z z z z q=>add_int q
def RE:lz X (qO .Sub) (rI0 λi j=>.int (i-j)):=YW λz z z z z z z q=>sub_int q
def RH:lz X (qO .Mult) (rI CMul λi j=>.int (i*j)):=fJ λz z z z z z z d q=>mul_int q d.ok
def RJ:lz X (qO .Mod) (rI (λz j=>0<j) λi j=>.int (i%j)):=fJ λi j z z z z z d q=>by exact mod_int' (by lia) (by rwa[Int.fmod_eq_emod_of_nonneg i (by lia)])
end
section
variable{X:Cx}{a b c:Expr}{ta tb tc:TE}{pos:h!}
def Oa(I:c5 X d Z H s)(q:Q (.bl k) H)(e:k=f):EP X d Z Q (.bool f) s:=by subst e;exact⟨.bl k,H,I,_6,q⟩
def YT:lz X (lS .Lt) (rI0 λi j=>.bl (decide (i<j))):=RP λz z z z z z z q=>lt_int q
def YU:lz X (lS .LtE) (rI0 λi j=>.bl (decide (i<=j))):=RP λz z z z z z z q=>le_int q
def YV:lz X (lS .Gt) (rI0 λi j=>.bl (decide (j<i))):=RP λz z z z z z z q=>gt_int q
def V3:lz X (lS .In) (λx y H Q=>∃i j,x=.str i/\y=.str j/\Q (.bl (!(sU j i 0 j.length 1).isEmpty)) H):=by intro d s Z H x y v u Q I f e h;obtain⟨i,j,rfl,rfl,q⟩:=h;obtain⟨t,rfl⟩:=f;obtain⟨g,rfl⟩:=e;exact in_str (Oa I q _6)
def JP:lz X (lS .IsNot) (λx y H Q=>y=.fD/\Q (.bl (!decide (x=.fD))) H):=by
 intro e s Z H x y v u Q I d f h;obtain⟨rfl,q⟩:=h;cases f;refine isnot_none_gen (Oa I q ?_);cases x<;>first
  |(cases d;rfl)
  |(obtain⟨t,rfl⟩:=d;rfl)
def Jl:lz X (lS .NotIn) (λx y H Q=>∃i j,x=.str i/\y=.str j/\Q (.bl (!(!(sU j i 0 j.length 1).isEmpty))) H):=by intro d s Z H x y v u Q I f e h;obtain⟨i,j,rfl,rfl,q⟩:=h;obtain⟨t,rfl⟩:=f;obtain⟨g,rfl⟩:=e;exact notIn_str (Oa I q _6)
def lz.or(h:lz X f r)(j:lz X f i):lz X f (λx y H Q=>r x y H Q\/i x y H Q):=by
 intro d s Z H x y v u Q I g e q;obtain q|q:=q
 .exact h d s Z H x y v u Q I g e q
 .exact j d s Z H x y v u Q I g e q
def JH(j:lz X (lS e) r)(n:PE X a ta)(m:PE X b tb)(l:uO e b=e_):PE X (.Compare a [e] [b] pos) (ZH r ta tb):=by intro d s Z H Q I h;exact wpAny_Compare1 (OI n m I h λv u f x y p o i g q=>j d f Z p x y v u Q o i g q) l
def ND(t:TE):TT:=λZ H Q=>t Z H λx d=>∃k,x=.bl k/\Q k d
def KN(q:lz X (lS f) r)(B:PE X a ta)(A:PE X b tb)(w:uO f b=e_):PT X (.Compare a [f] [b] pos) (ND (ZH r ta tb)):=by
 intro d s Z H Q I h;refine wpAny_isTrue_Compare1 (jf (B d s Z H _ I h) λv i ⟨x,M,G,m,p⟩=>jf (A d i Z M _ G p) λu g ⟨y,L,E,l,o⟩=>
  jf (q d g Z L x y v u _ E m l o) λc N ⟨z,J,C,j,k,e,n⟩=>?_) w
 subst e;cases j;exact lZ ⟨J,C,n⟩
def Qk(r f:R2)(ta tb tc:TE):TE:=λZ H Q=>ta Z H λx i=>tb Z i λy h=>r x y h λz d=>∃k,z=.bl k/\
 (if k=c_ then tc Z d λe g=>f y e g Q else Q (.bl e_) d)
def AA(T:lz X (lS m) r)(i:lz X (lS g) L)(ha:PE X a ta)(hb:PE X b tb)(Y:PE X c tc)
  (U:Q! (yH [m,g] [b,c]=e_) Q4!):PE X (.Compare a [m,g] [b,c] pos) (Qk r L ta tb tc):=by
 intro f s Z H Q I h;refine Compare_chain (jf (ha f s Z H _ I h) λv C ⟨x,H1,I1,J,O⟩=>chain_link (jf (hb f C Z H1 _ I1 O) λu B ⟨y,H2,I2,j,N⟩=>
  jf (T f B Z H2 x y v u _ I2 J j N) λd A ⟨z,o,n,G,k,e,l⟩=>?_)) U
 subst e;cases G;refine lZ ?_;cases k with
 |false=>exact ite_ff ⟨.bl e_,o,n,_6,l⟩
 |true=>exact ite_tt (chain_last (jf (Y f A Z o _ n l) (by rintro q w ⟨p,H4,I4,E,M⟩;exact i f w Z H4 y p u q Q I4 j E M)))
def BF(ho:lz X (lS m) r)(i:lz X (lS g) M)(ha:PE X a ta)(hb:PE X b tb)(hc:PE X c tc)
  (hm:Q! (yH [m,g] [b,c]=e_) Q4!):PT X (.Compare a [m,g] [b,c] pos) (ND (Qk r M ta tb tc)):=by
 intro f s Z H Q I h;refine isTrue_chain (jf (ha f s Z H _ I h) λv C ⟨x,H1,I1,L,U⟩=>test_link (jf (hb f C Z H1 _ I1 U) λu B ⟨y,H2,I2,j,T⟩=>
  jf (ho f B Z H2 x y v u _ I2 L j T) λd A ⟨z,o,n,J,k,e,l⟩=>?_)) hm
 subst e;cases J;refine lZ ?_;cases k with
 |false=>obtain⟨k',e',Y⟩:=l;cases e';exact ite_ff ⟨o,n,Y⟩
 |true=>refine ite_tt (test_last (jf (hc f A Z o _ n l) λq w ⟨p,H4,I4,G,O⟩=>jf (i f w Z H4 y p u q _ I4 j G O) λd' s5 ⟨z2,H5,I5,E,k2,e2,N⟩=>?_));subst e2;cases E;exact lZ ⟨H5,I5,N⟩
def OS(K:iL)(x:V)(H:Hp)(k:r_):Prop:=
 match x with
 |.fD=>k=e_
 |.bl b=>k=b
 |.int i=>k=(i !=0)
 |.str y=>y.length<=iN/\k=((y.length:j_) !=0)
 |.byt y=>y.size<=iN/\k=((y.size:j_) !=0)
 |.ref p=>(∃xs,gL K H p xs/\k= !xs.isEmpty)\/(∃xs,ng K H p xs/\k= !xs.isEmpty)\/∃d,H p=a_ (.dK d)/\k= !d.isEmpty
 |_=>T_
def Oo(r:KV d e):(!e.isEmpty)= !d.isEmpty:=by cases r<;>rfl
def D7(r:dL xs d):(!d.toArray.isEmpty)= !xs.isEmpty:=by cases r<;>simp
def O6:(iN:g_)<2^63:=by decide
def VO:dQ X (λx H Q=>∃k,OS X.K x H k/\Q k H):=by
 intro w s Z H x v Q I g h;obtain⟨k,e,q⟩:=h;have C:=kP;cases x with
 |fD=>cases g;have d:=e;subst d;exact truthy_none ⟨H,I,q⟩
 |bl b=>cases g;have d:=e;subst d;exact lZ ⟨H,I,q⟩
 |int i=>obtain⟨t,rfl⟩:=g;have d:=e;subst d;exact PySem.P.truthy_int ⟨H,I,q⟩
 |str y=>obtain⟨t,rfl⟩:=g;obtain⟨A,d⟩:y.length<=iN/\k=_:=e;subst d;exact PySem.P.truthy_str (by lia) ⟨H,I.qd _,q⟩
 |byt y=>obtain⟨t,rfl⟩:=g;obtain⟨A,d⟩:y.size<=iN/\k=_:=e;subst d;exact PySem.W.truthy_bytes (by lia) ⟨H,I.qd _,q⟩
 |ref p=>
  cases g;have d:=e;obtain ⟨xs,l,d⟩|⟨xs,l,d⟩|⟨j,l,d⟩:=d
  .subst d;obtain⟨u,r,o,z⟩:=I.list l;have f:=r.length;exact wpAny_truthy_list o.isList (by simp only[jS];lia) ⟨H,I.qd _,by rwa[D7 r]⟩
  .subst d;obtain⟨u,r,o,z⟩:=I.tuple l;have f:=r.length;exact truthy_tuple o (by simp only[jS];lia) ⟨H,I.qd _,by rwa[D7 r]⟩
  .subst d;obtain⟨z,B,n,r,m⟩:j.length<=iN/\_=e_/\∃n,KV j n/\s.1.DictOf _ p n:=I.fg p _ l;have f:=sH r;exact wpAny_truthy_dict B m (by lia) ⟨H,I.qd _,by rwa[Oo r]⟩
 |_=>exact(e).elim
def BD(m:PE X a ta)(l:∀d,isTrue a X.bi d=(do let v <-d;standAt a.pos;holding [v] (truthy v))):
  PT X a (λZ H Q=>ta Z H λx f=>∃k,OS X.K x f k/\Q k f):=by
 intro e s Z H Q I h;exact isTrue_plain (jf (m e s Z H _ I h) (by rintro v g ⟨x,o,n,i,j⟩;exact VO e g Z o x v Q n i j)) (l _)
def Pj:lz X (qO .Add) (λx y H Q=>∃i j,x=.str i/\y=.str j/\i.length+j.length<=iN/\Q (.str (i++j)) H):=by intro d s Z H x y v u Q I g f h;obtain⟨i,j,rfl,rfl,l,q⟩:=h;obtain⟨t,rfl⟩:=g;obtain⟨e,rfl⟩:=f;exact add_str (λe m=>⟨.str _,H,I.qd _,⟨_,_6⟩,q⟩) l
def ny(r:dL [x] d):∃u,d=[u]/\ez x u:=by
 cases r with
 |cons f e=>cases e;exact⟨_,_6,f⟩
def FX(r:dL [x,y] e):∃u d,e=[u,d]/\ez x u/\ez y d:=by
 cases r with
 |cons i h=>
  cases h with
  |cons g f=>cases f;exact⟨_,_,_6,i,g⟩
def T4:ie X (.type "int") (λxs H Q=>(∃i,xs=[.int i]/\Q (.int i) H)\/∃k,xs=[.bl k]/\Q (.int (if k then 1 else 0)) H):=by
 intro d s Z H xs f Q I r h;obtain ⟨i,rfl,q⟩|⟨k,rfl,q⟩:=h
 .obtain⟨u,rfl,t,rfl⟩:=ny r;exact call_int_int ⟨.int i,H,I,⟨_,_6⟩,q⟩
 .obtain⟨u,rfl,e⟩:=ny r;cases e;exact call_int_bool ⟨.int _,H,I.qd _,⟨_,_6⟩,q⟩
def dU(K:iL)(x:V)(H:Hp)(n:g_):Prop:=
 match x with
 |.str y=>y.length<=iN/\n=y.length
 |.byt y=>y.size<=iN/\n=y.size
 |.ref p=>(∃xs,gL K H p xs/\n=xs.length)\/∃xs,ng K H p xs/\n=xs.length
 |_=>T_
def Xx:ie X (.builtin "len") (λxs H Q=>∃x n,xs=[x]/\dU X.K x H n/\Q (.int n) H):=by
 intro o s Z H xs z Q I r h;obtain⟨x,n,rfl,e,q⟩:=h;obtain⟨u,rfl,g⟩:=ny r;have A:=kP;cases x with
 |str y=>obtain⟨t,rfl⟩:=g;obtain⟨w,f⟩:y.length<=iN/\n=y.length:=e;subst f;exact len_str (by lia) ⟨.int _,H,I.qd _,⟨_,_6⟩,q⟩
 |byt y=>obtain⟨t,rfl⟩:=g;obtain⟨w,f⟩:y.size<=iN/\n=y.size:=e;subst f;exact PySem.W.len_bytes (by lia) ⟨.int _,H,I.qd _,⟨_,_6⟩,q⟩
 |ref p=>
  cases g;have f:=e;obtain ⟨xs,m,f⟩|⟨xs,m,f⟩:=f
  .subst f;obtain⟨l,i,j,v⟩:=I.list m;have d:=i.length;exact Calls.call_len_list j.isList (by simp only[jS];lia) ⟨.int xs.length,H,I.qd _,⟨_,by simp only[jS];rw[d]⟩,q⟩
  .subst f;obtain⟨l,i,j,v⟩:=I.tuple m;have d:=i.length;exact len_tuple j (by simp only[jS];lia) ⟨.int xs.length,H,I.qd _,⟨_,by simp only[jS];rw[d]⟩,q⟩
 |_=>exact(e).elim
end
structure ObjM(h:C_)(x dx C:o_)(mA:x_->f_ jB):Prop where
 obj:h.get? x=a_ (oW C dx)
 ns:h.Ns1 dx mA
 ne:dx≠x
set_option tactic.hygienic true in
def Vn{h:C_}(n:h.Ns1 p f):∃od,h.get? p=a_ od/\∀b,_v b od=a_ (f b):=by
 obtain⟨o,d,s,i,m,l,_,j⟩:=n;refine⟨o,i,λb=>?_⟩;have e:=j b;unfold nsFind findBy at e;rw[<-Array.find?_toList]at e;unfold _v;rw[m];dsimp only;split
 .rename_i y q;rw[q]at e;exact u_ a_ e
 .rename_i q;rw[q]at e;have a:d.toList.any (·.refKey)=e_:=by rw[Z_];intro y g;obtain⟨z,t,c⟩:=l y (Array.mem_toList_iff.mp g);simp[DictEntry.refKey,c]
  have r:¬d.toList.any (·.refKey)=c_:=by rw[a];exact D_
  rw[iG r];exact u_ a_ e
def ObjM.kH(I:ObjM h x e C b):∃od,PySem.W.InstAt h x (oW C e) C (a_ od)/\∀a,_v a od=a_ (b a):=
 let ⟨od,c,d⟩:=Vn I.ns
 ⟨od,⟨I.obj,_6,_6,c⟩,d⟩
section
variable{prog:kR}{w:mG}{A:oN}{E:jB->jP->Prop}{s:jP}{K:iL}{x dx C f:o_}{mA:x_->f_ jB}{name:x_}{v:jB}
def I9(X:K.In s.1)(I:ObjM s.1 x dx C mA)(g:uD K C name=c_)(e:tF K C=c_)
  (i:nV K (.ref C) name=a_ d_)(c:mA name=a_ v)(a:L? v=c_)(h:Q v {s with toks:=s.toks+1}):
  jK (jG prog w) A (getAttr (.ref x) name b) Q E s:=by
 obtain⟨od,J,d⟩:=I.kH;exact PySem.W.get_value X J (PySem.W.plainGet_of g).1 (PySem.W.findObj_own e i _6 (by rw[d,c])) a h
def LL(X:K.In s.1)(I:ObjM s.1 x dx C mA)
  (p:nV K (.ref C) "__setattr__"=a_ (a_ (.builtin "object.__setattr__")))(q:wB K C=c_)(n:xR K C name=a_ d_)(r:tF K C=c_)
  (m:g? mA l) (o:_7 l<=iN)
  (h:∀d,ObjM d x dx C (λy=>if y=name then a_ v else mA y)->kZ dx s.1 d->Q () {s with heap:=d,toks:=s.toks+2}):
  jK (jG prog w) A (setAttr (.ref x) name v) Q E s:=by
 obtain⟨od,J,H⟩:=I.kH;refine PySem.W.set_plain X J p (PySem.W.osa_open X J q n λb=>?_);obtain⟨L,u,i⟩:=PySem.W.any_some r;refine iA (iB (iA (iA (wpAny_loadPart I.obj (iA (PySem.W.Looks.here (PySem.W.looks_clsIn X u) ?_))))));rw[i];refine iB (iA (iB (iA (wpAny_nsSet1 I.ns λd c a=>?_))));obtain⟨G,z,B,e,g,j⟩:=c.count (PySem.Within.cons name v m);refine iA (wpAny_lookBehind e (by rw[g];exact pastItsLine_dict (kC j (by rw[iC];lia))) ?_);exact iB (h _ ⟨(a.2 _ (pE I.ne)).trans I.obj,c,I.ne⟩ a)
def Z4(X:K.In s.1)(c:xS K C=c_)
  (d:nV K (.ref C) "__init__"=a_ (a_ (.ref f)))(e:PySem.W.typeIn K (.ref f)=a_ (.type "function"))
  (h:pR (jG prog w) (A.under (.builtin "type.__call__" ⟨.ref C::a,b⟩)) (.call (.ref f) ⟨.ref (s.1.1.size+1)::a,b⟩) (PySem.W.InitBack (s.1.1.size+1) R)
   {s with heap:=(s.1.push nW).push (oW C s.1.1.size)}):
  pR (jG prog w) A (.call (.ref C) ⟨a,b⟩) R s:=PySem.W.make_core (PySem.W.makes_of X c) (PySem.W.looks_findIn X d) (λself=>PySem.W.bind_fn X self e) (.inl _6) h
end
noncomputable def xc(f:x_)(v:V):b_ (x_×V)->b_ (x_×V)
 |[]=>[(f,v)]
 |(g,x)::r=>if g=f then(g,v)::r else(g,x)::xc f v r
def Ls(f g:x_)(v:V):∀fs,(xc f v fs).lookup g=if g=f then a_ v else fs.lookup g:=by
 intro a;induction a with
 |nil=>
  show rR g [_]=_
  by_cases h:g=f
  .have b:=E_.mpr h;simp only[rR,b,iH h]
  .have b:=G_.mpr h;simp only[rR,b,iG h]
 |cons a r d=>
  obtain⟨k,x⟩:=a;rw[show xc f v _=(if k=f then _::r else _::xc f v r)from rfl]
  by_cases c:k=f
  .rw[iH c]
   by_cases h:g=k
   .have b:=E_.mpr h;simp only[rR,b,iH (h.trans c)]
   .have b:=G_.mpr h;simp only[rR,b,iG (λe:g=f=>h (e.trans c.symm))]
  .rw[iG c]
   by_cases h:g=k
   .simp only[rR,(E_.mpr h),iG (λe:g=f=>c (h.symm.trans e))]
   .simp only[rR,(G_.mpr h)];exact(d)
def Gw(f:x_)(v:V):∀fs,f∈(xc f v fs).map (·.1)/\∀g,g∈fs.map (·.1)->g∈(xc f v fs).map (·.1):=by
 intro a;induction a with
 |nil=>exact⟨by simp[xc],λg h=>by simp at h⟩
 |cons a r b=>
  obtain⟨k,x⟩:=a;obtain⟨i,d⟩:=b;rw[show xc f v _=(if k=f then _::r else _::xc f v r)from rfl]
  by_cases c:k=f
  .subst c;exact⟨by simp,λg h=>by simpa using h⟩
  .rw[iG c];refine⟨?_,λg h=>?_⟩
   .exact iI _ i
   .rcases l_.mp h with e|e
    .exact l_.mpr (.inl e)
    .exact iI _ (d g e)
def Lp(f:x_)(v:V):∀fs,(xc f v fs).length<=_7 fs+1:=by
 intro a;induction a with
 |nil=>simp[xc]
 |cons a r b=>
  obtain⟨k,x⟩:=a;have d:=b;rw[show xc f v _=(if k=f then _::r else _::xc f v r)from rfl]
  by_cases c:k=f
  .rw[iH c,iC,iC];lia
  .rw[iG c,iC,iC];lia
def pc.some_of(r:pc (a_ v) o):∃u,o=a_ u/\ez v u:=by
 cases o with
 |none=>exact(r).elim
 |some u=>exact⟨u,_6,r⟩
def Uw(r:ez v u):L? u=c_:=by
 cases v with
 |fD=>cases (r);rfl
 |bl b=>cases (r);rfl
 |int i=>obtain⟨t,e⟩:=r;cases e;rfl
 |str x=>obtain⟨t,e⟩:=r;cases e;rfl
 |byt b=>obtain⟨t,e⟩:=r;cases e;rfl
 |flt b=>obtain⟨t,e⟩:=r;cases e;rfl
 |ref a=>cases (r);rfl
 |ty n=>cases (r);rfl
section
variable{P:kR}{w:mG}{H H':Hp}{h h':C_}{a C dx:o_}{fs fs':b_ (x_×V)}
def Ry(c:l0 P w H h)(e:H a=a_ (.ins C dx fs)):∃b,ObjM h a dx C b/\(∀f,pc (fs.lookup f) (b f))/\g? b (fs.map (·.1))/\_7 fs<=1000/\H dx=a_ (.own a):=by obtain⟨d,z,ne,g,b,n,r,q⟩:=c a _ e;exact⟨b,⟨g,n,ne⟩,r,q,z,d⟩
end
structure Cls(K:iL)(C:o_):Prop where
 pg:uD K C Str.empty=c_
 hd:tF K C=c_
 po:wB K C=c_
 sa:nV K (.ref C) "__setattr__"=a_ (a_ (.builtin "object.__setattr__"))
def Cls.get{K:iL}(c:Cls K C)(f:x_):uD K C f=c_:=c.pg
def lL(K:iL)(C:o_)(f:x_):Prop:=nV K (.ref C) f=a_ d_
def lL.taker{K:iL}(n:lL K C f):xR K C f=a_ d_:=by unfold xR;rw[n];rfl
section
variable{X:Cx}{c7:b_ (o_×_d)}{Z:St}{H:Hp}{s:jP}{a C dx:o_}{fs:b_ (x_×V)}{f:x_}{v:V}{A:oN}{E:jB->jP->Prop}
def Oi(I:c5 X c7 Z H s)(e:H a=a_ (.ins C dx fs))(c:Cls X.K C)(n:lL X.K C f)(l:fs.lookup f=a_ v)
  (h:∀u d,c5 X c7 Z H d->ez v u->Q u d):jK (jG X.prog X.w) A (getAttr (.ref a) f b) Q E s:=by
 obtain⟨j,O,r,_,_,_⟩:=Ry I.fg e;obtain⟨u,i,g⟩:=pc.some_of (by rw[<-l];exact r f);exact I9 I.u6 O (c.get f) c.hd n i (Uw g) (h u _ (I.qd _) g)
def P5(I:c5 X c7 Z H s)(e:H a=a_ (.ins C dx fs))(c:Cls X.K C)(n:lL X.K C f)(T:_7 fs<1000)(N:ez y u)
  (h:∀j,c5 X c7 Z (eT H a (.ins C dx (xc f y fs))) j->Q () j):jK (jG X.prog X.w) A (setAttr (.ref a) f u) Q E s:=by
 obtain⟨m,O,r,i,_,x⟩:=Ry I.fg e;have p:(fs.map (·.1)).length<=iN:=by rw[iD,kP];lia
 refine LL I.u6 O c.sa c.po n.taker c.hd i p λL d l=>h _ ?_;have G:∃o,L.get? dx=a_ o:=let ⟨o,_,_,M,_⟩:=d.ns;⟨o,M⟩;refine I.qy (by rw[e];exact qG) (.inr x) (λb q J z=>(l.2 b J).trans z) G ?_;refine⟨by rwa[ai O.ne],?_,O.ne,d.obj,_,d.ns,λg=>?_,λg B=>?_⟩
 .have:=Lp f y fs;lia
 .rw[Ls]
  by_cases q:g=f
  .rwa[iH q,iH q]
  .rw[iG q,iG q];exact r g
 .by_cases q:g=f
  .rw[q];exact(Gw f y fs).1
  .refine(Gw f y fs).2 g (i g λz=>B ?_);show(if g=f then a_ u else m g)=d_;rwa[iG q]
def c5.made(I:c5 X c7 Z H s):c5 X c7 Z (eT (eT H s.1.1.size (.own (s.1.1.size+1))) (s.1.1.size+1) (.ins C s.1.1.size []))
  {s with heap:=(s.1.push nW).push (oW C s.1.1.size)}:=by
 have c:(s.1.push nW).get? s.1.1.size=a_ nW:=iS s.1 _6;have h:((s.1.push nW).push (oW C s.1.1.size)).get? (s.1.1.size+1)=a_ (oW C s.1.1.size):=by have:=iS (s.1.push nW) (o:=oW C s.1.1.size) _6;rwa[mM]at this
 refine(I.laid (o:=.own (s.1.1.size+1)) (h':=s.1.push nW) (t':=s.toks) (λb u q=>iE _ q) (iF _) ⟨_,c⟩).laid (t':=s.toks) (λb u q=>iE _ q) (oJ (mM _ _)) ?_;have ne:s.1.1.size≠s.1.1.size+1:=jJ (mH _);refine⟨by rw[ai ne,aj],jW _,ne,h,λz=>d_,(Heap.Ns1.of_empty (⟨nW,#[],_,c,_6,(λe g=>t_ g (by simp)),λz=>rfl⟩)).at λo q=>iE _ q,λz=>qG,λy d=>t_ _6 d⟩
def FH(i:qH e f b (I_ e b)=I_ e b)
  (h:jK (jG c w) A (I_ e b) (λo d=>jK (jG c w) A (getAttr o f c_) Q E d) E s):jK (jG c w) A (I_ (.Attribute e f g) b) Q E s:=
 Attribute_any_ h (by rw[arm_eval_Attribute,i])
end
inductive FldP(K:iL)(f:x_)(Q:VK)(x:V)(H1:Hp):Prop
 |mk (a C dx fs v) (_:x=.ref a) (_:H1 a=a_ (.ins C dx fs)) (_:Cls K C) (_:lL K C f) (_:fs.lookup f=a_ v) (_:Q v H1):FldP K f Q x H1
def eL(K:iL)(ta:TE)(f:x_):TE:=λZ H Q=>ta Z H (FldP K f Q)
inductive FldS(K:iL)(f:x_)(D:qt)(Z:St)(y x:V)(H2:Hp):Prop
 |mk (a C dx fs) (_:x=.ref a) (_:H2 a=a_ (.ins C dx fs)) (_:Cls K C) (_:lL K C f) (_:_7 fs<1000) (_:D.nx Z (eT H2 a (.ins C dx (xc f y fs)))):FldS K f D Z y x H2
def eQ(K:iL)(ta a:TE)(f:x_):TS:=λD Z H=>a Z H λy b=>ta Z b (FldS K f D Z y)
section
variable{X:Cx}{o e value:Expr}{f:x_}{pos pos' tpos:h!}{ta tv:TE}
def SZ(i:PE X e ta)(j:qH e f X.bi (I_ e X.bi)=I_ e X.bi):PE X (.Attribute e f pos) (eL X.K ta f):=by intro b s Z H Q I h;refine FH j (jf (i b s Z H _ I h) λu B ⟨x,y,w,d,a,C,E,fs,v,m,p,c,n,l,q⟩=>?_);subst m;obtain rfl:u=pW a:=d;exact Oi w p c n l λz A r g=>⟨v,y,r,g,q⟩
def BH(v:PE X o ta)(p:PE X value tv)(r:rF value (a_ (.Attribute o f pos')) pos.line X.bi=Q_ e_):PS X (.Assign [.Attribute o f pos'] value pos) (eQ X.K ta tv f):=by intro b s Z H D I h;refine plainObj_wpAny_Assign_Attribute (jf (p b s Z H _ I h) λu d ⟨y,G,E,g,q⟩=>jf (v b d Z G _ E q) λm L ⟨x,N,B,i,a,C,M,fs,w,z,c,n,l,j⟩=>?_) r;subst w;obtain rfl:m=pW a:=i;exact P5 B z c n l g λJ A=>⟨Z,_,A,j⟩
end
structure h9(k:g_)(A:oN):Prop where
 hd:A.handled=d_
 dp:A.depth+3*k+5<vS
 un:A.units+16*k+200<lN
def h9.be(r:h9 k A)(h:j<=k):h9 j A:=⟨r.hd,by have:=r.dp;lia,by have:=r.un;lia⟩
def h9.deeper(r:h9 (k+1) A)(a:j?):h9 k (A.deeper a):=
 ⟨r.hd,by have:=r.dp;show A.depth+1+3*k+5<_;lia,by have:=r.un;show A.units+3+16*k+200<_;lia⟩
def O8{A:oN}:(A.under (.builtin "type.__call__" ⟨.ref C::a,b⟩)).depth=A.depth+1:=by first|rfl|simp[Code.weight]
def O9{A:oN}:(A.under (.builtin "type.__call__" ⟨.ref C::a,b⟩)).units=A.units+1:=by first|rfl|simp[Code.cUnits]
def h9.make(r:h9 (k+1) A)(C:o_)(a:b_ jB)(b:b_ (x_×jB)):h9 k (A.under (.builtin "type.__call__" ⟨.ref C::a,b⟩)):=
 ⟨r.hd,by have:=r.dp;rw[O8];lia,by have:=r.un;rw[O9];lia⟩
def h9.depth(r:h9 k A):A.depth<vS:=by have:=r.dp;lia
def ZK:TA:=λz H Q=>Q [] H
def ZO(ta:TE)(tr:TA):TA:=λZ H Q=>ta Z H λx b=>tr Z b λxs a=>Q (x::xs) a
section
variable{X:Cx}{e:Expr}{es:b_ Expr}{te:TE}{t:TA}{pos:h!}
def qc:PA X [] ZK:=λz z z z H Q I h=>wC ⟨[],H,I,.nil,h⟩
def jy(l:PE X e te)(j:PA X es t)(i:Q! (jI (e::es) X.bi=(e_,I_ e X.bi)::jI es X.bi) Q2!):PA X (e::es) (ZO te t):=by intro pos a s Z H Q I h;rw[i];exact qX (jf (l a s Z H _ I h) λu b ⟨x,p,n,d,g⟩=>(jf (j pos a b Z p _ n g) (by rintro q r ⟨xs,o,m,c,f⟩;exact⟨x::xs,o,m,.cons d c,f⟩)))
def eA(t:TA):TE:=λZ H Q=>t Z H λxs a=>_7 xs<=iN/\∀p,a p=d_->Q (.ref p) (eT a p (.ci xs))
def eI(t:TA):TE:=λZ H Q=>t Z H λxs a=>_7 xs<=iN/\∀p,a p=d_->Q (.ref p) (eT a p (.au xs))
def SU{f}(h:PA X es t):PE X (.Tuple es f pos) (eA t):=by intro a s Z H Q I i;refine wpAny_Tuple_spliced (jf (h pos a s Z H _ I i) λg c ⟨xs,j,d,r,z,q⟩=>⟨by rwa[<-r.length],?_⟩);refine⟨.ref c.1.1.size,eT j c.1.1.size _,d.laid (λb u e=>iE _ e) (iF _) ?_,_6,q _ (d.fg.fresh (iF _))⟩;exact⟨z,g,r,⟨_,iS _ _6,_6,_,_6⟩⟩
def BV(h:PA X es t):PE X (.List es pos) (eI t):=by intro a s Z H Q I g;refine wpAny_List_spliced (jf (h pos a s Z H _ I g) λf c ⟨xs,i,d,r,z,q⟩=>⟨by rwa[<-r.length],?_⟩);refine⟨.ref c.1.1.size,eT i c.1.1.size _,d.laid (λb u e=>iE _ e) (iF _) ?_,_6,q _ (d.fg.fresh (iF _))⟩;exact⟨z,f,0,r,iS _ _6⟩
end
abbrev Sp:=b_ V->Hp->VK->XK->Prop
abbrev FQ:=b_ j?->Hp->jP->XK->jB->jP->Prop
structure Env0(P:kR)(w:mG)(K:iL)(mg:x_->f_ jB)(base:C_)(A:oN)(cc:b_ j?)(s:jP)(H:Hp):Prop where
 frames:A.frames=a_ cc
 tz:Mod K mg base
 bs:∀b o,base.get? b=a_ o->s.1.get? b=a_ o/\H b=d_
 bsz:base.objs.size<=s.1.1.size
 sh:s.1.FunFrames base cc
 frf:∀b∈Yq cc,H b=d_
 fg:l0 P w H s.1
 lU:wA s.gens
inductive CE(cc:b_ j?)(P:kR)(w:mG)(H:Hp)(s:jP)(Q:VK)(u:jB)(s':jP):Prop
 |mk (v H') (_:s'.os=s.os) (_:wA s'.gens) (_:Un (Yq cc) [] H H' s.1 s'.1) (_:l0 P w H' s'.1) (_:ez v u) (_:Q v H'):CE cc P w H s Q u s'
def CR(b:FQ)(cc:b_ j?)(P:kR)(w:mG)(H:Hp)(s:jP)(Q:VK)(E:XK)(r:Result)(a:jP):Prop:=
 match r with
 |.ok (.ret u)=>CE cc P w H s Q u a
 |.ok _=>T_
 |.error e=>b cc H s E e a
structure ky(P:kR)(w:mG)(K:iL)(mg:x_->f_ jB)(base:C_)(CX:FQ)(k:g_)(f:o_)(fd:vT)(ps:b_ x_)(sp:Sp):Prop where
 len:∀vs H Q E,sp vs H Q E->_7 vs=_7 ps
 run:∀(A:oN)(cc:b_ j?)(s:jP)(H:Hp)(args:Args)(us:b_ jB)(vs:b_ V)(Q:VK)(E:XK),h9 k A->Env0 P w K mg base A cc s H->i! s fd args (ps.zip us)->dL vs us->sp vs H Q E->
  pR (jG P w) A (.call (.ref f) args) (CR CX cc P w H s Q E) s
def ky.imp{P:kR}{w:mG}{K:iL}{mg:x_->f_ jB}{base:C_}{i:FQ}{k:g_}{f:o_}{g:vT}{e:b_ x_}{d b:Sp}(F:ky P w K mg base i k f g e d)
  (h:∀a H Q E,b a H Q E->d a H Q E):ky P w K mg base i k f g e b:=
 ⟨λa H Q E q=>F.len a H Q E (h _ _ _ _ q),λA cc s H c j a Q E n o p l m=>F.run A cc s H c j a Q E n o p l (h _ _ _ _ m)⟩
def Env0.make{P:kR}{w:mG}{K:iL}{mg:x_->f_ jB}{base:C_}{A:oN}{cc:b_ j?}{s:jP}{H:Hp}(e:Env0 P w K mg base A cc s H)(C:o_)(a:b_ jB)(b:b_ (x_×jB)):
  Env0 P w K mg base (A.under (.builtin "type.__call__" ⟨.ref C::a,b⟩)) cc s H:=⟨by first|exact e.frames|(simpa[Around.under,Code.envs,Code.isFrame,pushEnvs]using e.frames),e.tz,e.bs,e.bsz,e.sh,e.frf,e.fg,e.lU⟩
section
variable{X:Cx}{c7:b_ (o_×_d)}{Z:St}{H:Hp}{s s':jP}
def c5.env0(I:c5 X c7 Z H s):Env0 X.prog X.w X.K X.mg X.base X.A X.stack s H:=
 ⟨I.ok.frames,I.ok.tz,I.bs,kC I.ok.bsz I.sz,I.stack,I.stkFree,I.fg,I.lU⟩
def c5.after(I:c5 X c7 Z H s)(h:CE X.stack X.prog X.w H s Q u s'):EP X c7 Z Q u s':=by obtain⟨v,f,os,a,un,e,r,q⟩:=h;obtain⟨i,g,d,t,c⟩:=s';obtain rfl:c=s.os:=os;exact⟨v,f,I.call (d':=d) (t':=t) (ch:=[]) un e a (λb z=>t_ z (by simp)),r,q⟩
end
def NF(c:Sp)(a:b_ V)(E:XK)(t:TA):TE:=λZ H Q=>t Z H λb d=>c (b++a) d Q E
def ZM(C:o_)(e:Sp)(b:b_ V)(E:XK)(t:TA):TE:=λZ H Q=>t Z H λd c=>∀x a,c x=d_->c a=d_->a≠x->
 e (.ref x::(d++b)) (eT (eT c a (.own x)) x (.ins C a [])) (λv f=>v=.fD/\Q (.ref x) f) E
def lv(K:iL)(d:vT)(b:b_ x_)(c:b_ jB):Prop:=
 ∀(s:jP)(a:b_ jB),K.In s.1->(a++c).length=_7 b->i! s d ⟨a,[]⟩ (b.zip (a++c))
def lv.all{K:iL}(h:∀a,_7 a=_7 b->t? d ⟨a,[]⟩=Q_ (b.zip a)):lv K d b []:=λs a z c=>by rw[jX]at c⊢;exact .of_eq (h a c)
def oo(c:FQ)(X:Cx)(E:XK):Prop:=∀(a:b_ (o_×_d))(Z:St)(H:Hp)(s:jP)(e:jB)(b:jP),c5 X a Z H s->c X.stack H s E e b->X.xe e b
section
variable{X:Cx}{CX:FQ}{k:g_}{f C:o_}{fd:vT}{ps:b_ x_}{sp:Sp}{dvs:b_ V}{ds:b_ jB}{E:XK}{x m:x_}{p pos apos:h!}{e o:Expr}{es:b_ Expr}{ta:TE}{t:TA}
def CD(F:ky X.prog X.w X.K X.mg X.base CX k f fd ps sp)(l:h9 k X.A)(v:lv X.K fd ps ds)(q:dL dvs ds)(j:oo CX X E)
  (I:c5 X a Z H s)(r:dL g c)(h:sp (g++dvs) H Q E):jK (jG X.prog X.w) X.A (call (.ref f) c) (EP X a Z Q) X.xe s:=by
 have d:=r.append q;have n:(c++ds).length=_7 ps:=by rw[<-d.length];exact F.len _ _ _ _ h
 refine xF (oK (F.run X.A X.stack s H ⟨c,[]⟩ _ _ Q E l I.env0 (v s c I.u6 n) d h) λr i b=>?_);cases r with
 |error e=>exact j a Z H s e i I b
 |ok y=>
  cases y with
  |ret u=>exact I.after b
  |next=>exact lV b
  |brk=>exact lV b
  |cont=>exact lV b
def JI(F:ky X.prog X.w X.K X.mg X.base CX k f fd ps sp)(i:h9 k X.A)(n:Gl X x)(j:X.mg x=a_ (.ref f))(l:mC X.K (.ref f)=c_)(y:lv X.K fd ps ds)(v:dL dvs ds)(g:oo CX X E)
  (z:PA X (e::es) t)(c:Q! ((x==("__debug__":x_))=e_) Q1!)(u:Q! (jI (e::es) X.bi=(e_,I_ e X.bi)::jI es X.bi) Q2!)(b:Q! ((nU pos (jI es X.bi)).any (·.1)=e_) Q2!):
  PE X (.Call (.Name x p) (e::es) [] pos) (NF sp dvs E t):=by
 intro a s Z H Q I h;exact oF (C5 I n j (u? I.ok.tz.kin l (jf (z pos a s Z H _ I h) λG J ⟨B,L,d,r,q⟩=>⟨d.u6,(CD F i y v g d r q)⟩) u b) c)
def AB(F:ky X.prog X.w X.K X.mg X.base CX k f fd ps sp)(d:h9 k X.A)(j:Gl X x)(g:X.mg x=a_ (.ref f))(i:mC X.K (.ref f)=c_)(n:lv X.K fd ps ds)(l:dL dvs ds)(c:oo CX X E)
  (a:Q! ((x==("__debug__":x_))=e_) Q1!):PE X (.Call (.Name x p) [] [] pos) (NF sp dvs E ZK):=by
 intro b s Z H Q I h;exact oF (C5 I j g (PySem.W.callWith_K0 I.u6 i (CD F d n l c I .nil h)) a)
structure Mk(K:iL)(C f:o_):Prop where
 makes:xS K C=c_
 init:nV K (.ref C) "__init__"=a_ (a_ (.ref f))
 fn:O! K (.ref f)=c_
 kp:mC K (.ref C)=c_
def CC(M:Mk X.K C f)(F:ky X.prog X.w X.K X.mg X.base CX k f fd ps sp)(B:h9 (k+1) X.A)(L:lv X.K fd ps ds)(J:dL dvs ds)
  (z:oo CX X E)(I:c5 X b Z H s)(r:dL l c)
  (h:∀x d,H x=d_->H d=d_->d≠x->sp (.ref x::(l++dvs)) (eT (eT H d (.own x)) x (.ins C d [])) (λv U=>v=.fD/\Q (.ref x) U) E):
  jK (jG X.prog X.w) X.A (call (.ref C) c) (EP X b Z Q) X.xe s:=by
 have j:=h _ s.1.1.size (I.fg.fresh (oO _)) (I.fg.fresh (iF _)) (jJ (mH _));have g:=c5.made (C:=C) I;have i:dL (V.ref _::_) (pW (s.1.1.size+1)::_):=.cons _6 (r.append J);have G:(pW (s.1.1.size+1)::c++ds).length=_7 ps:=by have e:=i.length;rw[F.len _ _ _ _ j]at e;exact e.symm
 refine xF (Z4 I.u6 M.makes M.init (E_.mp M.fn) (oK (F.run _ X.stack _ _ ⟨pW _::c,[]⟩ _ _ _ E (B.make C c [])
  (g.env0.make C c []) (L _ _ g.u6 G) i j) λr n a=>?_))
 cases r with
 |error e=>exact z b Z _ _ e n g a
 |ok N=>
  cases N with
  |ret u=>obtain⟨v,Y,T,q,O,y⟩:=g.after a;subst O;exact⟨q,⟨V.ref _,Y,T,_6,y⟩⟩
  |next=>exact lV a
  |brk=>exact lV a
  |cont=>exact lV a
def JG(M:Mk X.K C f)(F:ky X.prog X.w X.K X.mg X.base CX k f fd ps sp)(i:h9 (k+1) X.A)(l:Gl X x)(j:X.mg x=a_ (.ref C))(v:lv X.K fd ps ds)(u:dL dvs ds)(g:oo CX X E)
  (y:PA X (e::es) t)(c:Q! ((x==("__debug__":x_))=e_) Q1!)(n:Q! (jI (e::es) X.bi=(e_,I_ e X.bi)::jI es X.bi) Q2!)(b:Q! ((nU pos (jI es X.bi)).any (·.1)=e_) Q2!):
  PE X (.Call (.Name x p) (e::es) [] pos) (ZM C sp dvs E t):=by
 intro a s Z H Q I h;exact oF (C5 I l j (u? I.ok.tz.kin M.kp (jf (y pos a s Z H _ I h) λB G ⟨z,J,d,r,q⟩=>⟨d.u6,(CC M F i v u g d r q)⟩) n b) c)
end
structure lW(N P:b_ x_)(sc:pA):Prop where
 kind:sc.kind=.function
 co:sc.isCoroutine=e_
 gen:sc.isGenerator=e_
 nd:N.Nodup
 pre:N.take (_7 P)=P
 par:∀x∈P,sc.names.lookup x=a_ .local\/sc.names.lookup x=a_ .cell
 nofree:∀y∈sc.names,y.2≠.free
def Tx{kindOf:x_->f_ vU}:∀{sn}{m},(∀v,(x,v)∉sn)->P! kindOf sn m x=m x:=by
 intro a;induction a with
 |nil=>rintro _ _;exact _6
 |cons a r b=>
  obtain⟨n,v⟩:=a
  rintro m h
  unfold P!;rw[b λw c=>h w (iI _ c)];split
  .have:x≠n:=by rintro rfl;exact h v iM
   simp[this]
  .rfl
def Tw{kindOf:x_->f_ vU}:∀{sn}{m},(∀v,(x,v)∉sn)->R! kindOf sn m x=m x:=by
 intro a;induction a with
 |nil=>rintro _ _;exact _6
 |cons a r b=>
  obtain⟨n,v⟩:=a
  rintro m h
  unfold R!;rw[b λw c=>h w (iI _ c)];split
  .rfl
  .have:x≠n:=by rintro rfl;exact h v iM
   simp[this]
theorem Ge{kindOf:x_->f_ vU}:∀{P:b_ x_}{a}{i:g_}{m},P.Nodup->P[i]?=a_ x->a[i]?=a_ v->kindOf x=a_ .local->
  P! kindOf (P.zip a) m x=a_ v
 |[],_,_,_,_,h,_,_=>by simp at h
 |_::_,[],_,_,_,_,h,_=>by simp at h
 |p::P,w::a,0,m,d,c,b,e=>by simp at c b;subst c;subst b;show P! kindOf (_::P.zip a) m p=_;unfold P!;rw[Tx λv f=>(B_.mp d).1 (uY f).1,iH e];simp
 |p::P,w::a,i+1,m,d,c,b,e=>by unfold P!;exact Ge (B_.mp d).2 (by simpa using c) (by simpa using b) e
theorem Gd{kindOf:x_->f_ vU}:∀{P:b_ x_}{a}{i:g_}{m},P.Nodup->P[i]?=a_ x->a[i]?=a_ v->kindOf x≠a_ .local->
  R! kindOf (P.zip a) m x=a_ v
 |[],_,_,_,_,h,_,_=>by simp at h
 |_::_,[],_,_,_,_,h,_=>by simp at h
 |p::P,w::a,0,m,d,c,b,e=>by simp at c b;subst c;subst b;show R! kindOf (_::P.zip a) m p=_;unfold R!;rw[Tw λv f=>(B_.mp d).1 (uY f).1,iG e];simp
 |p::P,w::a,i+1,m,d,c,b,e=>by unfold R!;exact Gd (B_.mp d).2 (by simpa using c) (by simpa using b) e
def t4(N:b_ x_)(a:b_ V):St:=a.map a_++iT (_7 N-_7 a) d_
noncomputable def A3(g:FQ)(P:kR)(w:mG)(K:iL)(mg:x_->f_ jB)(base:C_)(N:b_ x_)(b:x_)(a:pA)(f:o_)(d:jB)(A:oN)(cc:b_ j?)(s:jP)(H:Hp)(E:XK):Cx where
 prog:=P
 w:=w
 K:=K
 mg:=mg
 base:=base
 A:=A.deeper (xG b a s.1.1.size f d)
 N:=N
 im:=s
 n7:=H
 bi:=xG b a s.1.1.size f d
 cc:=cc
 stack:=xG b a s.1.1.size f d::cc
 ex:=[]
 calm:=c_
 fn:=λx=>decide (x∉rf)
 pn:=[]
 xe:=λe h=>jK (jG P w) (A.deeper (xG b a s.1.1.size f d)) (leaving (xG b a s.1.1.size f d) e) (λz c=>g cc H s E e c) (λi c=>g cc H s E i c) h
def Kh{a:pA}(h:a.names.lookup x=a_ .cell):∃c,(rZ n a.names []).lookup x=a_ c:=Option.isSome_iff_exists.mp (tG a.names n [] (.inl h))
def Gu{U:FQ}{P:kR}{w:mG}{K:iL}{mg:x_->f_ jB}{base:C_}{N n:b_ x_}{g:x_}{d:pA}{f:o_}{J:jB}{A:oN}{cc:b_ j?}{s O:jP}{H:Hp}{E:XK}{L:b_ jB}{m:b_ V}
  (S:lW N n d)(hd:A.handled=d_)(l:Env0 P w K mg base A cc s H)(hl:_7 m=_7 n)(r:dL m L)
  (x:InCallC s s.1.1.size (P! (xG g d s.1.1.size f J).kindOf (n.zip L) λW=>d_) (rZ (s.1.1.size+1) d.names []) (R! (xG g d s.1.1.size f J).kindOf (n.zip L) λW=>d_) O):
  c5 (A3 U P w K mg base N g d f J A cc s H E) [] (t4 N m) H O:=by
 have α:_7 n<=_7 N:=by have:=u_ mD S.pre;rw[lX]at this;lia
 obtain⟨M,tk,rfl,T⟩:=x.done;have o:∀b,b∉(A3 U P w K mg base N g d f J A cc s H E).ex:=λb z=>t_ (show b∈([]:b_ o_)from z) (by simp);refine⟨⟨l.tz,S.kind,_6,_6,iF _,λy z c M j=>?_,λy C=>?_,λy c W h=>?_,λW=>hd,k? l.frames,.inr ⟨_6,_6⟩,λb z=>t_ z (o b),l.bs,l.bsz,λb W W=>o b,λb z=>t_ z (o b),l.sh,l.frf⟩,
  rfl,l.lU,Un.h7 T,⟨_,x.toInCall.ns,λi y v M j h3=>?_⟩,λy c h=>⟨_,x.cell y c h⟩,l.fg.fresh (iF _),λy c h=>?_,λp G=>t_ (show p∈([]:b_ _)from G) (by simp),l.fg.h7 T,?_⟩
 .exact name_of_addr x.apart (mP M) (mP j)
 .obtain C|C:=C
  .exact Kh C
  .exact t_ _6 (S.nofree _ (mP C))
 .exact xE (x.above y c (mP h))
 .have I:i<_7 m:=by
   unfold t4 at j
   by_cases I:i<_7 m
   .exact I
   .rw[kW (by simpa using I)]at j;rw[sV]at j;split at j<;>cases j
  have ha:m[i]?=a_ v:=by
   unfold t4 at j;rw[kI (by simpa using I),jF]at j;cases e:m[i]? with
   |none=>rw[e]at j;cases j
   |some a=>rw[e]at j;cases j;rfl
  obtain⟨u,Q,Y⟩:=r.get ha;have G:n[i]?=a_ y:=by rwa[<-S.pre,List.getElem?_take_of_lt (by lia)]
  have B:n.Nodup:=by rw[<-S.pre];exact S.nd.sublist (j! _ _)
  refine⟨u,Y,?_⟩;rcases S.par y (jT G)with k|k
  .exact .inl ⟨k,Ge B G Q k⟩
  .obtain⟨c,e⟩:=Kh k;refine .inr ⟨.inl k,c,e,?_⟩;have q:=x.cell y c e;rw[Gd B G Q (by show d.names.lookup y≠_;rw[k];decide)]at q;exact q
 .exact .inl (l.fg.fresh (xE (x.above y c (mP h))))
 .unfold t4;show _=_7 N;rw[iO,iD,lQ]
  lia
def WA{CX:FQ}{P:kR}{w:mG}{K:iL}{mg:x_->f_ jB}{base:C_}{k:g_}{f:o_}{j c:x_}{d:wV}{h:b_ S_}{a:pA}{dV kV L pm g ct oc:jB}{an od:f_ o_}
  {Y:p_ (f_ jB)} {N M:b_ x_} {O:Sp} (lk:K.lookup f=a_ ⟨oc,od,.func (lI j c d h a dV kV L pm an g ct),Y⟩) (β:nD K g c=c_) (S:lW N M a)
  (len:∀m H Q E,O m H Q E->_7 m=_7 M)
  (z:∀A cc s H m Q E,h9 k (A.deeper (xG c a s.1.1.size f g))->O m H Q E->
   ∃t,PSs (A3 CX P w K mg base N c a f g A cc s H E) h t/\t {nx:=λW l=>Q .fD l,rt:=Q} (t4 N m) H):
  ky P w K mg base CX (k+1) f (lI j c d h a dV kV L pm an g ct) M O:=by
 refine⟨len,λA cc s H ζ us m Q E hr I hb r C=>?_⟩;have KX:=I.tz.kin.keeps λb o e=>(I.bs b o e).1;have p:∀y∈M.zip us,a.names.lookup y.1=a_ .local\/(a.names.lookup y.1=a_ .cell/\((rZ (s.1.1.size+1) a.names []).lookup y.1).isSome=c_):=by
  rintro⟨n,v⟩ hy
  rcases S.par n (uY hy).1 with q|q
  .exact .inl q
  .exact .inr ⟨q,tG _ _ _ (.inl q)⟩
 refine G! hr.depth (KX _ _ lk) _6 S.co S.gen _6 (v? KX β) (hb _ _ _ _ (w? S.kind p λχ he s1 x=>?_));subst he;refine⟨(I.tz.nolimit.keeps λb o e=>(I.bs b o e).1).keeps x.toInCall.keep,codeAny_func ?_⟩;obtain⟨t,ht,hq⟩:=z A cc s H m Q E (hr.deeper _) C;refine kN (ht [] s1 _ H _ (Gu S hr.hd I (len _ _ _ _ C) r x) hq) (λfl T B=>?_) λe T B=>B;have G:∀{i}{l}{v}{u},c5 (A3 CX P w K mg base N c a f g A cc s H E) [] i l T->ez v u->Q v l->CE cc P w H s Q u T:=
  λ{i l v u} J U q=>⟨v,l,J.os,J.lU,J.base,J.fg,U,q⟩
 cases fl with
 |ret u=>obtain⟨v,i,l,J,U,q⟩:=B;exact G J U q
 |next=>obtain⟨i,l,J,q⟩:=B;exact G (v:=V.fD) (u:=nB) J _6 q
 |brk=>obtain⟨_,_,_,q⟩:=B;exact lV q
 |cont=>obtain⟨_,_,_,q⟩:=B;exact lV q
section
variable{X:Cx}{x:x_}{p pos:h!}{e:Expr}{es:b_ Expr}{t:TA}{id T:Y_}{r:b_ V->Hp->VK->Prop}
def bR(r:b_ V->Hp->VK->Prop)(t:TA):TE:=λZ H Q=>t Z H λa b=>r a b Q
def l7(u:ie X (.builtin id) r)(o:Gl X x)(n:X.mg x=d_)(l:qA x=a_ (.builtin id))(v:PA X (e::es) t)(m:Q! (x≠"__name__") Q1!)(c:Q! ((x==("__debug__":x_))=e_) Q1!)
  (q:Q! (jI (e::es) X.bi=(e_,I_ e X.bi)::jI es X.bi) Q2!)(b:Q! ((nU pos (jI es X.bi)).any (·.1)=e_) Q2!):PE X (.Call (.Name x p) (e::es) [] pos) (bR r t):=by
 intro a s Z H Q I h;exact oF (Ba I o n l (PyProof.Rows.callWith_builtin1 (jf (v pos a s Z H _ I h) (by rintro f g ⟨d,y,w,i,j⟩;exact u a g Z y d f Q w i j)) q b) m c)
def tf(u:ie X (.type T) r)(o:Gl X x)(n:X.mg x=d_)(l:qA x=a_ (.type T))(v:PA X (e::es) t)(m:Q! (x≠"__name__") Q1!)(c:Q! ((x==("__debug__":x_))=e_) Q1!)
  (q:Q! (jI (e::es) X.bi=(e_,I_ e X.bi)::jI es X.bi) Q2!)(b:Q! ((nU pos (jI es X.bi)).any (·.1)=e_) Q2!):PE X (.Call (.Name x p) (e::es) [] pos) (bR r t):=by
 intro a s Z H Q I h;exact oF (Ba I o n l (rJ (jf (v pos a s Z H _ I h) (by rintro f g ⟨d,y,w,i,j⟩;exact u a g Z y d f Q w i j)) q b) m c)
end
end L2
namespace HT
section
variable{prog:kR}{w:mG}{A:oN}{E:jB->jP->Prop}{s:jP}
def FE(v:U? s.1 t d.toArray)(z:U? s.1 b a.toArray)(q:d≠[])
  (C:a=[]->Q (.ref t) s)(B:a≠[]->Q (.ref s.1.1.size) {s with heap:=s.1.push {cls:=.type "tuple",data:=.seq (d++a).toArray}})
  (j:_7 d+_7 a<=iN):jK (jG prog w) A (qO .Add (.ref t) (.ref b)) Q E s:=by
 obtain⟨⟨cls,r,data,o⟩,i,y,n,x⟩:=id v;obtain⟨⟨u,g,data2,f⟩,c,m,p,l⟩:=id z;subst y x m l;have e:d.toArray++a.toArray=(d++a).toArray:=by simp
 by_cases h:a=[]
 .exact xH ⟨_,i,_6⟩ ⟨_,c,_6⟩ wW M? tH sW (sI _ _)
   (tuple_addW1 t b d.toArray a.toArray n p r g o f (by simpa using q) (by simp[h])) ⟨i,c,C h⟩
 .refine xH ⟨_,i,_6⟩ ⟨_,c,_6⟩ wW M? tH sW (sI _ _)
   (tuple_addW2 t b d.toArray a.toArray n p r g o f (by simpa using q) (by simpa using h) j) ⟨i,c,?_⟩
  rw[e];exact B h
def l9(n d:g_):f_ j_->g_
 |none=>d
 |some v=>if v<0 then(v+(n:j_)).toNat else min v.toNat n
def E8(n d:g_):l9 n d d_=d:=rfl
def Jr(n d k:g_):l9 n d (a_ (k:j_))=min k n:=by show(if k<0 then(k+(n:j_)).toNat else min (k:j_).toNat n)=min k n;rw[iG (by lia),mE]
end
end HT
namespace L2
abbrev TO:=St->Hp->(f_ j_->Hp->Prop)->Prop
def PO(X:Cx)(e:f_ Expr)(t:TO):Prop:=
 ∀(a:b_ (o_×_d))(s:jP)(Z:St)(H:Hp)(Q:f_ j_->Hp->Prop),c5 X a Z H s->t Z H Q->
  jK (jG X.prog X.w) X.A (evalPart e X.bi) (λu c=>∃o b,c5 X a Z b c/\xI u o/\Q o b) X.xe s
def LC:TO:=λz H Q=>Q d_ H
def ZF(t:TE):TO:=λZ H Q=>t Z H λx a=>∃i,x=.int i/\Q (a_ i) a
section
variable{X:Cx}{e:Expr}{te:TE}{lo hi:f_ Expr}{tl th:TO}{pos p2:h!}
def JA:PO X d_ LC:=by intro a s Z H Q I h;exact iB ⟨d_,H,I,.none,h⟩
def KZ(h:PE X e te):PO X (a_ e) (ZF te):=by intro a s Z H Q I d;refine jf (h a s Z H _ I d) λu j ⟨x,g,f,b,c⟩=>?_;obtain⟨i,rfl,q⟩:=c;obtain⟨t,rfl⟩:=b;exact⟨a_ i,g,f,.int i t,q⟩
def SlR(X:Cx)(r:V->f_ j_->f_ j_->Hp->VK->Prop):Prop:=
 ∀(a:b_ (o_×_d))(s:jP)(Z:St)(H:Hp)(x:V)(v c b:jB)(lo hi:f_ j_)(d:o_)(Q:VK),c5 X a Z H s->ez x v->s.1.IsSliceOf d c b .none->xI c lo->xI b hi->r x lo hi H Q->
  ∃T id,typeLookup (.type T) "__getitem__"=Q_ (a_ (.builtin id))/\s.TypeIs v T/\jK (jG X.prog X.w) X.A (xJ v (.ref d)) (EP X a Z Q) X.xe s
def gJ(r:V->f_ j_->f_ j_->Hp->VK->Prop)(te:TE)(tl th:TO):TE:=λZ H Q=>te Z H λx c=>tl Z c λl b=>th Z b λu a=>r x l u a Q
def BU(z:SlR X r)(C:PE X e te)(A:PO X lo tl)(w:PO X hi th):PE X (.Subscript e (.Slice lo hi d_ p2) pos) (gJ r te tl th):=by intro a s Z H Q I h;refine Subscript_ (jf (C a s Z H _ I h) λv i ⟨x,O,L,j,o⟩=>(wpAny_Slice (jf (A a i Z O _ L o) λf g ⟨l,N,J,p,n⟩=>jf (w a g Z N _ J n) λd c ⟨u,M,G,pu,m⟩=>(iB ?_))));obtain⟨T,id,E,y,B⟩:=z a {c with heap:=c.1.push {cls:=.type "slice",data:=.fields #[f,d,.none]}} Z M x v f d l u c.1.1.size Q (G.h7 λb U q=>iE _ q) j (Heap.IsSliceOf.new ..) p pu m;exact tail_any y E B (by with_unfolding_all rfl)
def Io(xs:b_ V)(lo hi:f_ j_):b_ V:=(xs.drop (HT.l9 xs.length 0 lo)).take (HT.l9 xs.length xs.length hi-HT.l9 xs.length 0 lo)
def Bz(xs:b_ V)(lo hi:f_ j_):(Io xs lo hi).length<=_7 xs:=by unfold Io;rw[lX,lD];exact kC (uE ..) (Nat.sub_le ..)
inductive rCatT(K:iL)(x:V)(y:V)(H:Hp)(Q:VK):Prop
 |mk (a b xs ys) (_:x=.ref a) (_:y=.ref b) (_:ng K H a xs) (_:ng K H b ys) (_:xs≠[]) (_:_7 xs+_7 ys<=iN) (_:(ys=[]->Q (.ref a) H)) (_:(ys≠[]->∀p,H p=d_->Q (.ref p) (eT H p (.ci (xs++ys))))):rCatT K x y H Q
def dL.qw(r:dL xs a):a=[]↔xs=[]:=by
 cases r with
 |nil=>simp
 |cons _ _=>simp
def JS:lz X (qO .Add) (rCatT X.K):=by intro f s Z H x y v u Q I j i h;obtain⟨a,b,xs,B,rfl,rfl,A,r,p,E,m,l⟩:=h;cases j;cases i;obtain⟨o,d,n,_⟩:=I.tuple A;obtain⟨g,c,p2,_⟩:=I.tuple r;refine HT.FE n p2 (λz=>p (d.qw.mp z)) (λz=>⟨.ref a,H,I,_6,m (c.qw.mp z)⟩) (λz=>⟨.ref s.1.1.size,_,I.laid (λb C q=>iE _ q) (iF _) ?_,_6,l (λw=>z (c.qw.mpr w)) _ (I.fg.fresh (iF _))⟩) (by rwa[<-d.length,<-c.length]);exact⟨by rwa[iO],_,d.append c,k! _ _⟩
end
def MA(n:g_)(i:j_):f_ g_:=if 0<=i then(if i<n then a_ i.toNat else d_)else if -(n:j_)<=i then a_ (i+n).toNat else d_
def atI(xs:b_ α)(i:j_):f_ α:=(MA xs.length i).bind λj=>xs[j]?
def HM(h:MA n i=a_ j):wX i n=a_ j/\j<n/\-(n:j_)<=i/\i<n:=by
 unfold MA at h
 by_cases b:0<=i
 .rw[iH b]at h
  by_cases a:i<n
  .rw[iH a]at h;have e:=jM h;exact⟨by rw[seqIndex_of b a,e],by lia,by lia,a⟩
  .rw[iG a]at h;cases h
 .rw[iG b]at h
  by_cases a:-n<=i
  .rw[iH a]at h;have e:=jM h;exact⟨by rw[seqIndex_neg (by lia) a,e],by lia,a,by lia⟩
  .rw[iG a]at h;cases h
def H9(h:atI xs i=a_ v):∃j,wX i (_7 xs)=a_ j/\xs[j]?=a_ v/\j<_7 xs/\-(xs.length:j_)<=i/\i<_7 xs:=by
 unfold atI at h;cases e:MA xs.length i with
 |none=>rw[e]at h;cases h
 |some j=>rw[e]at h;obtain⟨d,c,b,a⟩:=HM e;exact⟨j,d,h,c,b,a⟩
def Ia{xs:b_ α}{j:g_}{v:α}(h:xs[j]?=a_ v):atI xs (j:j_)=a_ v:=by
 have a:=(h_.mp h).1;have e:MA xs.length (j:j_)=a_ j:=by unfold MA;rw[iH (by lia),iH (by lia)];simp
 unfold atI;rwa[e]
def Hw(b:Expr):Prop:=∀o i,subscripted b e_ o i=operate [o,i] (xJ o i)
def IxR(X:Cx)(r:R2):Prop:=
 ∀(value a:Expr)(b:b_ (o_×_d))(s:jP)(Z:St)(H:Hp)(x y:V)(v u:jB)(Q:VK),c5 X b Z H s->ez x v->ez y u->r x y H Q->
  subscripted a e_ v u=operate [v,u] (xJ v u)->jK (jG X.prog X.w) X.A (subscriptTail value a v u) (EP X b Z Q) X.xe s
def aF(X:Cx)(id:Y_)(r:V->b_ V->Hp->VK->Prop):Prop:=
 ∀(a:b_ (o_×_d))(s:jP)(Z:St)(H:Hp)(x:V)(xs:b_ V)(v:jB)(b:b_ jB)(Q:VK),c5 X a Z H s->ez x v->dL xs b->r x xs H Q->
  jK (jG X.prog X.w) X.A (call (.builtin id) (v::b)) (EP X a Z Q) X.xe s
section
variable{X:Cx}{a b:Expr}{ta tb:TE}{pos:h!}
def IxR.or(h:IxR X r)(j:IxR X i):IxR X (λx y H Q=>r x y H Q\/i x y H Q):=by
 intro value c d s Z H x y v u Q I f e q g;obtain q|q:=q
 .exact h value c d s Z H x y v u Q I f e q g
 .exact j value c d s Z H x y v u Q I f e q g
def YN(i:IxR X r)(l:PE X a ta)(j:PE X b tb)(g:Hw b):PE X (.Subscript a b pos) (ZH r ta tb):=by intro c s Z H Q I h;exact Subscript_ (OI l j I h λv u d x y n m f e q=>i a b c d Z n x y v u Q m f e q (g _ _))
inductive rIxL(K:iL)(x:V)(y:V)(H:Hp)(Q:VK):Prop
 |mk (p xs i v) (_:x=.ref p) (_:y=.int i) (_:gL K H p xs) (_:atI xs i=a_ v) (_:Q v H):rIxL K x y H Q
inductive rIxT(K:iL)(x:V)(y:V)(H:Hp)(Q:VK):Prop
 |mk (p xs i v) (_:x=.ref p) (_:y=.int i) (_:ng K H p xs) (_:atI xs i=a_ v) (_:Q v H):rIxT K x y H Q
inductive rIxS(x:V)(y:V)(H:Hp)(Q:VK):Prop
 |mk (z i c) (_:x=.str z) (_:y=.int i) (_:z.length<=iN) (_:atI z.cps.toList i=a_ c) (_:Q (.str ⟨#[c]⟩) H):rIxS x y H Q
def HK:IxR X (rIxL X.K):=by
 intro value f c s Z H x y v u Q I E C h o;obtain⟨p,xs,i,z,rfl,rfl,G,L,q⟩:=h;cases E;obtain⟨t,rfl⟩:=C;obtain⟨m,r,l,T⟩:=I.list G;obtain⟨j,e,O,Y,N,M⟩:=H9 L;obtain⟨w,B,g⟩:=r.get O;have J:=r.length;have U:=O6;have d:EP X c Z Q w s:=⟨z,H,I,g,q⟩
 by_cases A:0<=i
 .have n:i.toNat=j:=by rw[seqIndex_of A M]at e;exact jM e
  exact item_listR l.isList A (by lia) (by rw[n];simpa using B) d o
 .have n:(i+(m.toArray.size:j_)).toNat=j:=by rw[seqIndex_neg (by lia) N]at e;rw[jS,<-J];exact jM e
  exact l! l.isList.typeIs slot_list_getitem.lookup
   (wpAny_getItem_list_neg l.isList (by lia) (by rw[jS]<;>lia) (by lia) (by rw[n];simpa using B) ⟨_6,d⟩) o
def QN:IxR X (rIxT X.K):=by
 intro value c f s Z H x y v u Q I l g h n;obtain⟨p,xs,i,z,rfl,rfl,o,A,q⟩:=h;cases l;obtain⟨t,rfl⟩:=g;obtain⟨m,r,e,E⟩:=I.tuple o;obtain⟨j,N,B,M,L,J⟩:=H9 A;obtain⟨w,C,d⟩:=r.get B;have G:=O6;exact l! e.typeIs _c.lookup
  (getItem_tuple e (by lia) (by lia) (by rwa[jS,<-r.length]) (by simpa using C) ⟨_6,(⟨z,H,I,d,q⟩)⟩) n
def QO:IxR X rIxS:=by
 intro value d e s Z H x y v u Q I l g h m;obtain⟨z,i,c,rfl,rfl,B,o,q⟩:=h;obtain⟨t,rfl⟩:=l;obtain⟨A,rfl⟩:=g;obtain⟨j,f,w,E,r,p⟩:=H9 o;have n:z.cps.toList.length=z.length:=by simp[Str.length]
 rw[n]at f r p;have C:=O6;exact tail_any (typeIs_str s z t) slot_str_getitem.lookup (getItem_str (by
  rw[(i_ (by lia)),(i_ (by lia)),Bool.or_false]) (by rw[f];simpa using w) ⟨.str ⟨#[c]⟩,H,I.qd _,⟨_,_6⟩,q⟩) m
def fG(K:iL):R2:=λx y H Q=>rIxL K x y H Q\/rIxT K x y H Q\/rIxS x y H Q
def QP:IxR X (fG X.K):=HK.or (QN.or QO)
def DV(k n:g_):(if(0:j_)<1 then max 0 (min (k:j_) n)else max (-1) (min (k:j_) (n-1)))=((min (k:j_).toNat n:g_):j_):=by rw[iH (by decide),mE,_k];exact Int.max_eq_right (Int.le_min.mpr ⟨n! _,n! _⟩)
def Ju(lo c:f_ j_)(n:g_):(sX lo c d_ n).1=((HT.l9 n 0 lo:g_):j_)/\(sX lo c d_ n).2.1=((HT.l9 n n c:g_):j_)/\(sX lo c d_ n).2.2=1:=by
 refine⟨?_,?_,_6⟩
 .cases lo with
  |none=>simp[sX,HT.l9]
  |some i=>
   simp only[sX,HT.l9,V?]
   by_cases h:i<0
   .simp only[h,_g]<;>lia
   .simp only[h,_l];obtain⟨k,rfl⟩:=sY (o!.mp h);exact DV k n
 .cases c with
  |none=>simp[sX,HT.l9]
  |some i=>
   simp only[sX,HT.l9,V?]
   by_cases h:i<0
   .simp only[h,_g]<;>lia
   .simp only[h,_l];obtain⟨k,rfl⟩:=sY (o!.mp h);exact DV k n
def F8(c:b_ jB)(lo d:f_ j_):slicePick c.toArray lo d d_=((c.drop (HT.l9 c.length 0 lo)).take (HT.l9 c.length c.length d-HT.l9 c.length 0 lo)).toArray:=by obtain⟨g,f,e⟩:=Ju lo d c.toArray.size;unfold slicePick;rw[g,f,e];simp only[sliceRange_one,pick_run]<;>rfl
inductive rSlL(K:iL)(x:V)(lo:f_ j_)(hi:f_ j_)(H:Hp)(Q:VK):Prop
 |mk (a xs) (_:x=.ref a) (_:gL K H a xs) (_:∀p,H p=d_->Q (.ref p) (eT H p (.au (Io xs lo hi)))):rSlL K x lo hi H Q
def LJ:SlR X (rSlL X.K):=by intro d s Z H x v p o lo n u Q I f m g pu h;obtain⟨a,xs,rfl,l,q⟩:=h;cases f;obtain⟨i,r,e,j⟩:=I.list l;have c:=r.length;refine⟨"list",_,slot_list_getitem.lookup,e.isList.typeIs,(wpAny_getItem_list_slice e.isList m g pu .none (by simp) ?_ (by rw[jS]<;>lia))⟩;rw[F8,<-c];refine⟨.ref s.1.1.size,_,I.laid (λb w q=>iE _ q) (iF _) ?_,_6,q _ (I.fg.fresh (iF _))⟩;exact⟨kC (Bz xs lo n) j,_,0,(r.drop _).take _,iS _ _6⟩
def ie.or(h:ie X f r)(i:ie X f g):ie X f (λxs H Q=>r xs H Q\/g xs H Q):=by
 intro c s Z H xs d Q I e q;obtain q|q:=q
 .exact h c s Z H xs d Q I e q
 .exact i c s Z H xs d Q I e q
def Ii:ie X (.type "list") (λxs H Q=>∃p f,xs=[.ref p]/\(gL X.K H p f\/ng X.K H p f)/\∀l,H l=d_->Q (.ref l) (eT H l (.au f))):=by
 intro j s Z H xs J Q I r h;obtain⟨p,f,rfl,x,q⟩:=h;obtain⟨u,rfl,G⟩:=ny r;cases G;have z:∀c,dL f c->_7 f<=iN->∀d i,_->
   d.get? s.1.1.size=a_ {cls:=.type "list",dict:=d_,data:=.seq c.toArray i,slots:=#[]}->EP X j Z Q _ {s with heap:=d}:=λc g v d i m e=>
  ⟨.ref s.1.1.size,_,I.laid m (iF _) (show ka X.prog X.w _ d _ (.au f)from⟨v,c,i,g,e⟩),_6,q _ (I.fg.fresh (iF _))⟩
 obtain x|x:=x
 .obtain⟨c,g,A,v⟩:=I.list x;have y:=g.length;obtain⟨o,B,E,n,C⟩:=A.isList;exact call_list_seq p (.inl _6) B E C (λd i m e=>z c g v d i m e) (by simp only[jS]<;>lia)
 .obtain⟨c,g,A,v⟩:=I.tuple x;have y:=g.length;obtain⟨o,B,E,n,C⟩:=A;exact call_list_seq p (.inr _6) B E C (λd i m e=>z c g v d i m e) (by simp only[jS]<;>lia)
def Fw:ie X (.type "tuple") (λxs H Q=>∃p c,xs=[.ref p]/\((gL X.K H p c/\∀l,H l=d_->Q (.ref l) (eT H l (.ci c)))\/(ng X.K H p c/\Q (.ref p) H))):=by
 intro j s Z H xs A Q I r h;obtain⟨p,c,rfl,h⟩:=h;obtain⟨u,rfl,x⟩:=ny r;cases x;obtain ⟨i,q⟩|⟨i,q⟩:=h
 .obtain⟨d,f,g,m⟩:=I.list i;have n:=f.length;refine call_tuple_list g.isList (λz y=>?_) (by simp only[jS]<;>lia);have v:=I.h7 (t':=s.toks) y;exact⟨.ref z.objs.size,_,(v.laid (λb o e=>iE _ e) (iF _) (show ka X.prog X.w _ _ _ (.ci c)from⟨m,d,f,k! _ _⟩)),_6,q _ (v.fg.fresh (iF _))⟩
 .obtain⟨d,f,g,m⟩:=I.tuple i;exact call_tuple_same g ⟨.ref p,H,I,_6,q⟩
def fX(K:iL)(T:Y_)(x:V)(H:Hp):Prop:=match x with
 |.str _=>T="str"
 |.int _=>T="int"
 |.ref p=>(T="list"/\∃xs,gL K H p xs)\/(T="tuple"/\∃o,K.lookup p=a_ o/\o.cls=.type "tuple"/\o.dict=d_)\/
   (T="dict"/\((∃c,H p=a_ (.dK c))\/∃c,H p=a_ (.dT c)))\/(T="set"/\∃S n,H p=a_ (.set S n))
 |_=>T_
def VM(I:c5 X m Z H s)(r:ez x v)(ty:fX X.K T x H):
  s.TypeIs v T/\∀a,v=.ref a->∃q,s.1.get? a=a_ q/\q.dict=d_:=by
 cases x with
 |str z=>obtain⟨t,rfl⟩:=r;cases (ty);exact⟨typeIs_str s z t,λY e=>nomatch e⟩
 |int i=>obtain⟨t,rfl⟩:=r;cases (ty);exact⟨x? s i t,λY e=>nomatch e⟩
 |ref p=>
  cases r;obtain ⟨rfl,xs,w⟩|⟨rfl,o,d,y,h⟩|⟨rfl,d⟩|⟨rfl,S,n,d⟩:=ty
  .obtain⟨u,_,l,_⟩:=I.list w;refine⟨l.isList.typeIs,λa e=>?_⟩;cases e;obtain⟨o,n,e,c,h,_⟩:=l;exact⟨o,e,h⟩
  .refine⟨⟨o,I.u6 p o d,y⟩,λa e=>?_⟩;cases e;exact⟨o,I.u6 _ o d,h⟩
  .have z:∃o,s.1.get? p=a_ o/\o.ExactDict:=by
    obtain ⟨g,d⟩|⟨g,d⟩:=d
    .obtain⟨_,_,_,_,o,_,_,e,f,_⟩:=I.fg p _ d;exact⟨o,e,f⟩
    .obtain⟨_,_,_,_,o,_,_,e,f,_⟩:=I.fg p _ d;exact⟨o,e,f⟩
   obtain⟨o,e,f⟩:=z;refine⟨⟨o,e,f.1⟩,λa j=>?_⟩;cases j;exact⟨o,e,f.2.1⟩
  .obtain⟨o,_,_,_,e,f,_⟩:=I.fg p _ d;refine⟨⟨o,e,f.1⟩,λa j=>?_⟩;cases j;exact⟨o,e,f.2.1⟩
 |_=>exact lV ty
def gO(K:iL)(T:Y_)(r:V->b_ V->Hp->VK->Prop)(d:TE)(t:TA):TE:=λZ H Q=>d Z H λx c=>fX K T x c/\t Z c λxs e=>r x xs e Q
variable{o e:Expr}{es:b_ Expr}{to:TE}{t:TA}{name:x_}{apos np:h!}{T id:Y_}{r:V->b_ V->Hp->VK->Prop}
def B8(B:PlainAttrs T)(slot:Slot T name id)(j:typeOf (.builtin id)=Q_ (.type "method_descriptor"))(G:aF X id r)(E:PE X o to)(J:PA X (e::es) t)
  (g:Q! (qH o name X.bi (I_ o X.bi)=I_ o X.bi) Q2!)
  (i:Q! (((nU np (jI (e::es) X.bi)).all (λx=> !x.1)&&(uR np (qU [] X.bi)).all (λx=>x.1.isSome)
  &&decide ((e::es).length+([]:b_ pS).length+(if([]:b_ pS).isEmpty then 0 else 1)<30))=c_) Q2!)
  (f:Q! ((apos.endLine==np.line)=c_) Q2!) (C:Q! (jI (e::es) X.bi=(e_,I_ e X.bi)::jI es X.bi) Q2!) (d:Q! ((nU np (jI es X.bi)).any (·.1)=e_) Q2!):
  PE X (.Call (.Attribute o name apos) (e::es) [] np) (gO X.K T r to t):=by
 intro c s Z H Q I h;refine wpAny_Call_method_late g i f _6 (jf (E c s Z H _ I h) λv w ⟨x,U,n,l,ty,A⟩=>?_);obtain⟨M,L⟩:=VM n l ty;refine⟨T,id,B,slot,j,M,L,?_⟩;have m:=J np c w Z U _ n A;rw[C]at m⊢;exact qY (by show(e_||(nU np _).any _)=e_;rw[d]<;>rfl) (uS (jf m (by rintro q u ⟨p,O,N,y,z⟩;exact G c u Z O x p v q Q N l y z)))
end
def dR(X:Cx)(id:Y_)(r:V->b_ V->Hp->VK->Prop):Prop:=
 ∀(a:b_ (o_×_d))(s:jP)(Z:St)(H:Hp)(x:V)(xs:b_ V)(v:jB)(b:b_ jB)(Q:VK),c5 X a Z H s->ez x v->dL xs b->r x xs H Q->
  jK (jG X.prog X.w) X.A (call (.builtin id) (v::b)) (EP X a Z Q) X.xe s
def dL.pv:∀{x}{a},dL [x] a->∃u,a=[u]/\ez x u
 |_,_,.cons r .nil=>⟨_,_6,r⟩
def dL.zero:∀{a},dL [] a->a=[]
 |_,.nil=>rfl
theorem dL.eraseIdx:∀{xs}{a} i,dL xs a->dL (xs.eraseIdx i) (a.eraseIdx i)
 |_,_,_,.nil=>.nil
 |_,_,0,.cons _ t=>t
 |_,_,i+1,.cons r t=>.cons r (dL.eraseIdx i t)
theorem Gx:∀(l:b_ α) i,(l.eraseIdx i).length<=_7 l
 |[],_=>iF _
 |_::_,0=>oO _
 |_::r,i+1=>Nat.succ_le_succ (Gx r i)
section
variable{X:Cx}{c7:b_ (o_×_d)}{Z:St}{H:Hp}{s:jP}{l b:o_}{xs ys zs:b_ V}
def c5.lset{c:b_ jB}(I:c5 X c7 Z H s)(m:H l=a_ (.au xs))
  (e:s.1.get? l=a_ {cls:=.type "list",data:=.seq c.toArray n})(i:f c.toArray=a.toArray)(g:dL ys a)(d:_7 ys<=iN):
  c5 X c7 Z (eT H l (.au ys)) {s with heap:=s.1.update l (vV f),toks:=o}:=by
 have q:=PySem.IsL.update e f;rw[i]at q;refine I.qy (by rw[m];exact trivial) (.inl _6) (λp u j h=>(mJ s.1 _ (pE j)).trans h) ⟨_,q⟩ ?_;exact⟨d,a,_,g,q⟩
def c5.lnew(I:c5 X c7 Z H s)(d:dL ys a)(c:_7 ys<=iN):
  c5 X c7 Z (eT H s.1.1.size (.au ys)) {s with heap:=s.1.push {cls:=.type "list",data:=.seq a.toArray},toks:=t'}:=
 I.laid (λz z q=>iE _ q) (iF _) ⟨c,a,0,d,iS _ _6⟩
def c5.fresh(I:c5 X c7 Z H s):H s.1.1.size=d_:=I.fg.fresh (iF _)
def c5.lstM(I:c5 X c7 Z H s)(c:H l=a_ (.au xs)):_7 xs<=iN/\∃(a:b_ jB) (n:g_),dL xs a/\_7 xs=_7 a/\s.1.get? l=a_ {cls:=.type "list",data:=.seq a.toArray n}:=by obtain⟨z,a,n,r,e⟩:=I.fg l _ c;exact⟨z,a,n,r,r.length,e⟩
def Ma(h:n<=iN):qI n=e_:=i_ (by lia)
end
section
variable{X:Cx}
inductive rAppend(x:V)(vs:b_ V)(H:Hp)(Q:VK):Prop
 |mk (l xs y) (_:x=.ref l) (_:vs=[y]) (_:H l=a_ (.au xs)) (_:_7 xs<iN) (_:Q .fD (eT H l (.au (xs++[y])))):rAppend x vs H Q
def xr:dR X "list.append" rAppend:=by
 intro b s Z H x i v j Q I d f h;obtain⟨l,xs,y,rfl,rfl,c,m,q⟩:=h;cases d;obtain⟨u,rfl,g⟩:=f.pv;obtain⟨z,a,n,r,o,e⟩:=I.lstM c;refine sQ F.slot_list_append ⟨_,e,_6⟩ F.entry_list_append (F.args_list_append_2 _ _) (PySem.list_append l a.toArray n u (by rw[jS];lia)) ⟨e,⟨.fD,_,I.lset c e (by simp) (r.append (.cons g .nil)) ?_,_6,q⟩⟩;rw[iO,nC]
 lia
inductive rPopAt(x:V)(vs:b_ V)(H:Hp)(Q:VK):Prop
 |mk (l xs i k y) (_:x=.ref l) (_:vs=[.int i]) (_:H l=a_ (.au xs)) (_:-(2^63)<=i) (_:i<2^63) (_:wX i (_7 xs)=a_ k) (_:xs[k]?=a_ y) (_:Q y (eT H l (.au (xs.eraseIdx k)))):rPopAt x vs H Q
def AY:dR X "list.pop" rPopAt:=by
 intro c s Z H x B v C Q I f g h;obtain⟨l,xs,i,k,y,rfl,rfl,d,A,p,G,m,q⟩:=h;cases f;obtain⟨u,rfl,j⟩:=g.pv;obtain⟨t,rfl⟩:=j;obtain⟨z,b,n,r,o,e⟩:=I.lstM d;obtain⟨w,E,a⟩:=r.get m;refine sQ F.slot_list_pop ⟨_,e,_6⟩ F.entry_list_pop (F.args_list_pop_2 _ _)
  (MeetsSeq.list_pop_at l b.toArray n i t k w (fitsIndex_both A p) (by rwa[jS,<-o]) (by rwa[<-jO]) (by rw[jS];lia)) ⟨e,?_⟩
 refine⟨y,_,I.lset d e ?_ (r.eraseIdx k) ?_,a,q⟩
 .rw[tX]
 .have:=Gx xs k
  lia
end
section
variable{κ:Type}[P_ κ]
noncomputable def mw(a:b_ (κ×V))(k:κ):f_ V:=(a.find? λb=>decide (b.1=k)).map (·.2)
noncomputable def ku(a:b_ (κ×V))(k:κ)(v:V):b_ (κ×V):=
 if(a.any λb=>decide (b.1=k))=c_ then a.map (λb=>if b.1=k then(b.1,v)else b)else a++[(k,v)]
def Ni:mw ([]:b_ (κ×V)) k=d_:=rfl
def qq{k:κ}(e:p.1=k):mw (p::r) k=a_ p.2:=by simp[mw,e]
def ma{k:κ}(e:¬p.1=k):mw (p::r) k=mw r k:=by simp[mw,e]
def Nh(k:κ):∀a,(a.any λc=>decide (c.1=k))=(mw a k).isSome:=by
 intro b;induction b with
 |nil=>exact _6
 |cons p r d=>
  rw[mZ]
  by_cases e:p.1=k
  .simp only[qq e,m_ e,Bool.true_or,Option.isSome_some]
  .rwa[ma e,i_ e,Bool.false_or]
def Lq(a:b_ (κ×V))(k:κ)(v:V):(ku a k v).length<=_7 a+1:=by
 unfold ku;split
 .rw[iD];lia
 .rw[iO,iC,lB];lia
def pc.isSome_eq(r:pc o u):o.isSome=u.isSome:=by
 cases o with
 |none=>cases u with
  |none=>rfl
  |some _=>exact(r).elim
 |some _=>cases u with
  |none=>exact(r).elim
  |some _=>rfl
def pc.getD(r:pc o u)(a:ez d b):ez (o.getD d) (u.getD b):=by
 cases o with
 |none=>cases u with
  |none=>exact a
  |some _=>exact(r).elim
 |some _=>cases u with
  |none=>exact(r).elim
  |some _=>exact r
def KV.val(r:KV c g)(k:κ):pc (mw c k) (l? g k):=by
 induction r with
 |nil=>exact qG
 |@cons p q i a h t j=>
  obtain⟨f,l⟩:=h
  by_cases e:p.1=k
  .have d:=f.symm.trans e;have b:l? (q::a) k=a_ q.2:=by simp[l?,d]
   rwa[qq e,b]
  .have d:¬q.1=k:=λz=>e (f.trans z);have b:l? (q::a) k=l? a k:=by simp[l?,d]
   rwa[ma e,b]
def KV.any(r:KV a c)(k:κ):(a.any λb=>decide (b.1=k))=c.any λb=>decide (b.1=k):=by
 induction r with
 |nil=>rfl
 |cons h t d=>rw[mZ,mZ,d,h.1]
def KV.repl(r:KV c d)(k:κ)(f:ez y u):
  KV (c.map λa=>if a.1=k then(a.1,y)else a) (d.map λa=>if a.1=k then(a.1,u)else a):=by
 induction r with
 |nil=>exact .nil
 |@cons p q l j h t g=>
  rw[iJ,iJ];refine .cons ?_ g;obtain⟨b,i⟩:=h
  by_cases e:p.1=k
  .rw[iH e,iH (b.symm.trans e)];exact⟨b,f⟩
  .rw[iG e,iG (λz=>e (b.trans z))];exact⟨b,i⟩
def KV.put(r:KV a b)(k:κ)(c:ez y u):KV (ku a k y) (stored b k u):=by
 unfold ku stored;rw[r.any k]
 by_cases e:(b.any λd=>decide (d.1=k))=c_
 .rw[iH e,iH e];exact r.repl k c
 .rw[iG e,iG e];exact Paired.snoc r ⟨_6,c⟩
def KV.length{a:b_ (κ×V)}{b:b_ (κ×jB)}(r:KV a b):_7 a=_7 b:=sH r
end
def Sd(r:ez (kV k) u):(bg P w).is k u=c_:=by
 cases k with
 |inl i=>obtain⟨t,e⟩:=r;subst e;exact L5 P w i t
 |inr x=>obtain⟨t,e⟩:=r;subst e;exact L6 P w x t
def Va:∀{b}{d},dL (b.map kV) d->ItemsAre (bg P w) b d:=by
 intro a;induction a with
 |nil=>rintro _ r;cases r;exact .nil
 |cons k b c=>
  rintro _ r
  cases r with
  |cons h t=>exact .cons (Sd h) (c t)
abbrev KT(H:Hp):b_ (fm×V)->b_ (fm×o_×jB)->Prop:=Paired λp q=>p.1=q.1/\mo H p.1 q.2.1/\ez p.2 q.2.2
def KT.val(r:KT H c xs)(k:fm):pc (mw c k) ((xT xs k).map (·.2)):=by
 induction r with
 |nil=>exact qG
 |@cons p q g a h t i=>
  obtain⟨f,_,j⟩:=h
  by_cases e:p.1=k
  .have d:=f.symm.trans e;have b:xT (q::a) k=a_ q.2:=by simp[xT,d]
   rwa[qq e,b]
  .have d:¬q.1=k:=λz=>e (f.trans z);have b:xT (q::a) k=xT a k:=by simp[xT,d]
   rwa[ma e,b]
def KT.repl(r:KT H b xs)(k:fm)(f:ez y u):
  KT H (b.map λc=>if c.1=k then(c.1,y)else c) (xs.map (putAt k u)):=by
 induction r with
 |nil=>exact .nil
 |@cons p q l j h t g=>
  rw[iJ,iJ];refine .cons ?_ g;obtain⟨a,d,i⟩:=h;unfold putAt
  by_cases e:p.1=k
  .rw[iH e,iH (a.symm.trans e)];exact⟨a,d,f⟩
  .rw[iG e,iG (λz=>e (a.trans z))];exact⟨a,d,i⟩
def KT.put(r:KT H a xs)(k:fm)(f:mo H k b)(c:ez y u):
  KT H (ku a k y) (wD xs k b u):=by
 have e:(a.any λd=>decide (d.1=k))=(xT xs k).isSome:=by rw[Nh,(r.val k).isSome_eq,Option.isSome_map]
 unfold ku wD;rw[e]
 by_cases q:(xT xs k).isSome=c_
 .rw[iH q,iH q];exact r.repl k c
 .rw[iG q,iG q];exact Paired.snoc r ⟨_6,f,c⟩
def KT.keeps(r:KT H a xs)(d:∀b c,H b=a_ (.ci c)->e b=a_ (.ci c)):KT e a xs:=
 Paired.mapP r λy y z=>⟨z.1,z.2.1.be d,z.2.2⟩
section
variable{P:kR}{w:mG}{H:Hp}{h:C_}{a:o_}
def NL(ok:l0 P w H h)(e:Rd H a u):ka P w H h a u:=e.ok ok
def Kt(ok:l0 P w H h)(e:Rd H a (.dK b)):_7 b<=iN/\(a==oV)=e_/\∃c,KV b c/\h.DictOf (bg P w) a c:=
 NL ok e
def WD(ok:l0 P w H h)(e:H a=a_ (.dK b)):_7 b<=iN/\(a==oV)=e_/\∃c,KV b c/\h.DictOf (bg P w) a c:=Kt ok (.inl e)
def HE(ok:l0 P w H h)(e:H a=a_ (.ci (c.map kV))):nS (bg P w) h c a:=by obtain⟨_,b,r,o,g,f,n,d⟩:=ok a _ e;exact⟨o,b.toArray,n,g,f,d,by simpa using Va r⟩
theorem uj(ok:l0 P w H h):∀{f}{c}{d},NkL H f c->dL c d->hG P w h f d
 |[],c,d,e,r=>by rw[e]at r;cases r;exact _6
 |.inl k::f,c,d,i,r=>by
  obtain⟨v,t,e,q,l⟩:=i;subst e;cases r with
  |cons m j=>exact⟨_,_,_6,Sd (by rwa[<-q]),uj ok l j⟩
 |.inr o::f,c,d,g,r=>by
  obtain⟨v,t,e,⟨b,n,q⟩,l⟩:=g;subst e n;cases r with
  |cons m j=>exact⟨_,_,_6,⟨b,m,HE ok q⟩,uj ok l j⟩
def A9(ok:l0 P w H h)(e:mo H c a):(gj P w).is h c a:=by obtain⟨i,e,nk⟩:=e;obtain⟨_,b,r,o,g,f,n,d⟩:=ok a _ e;exact⟨o,b.toArray,n,g,f,d,by simpa using uj ok nk r⟩
def Kv(ok:l0 P w H h)(e:Rd H a (.dT c)):_7 c<=iN/\(a==oV)=e_/\
  ∃xs,KT H c xs/\h.DictOfH (gj P w) a xs:=by
 obtain⟨z,y,xs,r,o,u,v,s,n,j,i,g⟩:=NL ok e;refine⟨z,y,xs,r,o,u,v,s,n,j,i,λx b=>?_,g⟩;have all:∀{l}{m},KT H l m->∀x∈m,(gj P w).is h x.1 x.2.1:=by
  intro l m q;induction q with
  |nil=>intro x b;exact nomatch b
  |@cons p q B A d t f=>
   intro x b;rcases l_.mp b with e|b
   .subst e;exact A9 ok (by rw[<-d.1];exact d.2.1)
   .exact f x b
 exact all r x b
def Yc(ok:l0 P w H h)(e:H a=a_ (.dT b)):_7 b<=iN/\(a==oV)=e_/\
  ∃xs,KT H b xs/\h.DictOfH (gj P w) a xs:=Kv ok (.inl e)
end
def DGet(H:Hp)(a:o_)(y:V)(r:f_ V):Prop:=
 (∃c k,Rd H a (.dK c)/\y=kV k/\r=mw c k)\/∃c k b,Rd H a (.dT c)/\y=.ref b/\mo H k b/\r=mw c k
def DPut(H:Hp)(a:o_)(y v:V)(d:Hp):Prop:=
 (∃c k,H a=a_ (.dK c)/\y=kV k/\_7 c<iN/\d=eT H a (.dK (ku c k v)))\/
 ∃c k b,H a=a_ (.dT c)/\y=.ref b/\mo H k b/\_7 c<iN/\d=eT H a (.dT (ku c k v))
def DGet.k{k:vz}(e:H a=a_ (.dK b)):DGet H a (kV k) (mw b k):=.inl ⟨b,k,.inl e,_6,_6⟩
def DPut.k{H:Hp}{a:o_}{b:b_ (vz×V)}{k:vz}{v:V}(e:H a=a_ (.dK b))(c:_7 b<iN):DPut H a (kV k) v (eT H a (.dK (ku b k v))):=.inl ⟨b,k,e,_6,c,_6⟩
def DPut.t{H:Hp}{a b:o_}{c:b_ (fm×V)}{k:fm}{v:V}(e:H a=a_ (.dT c))(f:mo H k b)(d:_7 c<iN):
  DPut H a (.ref b) v (eT H a (.dT (ku c k v))):=.inr ⟨c,k,b,e,_6,f,d,_6⟩
section
variable{X:Cx}{c7:b_ (o_×_d)}{Z:St}{H:Hp}{s:jP}{a:o_}{y v:V}{u r:jB}{o:f_ V}{A:oN}{E:jB->jP->Prop}
def c5.big(I:c5 X c7 Z H s):oV<s.1.1.size:=tJ (by decide) ((I.tz.se.keeps I.bk).lt)
def Ui(B:A.units+5<lN)(I:c5 X c7 Z H s)(g:DGet H a y (a_ v))(x:ez y u)(h:∀d q,c5 X c7 Z H q->ez v d->Q d q):
  jK (jG X.prog X.w) A (xJ (.ref a) u) Q E s:=by
 obtain ⟨f,k,e,m,l⟩|⟨f,k,b,e,m,J,l⟩:=g
 .subst m;obtain⟨z,G,L,rel,n⟩:=Kt I.fg e;obtain⟨d,i,c⟩:=pc.some_of (by rw[l];exact rel.val k);exact wpAny_getItem_of (Sd x) n.mapOf i (h d _ (I.qd _) c)
 .subst m;cases (x);obtain⟨z,G,xs,rel,n⟩:=Kv I.fg e;obtain⟨d,i,c⟩:=pc.some_of (by rw[l];exact rel.val k);obtain⟨p,C,j⟩:=Option.map_eq_some_iff.mp i;refine wpAny_getItem_heap (lx B) (A9 I.fg J) n C ?_;rw[j];exact h d _ (I.qd _) c
def Ri(I:c5 X c7 Z H s)(e:WO (H a))(f:kZ a s.1 c)(g:∃q,c.get? a=a_ q)(new:ka X.prog X.w (eT H a d) c a d):
  c5 X c7 Z (eT H a d) {s with heap:=c,toks:=i}:=
 I.qy e (.inl _6) (λb q h z=>(f.2 b h).trans z) g new
end
def Ks(I:c5 X f Z H s)(g:DGet H a y o):s.TypeIs (.ref a) "dict":=by
 obtain ⟨c,k,e,_,_⟩|⟨c,k,b,e,_,_,_⟩:=g
 .obtain⟨_,_,h,_,d⟩:=Kt I.fg e;exact d.typeIs
 .obtain⟨_,_,xs,_,d⟩:=Kv I.fg e;exact d.typeIs
def Ku(h:C_)(a:oV<h.objs.size):ka P w H (h.push {cls:=.type "dict",data:=.dict #[]}) h.objs.size (.dT []):=
 ⟨jW _,G_.mpr (pE (jJ a)),[],.nil,_,#[],0,iS _ _6,⟨_6,_6,_6⟩,_6,_6,nE⟩
def EZ:TE:=λz H Q=>∀p,H p=d_->Q (.ref p) (eT H p (.dT []))
section
variable{X:Cx}{pos:h!}
def BY:PE X (.Dict [] [] pos) EZ:=λa s Z H Q I h=>
 wpAny_Dict_empty ⟨.ref s.1.1.size,_,I.laid (t':=s.toks) (λz z q=>iE _ q) (iF _) (Ku s.1 I.big),_6,h _ (I.fg.fresh (iF _))⟩
end
def Z5(b a:b_ (vz×V)):b_ (vz×V):=a.foldl (λc d=>ku c d.1 d.2) b
def KV.merge:∀{a}{d}{b}{c},KV a d->KV b c->KV (Z5 b a) (merged c d):=by
 intro a d b c r;induction r generalizing b c with
 |nil=>intro q;exact q
 |@cons p q j i h t g=>
  intro f;have e:KV (ku b p.1 p.2) (stored c q.1 q.2):=by have:=f.put p.1 h.2;rwa[<-h.1]
  exact g e
structure M2(X:Cx)(o:Expr)(m:x_)(apos:h!)(e f:Expr)(np:h!):Prop where
 base:qH o m X.bi (I_ o X.bi)=I_ o X.bi
 few:((nU np (jI [e,f] X.bi)).all (λx=> !x.1)&&(uR np (qU [] X.bi)).all (λx=>x.1.isSome)
 &&decide (([e,f]:b_ Expr).length+([]:b_ pS).length+(if([]:b_ pS).isEmpty then 0 else 1)<30))=c_
 line:(apos.endLine==np.line)=c_
 trees:nU np (jI [e,f] X.bi)=[(e_,I_ e X.bi),(e_,I_ f X.bi)]
def fR(H:Hp)(a:o_):Prop:=(∃b,Rd H a (.dK b))\/∃b,Rd H a (.dT b)
def Za(I:c5 X l Z H s)(d:fR H a):
  s.TypeIs (.ref a) "dict"/\(∀b,pW a=.ref b->∃c,s.1.get? b=a_ c/\c.dict=d_)/\(a==oV)=e_:=by
 obtain ⟨g,e⟩|⟨g,e⟩:=d
 .obtain⟨_,h,m,_,f⟩:=Kt I.fg e;refine⟨f.typeIs,λb q=>?_,h⟩;cases q;obtain⟨c,_,_,j,i,_⟩:=f;exact⟨c,j,i.2.1⟩
 .obtain⟨_,h,xs,_,f⟩:=Kv I.fg e;refine⟨f.typeIs,λb q=>?_,h⟩;cases q;obtain⟨c,_,_,j,i,_⟩:=f;exact⟨c,j,i.2.1⟩
section
variable{X:Cx}{c7:b_ (o_×_d)}{Z:St}{H:Hp}{s:jP}{a:o_}{y d:V}{u r:jB}{o:f_ V}{A:oN}{E:jB->jP->Prop}
def PV(v:A.units+5<lN)(I:c5 X c7 Z H s)(g:DGet H a y o)(p:ez y u)(q:ez d r)(h:∀m n,c5 X c7 Z H n->ez (o.getD d) m->Q m n):
  jK (jG X.prog X.w) A (call (.builtin "dict.get") [.ref a,u,r]) Q E s:=by
 obtain ⟨f,k,e,j,l⟩|⟨f,k,b,e,j,x,l⟩:=g
 .subst j;obtain⟨z,i,B,rel,c⟩:=Kt I.fg e;refine xK uA c.typeIs _Q (_H _ _ _) (meets_dict_get_default _ a (Sd p) i r) ⟨_,c.mapOf,h _ _ (I.qd _) ?_⟩;rw[l];exact(rel.val k).getD q
 .subst j;cases (p);obtain⟨z,i,xs,rel,c⟩:=Kv I.fg e;refine xK uA c.typeIs _Q (_H _ _ _) (meetsH_dict_get_default _ a b i r) ⟨lx v,k,xs,A9 I.fg x,c,h _ _ (I.qd _) ?_⟩;rw[l];exact(rel.val k).getD q
end
def VX(e ty d:TE):TE:=λZ H Q=>e Z H λx c=>∃a,x=.ref a/\fR c a/\ty Z c λy f=>d Z f λz b=>∃o,DGet b a y o/\Q (o.getD z) b
section
variable{X:Cx}{o e f:Expr}{apos np:h!}{td ty tx:TE}
def BZ(E:X.A.units+5<lN)(G:PE X o td)(L:PE X e ty)(J:PE X f tx)(m:M2 X o "get" apos e f np):PE X (.Call (.Attribute o "get" apos) [e,f] [] np) (VX td ty tx):=by
 intro b s Z H Q I h;refine wpAny_Call_method m.base m.few m.line qP uA PySem.F.type_dict_get (jf (G b s Z H _ I h) λu p ⟨x,H1,i,v,a,M,d,C⟩=>?_);subst M;obtain rfl:u=pW a:=v;obtain⟨l,j,_⟩:=Za i d;refine⟨l,j,?_⟩;rw[m.trees];refine qY _6 (uS (qX (jf (L b p Z H1 _ i C) λiv n ⟨y,Y,T,r,B⟩=>
  qX (jf (J b n Z Y _ T B) λfv s3 ⟨z,U,O,q,ov,g,w⟩=>wC ?_))))
 exact PV E O g r q λw' s4 N c=>⟨_,U,N,c,w⟩
end
end L2
namespace Att
open PySem.W PySem.Calls
def Cu:∀c d,WellAll P h d (c.map WData.int)->p! d c:=by
 intro c;induction c with
 |nil=>intro d w;cases w;exact .nil
 |cons n c e=>
  intro d w;cases w with
  |cons a b=>cases a;exact .cons _ _ (e _ b)
def Wl{l:_m}(v:l.most=a_ n)
  (c:l.row.toRowW.claim.pre e=c_)(j:WellAll P h vals e):
  ∃a o b,vals=[pW a]/\e=[WData.list (b.map WData.int)]/\h.get? a=a_ {cls:=.type "list",data:=.seq o.toArray}/\p! o b/\_7 b<=n:=by
 obtain⟨d,r,rfl,y,x⟩:=hasAllW_cons ((pre_splitW c).1);obtain rfl:=hasAllW_nil x;obtain⟨xs,rfl,w⟩:=hasW_list y;obtain⟨b,rfl⟩:=items_int w;have f:_7 b<=n:=by
  have i:(WTm.not (.lt (.lit (.int (n:j_))) (.len (.arg 0)))).holds [] {args:=[.list (b.map .int)]}=c_:=by have i:=(holds_andW ((pre_splitW c).2)).1;rw[v]at i;exact i
  have m:=condW_of i (w_not (w_lt w_lit (w_len_list (w_arg _6))));refine wY λq=>?_
  first
   |(rw[m_ z]at m;exact t_ m (by decide))
   |(simp at m;lia)
 cases j with
 |cons s p=>
  cases p;cases s with
  |list u g=>exact⟨_,_,b,_6,_6,u,Cu b _ g,f⟩
def Wd(l:_m)(a:b_ WData):l.row.toRowW.claim.post a (.bool c_) a=c_:=
 postW_of
  (show WShape.has [] _ .bool=c_ by first|rfl|decide|simp[WShape.has])
  (w_eq_bool (w_res _6) w_lit) _6
def Ka{l:_m} 
  (N:l.most=a_ n)(C:d.params.defaults=[])
  (call:∀w c b mg z s o y x h a i v,
   Ground q e [] XP w c mg z b.1->YP w b.1->
   b.1.get? s=a_ o->o.data=.func (docDef d.name d.params d.body d.scope y x h)->b.1.CodeRec x d.name->mg d.name=a_ (.ref s)->
   b.1.get? a=a_ {cls:=.type "list",data:=.seq i.toArray}->p! i v->_7 v<=n->b.gens=#[]->
   pR (jG l.prog w) m? (.call (.ref s) ⟨[.ref a],[]⟩) (λr u=>r=.ok (.ret (.bool c_))/\OldK b.1 u.1/\u.os=b.os/\wA u.gens) b):
  WalkO q e XP YP l.row.toRowW d [] (λf i=>PySem.call f i):=by
 intro w c b mg z G Y s o y x h dV kV M U E hD B T I vals as j H J A Q;obtain rfl:dV=.none:=Dflts.none hD C;obtain rfl:kV=.none:=Dflts.noKw hD;obtain⟨a,i,v,rfl,rfl,m,g,p⟩:=Wl N j A;refine enter_call (oK (call w c b mg z s o y x h a i v G Y M (fd_plain U) E B m g p T) λr u L=>?_);obtain⟨rfl,h2,h3,h4⟩:=L;exact⟨.inl ⟨.bool c_,.bool c_,[],_6,λW=>rfl,.bool c_,Wd l _,λW=>⟨qB,λW O=>(nomatch O)⟩⟩,h2,h3,h4⟩
end Att
namespace L2
theorem Hr:∀{a}{b},p! a b->dL (b.map V.int) a
 |_,_,.nil=>.nil
 |_,_,.cons n t h=>.cons ⟨t,_6⟩ (Hr h)
set_option bootstrap.genMatcherCode true in
def ig(s:S_):wV:=match s with
 |.FunctionDef _ a _ _ _ _ _ _ _ _=>a
 |_=>{posonlyargs:=[],args:=[],vararg:=d_,kwonlyargs:=[],kw_defaults:=[],kwarg:=d_,defaults:=[]}
set_option bootstrap.genMatcherCode true in
def d8(s:S_):b_ S_:=match s with
 |.FunctionDef _ _ b _ _ _ _ _ _ _=>b
 |_=>[]
set_option bootstrap.genMatcherCode true in
def bp(s:S_):pA:=match s with
 |.FunctionDef _ _ _ _ _ _ a _ _ _=>a
 |_=>{kind:=.function,names:=[],isGenerator:=e_,isCoroutine:=e_}
abbrev W8:FQ:=λz z z z z z=>T_
abbrev E0:XK:=λz z z=>T_
def YQ:oo W8 X E0:=λz z z z z z z h=>h.elim
structure Fun(K:iL)(x qual:x_)(st:S_)(f:o_)(fd:vT):Prop where
 ex:∃(oc:jB) (od:f_ o_) (kV doc pm:jB) (an:f_ o_) (cdv ct:jB) (osl:p_ (f_ jB)),
  fd=lI x qual (ig st) (d8 st) (bp st) .none kV doc pm an cdv ct/\K.lookup f=a_ ⟨oc,od,.func fd,osl⟩/\nD K cdv qual=c_
 kp:mC K (.ref f)=c_
section
variable{P:kR}{w:mG}{K:iL}{mg:x_->f_ jB}{base:C_}
def Fun.sn{st:S_}(F:Fun K x c st f m)
  (h:∀kV a e g b ct d,_7 d=_7 i->t? (lI x c (ig st) (d8 st) (bp st) .none kV a e g b ct) ⟨d,[]⟩=Q_ (i.zip d)):lv K m i []:=by
 obtain⟨n,od,kV,a,e,g,b,ct,j,rfl,o,l⟩:=F.ex;exact .all (h kV a e g b ct)
def Yr{st:S_}{kV b e ct:jB}(l:K.lookup f=a_ ⟨i,od,.func (lI x a (ig st) (d8 st) (bp st) .none kV b e h d ct),g⟩)
  (c:nD K d a=c_)(k:mC K (.ref f)=c_):Fun K x a st f (lI x a (ig st) (d8 st) (bp st) .none kV b e h d ct):=⟨⟨i,od,kV,b,e,h,d,ct,g,_6,l,c⟩,k⟩
end
def ca(H a:Hp):Prop:=∀b o,H b=a_ o->a b=a_ o
def ca.refl(H:Hp):ca H H:=λz z h=>h
def ca.trans(a:ca H e)(b:ca e d):ca H d:=λc o h=>b c o (a c o h)
def ca.seq{K:iL}(e:ca H b)(h:gL K H a xs):gL K b a xs:=by
 rcases h with (h|⟨o,h⟩)|h
 .exact .inl (.inl (e _ _ h))
 .exact .inl (.inr ⟨o,e _ _ h⟩)
 .exact .inr h
end L2
namespace HT
section
def UN(n d:g_)(b:d<=n)(o:f_ j_):l9 n d o<=n:=by
 cases o with
 |none=>exact b
 |some v=>
  show(if v<0 then(v+(n:j_)).toNat else min v.toNat n)<=n
  by_cases a:v<0
  .rw[iH a];lia
  .rw[iG a];exact uE _ _
def Re(v:j_)(n d:g_):(if v<0 then max (v+(n:j_)) 0 else min v (n:j_))=((l9 n d (a_ v):g_):j_):=by
 show(if v<0 then max (v+(n:j_)) 0 else min v (n:j_))=(((if v<0 then(v+(n:j_)).toNat else min v.toNat n):g_):j_)
 by_cases a:v<0
 .simp only[iH a];lia
 .obtain⟨k,rfl⟩:=sY (o!.mp a);rw[iG a,iG a];exact(_k k n).symm
def Nt(lo a:f_ j_)(n:g_):sE lo a 1 (n:j_)=(((l9 n 0 lo:g_):j_),((l9 n n a:g_):j_)):=by
 have b:¬((1:j_)<0):=by lia
 unfold sE;simp only[b];refine Prod.ext ?_ ?_
 .cases lo with
  |none=>rfl
  |some v=>exact Re v n 0
 .cases a with
  |none=>rfl
  |some v=>exact Re v n n
def Pv(i j:g_):pU (i:j_) (j:j_) 1=j-i:=by
 unfold pU;have a:(1:j_)>0:=by lia
 simp only[a,_g];split<;>lia
def Ff(p:xI v o)(h:Q o s):jK (jG a w) A (Builtin.Slice.slicePartIndex v) Q E s:=by
 cases p with
 |none=>exact slicePart_none h
 |int i t=>exact slicePart_int h
def tw{lo:f_ j_}{n:g_}(j:s.1.IsSliceOf g e d .none)(i:xI e lo)(pu:xI d c)
  (h:Q (((l9 n 0 lo:g_):j_),1,l9 n n c-l9 n 0 lo) s):jK (jG f w) A (_j (.ref g) (Q_ (n:j_))) Q E s:=by
 obtain⟨os,a,l,b⟩:=id j;unfold _j Builtin.Slice.sliceFields;refine iA (iA (sZ a b (x:=e) _6 (iA (sZ a b (x:=d) _6 (iA (sZ a b (x:=.none) _6 (iB (iA (slicePart_none ?_)))))))));show jK _ _ (if((1:j_)==0)=c_ then _ else _) _ _ s;rw[iG (by decide)];refine iA (Ff i (iA (Ff pu (iA (iB ?_)))));show jK _ _ (match sE lo c 1 (n:j_)with|(lo,c)=>Q_ (lo,(1:j_),pU lo c 1)) _ _ s;rw[Nt lo c n];show jK _ _ (Q_ (((l9 n 0 lo:g_):j_),(1:j_),pU ((l9 n 0 lo:g_):j_) ((l9 n n c:g_):j_) 1)) _ _ s;rw[Pv];exact iB h
def BP(xs:p_ jB)(i k:g_):((jD k).filterMap λ(m:g_)=>xs[((i:j_)+(m:j_)*1).toNat]?).toArray=((xs.toList.drop i).take k).toArray:=by
 have e:(λ(m:g_)=>xs[((i:j_)+(m:j_)*1).toNat]?)=λm=>xs[i+m]?:=by
  funext m
  have:((i:j_)+(m:j_)*1).toNat=i+m:=by lia
  rw[this]
 rw[e];have:=pick_run xs i k;rw[List.filterMap_map]at this;have a:((λx=>xs[x]?) ∘ λx=>i+x)=λm=>xs[i+m]?:=rfl;rw[a]at this;rw[this]
def z9{lo:f_ j_}(d:U? s.1 t a)(o:s.1.IsSliceOf l r p .none)(u:xI r lo)(pu:xI p c)
  (v:¬(l9 a.size 0 lo=0/\l9 a.size a.size c=a.size))
  (h:Q (.ref s.1.1.size) {s with heap:=s.1.push {cls:=.type "tuple",data:=.seq ((a.toList.drop (l9 a.size 0 lo)).take (l9 a.size a.size c-l9 a.size 0 lo)).toArray}})
  (e:a.size<=iN):jK (jG n w) A (xJ (.ref t) (.ref l)) Q E s:=by
 have b:sizeOk (.seq ((a.toList.drop (l9 a.size 0 lo)).take (l9 a.size a.size c-l9 a.size 0 lo)).toArray):=by show((a.toList.drop (l9 a.size 0 lo)).take (l9 a.size a.size c-l9 a.size 0 lo)).toArray.size<=iN;rw[jS,lX,lD,iP];exact kC (uE ..) (kC (Nat.sub_le ..) e)
 have B:l9 a.size a.size c<=a.size:=UN _ _ (iF _) c;obtain⟨os,f,i,x⟩:=id o;have j:s.TypeIs (.ref l) "slice":=⟨os,f,i⟩;unfold xJ
 try with_reducible refine kY ?_
 first|refine iA (iB ?_)|skip
 refine iA (wpAny_sequenceKey d.typeIs (by decide) (iA (lE (name:=y? "__getitem__") d.typeIs oB
  (kL oB d.typeIs entry_tuple_getitem ?_ (args_tuple_getitem _ _)))))
 show jK _ _ (rP (.ref t)>>=_) _ _ s;refine iA (tupleItemsOf_ d (iA (pF j ?_)));rw[iH (by decide)];refine iA (tw o u pu ?_);have g:¬((((l9 a.size 0 lo:g_):j_)==0&&(1:j_)==1&&(l9 a.size a.size c-l9 a.size 0 lo)==a.size)=c_):=by intro q;rw[iQ,iQ]at q;have z:((l9 a.size 0 lo:g_):j_)=0:=nA q.1.1;have y:l9 a.size a.size c-l9 a.size 0 lo=a.size:=nA q.2;exact v ⟨by lia,by lia⟩
 show jK _ _ (if(((l9 a.size 0 lo:g_):j_)==0&&(1:j_)==1&&(l9 a.size a.size c-l9 a.size 0 lo)==a.size)=c_ then _ else _) _ _ s;rw[iG g,BP]
 first
  |exact iA (m:=qJ _) (kX (iB ⟨_,_6,iB h⟩) b)
  |exact iA (m:=qJ _) (kX (iA (iB (iB ⟨_,_6,iB h⟩))) b)
  |exact iA (iA (m:=qJ _) (kX (iB (iB ⟨_,_6,iB h⟩)) b))
  |exact iA (iA (m:=qJ _) (kX (iB ⟨_,_6,iB h⟩) b))
end
end HT
namespace L2
section
theorem dL.rep(h:dL xs a):∀k,dL (iT k xs).flatten (iT k a).flatten
 |0=>.nil
 |k+1=>by rw[qM,qM,nX,nX];exact dL.append h (dL.rep h k)
theorem Gk(a:b_ jB):∀k b,
  _I (λd c=>d++c) b.toArray (iT k a.toArray)=(b++(iT k a).flatten).toArray
 |0,b=>by simp
 |k+1,b=>by
  have e:b.toArray++a.toArray=(b++a).toArray:=by simp
  have f:(b++a)++(iT k a).flatten=b++(iT (k+1) a).flatten:=by rw[qM,nX,kF]
  rw[<-f,<-Gk a k (b++a),<-e,qM,uZ]
inductive rRep(x:V)(y:V)(H:Hp)(Q:VK):Prop
 |mk (l k xs) (_:x=.ref l) (_:y=.int k) (_:H l=a_ (.au xs)) (_:-(2^63)<=k) (_:k<2^63) (_:_7 xs*k.toNat<=iN) (_:∀p,H p=d_->Q (.ref p) (eT H p (.au (iT k.toNat xs).flatten))):rRep x y H Q
def IP(xs:b_ α)(k:g_):(iT k xs).flatten.length=k*xs.length:=by
 induction k with
 |zero=>simp
 |succ k a=>rw[qM,nX,iO,a,Nat.succ_mul,Nat.add_comm]
def RF:lz X (qO .Mult) rRep:=by
 intro p s Z H x y v u Q I C B h;obtain⟨l,k,xs,rfl,rfl,G,L,J,w,q⟩:=h;cases C;obtain⟨t,rfl⟩:=B;obtain⟨z,b,n,r,E,e⟩:=I.lstM G;have f:b.toArray.size*k.toNat<=iN:=by rw[jS,<-E];exact w
 have i:¬b.toArray.size*k.toNat>(2^63-1) / 8:=by
  have:(iN:g_)<=(2^63-1) / 8:=by decide
  lia
 have g:¬(!Builtin.List.listFitsIndex k)=c_:=by rw[fitsIndex_both L J];exact D_
 have c:¬qI (b.toArray.size*k.toNat)=c_:=by rw[Ma f];exact D_
 have d:_I (λo j=>o++j) #[] (iT (if b.toArray.isEmpty=c_ then 0 else k.toNat) b.toArray)=(iT k.toNat b).flatten.toArray:=by
  have M:∀m,_I (λo j=>o++j) #[] (iT m b.toArray)=(iT m b).flatten.toArray:=λm=>by have:=Gk b m [];rw[oX]at this;exact this
  rw[M];cases b with
  |nil=>simp
  |cons a N=>rw[iG (by simp)]
 refine wpAny_binaryOp_repeat_ref (T:="list") (U:="int") (by decide) ⟨_,e,_6⟩ (λA=>x? A k t) noFill_list_mul F.fills_int_mul F.slot_int_rmul repeat_list F.slot_int_index.lookup
  (sQ F.slot_int_rmul (x? s k t) F.entry_int_rmul (F.args_int_rmul_2 _ _) (int___rmul___int_list k t l b.toArray n)
   ⟨e,_6,⟨_,e,_6⟩,sQ F.slot_list_mul ⟨_,e,_6⟩ F.entry_list_mul (F.args_list_mul_2 _ _) (AutoListH.list___mul___list_int_3 l b.toArray n k t g i c) ⟨e,?_⟩⟩)
 rw[d];exact⟨.ref _,_,I.lnew (t':=s.toks) (r.rep k.toNat) (by rw[IP,xM];exact w),_6,q _ I.fresh⟩
def SlR.or(h:SlR X r)(l:SlR X j):SlR X (λx lo b H Q=>r x lo b H Q\/j x lo b H Q):=by
 intro a s Z H x v d c lo b e Q I f i g pu q;obtain q|q:=q
 .exact h a s Z H x v d c lo b e Q I f i g pu q
 .exact l a s Z H x v d c lo b e Q I f i g pu q
inductive rSlT(K:iL)(x:V)(lo:f_ j_)(hi:f_ j_)(H:Hp)(Q:VK):Prop
 |mk (a xs) (_:x=.ref a) (_:ng K H a xs) (_:¬(HT.l9 xs.length 0 lo=0/\HT.l9 xs.length xs.length hi=_7 xs)) (_:∀p,H p=d_->Q (.ref p) (eT H p (.ci (Io xs lo hi)))):rSlT K x lo hi H Q
def UG:SlR X (rSlT X.K):=by
 intro f s Z H x v w u lo e y Q I j p l pu h;obtain⟨a,xs,rfl,m,n,q⟩:=h;cases j;obtain⟨d,r,i,g⟩:=I.tuple m;have c:d.toArray.size=_7 xs:=by rw[jS];exact r.length.symm
 refine⟨"tuple",_,_c.lookup,i.typeIs,(HT.z9 i p l pu (by rw[c];exact n) ?_ (by rw[c];exact g))⟩;rw[c];refine⟨.ref s.1.1.size,_,I.laid (t':=s.toks) (o:=.ci (Io xs lo e)) (λb z q=>iE _ q) (iF _) ?_,_6,q _ (I.fg.fresh (iF _))⟩;exact⟨kC (Bz xs lo e) g,_,(r.drop (HT.l9 xs.length 0 lo)).take (HT.l9 xs.length xs.length e-HT.l9 xs.length 0 lo),k! _ _⟩
end
end L2
namespace Pu
def Na:b_ (o_×o_×x_):=[(156,152,"is_columns.<locals>.<lambda>")]
end Pu
namespace Pu
open L2
abbrev St:=L2.St
structure KA where
 K:iL
 A:x_->o_
instance:CoeOut KA iL:=⟨KA.K⟩
noncomputable def Nl(mg:x_->f_ jB)(x:x_):o_:=match mg x with
 |some (.ref a)=>a
 |_=>0
abbrev kx(X:Cx):KA:=⟨X.K,Nl X.mg⟩
abbrev EK:=x_->Hp->Prop
abbrev ek(K:KA)(E:XK):EK:=λc H=>E (.ref (K.A c)) d_ H
set_option genInjectivity true in
inductive D where
 |fD
 |bl (b:r_)
 |int (i:j_)
 |str (x:x_)
 |ci (ds:b_ D)
 |au (ds:b_ D)
 |js (t:r_) (kvs:b_ (D×D))
 |obj (e:Expr) (fs:b_ (x_×D))
 |fn (f:x_)
noncomputable def kD:vz->D
 |.inl i=>.int i
 |.inr x=>.str x
noncomputable def fb:b_ (x_×vU)->b_ x_
 |[]=>[]
 |(n,k)::r=>if k=.free then n::fb r else fb r
inductive LamC(H:Hp)(params:wV)(body:Expr)(scope:pA)(a:o_)(vs:b_ (x_×V)):Prop
 |mk (qual pm c' ctv cl oc cvs t) (_:H a=a_ (.il (xU "<lambda>" qual params body scope cl pm c' ctv) (.own 0))) (_:H c'=a_ (.il oc (.own 0))) (_:oc.data=.fields cvs) (_:cvs[1]?=a_ (.str qual t))
   (_:∀x y c,cl.lookup x=a_ c->cl.lookup y=a_ c->x=y) (_:∀y,(y,nF)∈scope.names->∃c,cl.lookup y=a_ c) (_:∀y c,cl.lookup y=a_ c->(y,nF)∈scope.names)
   (_:∀y c,cl.lookup y=a_ c->∃o v u,H c=a_ (.il o (.own 0))/\o.data=.cell (a_ u)/\(y,v)∈vs/\ez v u) (_:vs.map (·.1)=fb scope.names):LamC H params body scope a vs
def u7(K:KA)(H:Hp)(e:Expr)(a:o_)(g:b_ (x_×V)):Prop:=match e with
 |.Lambda b f d _=>LamC H b f d a g
 |.Name c _=>∃h,H a=a_ (.ins (K.A c) h g)
 |_=>T_
def u7.be{K:KA}(q:ca H J)(h:u7 K H e a j):u7 K J e a j:=by
 unfold u7 at h⊢;split at h
 .obtain⟨b,l,I,f,G,m,d,t,C,B,A,x,w,s,r,p,n⟩:=h;refine⟨b,l,I,f,G,m,d,t,q _ _ C,q _ _ B,A,x,w,s,r,λy c z=>?_,n⟩;obtain⟨o,v,u,i,g⟩:=p y c z;exact⟨o,v,u,q _ _ i,g⟩
 .obtain⟨E,e⟩:=h;exact⟨E,q _ _ e⟩
 .exact h.elim
def Vu:NK->D
 |.inl k=>kD k
 |.inr a=>.ci (a.map kD)
def kT(k:fm):D:=.ci (k.map Vu)
inductive CK{κ:Type}(c:κ->D)(k:D)(P:V->Prop)(Q:b_ (κ×V)->Prop)(vs:b_ (κ×V)):Prop
 |mk (k' v r) (_:vs=(k',v)::r) (_:k=c k') (_:P v) (_:Q r):CK c k P Q vs
inductive RA{γ:Type}(H:Hp)(c:γ->HO)(Q:γ->Prop)(v:V):Prop
 |mk (a es) (_:v=.ref a) (_:H a=a_ (c es)) (_:Q es):RA H c Q v
inductive RO{γ:Type}(H:Hp)(c:γ->HO)(Q:γ->Prop)(o:f_ V):Prop
 |mk (a es) (_:o=a_ (.ref a)) (_:H a=a_ (c es)) (_:Q es):RO H c Q o
inductive OA{γ:Type}(B G H:Hp)(c:γ->HO)(Q:γ->Prop)(o:f_ (f_ V)):Prop
 |mk (a es) (_:o=a_ (a_ (.ref a))) (_:H a=a_ (c es)) (_:Q es) (_:G a=d_) (_:B a=d_):OA B G H c Q o
inductive DTi(K:iL)(H:Hp)(Q:b_ V->Prop)(v:V):Prop
 |mk (a vs) (_:v=.ref a) (_:ng K H a vs) (_:Q vs):DTi K H Q v
inductive DLi(K:iL)(H:Hp)(Q:b_ V->Prop)(v:V):Prop
 |mk (a vs) (_:v=.ref a) (_:gL K H a vs) (_:Q vs):DLi K H Q v
mutual
def gr(K:KA)(H:Hp):D->V->Prop
 |.fD,v=>v=.fD
 |.bl b,v=>v=.bl b
 |.int i,v=>v=.int i
 |.str x,v=>v=.str x
 |.ci ds,v=>RA H .ci (cr K H ds) v
 |.au ds,v=>DLi K H (cr K H ds) v
 |.js t kvs,v=>∃a,v=.ref a/\((t=e_/\∃es,H a=a_ (.dK es)/\ir K H kvs es)\/(t=c_/\∃o es,H a=a_ (.il o (.dT es))/\hV K H kvs es))
 |.obj e fs,v=>∃a vs,v=.ref a/\u7 K H e a vs/\oD K H fs vs
 |.fn f,v=>v=.ref (K.A f)
def cr(K:KA)(H:Hp):b_ D->b_ V->Prop
 |[],vs=>vs=[]
 |d::ds,vs=>Cn (gr K H d) (cr K H ds) vs
def oD(K:KA)(H:Hp):b_ (x_×D)->b_ (x_×V)->Prop
 |[],vs=>vs=[]
 |(n,d)::ds,vs=>∃v r,vs=(n,v)::r/\gr K H d v/\oD K H ds r
def ir(K:KA)(H:Hp):b_ (D×D)->b_ (vz×V)->Prop
 |[],vs=>vs=[]
 |(k,d)::ds,vs=>CK kD k (gr K H d) (ir K H ds) vs
def hV(K:KA)(H:Hp):b_ (D×D)->b_ (fm×V)->Prop
 |[],vs=>vs=[]
 |(k,d)::ds,vs=>CK kT k (gr K H d) (hV K H ds) vs
end
def gL.be{K:KA}(e:ca H b)(h:gL K H a xs):gL K b a xs:=e.seq h
def ng.be{K:KA}(e:ca H b)(h:ng K H a xs):ng K b a xs:=by
 rcases h with (h|⟨o,h⟩)|h
 .exact .inl (.inl (e _ _ h))
 .exact .inl (.inr ⟨o,e _ _ h⟩)
 .exact .inr h
mutual
theorem gr.be{K:KA}{H H':Hp}(e:ca H H'):∀{d:D}{v:V},gr K H d v->gr K H' d v
 |.fD,_,h=>h
 |.bl _,_,h=>h
 |.int _,_,h=>h
 |.str _,_,h=>h
 |.ci _,_,z1_=>by obtain⟨a,vs,h1,h2,h3⟩:=z1_;exact⟨a,vs,h1,e _ _ h2,cr.be e h3⟩
 |.au _,_,z2_=>by obtain⟨a,vs,h1,h2,h3⟩:=z2_;exact⟨a,vs,h1,gL.be e h2,cr.be e h3⟩
 |.js _ _,_,z3_=>by obtain⟨a,h1,h2⟩:=z3_;exact⟨a,h1,h2.elim (by rintro⟨z,es,q1,q2⟩;exact .inl ⟨z,es,e _ _ q1,ir.be e q2⟩) (by rintro⟨z,o,es,q1,q2⟩;exact .inr ⟨z,o,es,e _ _ q1,hV.be e q2⟩)⟩
 |.obj _ _,_,z4_=>by obtain⟨a,vs,h1,h2,h3⟩:=z4_;exact⟨a,vs,h1,h2.be e,oD.be e h3⟩
 |.fn _,_,h=>h
theorem cr.be{K:KA}{H H':Hp}(e:ca H H'):∀{ds:b_ D}{vs:b_ V},cr K H ds vs->cr K H' ds vs
 |[],_,h=>h
 |_::_,_,z1_=>by obtain⟨v,r,h1,h2,h3⟩:=z1_;exact⟨v,r,h1,gr.be e h2,cr.be e h3⟩
theorem oD.be{K:KA}{H H':Hp}(e:ca H H'):∀{ds:b_ (x_×D)}{vs:b_ (x_×V)},oD K H ds vs->oD K H' ds vs
 |[],_,h=>h
 |(_,_)::_,_,z1_=>by obtain⟨v,r,h1,h2,h3⟩:=z1_;exact⟨v,r,h1,gr.be e h2,oD.be e h3⟩
theorem ir.be{K:KA}{H H':Hp}(e:ca H H'):∀{ds:b_ (D×D)}{vs:b_ (vz×V)},ir K H ds vs->ir K H' ds vs
 |[],_,h=>h
 |(_,_)::_,_,z1_=>by obtain⟨k,v,r,h1,h0,h2,h3⟩:=z1_;exact⟨k,v,r,h1,h0,gr.be e h2,ir.be e h3⟩
theorem hV.be{K:KA}{H H':Hp}(e:ca H H'):∀{ds:b_ (D×D)}{vs:b_ (fm×V)},hV K H ds vs->hV K H' ds vs
 |[],_,h=>h
 |(_,_)::_,_,z1_=>by obtain⟨k,v,r,h1,h0,h2,h3⟩:=z1_;exact⟨k,v,r,h1,h0,gr.be e h2,hV.be e h3⟩
end
section
variable{K:KA}
def cr.length:∀{d}{c},cr K H d c->_7 d=_7 c:=by
 intro a;induction a with
 |nil=>rintro _ h;rw[h];rfl
 |cons _ _ b=>rintro _ ⟨v,r,f,_,e⟩;rw[f,iC,iC,b e]
theorem cr.get:∀{g}{f}{i:g_}{d},cr K H g f->g[i]?=a_ d->∃v,f[i]?=a_ v/\gr K H d v
 |[],_,_,_,_,e=>by simp at e
 |_::_,_,0,_,b,e=>by obtain⟨v,r,c,m,_⟩:=b;simp at e;subst e;subst c;exact⟨v,_6,m⟩
 |_::_,_,i+1,_,a,e=>by obtain⟨v,r,c,_,l⟩:=a;obtain⟨w,j,h⟩:=cr.get l (by simpa using e);subst c;exact⟨w,by simpa using j,h⟩
def cr.append:∀{e es}{d c},cr K H e d->cr K H es c->cr K H (e++es) (d++c):=by
 intro a;induction a with
 |nil=>rintro _ _ _ h q;rw[h];exact q
 |cons _ _ b=>rintro _ _ _ ⟨v,r,i,g,f⟩ q;exact⟨v,r++_,by rw[i];rfl,g,b f q⟩
def cr.pv(h:gr K H d v):cr K H [d] [v]:=⟨v,[],_6,h,_6⟩
theorem cr.drop:∀n {c} {b},cr K H c b->cr K H (c.drop n) (b.drop n)
 |0,_,_,h=>h
 |_+1,[],_,h=>by rw[h];exact _6
 |n+1,_::_,_,a=>by obtain⟨v,r,e,_,d⟩:=a;subst e;exact cr.drop n d
theorem cr.take:∀n {c} {b},cr K H c b->cr K H (c.take n) (b.take n)
 |0,_,_,_=>rfl
 |_+1,[],_,h=>by rw[h];exact _6
 |n+1,_::_,_,a=>by obtain⟨v,r,f,e,d⟩:=a;subst f;exact⟨v,r.take n,_6,e,cr.take n d⟩
theorem cr.eraseIdx:∀n {f} {e},cr K H f e->cr K H (f.eraseIdx n) (e.eraseIdx n)
 |_,[],_,h=>by rw[h];exact _6
 |0,_::_,_,b=>by obtain⟨v,r,d,_,c⟩:=b;subst d;exact c
 |n+1,_::_,_,a=>by obtain⟨v,r,d,g,c⟩:=a;subst d;exact⟨v,r.eraseIdx n,_6,g,cr.eraseIdx n c⟩
end
noncomputable def eS:HO->r_
 |.il _ _=>e_
 |.ci _=>e_
 |_=>c_
structure c8(G H G' H':Hp):Prop where
 gg:ca G G'
 hh:ca H H'
 gh:ca G' H'
 fr:∀a o,H a=a_ o->G a=d_->eS o=c_->G' a=d_
def c8.refl(h:ca G H):c8 G H G H:=⟨ca.refl G,ca.refl H,h,λz z z q z=>q⟩
def c8.trans(a:c8 G H f d)(b:c8 f d e c):c8 G H e c:=
 ⟨a.gg.trans b.gg,a.hh.trans b.hh,b.gh,λx o h g z=>b.fr x o (a.hh x o h) (a.fr x o h g z) z⟩
def cq(h:H p=d_)(o:HO):ca H (eT H p o):=λb u q=>by rwa[ai (a8 q h)]
def c8.new(h:ca G H)(o:HO)(n:H p=d_):c8 G H (eT G p o) (eT H p o):=by
 have c:G p=d_:=by
  cases e:G p with
  |none=>rfl
  |some u=>rw[h p u e]at n;cases n
 refine⟨cq c o,cq n o,λb u q=>?_,λa u q g z=>?_⟩
 .by_cases e:b=p
  .subst e;rw[aj]at q⊢;exact q
  .rw[ai e]at q⊢;exact h b u q
 .rwa[ai (a8 q n)]
def c8.own(h:ca G H)(o:HO)(n:H p=d_):c8 G H G (eT H p o):=by exact⟨ca.refl G,cq n o,λb u q=>(cq n o b u (h b u q)),λa u q g z=>g⟩
def Arg(K:KA)(G H:Hp)(d:D)(v:V):Prop:=
 gr K G d v\/(∃f a e,d=.au f/\v=.ref a/\gL K H a e/\cr K G f e)\/
  ∃t b a,d=.js t b/\v=.ref a/\((t=e_/\∃c,H a=a_ (.dK c)/\ir K G b c)\/(t=c_/\∃c,H a=a_ (.dT c)/\hV K G b c))
def Arg.ext{K:KA}(e:c8 G H q p)(h:Arg K G H d v):Arg K q p d v:=by
 obtain h|⟨o,a,m,j,i,g,n⟩|⟨t,f,a,j,i,g⟩:=h
 .exact .inl (h.be e.gg)
 .exact .inr (.inl ⟨o,a,m,j,i,gL.be e.hh g,n.be e.gg⟩)
 .exact .inr (.inr ⟨t,f,a,j,i,g.elim (by rintro⟨z,l,c,b⟩;exact .inl ⟨z,l,e.hh _ _ c,b.be e.gg⟩) (by rintro⟨z,l,c,b⟩;exact .inr ⟨z,l,e.hh _ _ c,b.be e.gg⟩)⟩)
def Arg.au{K:KA}(s:ca G H)(h:Arg K G H (.au j) v):DLi K H (cr K G j) v:=by
 obtain ⟨a,c,b,e,d⟩|⟨i,a,c,b,e,d,g⟩|⟨t,f,a,b,_⟩:=h
 .exact⟨a,c,b,gL.be s e,d⟩
 .cases b;exact⟨a,c,e,d,g⟩
 .cases b
def Arg.tup0{K:KA}(s:ca G H)(h:Arg K G H (.ci i) v):RA H .ci (cr K G i) v:=by
 obtain ⟨a,c,b,f,e⟩|⟨g,a,c,b,_⟩|⟨t,d,a,b,_⟩:=h
 .exact⟨a,c,b,s _ _ f,e⟩
 .cases b
 .cases b
def Arg.ci{K:KA}(s:ca G H)(h:Arg K G H (.ci f) v):DTi K H (cr K G f) v:=by obtain⟨a,b,e,d,c⟩:=h.tup0 s;exact⟨a,b,e,.inl (.inl d),c⟩
def Arg.int{K:KA}{G H:Hp}{i:j_}{v:V}(h:Arg K G H (.int i) v):v=.int i:=by
 obtain h|⟨d,a,e,b,_⟩|⟨t,c,a,b,_⟩:=h
 .exact h
 .cases b
 .cases b
def Arg.bl{K:KA}(h:Arg K G H (.bl i) v):v=.bl i:=by
 obtain h|⟨d,a,e,b,_⟩|⟨t,c,a,b,_⟩:=h
 .exact h
 .cases b
 .cases b
def Arg.str{K:KA}(h:Arg K G H (.str i) v):v=.str i:=by
 obtain h|⟨d,a,e,b,_⟩|⟨t,c,a,b,_⟩:=h
 .exact h
 .cases b
 .cases b
def Arg.fD{K:KA}(h:Arg K G H .fD v):v=.fD:=by
 obtain h|⟨d,a,e,b,_⟩|⟨t,c,a,b,_⟩:=h
 .exact h
 .cases b
 .cases b
def Arg.fn{K:KA}(h:Arg K G H (.fn f) v):v=.ref (K.A f):=by
 obtain h|⟨d,a,e,b,_⟩|⟨t,c,a,b,_⟩:=h
 .exact h
 .cases b
 .cases b
set_option genInjectivity true in
inductive ce where
 |ok (d:D)
 |er (c:x_)
 |st
noncomputable def ce.bind(r:ce)(f:D->ce):ce:=match r with
 |.ok d=>f d
 |.er c=>.er c
 |.st=>.st
noncomputable def ce.of(o:f_ D):ce:=match o with
 |some d=>.ok d
 |none=>.st
set_option genInjectivity true in
inductive f8 where
 |ok (ds:b_ D)
 |er (c:x_)
 |st
set_option genInjectivity true in
inductive Sl where
 |no
 |pu (d:D)
 |bo (d:D)
 |ow (ds:b_ D)
 |od (t:r_) (kvs:b_ (D×D))
abbrev En:=b_ Sl
def p'(K:KA)(B G H:Hp):Sl->f_ V->Prop
 |.no,_=>_u
 |.pu d,o=>∃v,o=a_ v/\gr K G d v
 |.bo d,o=>∃v,o=a_ v/\Arg K G B d v
 |.ow b,o=>RO H .au (cr K G b) o
 |.od e_ a,o=>RO H .dK (ir K G a) o
 |.od c_ a,o=>RO H .dT (hV K G a) o
noncomputable def Sl.own:Sl->r_
 |.ow _=>c_
 |.od _ _=>c_
 |_=>e_
def GOk(H:Hp):Prop:=∀p∈Na,H p.2.1=a_ (.tbl (p.2.2))
def GOk.same(e:ca H b)(h:GOk H):GOk b:=λp a=>e _ _ (h p a)
structure dg(K:KA)(B G H:Hp)(Z:St)(δ:En):Prop where
 bh:ca B H
 gh:ca G H
 len:_7 Z=_7 δ
 sl:∀(i:g_) s,δ[i]?=a_ s->∃o,Z[i]?=a_ o/\p' K B G H s o
 own:∀(i:g_) s a,δ[i]?=a_ s->s.own=c_->Z[i]?=a_ (a_ (V.ref a))->G a=d_/\B a=d_
 dis:∀(i j:g_) s t a,δ[i]?=a_ s->δ[j]?=a_ t->s.own=c_->t.own=c_->Z[i]?=a_ (a_ (V.ref a))->Z[j]?=a_ (a_ (V.ref a))->i=j
 gb:GOk B
def ON{K:KA}(e:ca G p)(h:Arg K G H d v):Arg K p H d v:=by
 obtain h|⟨o,a,m,j,i,g,n⟩|⟨t,f,a,j,i,g⟩:=h
 .exact .inl (h.be e)
 .exact .inr (.inl ⟨o,a,m,j,i,g,n.be e⟩)
 .exact .inr (.inr ⟨t,f,a,j,i,g.elim (by rintro⟨z,l,c,b⟩;exact .inl ⟨z,l,c,b.be e⟩) (by rintro⟨z,l,c,b⟩;exact .inr ⟨z,l,c,b.be e⟩)⟩)
def dN{K:KA}(e:ca H p)(h:Arg K G H d v):Arg K G p d v:=by
 obtain h|⟨o,a,m,j,i,g,n⟩|⟨t,f,a,j,i,g⟩:=h
 .exact .inl h
 .exact .inr (.inl ⟨o,a,m,j,i,gL.be e g,n⟩)
 .exact .inr (.inr ⟨t,f,a,j,i,g.elim (by rintro⟨z,l,c,b⟩;exact .inl ⟨z,l,e _ _ c,b⟩) (by rintro⟨z,l,c,b⟩;exact .inr ⟨z,l,e _ _ c,b⟩)⟩)
def p'.ext{K:KA}{B G H j i:Hp}(e:c8 G H j i){s:Sl}{o:f_ V}(h:p' K B G H s o):p' K B j i s o:=by
 cases s with
 |no=>trivial
 |pu d=>obtain⟨v,c,b⟩:=h;exact⟨v,c,b.be e.gg⟩
 |bo d=>obtain⟨v,c,b⟩:=h;exact⟨v,c,ON e.gg b⟩
 |ow m=>obtain⟨a,f,c,b,g⟩:=h;exact⟨a,f,c,e.hh _ _ b,g.be e.gg⟩
 |od t l=>
  cases t with
  |false=>obtain⟨a,f,c,b,g⟩:=h;exact⟨a,f,c,e.hh _ _ b,g.be e.gg⟩
  |true=>obtain⟨a,f,c,b,g⟩:=h;exact⟨a,f,c,e.hh _ _ b,g.be e.gg⟩
def p'.ref{K:KA}{B G H:Hp}{s:Sl}{o:f_ V}(h:p' K B G H s o)(q:s.own=c_):∃a,o=a_ (V.ref a)/\∃u,H a=a_ u/\eS u=c_:=by
 cases s with
 |no=>cases q
 |pu d=>cases q
 |bo d=>cases q
 |ow g=>obtain⟨a,e,c,b,_⟩:=h;exact⟨a,c,_,b,_6⟩
 |od t f=>
  cases t with
  |false=>obtain⟨a,e,c,b,_⟩:=h;exact⟨a,c,_,b,_6⟩
  |true=>obtain⟨a,e,c,b,_⟩:=h;exact⟨a,c,_,b,_6⟩
def dg.ext{K:KA}{B G H n m:Hp}{Z:St}{δ:En}(e:c8 G H n m)(r:dg K B G H Z δ):dg K B n m Z δ where
 bh:=r.bh.trans e.hh
 gb:=r.gb
 gh:=e.gh
 len:=r.len
 sl:=λi s h=>by obtain⟨o,c,d⟩:=r.sl i s h;exact⟨o,c,d.ext e⟩
 own:=λi s a l j f=>by obtain⟨g,b⟩:=r.own i s a l j f;obtain⟨o,c,d⟩:=r.sl i s l;rw[f]at c;cases c;obtain⟨v,z,u,q,p⟩:=d.ref j;cases z;exact⟨e.fr a u q g p,b⟩
 dis:=r.dis
def eu(E:EK)(G H:Hp)(r:ce)(P:D->Prop):Prop:=match r with
 |.ok d=>P d
 |.er c=>∀b a,c8 G H b a->E c a
 |.st=>T_
def gc(E:EK)(G H:Hp)(r:f8)(P:b_ D->Prop):Prop:=match r with
 |.ok b=>P b
 |.er c=>∀d a,c8 G H d a->E c a
 |.st=>T_
section
def eu.be(h:eu E G H r P)(f:∀d,r=.ok d->P d->a d):eu E G H r a:=by
 cases r with
 |ok d=>exact f d _6 h
 |er c=>exact h
 |st=>exact h
def eu.ext(e:c8 G H i f)(h:eu E G H r P):eu E i f r P:=by
 cases r with
 |ok d=>exact h
 |er c=>exact λg b a=>h g b (e.trans a)
 |st=>exact h
def eu.bind(h:eu E G H (r.bind f) P):eu E G H r λd=>eu E G H (f d) P:=by
 cases r with
 |ok d=>exact h
 |er c=>exact h
 |st=>exact h
def eu.of(h:eu E G H (ce.of o) P):∃d,o=a_ d/\P d:=by
 cases o with
 |some d=>exact⟨d,_6,h⟩
 |none=>exact h.elim
def gc.be(h:gc E G H r P)(f:∀d,r=.ok d->P d->a d):gc E G H r a:=by
 cases r with
 |ok d=>exact f d _6 h
 |er c=>exact h
 |st=>exact h
def gc.ext(e:c8 G H i f)(h:gc E G H r P):gc E i f r P:=by
 cases r with
 |ok d=>exact h
 |er c=>exact λg b a=>h g b (e.trans a)
 |st=>exact h
end
def cA(K:KA)(G H:Hp)(m:r_)(d:D)(v:V):Prop:=match m with
 |true=>Arg K G H d v
 |false=>gr K G d v
inductive CA(P:D->V->Prop)(Q:b_ D->b_ V->Prop)(ds:b_ D)(vs:b_ V):Prop
 |mk (d dr v vr) (_:ds=d::dr) (_:vs=v::vr) (_:P d v) (_:Q dr vr):CA P Q ds vs
def ii(K:KA)(G H:Hp):b_ r_->b_ D->b_ V->Prop
 |[],b,a=>b=[]/\a=[]
 |m::c,b,a=>CA (cA K G H m) (ii K G H c) b a
theorem ii.length{K:KA}{G H:Hp}:∀{a}{f}{e},ii K G H a f e->_7 f=_7 a/\_7 e=_7 a
 |[],_,_,⟨c,b⟩=>by rw[c,b];exact⟨_6,_6⟩
 |_::_,_,_,⟨d,m,v,j,c,b,l,i⟩=>by obtain⟨h,g⟩:=i.length;rw[c,b,iC,iC,iC,h,g];exact⟨_6,_6⟩
section
variable(K:KA)(B:Hp)(E:EK)
inductive tPu(g:En->ce)(Z:St)(H:Hp)(Q:VK):Prop
 |mk (G δ) (_:dg K B G H Z δ) (_:eu E G H (g δ) λd=>∀v G' H',c8 G H G' H'->gr K G' d v->Q v H'):tPu g Z H Q
inductive tAr(g:En->ce)(Z:St)(H:Hp)(Q:VK):Prop
 |mk (G δ) (_:dg K B G H Z δ) (_:eu E G H (g δ) λd=>∀v G' H',c8 G H G' H'->Arg K G' H' d v->Q v H'):tAr g Z H Q
inductive tOw(g:En->ce)(Z:St)(H:Hp)(Q:VK):Prop
 |mk (G δ) (_:dg K B G H Z δ) (_:eu E G H (g δ) λd=>∃ds,d=.au ds/\∀a vs G' H',c8 G H G' H'->H a=d_->G' a=d_->H' a=a_ (.au vs)->cr K G' ds vs->Q (.ref a) H'):tOw g Z H Q
inductive tTe(g:En->ce)(Z:St)(H:Hp)(Q:r_->Hp->Prop):Prop
 |mk (G δ) (_:dg K B G H Z δ) (_:eu E G H (g δ) λd=>∃b,d=.bl b/\∀G' H',c8 G H G' H'->Q b H'):tTe g Z H Q
inductive tAl(ms:b_ r_)(g:En->f8)(Z:St)(H:Hp)(Q:b_ V->Hp->Prop):Prop
 |mk (G δ) (_:dg K B G H Z δ) (_:gc E G H (g δ) λds=>∀vs G' H',c8 G H G' H'->ii K G' H' ms ds vs->Q vs H'):tAl ms g Z H Q
end
abbrev f7(X:Cx)(B:Hp)(E:EK)(e:Expr)(g:En->ce):Prop:=PE X e (tPu (kx X) B E g)
abbrev k6(X:Cx)(B:Hp)(E:EK)(e:Expr)(g:En->ce):Prop:=PE X e (tAr (kx X) B E g)
abbrev Xb(X:Cx)(B:Hp)(E:EK)(e:Expr)(g:En->ce):Prop:=PE X e (tOw (kx X) B E g)
abbrev Ft(X:Cx)(B:Hp)(E:EK)(e:Expr)(g:En->ce):Prop:=PT X e (tTe (kx X) B E g)
abbrev FP(X:Cx)(B:Hp)(E:EK)(e:Expr)(g:En->ce):Prop:=PW X e (tTe (kx X) B E g)
abbrev Q0(X:Cx)(B:Hp)(E:EK)(a:b_ r_)(es:b_ Expr)(g:En->f8):Prop:=PA X es (tAl (kx X) B E a g)
def PE.imp(h:PE X e t)(i:∀Z H Q,b Z H Q->t Z H Q):PE X e b:=λa s Z H Q I q=>h a s Z H Q I (i Z H Q q)
def PT.imp(h:PT X e t)(i:∀Z H Q,b Z H Q->t Z H Q):PT X e b:=λa s Z H Q I q=>h a s Z H Q I (i Z H Q q)
def PW.imp(h:PW X e t)(i:∀Z H Q,c Z H Q->t Z H Q):PW X e c:=λb a s Z H Q I q=>h b a s Z H Q I (i Z H Q q)
def PA.imp(h:PA X e t)(i:∀Z H Q,c Z H Q->t Z H Q):PA X e c:=λb a s Z H Q I q=>h b a s Z H Q I (i Z H Q q)
section
noncomputable def a0(i:g_):En->ce:=λδ=>match δ[i]? with
 |some (.pu d)=>.ok d
 |_=>.st
noncomputable def aa(i:g_):En->ce:=λδ=>match δ[i]? with
 |some (.pu d)=>.ok d
 |some (.bo d)=>.ok d
 |some (.ow b)=>.ok (.au b)
 |some (.od t a)=>.ok (.js t a)
 |_=>.st
noncomputable def gC(d:D):En->ce:=λz=>.ok d
def dg.var{K:KA}{i:g_}(R:dg K B G H Z δ)(h:δ[i]?=a_ (.pu d)):∃v,Z[i]?=a_ (a_ v)/\gr K G d v:=by obtain⟨o,c,v,b,a⟩:=R.sl i _ h;exact⟨v,by rw[c,b],a⟩
def dg.arg{K:KA}(R:dg K B G H Z δ)(h:aa i δ=.ok d):∃v,Z[i]?=a_ (a_ v)/\Arg K G H d v:=by
 unfold aa at h;cases e:δ[i]? with
 |none=>rw[e]at h;cases h
 |some s=>
  rw[e]at h;obtain⟨o,j,b⟩:=R.sl i _ e;cases s with
  |no=>cases h
  |pu n=>cases h;obtain⟨v,b,c⟩:=b;exact⟨v,by rw[j,b],.inl c⟩
  |bo n=>cases h;obtain⟨v,b,c⟩:=b;exact⟨v,by rw[j,b],dN R.bh c⟩
  |ow m=>cases h;obtain⟨a,f,b,c,g⟩:=b;exact⟨.ref a,by rw[j,b],.inr (.inl ⟨m,a,f,_6,_6,gL.of c,g⟩)⟩
  |od t l=>
   cases h;cases t with
   |false=>obtain⟨a,f,b,c,g⟩:=b;exact⟨.ref a,by rw[j,b],.inr (.inr ⟨e_,l,a,_6,_6,.inl ⟨_6,f,c,g⟩⟩)⟩
   |true=>obtain⟨a,f,b,c,g⟩:=b;exact⟨.ref a,by rw[j,b],.inr (.inr ⟨c_,l,a,_6,_6,.inr ⟨_6,f,c,g⟩⟩)⟩
def TC(i:g_)(h:PE X (.Name x a) (ya i)):f7 X B E (.Name x a) (a0 i):=PE.imp h<|by
 rintro Z H Q ⟨G,δ,R,q⟩
 unfold a0 at q;cases e:δ[i]? with
 |none=>rw[e]at q;exact q.elim
 |some s=>
  rw[e]at q;cases s with
  |pu d=>obtain⟨v,c,b⟩:=R.var e;exact⟨v,c,q v G H (c8.refl R.gh) b⟩
  |no=>exact q.elim
  |bo d=>exact q.elim
  |ow d=>exact q.elim
  |od t d=>exact q.elim
def OO(i:g_)(h:PE X (.Name x a) (ya i)):k6 X B E (.Name x a) (aa i):=PE.imp h<|by
 rintro Z H Q ⟨G,δ,R,q⟩
 cases e:aa i δ with
 |ok d=>rw[e]at q;obtain⟨v,f,b⟩:=R.arg e;exact⟨v,f,q v G H (c8.refl R.gh) b⟩
 |er c=>unfold aa at e;split at e<;>cases e
 |st=>rw[e]at q;exact q.elim
def YI(h:f7 X B E e g):k6 X B E e g:=PE.imp h (by rintro Z H Q ⟨G,δ,R,q⟩;exact⟨G,δ,R,q.be λd z q v b a x y=>q v b a x (.inl y)⟩)
def tm(h:PE X e (tC v))(r:∀H,gr (kx X) H d v):f7 X B E e (gC d):=PE.imp h (by rintro Z H Q ⟨G,δ,R,q⟩;exact q v G H (c8.refl R.gh) (r G))
def TX{i j}:f7 X B E (.Constant (.int i) j a) (gC (.int i)):=tm BW λz=>rfl
def YH{b j}:f7 X B E (.Constant (.bool b) j a) (gC (.bl b)):=tm YO λz=>rfl
def TL{j}:f7 X B E (.Constant .none j a) (gC .fD):=tm SY λz=>rfl
def TJ{x j}:f7 X B E (.Constant (.str x) j a) (gC (.str x)):=tm SV λz=>rfl
def KI(c:Gl X x)(b:X.mg x=a_ (.str y t))(d:Q! ((x==("__debug__":x_))=e_) Q1!):f7 X B E (.Name x a) (gC (.str y)):=tm (v:=.str y) (Sz c b ⟨t,_6⟩ d) λz=>rfl
def OR(h:mg x=a_ (.ref f)):Nl mg x=f:=by unfold Nl;rw[h]
def TZ(c:Gl X x)(a:X.mg x=a_ (.ref f))(d:Q! ((x==("__debug__":x_))=e_) Q1!):f7 X B E (.Name x b) (gC (.fn x)):=tm (Sz (v:=.ref f) c a _6 d) λz=>by show V.ref f=V.ref (Nl X.mg x);rw[OR a]
noncomputable def g1(f:D->f_ D)(g:En->ce):En->ce:=λδ=>(g δ).bind λx=>ce.of (f x)
noncomputable def g2(f:D->D->f_ D)(g h:En->ce):En->ce:=λδ=>(g δ).bind λx=>(h δ).bind λy=>ce.of (f x y)
def jk(K:KA)(f:D->D->f_ D)(r:R2):Prop:=∀G H x y b a d,ca G H->Arg K G H b x->Arg K G H a y->f b a=a_ d->
 ∀Q:VK,(∀v e c,c8 G H e c->gr K e d v->Q v c)->r x y H Q
def bT{K:KA}(j:jk K f r)(q:tPu K B E (g2 f g h) Z H Q):ZH r (tAr K B E g) (tAr K B E h) Z H Q:=by obtain⟨G,δ,R,q⟩:=q;refine⟨G,δ,R,(eu.bind q).be λo Y e x C J b u=>⟨C,δ,R.ext b,((eu.bind e).ext b).be λn Y c y A w a s=>?_⟩⟩;obtain⟨d,l,i⟩:=eu.of c;exact j A w x y o n d a.gh (u.ext a) s l Q λv I z m p=>i v I z ((b.trans a).trans m) p
def S8(i:lz X (qO d) r)(e:jk (kx X) f r)(l:k6 X B E a g)(j:k6 X B E b h):f7 X B E (.BinOp a d b c) (g2 f g h):=
 PE.imp (NP i l j) λZ H Q q=>bT e q
def SD(i:lz X (lS c) r)(e:jk (kx X) f r)(m:k6 X B E a g)(l:k6 X B E b h)(j:uO c b=e_):f7 X B E (.Compare a [c] [b] d) (g2 f g h):=
 PE.imp (JH i m l j) λZ H Q q=>bT e q
def KO(l:lz X (lS c) r)(j:jk (kx X) f r)(n:∀x y d,f x y=a_ d->∃b,d=.bl b)(p:k6 X B E a g)(o:k6 X B E b h)(m:uO c b=e_):Ft X B E (.Compare a [c] [b] i) (g2 f g h):=
 PT.imp (KN l p o m) λZ H Q ⟨G,δ,R,q⟩=>bT j ⟨G,δ,R,q.be<|by
  rintro d C ⟨b,s,e⟩ v A z u w
  subst s;exact⟨b,w,e A z u⟩⟩
noncomputable def Nd:D->f_ r_
 |.fD=>a_ e_
 |.bl b=>a_ b
 |.int i=>a_ (i !=0)
 |.str x=>if x.length<=iN then a_ ((x.length:j_) !=0)else d_
 |.ci a=>a_ !a.isEmpty
 |.au a=>a_ !a.isEmpty
 |_=>d_
noncomputable def bD(o:f_ r_):f_ D:=o.map .bl
def B1{K:KA}(h:cr K G b a):(!b.isEmpty)= !a.isEmpty:=by have q:=h.length;cases b<;>cases a<;>first|rfl|(simp at q)
def MY{K:KA}{b:r_}(s:ca G H)(h:Arg K G H d v)(e:Nd d=a_ b):OS K v H b:=by
 cases d with
 |fD=>rw[h.fD];cases e;rfl
 |bl i=>rw[h.bl];cases e;rfl
 |int i=>rw[h.int];cases e;rfl
 |str x=>
  rw[h.str];have c:(if x.length<=iN then a_ _ else d_)=a_ b:=e
  by_cases l:x.length<=iN
  .rw[iH l]at c;cases c;exact⟨l,_6⟩
  .rw[iG l]at c;cases c
 |ci m=>obtain⟨a,f,rfl,j,g⟩:=h.ci s;cases e;exact .inr (.inl ⟨f,j,B1 g⟩)
 |au m=>obtain⟨a,f,rfl,j,g⟩:=h.au s;cases e;exact .inl ⟨f,j,B1 g⟩
 |js _ _=>cases e
 |obj _ _=>cases e
 |fn _=>cases e
def BE(m:k6 X B E a g)(l:Q! (∀c,isTrue a X.bi c=(do let v <-c;standAt a.pos;holding [v] (truthy v))) Q3!):Ft X B E a (g1 (λd=>bD (Nd d)) g):=
 PT.imp (BD m l) λZ H Q ⟨G,δ,R,q⟩=>⟨G,δ,R,(eu.bind q).be λo z i x s r h p=>by
  obtain⟨d,e,b,n,j⟩:=eu.of i;dsimp only at e;cases f:Nd o with
  |none=>rw[f]at e;cases e
  |some u=>
   rw[f]at e;cases e;cases n;exact⟨b,MY h.gh p f,j s r h⟩⟩
def Of(c a b:En->ce):En->ce:=λδ=>(c δ).bind λd=>match d with
 |.bl c_=>a δ
 |.bl e_=>b δ
 |_=>.st
noncomputable def jg(c:En->ce):En->ce:=λδ=>(c δ).bind λd=>match d with
 |.bl b=>.ok (.bl !b)
 |_=>.st
noncomputable def vy(a b:En->ce):En->ce:=Of a b (gC (.bl e_))
noncomputable def Fs(a b:En->ce):En->ce:=Of a (gC (.bl c_)) b
def XW{K:KA}{P:D->Prop}{c:En->ce}{δ:En}{a b:En->ce}{G H:Hp}(q:eu E G H (Of c a b δ) P):
  eu E G H (c δ) λd=>∃t,d=.bl t/\(t=c_->eu E G H (a δ) P)/\(t=e_->eu E G H (b δ) P):=
 (eu.bind q).be λd n q=>by
  cases d with
  |bl t=>cases t with
   |true=>exact⟨c_,_6,λn=>q,λz=>by cases z⟩
   |false=>exact⟨e_,_6,λz=>(by cases z),λn=>q⟩
  |fD=>exact q.elim
  |int _=>exact q.elim
  |str _=>exact q.elim
  |ci _=>exact q.elim
  |au _=>exact q.elim
  |js _ _=>exact q.elim
  |obj _ _=>exact q.elim
  |fn _=>exact q.elim
def KM(f:Ft X B E a g):Ft X B E (.UnaryOp .Not a e) (jg g):=PT.imp (SJ f) λZ H Q ⟨G,δ,R,q⟩=>⟨G,δ,R,(eu.bind q).be λd z q=>by
 cases d with
 |bl t=>obtain⟨b,h,c⟩:=q;cases h;exact⟨t,_6,c⟩
 |fD=>exact q.elim
 |int _=>exact q.elim
 |str _=>exact q.elim
 |ci _=>exact q.elim
 |au _=>exact q.elim
 |js _ _=>exact q.elim
 |obj _ _=>exact q.elim
 |fn _=>exact q.elim⟩
def CP(c:Ft X B E a g):FP X B E (.BoolOp .And [a] b) g:=LY c
def LX(c:Ft X B E a g):FP X B E (.BoolOp .Or [a] b) g:=UV c
def LZ(n:Ft X B E a g)(m:FP X B E (.BoolOp .And (b::cW) f) h):FP X B E (.BoolOp .And (a::b::cW) f) (vy g h):=
 PW.imp (UY n m) λZ H Q ⟨G,δ,R,q⟩=>⟨G,δ,R,(XW (K:=(kx X)) q).be λd z ⟨t,o,j⟩=>⟨t,o,λl s c=>by
  cases t with
  |true=>exact⟨l,δ,R.ext c,((j.1 _6).ext c).be (by rintro d _ ⟨b,i,e⟩;exact⟨b,i,λu r p=>e u r (c.trans p)⟩)⟩
  |false=>
   obtain⟨b,i,e⟩:=j.2 _6;cases i;exact e l s c⟩⟩
def UW(n:Ft X B E a g)(m:FP X B E (.BoolOp .Or (b::cW) f) h):FP X B E (.BoolOp .Or (a::b::cW) f) (Fs g h):=
 PW.imp (YC n m) λZ H Q ⟨G,δ,R,q⟩=>⟨G,δ,R,(XW (K:=(kx X)) q).be λd z ⟨t,o,j⟩=>⟨t,o,λl s c=>by
  cases t with
  |false=>exact⟨l,δ,R.ext c,((j.2 _6).ext c).be (by rintro d _ ⟨b,i,e⟩;exact⟨b,i,λu r p=>e u r (c.trans p)⟩)⟩
  |true=>
   obtain⟨b,i,e⟩:=j.1 _6;cases i;exact e l s c⟩⟩
def YJ(h:FP X B E e g):Ft X B E e g:=PW.pt h
def CW{c}(h:f7 X B E a g):f7 X B E (.BoolOp c [a] b) g:=SW h
def SG(n:f7 X B E a g)(m:f7 X B E (.BoolOp .And (b::cW) e) h):f7 X B E (.BoolOp .And (a::b::cW) e) (vy g h):=
 PE.imp (RB n m) λZ H Q ⟨G,δ,R,q⟩=>⟨G,δ,R,(XW (K:=(kx X)) q).be<|by
  rintro d _ ⟨t,o,i⟩ v j s c f
  subst o;refine⟨t,f,?_⟩;cases t with
  |true=>exact⟨j,δ,R.ext c,((i.1 _6).ext c).be λd z l v u r p f=>l v u r (c.trans p) f⟩
  |false=>exact(i.2 _6) _ j s c _6⟩
def YD(n:f7 X B E a g)(m:f7 X B E (.BoolOp .Or (b::cW) e) h):f7 X B E (.BoolOp .Or (a::b::cW) e) (Fs g h):=
 PE.imp (YM n m) λZ H Q ⟨G,δ,R,q⟩=>⟨G,δ,R,(XW (K:=(kx X)) q).be<|by
  rintro d _ ⟨t,o,i⟩ v j s c f
  subst o;refine⟨t,f,?_⟩;cases t with
  |false=>exact⟨j,δ,R.ext c,((i.2 _6).ext c).be λd z l v u r p f=>l v u r (c.trans p) f⟩
  |true=>exact(i.1 _6) _ j s c _6⟩
def TK(c:f7 X B E a g):f7 X B E (.UnaryOp .Not a b) (jg g):=PE.imp (SX c) λZ H Q ⟨G,δ,R,q⟩=>⟨G,δ,R,(eu.bind q).be λd z q v i h e f=>by
 cases d with
 |bl t=>exact⟨t,f,q _ i h e _6⟩
 |fD=>exact q.elim
 |int _=>exact q.elim
 |str _=>exact q.elim
 |ci _=>exact q.elim
 |au _=>exact q.elim
 |js _ _=>exact q.elim
 |obj _ _=>exact q.elim
 |fn _=>exact q.elim⟩
def YG(r:Ft X B E c k)(u:f7 X B E a g)(s:f7 X B E b h):f7 X B E (.IfExp c a b p) (Of k g h):=
 PE.imp (BX r u s) λZ H Q ⟨G,δ,R,q⟩=>⟨G,δ,R,(XW (K:=(kx X)) q).be λd z ⟨t,w,n⟩=>⟨t,w,λo x e=>by
  cases t with
  |true=>exact⟨o,δ,R.ext e,((n.1 _6).ext e).be λd z f v m l i j=>f v m l (e.trans i) j⟩
  |false=>exact⟨o,δ,R.ext e,((n.2 _6).ext e).be λd z f v m l i j=>f v m l (e.trans i) j⟩⟩⟩
noncomputable def af:En->f8:=λz=>.ok []
noncomputable def am(g:En->ce)(r:En->f8):En->f8:=λδ=>match g δ with
 | .ok d => (match r δ with
  |.ok a=>.ok (d::a)
  |.er c=>.er c
  |.st=>.st)
 |.er c=>.er c
 |.st=>.st
def MM(q:gc E G H (am g r δ) P):eu E G H (g δ) λd=>gc E G H (r δ) λb=>P (d::b):=by
 unfold am at q;cases e:g δ with
 |ok d=>
  rw[e]at q;cases a:r δ with
  |ok b=>rw[a]at q;exact q
  |er c=>rw[a]at q;exact q
  |st=>rw[a]at q;exact q
 |er c=>rw[e]at q;exact q
 |st=>rw[e]at q;exact q
def jr:Q0 X B E [] [] af:=PA.imp qc (by rintro Z H Q ⟨G,δ,R,q⟩;exact q [] G H (c8.refl R.gh) ⟨_6,_6⟩)
def g7(j:k6 X B E e g)(i:Q0 X B E f es r)(h:Q! (jI (e::es) X.bi=(e_,I_ e X.bi)::jI es X.bi) Q2!):Q0 X B E (c_::f) (e::es) (am g r):=
 PA.imp (jy j i h) λZ H Q ⟨G,δ,R,q⟩=>⟨G,δ,R,(MM q).be λd z q x s u a m=>⟨s,δ,R.ext a,(q.ext a).be λl z q c p o b n=>
  q _ p o (a.trans b) ⟨d,l,x,c,_6,_6,m.ext b,n⟩⟩⟩
def Do(j:f7 X B E e g)(i:Q0 X B E f es r)(h:Q! (jI (e::es) X.bi=(e_,I_ e X.bi)::jI es X.bi) Q2!):Q0 X B E (e_::f) (e::es) (am g r):=
 PA.imp (jy j i h) λZ H Q ⟨G,δ,R,q⟩=>⟨G,δ,R,(MM q).be λd z q x s u a m=>⟨s,δ,R.ext a,(q.ext a).be λl z q c p o b n=>
  q _ p o (a.trans b) ⟨d,l,x,c,_6,_6,m.be b.gg,n⟩⟩⟩
noncomputable def Hz:b_ r_->r_
 |[]=>c_
 |b::r=> !b&&Hz r
theorem ii.den{K:KA}:∀{c}{i}{g},Hz c=c_->ii K G H c i g->cr K G i g
 |[],_,_,_,b=>by obtain⟨f,e⟩:=b;subst f;subst e;exact _6
 |true::_,_,_,h,_=>by simp[Hz]at h
 |false::c,_,_,h,a=>by obtain⟨d,n,v,j,f,e,m,l⟩:=a;subst f;subst e;exact⟨v,j,_6,m,ii.den (by simpa[Hz]using h) l⟩
noncomputable def h8(r:En->f8):En->ce:=λδ=>match r δ with
 |.ok a=>if _7 a<=iN then .ok (.ci a)else .st
 |.er c=>.er c
 |.st=>.st
noncomputable def b9(r:En->f8):En->ce:=λδ=>match r δ with
 |.ok a=>if _7 a<=iN then .ok (.au a)else .st
 |.er c=>.er c
 |.st=>.st
def fY(q:eu E G H (h8 r δ) P):gc E G H (r δ) λa=>_7 a<=iN/\P (.ci a):=by
 unfold h8 at q;cases e:r δ with
 |ok a=>
  rw[e]at q
  by_cases b:_7 a<=iN
  .simp only[iH b]at q;exact⟨b,q⟩
  .simp only[iG b]at q;exact q.elim
 |er c=>rw[e]at q;exact q
 |st=>rw[e]at q;exact q
def eW(q:eu E G H (b9 r δ) P):gc E G H (r δ) λa=>_7 a<=iN/\P (.au a):=by
 unfold b9 at q;cases e:r δ with
 |ok a=>
  rw[e]at q
  by_cases b:_7 a<=iN
  .simp only[iH b]at q;exact⟨b,q⟩
  .simp only[iG b]at q;exact q.elim
 |er c=>rw[e]at q;exact q
 |st=>rw[e]at q;exact q
def cr.eT{K:KA}{G:Hp}{p:o_}{b:b_ D}{a:b_ V}(h:cr K G b a)(n:G p=d_)(o:HO):cr K (eT G p o) b a:=h.be (cq n o)
def ff(s:ca G H)(n:H p=d_):G p=d_:=by
 cases e:G p with
 |none=>rfl
 |some u=>rw[s p u e]at n;cases n
def o9{K:KA}(s:ca G H)(n:H p=d_)(h:cr K G b a):gr K (eT G p (.ci a)) (.ci b) (.ref p):=
 ⟨p,a,_6,aj,h.eT (ff s n) _⟩
def zy{K:KA}(s:ca G H)(n:H p=d_)(h:cr K G b a):gr K (eT G p (.au a)) (.au b) (.ref p):=
 ⟨p,a,_6,gL.of aj,h.eT (ff s n) _⟩
def TF{c}(f:Hz e=c_)(h:Q0 X B E e es r):f7 X B E (.Tuple es c d) (h8 r):=
 PE.imp (SU h) λZ H Q ⟨G,δ,R,q⟩=>⟨G,δ,R,(fY q).be<|by
  rintro l _ ⟨j,q⟩ i n m a g
  have dl:=g.den f;refine⟨by rwa[<-dl.length],λp b=>q _ _ _ (a.trans (c8.new a.gh _ b)) (o9 a.gh b dl)⟩⟩
def Pk(f:Hz e=c_)(h:Q0 X B E e es r):Xb X B E (.List es d) (b9 r):=
 PE.imp (BV h) λZ H Q ⟨G,δ,R,q⟩=>⟨G,δ,R,(eW q).be<|by
  rintro n _ ⟨m,i,g,q⟩ c l o a j
  cases g;have dl:=j.den f;refine⟨by rwa[<-dl.length],λp b=>q p c l _ (a.trans (c8.own a.gh _ b)) (ff a.hh b) (ff a.gh b) aj dl⟩⟩
def c8.p7{a:o_}(e:c8 G H d c)(i:H a=d_)(j:d a=d_)(h:c a=a_ (.au f)):c8 G H (eT d a (.au f)) c:=by
 refine⟨e.gg.trans (cq j _),e.hh,λb u q=>?_,λb u q g z=>?_⟩
 .by_cases z:b=a
  .subst z;rw[aj]at q;rwa[h]
  .rw[ai z]at q;exact e.gh b u q
 .rw[ai (a8 q i)];exact e.fr b u q g z
def IsL(g:En->ce):Prop:=∀δ d,g δ=.ok d->∃a,d=.au a
def Rz:IsL (b9 r):=λδ d h=>by
 unfold b9 at h;cases e:r δ with
 |ok b=>
  rw[e]at h
  by_cases a:_7 b<=iN
  .simp only[iH a]at h;cases h;exact⟨b,_6⟩
  .simp only[iG a]at h;cases h
 |er c=>rw[e]at h;cases h
 |st=>rw[e]at h;cases h
def Sw(h:Xb X B E e g)(i:IsL g):f7 X B E e g:=PE.imp h λZ H Q ⟨G,δ,R,q⟩=>⟨G,δ,R,q.be λd l q=>by
 obtain⟨n,rfl⟩:=i δ d l;exact⟨n,_6,λa c p o m f b j dl=>q _ _ o (m.p7 f b j) ⟨a,c,_6,gL.of aj,dl.be (cq b _)⟩⟩⟩
def TQ(c:Hz b=c_)(h:Q0 X B E b es r):f7 X B E (.List es a) (b9 r):=Sw (Pk c h) Rz
end
set_option genInjectivity true in
inductive fc where
 |nx (δ:En)
 |bk (δ:En)
 |ct (δ:En)
 |rt (d:D)
 |er (c:x_)
 |st
def ki(K:KA)(f B:Hp)(E:EK)(G:Hp)(o:fc)(D:qt):Prop:=match o with
 |.nx δ=>∀a e b,ca G e->dg K B e b a δ->c8 f B e b->D.nx a b
 |.bk δ=>∀a e b,ca G e->dg K B e b a δ->c8 f B e b->D.bk a b
 |.ct δ=>∀a e b,ca G e->dg K B e b a δ->c8 f B e b->D.ct a b
 |.rt d=>∀v e b,c8 f B e b->gr K e d v->D.rt v b
 |.er c=>∀e b,c8 f B e b->E c b
 |.st=>T_
inductive tSt(K:KA)(G0 B:Hp)(E:EK)(F:En->fc)(D:qt)(Z:St)(H:Hp):Prop
 |mk (G δ) (_:dg K B G H Z δ) (_:c8 G0 B G H) (_:ki K G0 B E G (F δ) D):tSt K G0 B E F D Z H
abbrev yd(X:Cx)(a B:Hp)(E:EK)(st:S_)(F:En->fc):Prop:=PS X st (tSt (kx X) a B E F)
abbrev Co(X:Cx)(a B:Hp)(E:EK)(st:b_ S_)(F:En->fc):Prop:=PSs X st (tSt (kx X) a B E F)
def PS.imp{st:S_}(h:PS X st t)(i:∀D Z H,b D Z H->t D Z H):PS X st b:=λa s Z H D I q=>h a s Z H D I (i D Z H q)
def PSs.imp{st:b_ S_}(h:PSs X st t)(i:∀D Z H,b D Z H->t D Z H):PSs X st b:=λa s Z H D I q=>h a s Z H D I (i D Z H q)
def ki.same{K:KA}{D:qt}(s:ca G f)(h:ki K g B E G o D):ki K g B E f o D:=by
 cases o with
 |nx δ=>exact λa e b q=>h a e b (s.trans q)
 |bk δ=>exact λa e b q=>h a e b (s.trans q)
 |ct δ=>exact λa e b q=>h a e b (s.trans q)
 |rt d=>exact h
 |er c=>exact h
 |st=>exact h
noncomputable def ce.then(r:ce)(f:D->fc):fc:=match r with
 |.ok d=>f d
 |.er c=>.er c
 |.st=>.st
def Aw{K:KA}{D:qt}(e:c8 a B G H)(h:ki K a B E G (r.then f) D):eu E G H r λd=>ki K a B E G (f d) D:=by
 cases r with
 |ok d=>exact h
 |er c=>exact λg b q=>h g b (e.trans q)
 |st=>exact h
section
variable{st:S_}
noncomputable def gw:En->fc:=λδ=>.nx δ
noncomputable def a9(c b:En->fc):En->fc:=λδ=>match c δ with
 |.nx a=>b a
 |o=>o
def UC:Co X a B E [] gw:=PSs.imp KP (by rintro D Z H ⟨G,δ,R,e,q⟩;exact q Z G H (ca.refl G) R e)
def eN{K:KA}{D:qt}(q:tSt K b B E (a9 f l) D Z H):ZE (tSt K b B E f) (tSt K b B E l) D Z H:=by
 obtain⟨G,δ,R,e,q⟩:=q;refine⟨G,δ,R,e,?_⟩;unfold a9 at q;cases ef:f δ with
 |nx a=>rw[ef]at q;exact λg j m s i h=>⟨j,a,i,h,ki.same s q⟩
 |bk a=>rw[ef]at q;exact q
 |ct a=>rw[ef]at q;exact q
 |rt d=>rw[ef]at q;exact q
 |er c=>rw[ef]at q;exact q
 |st=>rw[ef]at q;exact q
def LD(c:yd X a B E st e)(b:Co X a B E cW d):Co X a B E (st::cW) (a9 e d):=PSs.imp (Ml c b) λD Z H q=>eN q
def UB(a:yd X b B E st c):Co X b B E [st] c:=Dc a
noncomputable def cj(g:En->ce):En->fc:=λδ=>(g δ).then .rt
def ZT(h:f7 X B E e g):yd X j B E (.Return (a_ e) a) (cj g):=PS.imp (SL h) (by rintro D Z H ⟨G,δ,R,e,q⟩;exact⟨G,δ,R,(Aw e q).be λd z q v i f b c=>q v i f (e.trans b) c⟩)
noncomputable def oj(c:En->ce)(a b:En->fc):En->fc:=λδ=>(c δ).then λd=>match d with
 |.bl c_=>a δ
 |.bl e_=>b δ
 |_=>.st
def eP(l:Ft X B E c g)(n:Co X f B E i r)(m:Co X f B E h p):yd X f B E (.If c i h j) (oj g r p):=
 PS.imp (YK l n m) λD Z H ⟨G,δ,R,e,q⟩=>⟨G,δ,R,(Aw e q).be λd z q=>by
  cases d with
  |bl t=>cases t with
   |true=>exact⟨c_,_6,λb o a=>⟨b,δ,R.ext a,e.trans a,ki.same a.gg q⟩⟩
   |false=>exact⟨e_,_6,λb o a=>⟨b,δ,R.ext a,e.trans a,ki.same a.gg q⟩⟩
  |fD=>exact q.elim
  |int _=>exact q.elim
  |str _=>exact q.elim
  |ci _=>exact q.elim
  |au _=>exact q.elim
  |js _ _=>exact q.elim
  |obj _ _=>exact q.elim
  |fn _=>exact q.elim⟩
def dg.set{K:KA}{G H:Hp}{Z:St}{δ:En}{i:g_}{d:D}{v:V}(R:dg K B G H Z δ)(h:gr K G d v):dg K B G H (Z.set i (a_ v)) (δ.set i (.pu d)) where
 bh:=R.bh
 gb:=R.gb
 gh:=R.gh
 len:=by rw[lO,lO];exact R.len
 sl:=λj s q=>by
  by_cases z:i=j
  .subst z;have e:i<_7 δ:=by have:=(h_.mp q).1;rwa[lO]at this
   rw[jQ e]at q;cases q;exact⟨a_ v,jQ (by rwa[R.len]),v,_6,h⟩
  .rw[jL z]at q⊢;exact R.sl j s q
 own:=λj s a b c f=>by
  by_cases z:i=j
  .subst z;have e:i<_7 δ:=by have:=(h_.mp b).1;rwa[lO]at this
   rw[jQ e]at b;cases b;cases c
  .rw[jL z]at b f;exact R.own j s a b c f
 dis:=λj k s t a b c f m l g=>by
  have o:i≠j:=by
   rintro rfl
   have e:i<_7 δ:=by have:=(h_.mp b).1;rwa[lO]at this
   rw[jQ e]at b;cases b;cases f
  have n:i≠k:=by
   rintro rfl
   have e:i<_7 δ:=by have:=(h_.mp c).1;rwa[lO]at this
   rw[jQ e]at c;cases c;cases m
  rw[jL o]at b l;rw[jL n]at c g;exact R.dis j k s t a b c f m l g
noncomputable def dq(i:g_)(g:En->ce):En->fc:=λδ=>(g δ).then λd=>.nx (δ.set i (.pu d))
def ZS(h:f7 X B E e g)(f:PS X (.Assign [.Name x a] e b) (Ws (tPu (kx X) B E g) (vp i))):yd X n B E (.Assign [.Name x a] e b) (dq i g):=
 PS.imp f (by rintro D Z H ⟨G,δ,R,e,q⟩;exact⟨G,δ,R,(Aw e q).be λd z q v m l c j=>q _ m l c.gg ((R.ext c).set j) (e.trans c)⟩)
def dg.newO{K:KA}(R:dg K B G H Z δ)(e:c8 G H w I)(E:H a=d_)(M:w a=d_)(L:p' K B w I v (a_ (.ref a))):dg K B w I (Z.set i (a_ (.ref a))) (δ.set i v):=by
 have r:=R.ext e;have p:∀(j:g_) s,δ[j]?=a_ s->s.own=c_->Z[j]?=a_ (a_ (.ref a))->T_:=λj s d g f=>by obtain⟨o,A,J⟩:=R.sl j s d;rw[f]at A;cases A;obtain⟨N,z,u,y,_⟩:=J.ref g;cases z;rw[E]at y;cases y
 have c:∀{s},(δ.set i v)[i]?=a_ s->s=v/\i<_7 δ:=λq=>by
  have h:i<_7 δ:=by have:=(h_.mp q).1;rwa[lO]at this
  rw[jQ h]at q;cases q;exact⟨_6,h⟩
 refine⟨r.bh,r.gh,by rw[lO,lO];exact R.len,λj s q=>?_,λj s b d g f=>?_,λj k s t b d g f C n l=>?_,R.gb⟩
 .by_cases z:i=j
  .subst z;obtain⟨rfl,h⟩:=c q;exact⟨a_ _,jQ (by rwa[R.len]),L⟩
  .rw[jL z]at q⊢;exact r.sl j s q
 .by_cases z:i=j
  .subst z;obtain⟨rfl,h⟩:=c d;rw[jQ (by rw[R.len];exact h)]at f;cases f;exact⟨M,(ff R.bh E)⟩
  .rw[jL z]at d f;exact r.own j s b d g f
 .by_cases x:i=j
  .subst x;obtain⟨rfl,h⟩:=c d;rw[jQ (by rw[R.len];exact h)]at n;cases n
   by_cases m:i=k
   .exact m
   .rw[jL m]at g l;exact(p k t g C l).elim
  .rw[jL x]at d n
   by_cases m:i=k
   .subst m;obtain⟨rfl,h⟩:=c g;rw[jQ (by rw[R.len];exact h)]at l;cases l;exact(p j s d f n).elim
   .rw[jL m]at g l;exact r.dis j k s t b d g f C n l
def dg.setO{K:KA}(R:dg K B G H Z δ)(e:c8 G H b d)(f:H a=d_)(h:b a=d_)(g:d a=a_ (.au c))(dl:cr K b j c):
  dg K B b d (Z.set i (a_ (.ref a))) (δ.set i (.ow j)):=R.newO e f h ⟨a,c,_6,g,dl⟩
def de(i:g_)(g:En->ce):En->fc:=λδ=>(g δ).then λd=>match d with
 |.au a=>.nx (δ.set i (.ow a))
 |_=>.st
def DW(h:Xb X B E e g)(j:PS X (.Assign [.Name x b] e c) (Ws (tOw (kx X) B E g) (vp i))):yd X u B E (.Assign [.Name x b] e c) (de i g):=
 PS.imp j λD Z H ⟨G,δ,R,e,q⟩=>⟨G,δ,R,(Aw e q).be λd z q=>by
  cases d with
  |au o=>exact⟨o,_6,λa s r p f l n m dl=>q _ r p f.gg (R.setO f l n m dl) (e.trans f)⟩
  |fD=>exact q.elim
  |bl _=>exact q.elim
  |int _=>exact q.elim
  |str _=>exact q.elim
  |ci _=>exact q.elim
  |js _ _=>exact q.elim
  |obj _ _=>exact q.elim
  |fn _=>exact q.elim⟩
def dg.wrO{K:KA}(R:dg K B G H Z δ)(r:δ[i]?=a_ N)(E:N.own=c_)(C:Z[i]?=a_ (a_ (V.ref a)))(h:p' K B G (eT H a o) J (a_ (.ref a))):dg K B G (eT H a o) Z (δ.set i J):=by
 obtain⟨Y,bn⟩:=R.own i _ a r E C;have I:∀{F},F a=d_->ca F H->ca F (eT H a o):=λfn s b u q=>by rw[ai (a8 q fn)];exact s b u q
 have c:∀{j:g_}{s},(δ.set i J)[j]?=a_ s->s.own=c_->∃l,δ[j]?=a_ l/\l.own=c_:=λ{j s} q o=>by
  by_cases z:i=j
  .subst z;exact⟨_,r,E⟩
  .rw[jL z]at q;exact⟨s,q,o⟩
 refine⟨I bn R.bh,I Y R.gh,by rw[lO];exact R.len,λj s q=>?_,λj s b x w v=>?_,λj k s t b x w v T Q O=>?_,R.gb⟩
 .by_cases z:i=j
  .subst z;rw[jQ ((h_.mp r).1)]at q;cases q;exact⟨_,C,h⟩
  .rw[jL z]at q;obtain⟨L,g,f⟩:=R.sl j s q;refine⟨L,g,?_⟩;have A:∀b,s.own=c_->L=a_ _->b≠a:=λb U eo y=>by subst y;exact z (R.dis i j _ _ b r q E U C (by rw[g,eo]))
   match s,f with
   |.no,_=>trivial
   |.pu d,f=>exact f
   |.bo d,f=>exact f
   |.ow fs,⟨b,n,e,p,m⟩=>exact⟨b,n,e,by rwa[ai (A b _6 e)],m⟩
   |.od e_ fs,⟨b,n,e,p,m⟩=>exact⟨b,n,e,by rwa[ai (A b _6 e)],m⟩
   |.od c_ fs,⟨b,n,e,p,m⟩=>exact⟨b,n,e,by rwa[ai (A b _6 e)],m⟩
 .obtain⟨l,g,f⟩:=c x w;exact R.own j l b g f v
 .obtain⟨l,g,f⟩:=c x v;obtain⟨M,e,p⟩:=c w T;exact R.dis j k l M b g e f p Q O
def dg.wr{K:KA}(R:dg K B G H Z δ)(d:δ[i]?=a_ (.ow g))(c:Z[i]?=a_ (a_ (.ref a)))(f:H a=a_ (.au e))(dl:cr K G es b):
  dg K B G (eT H a (.au b)) Z (δ.set i (.ow es)):=R.wrO d _6 c ⟨a,b,_6,aj,dl⟩
def c8.wr(e:c8 f B G H)(c:G a=d_)(d:B a=d_):c8 f B G (eT H a o):=
 ⟨e.gg,λb u q=>by rw[ai (a8 q d)];exact e.hh b u q,λb u q=>by rw[ai (a8 q c)];exact e.gh b u q,e.fr⟩
noncomputable def yz:D->f_ (b_ D)
 |.au a=>a_ a
 |.ci a=>a_ a
 |_=>d_
noncomputable def turns(tg:D->En->f_ En)(F:En->fc):b_ D->En->fc
 |[],δ=>.nx δ
 |d::r,δ=>match tg d δ with
  |none=>.st
  |some b=>match F b with
   |.nx a=>turns tg F r a
   |.ct a=>turns tg F r a
   |.bk a=>.nx a
   |.rt d=>.rt d
   |.er c=>.er c
   |.st=>.st
end
section
noncomputable def vo(i:g_):En->ce:=λδ=>match δ[i]? with
 |some (.pu d)=>.ok d
 |some (.bo d)=>.ok d
 |_=>.st
inductive tBo(K:KA)(B:Hp)(E:EK)(g:En->ce)(Z:St)(H:Hp)(Q:VK):Prop
 |mk (G δ) (_:dg K B G H Z δ) (_:eu E G H (g δ) λd=>∀v G' H',c8 G H G' H'->Arg K G' B d v->Q v H'):tBo K B E g Z H Q
abbrev OX(X:Cx)(B:Hp)(E:EK)(e:Expr)(g:En->ce):Prop:=PE X e (tBo (kx X) B E g)
def OG(i:g_)(h:PE X (.Name x c) (ya i)):OX X B E (.Name x c) (vo i):=PE.imp h<|by
 rintro Z H Q ⟨G,δ,R,q⟩
 unfold vo at q;cases e:δ[i]? with
 |none=>rw[e]at q;exact q.elim
 |some s=>
  rw[e]at q;obtain⟨o,g,f⟩:=R.sl i _ e;cases s with
  |pu d=>obtain⟨v,b,a⟩:=f;exact⟨v,by rw[g,b],q v G H (c8.refl R.gh) (.inl a)⟩
  |bo d=>obtain⟨v,b,a⟩:=f;exact⟨v,by rw[g,b],q v G H (c8.refl R.gh) a⟩
  |no=>exact q.elim
  |ow d=>exact q.elim
  |od t d=>exact q.elim
def Xs(h:f7 X B E e g):OX X B E e g:=PE.imp h (by rintro Z H Q ⟨G,δ,R,q⟩;exact⟨G,δ,R,q.be λd z q v b a x y=>q v b a x (.inl y)⟩)
def zg(K:KA)(J:It)(a:b_ D)(S:Hp->Hp->Prop):Prop:=∀(i:g_) G H,S G H->ca G H->
 (∀d,a[i]?=a_ d->J.go i H/\∀x b,J.yld i H x b->∃c,c8 G H c b/\gr K c d x)/\(_7 a<=i->J.stop i H)
inductive tIt(K:KA)(B:Hp)(E:EK)(g:En->f8)(Z:St)(H:Hp)(R:It->Hp->Prop):Prop
 |mk (G δ) (_:dg K B G H Z δ) (_:gc E G H (g δ) λds=>∀J G' H',c8 G H G' H'->zg K J ds (λG2 H2=>ca G' G2/\ca B H2)->R J H'):tIt K B E g Z H R
inductive tIc(K:KA)(B:Hp)(E:EK)(g:En->f8)(Z:St)(H:Hp)(R:It->Hp->Prop):Prop
 |mk (G δ) (_:dg K B G H Z δ) (_:gc E G H (g δ) λds=>∀J G' H',c8 G H G' H'->zg K J ds (λG2 H2=>c8 G' H' G2 H2)->R J H'):tIc K B E g Z H R
abbrev Tu(X:Cx)(B:Hp)(E:EK)(tg iter:Expr)(g:En->f8):Prop:=PI X tg iter (tIt (kx X) B E g)
abbrev Tv(X:Cx)(B:Hp)(E:EK)(tg iter:Expr)(g:En->f8):Prop:=PI X tg iter (tIc (kx X) B E g)
def PI.imp(h:PI X tg iter c)(i:∀Z H R,b Z H R->c Z H R):PI X tg iter b:=λa s Z H R I q=>h a s Z H R I (i Z H R q)
def dD(K:KA)(c:TE):TI:=λZ H R=>c Z H λx b=>∃a,x=.ref a/\(((∃xs,gL K b a xs)/\R (aJ K a) b)\/((∃xs,ng K b a xs)/\R (aG K a) b))
def SQ(z:PE X l r):PI X tg l (dD (kx X) r):=by
 intro d s Z H R I h;refine jf (z d s Z H _ I h) λv f ⟨x,n,c,m,w⟩=>?_;obtain⟨a,e,⟨⟨xs,i⟩,q⟩|⟨⟨xs,i⟩,q⟩⟩:=w
 .subst e;cases m;obtain⟨g,u,p,y⟩:=c.list i;refine mS p.isList (⟨f.1.1.size,_,_,_,n,_6,c.h7 λb o e=>iE _ e,Ho a _,⟨_,iS _ _6,_6,_6⟩,λb j=>?_,q⟩);have e:b=f.1.1.size:=by simpa using j
  subst e;exact c.p9 (iF _) (c.fg.fresh (iF _))
 .subst e;cases m;obtain⟨g,u,p,y⟩:=c.tuple i;refine wpAny_pyIter_tuple (p) (⟨f.1.1.size,_,_,_,n,_6,c.h7 λb o e=>iE _ e,Fn a _,⟨_,iS _ _6,_6,_6⟩,λb j=>?_,q⟩);have e:b=f.1.1.size:=by simpa using j
  subst e;exact c.p9 (iF _) (c.fg.fresh (iF _))
def Os{K:KA}(h:∀G H,S G H->ca G H->gL K H a b/\ca o G)(dl:cr K o n b):zg K (aJ K a) n S:=λi G H j c=>by obtain⟨q,g⟩:=h G H j c;refine⟨λd l=>?_,λp=>⟨b,q,by rwa[<-dl.length]⟩⟩;obtain⟨v,f,m⟩:=dl.get l;refine⟨⟨b,v,q,f⟩,λx r ⟨e,y⟩=>?_⟩;subst e;have z:=y b q;rw[f]at z;cases z;exact⟨G,c8.refl c,m.be g⟩
def Ze{K:KA}(h:∀G H,S G H->ca G H->ng K H a b/\ca o G)(dl:cr K o n b):zg K (aG K a) n S:=λi G H j c=>by obtain⟨q,g⟩:=h G H j c;refine⟨λd l=>?_,λp=>⟨b,q,by rwa[<-dl.length]⟩⟩;obtain⟨v,f,m⟩:=dl.get l;refine⟨⟨b,v,q,f⟩,λx r ⟨e,y⟩=>?_⟩;subst e;have z:=y b q;rw[f]at z;cases z;exact⟨G,c8.refl c,m.be g⟩
def j0(lo:j_)(n:g_):b_ D:=(jD n).map λ(i:g_)=>.int (lo+i)
noncomputable def cy(r:En->f8):En->f8:=λδ=>match r δ with
 |.ok [.int j]=>if -(2^62)<=j/\j<2^62 then .ok (j0 0 j.toNat)else .st
 |.ok [.int i,.int j]=>if(-(2^62)<=i/\i<2^62)/\(-(2^62)<=j/\j<2^62)then .ok (j0 i (j-i).toNat)else .st
 |.ok _=>.st
 |.er c=>.er c
 |.st=>.st
def QQ{K:KA}{lo:j_}:zg K (aI lo n) (j0 lo n) S:=λi G H g f=>by
 refine⟨λd a=>?_,λb=>?_⟩
 .unfold j0 at a;rw[jF]at a;cases e:(jD n)[i]? with
  |none=>rw[e]at a;cases a
  |some j=>
   rw[e]at a;have c:i<n:=by have:=(h_.mp e).1;rwa[kG]at this
   rw[qN c]at e;cases e;cases a;exact⟨c,by rintro x h ⟨z,y⟩;subst z;exact⟨G,c8.refl f,y⟩⟩
 .unfold j0 at b;rw[iD,kG]at b;exact b
def ii.pv{K:KA}{G H:Hp}{m:r_}{d:D}{a:b_ V}(h:ii K G H [m] [d] a):∃v,a=[v]/\Arg K G H d v:=by
 obtain⟨l,j,v,g,f,e,b,i,c⟩:=h;cases f;subst c;refine⟨v,e,?_⟩;cases m
 .exact .inl b
 .exact b
def ii.two{K:KA}(h:ii K G H [m,l] [d,g] b):∃v u,b=[v,u]/\Arg K G H d v/\Arg K G H g u:=by
 obtain⟨o,n,v,j,f,e,a,c⟩:=h;cases f;obtain⟨u,z,i⟩:=ii.pv c;subst z;refine⟨v,u,e,?_,i⟩;cases m
 .exact .inl a
 .exact a
set_option tactic.hygienic true in
def US(q:gc E G H (cy r δ) P):gc E G H (r δ) λb=>
  (∃j,b=[.int j]/\-(2^62)<=j/\j<2^62/\P (j0 0 j.toNat))\/∃i j,b=[.int i,.int j]/\(-(2^62)<=i/\i<2^62/\-(2^62)<=j/\j<2^62)/\P (j0 i (j-i).toNat):=by
 unfold cy at q;cases e:r δ with
 |ok b=>
  rw[e]at q;split at q
  .rename_i z;cases z;split at q
   .rename_i a;exact .inl ⟨_,_6,a.1,a.2,q⟩
   .exact q.elim
  .rename_i z;cases z;split at q
   .rename_i a;exact .inr ⟨_,_,_6,⟨a.1.1,a.1.2,a.2.1,a.2.2⟩,q⟩
   .exact q.elim
  .exact q.elim
  .rename_i z;cases z
  .rename_i z;cases z
 |er c=>rw[e]at q;exact q
 |st=>rw[e]at q;exact q
def S4(f:Gl X "range")(e:X.mg "range"=d_)(g:Q0 X B E [m] [a] r)(d:Q! (jI [a] X.bi=[(e_,I_ a X.bi)]) Q2!):Tu X B E tg (.Call (.Name "range" p) [a] [] c) (cy r):=
 PI.imp (V9 f e g d) λZ H R ⟨G,δ,s,q⟩=>⟨G,δ,s,(US q).be λy z q x w u n b=>by
  obtain ⟨j,rfl,l,h,q⟩|⟨i,j,rfl,_⟩:=q
  .obtain⟨v,rfl,o⟩:=ii.pv b;exact⟨j,by rw[o.int],l,h,q _ w u n QQ⟩
  .have:=b.length.1;simp at this⟩
def BQ(h:Tu X B E tg iter r):Tv X B E tg iter r:=PI.imp h (by rintro Z H R ⟨G,δ,a,q⟩;exact⟨G,δ,a,q.be λj z q J g d e ok=>q J g d e λi f c x b=>ok i f c ⟨x.gg,(a.bh.trans e.hh).trans x.hh⟩ b⟩)
structure TgOk(X:Cx)(B:Hp)(tge:Expr)(gl:TG)(tgD:D->En->f_ En):Prop where
 pg:PG X tge gl
 ok:∀{G H:Hp}{Z:St}{δ δ':En}{d:D}{v:V}{Q:St->Hp->Prop},dg (kx X) B G H Z δ->gr (kx X) G d v->tgD d δ=a_ δ'->(∀σ',dg (kx X) B G H σ' δ'->Q σ' H)->gl v Z H Q
noncomputable def aq(i:g_):D->En->f_ En:=λd δ=>a_ (δ.set i (.pu d))
def LA(h:PG X (.Name x p) (vp i)):TgOk X B (.Name x p) (vp i) (aq i):=⟨h,λR a e q=>by
 cases e;exact q _ (R.set a)⟩
noncomputable def di(a:D->En->f_ En)(r:En->f8)(F:En->fc):En->fc:=λδ=>match r δ with
 |.ok b=>turns a F b δ
 |.er c=>.er c
 |.st=>.st
def dG{K:KA}{D:qt}(e:c8 d B G H)(q:ki K d B E G (di a r F δ) D):gc E G H (r δ) λb=>ki K d B E G (turns a F b δ) D:=by
 unfold di at q;cases er:r δ with
 |ok b=>rw[er]at q;exact q
 |er c=>rw[er]at q;exact λg f x=>q g f (e.trans x)
 |st=>rw[er]at q;exact q
def ZW(hp:vN (jG X.prog X.w) X.A X.bi X.xe)(hc:X.calm=c_)(hi:Tu X B E tg iter r)(hg:TgOk X B tg gl n)(hb:Co X I B E ss F)
  (hs:Q! (∀x,oS iter X.bi x=Q_ x) Q3!):yd X I B E (.For tg iter ss [] pos) (di n r F):=
 PS.imp (Px hp hc hi hg.pg hb hs) λD Z H ⟨G,δ,R,e,q⟩=>⟨G,δ,R,(dG e q).be λj W q J N H1 Y ok=>by
  refine⟨λi m Z H=>m=_7 j-i/\i<=_7 j/\∃l h,ca N l/\dg _ B l H Z h/\c8 I B l H/\ki _ I B E l (turns n F (j.drop i) h) D,
   ⟨j.length,by simp,jW _,N,δ,ca.refl N,R.ext Y,e.trans Y,ki.same Y.gg q⟩,?_⟩
  rintro i m O H2 ⟨rfl,ρ,l,h,s2,R2,x2,a⟩
  obtain⟨T,Q⟩:=ok i l H2 ⟨s2,R2.bh⟩ R2.gh
  by_cases M:i<_7 j
  .obtain⟨go,yl⟩:=T j[i] (by simp);rw[lG M]at a;refine .inr ⟨go,λb o=>i+1<=_7 j/\∃u g,ca N u/\dg _ B u o b g/\c8 I B u o/\ki _ I B E u _ D,
    by rintro b o ⟨n1,n2⟩;exact⟨_,vH M (mH _),_6,n1,n2⟩,λx H3 y=>?_⟩
   obtain⟨u,p,dn⟩:=yl x H3 y;unfold turns at a;cases U:n j[i] h with
   |none=>rw[U]at a;exact a.elim
   |some g=>
    rw[U]at a;dsimp only at a;refine hg.ok (R2.ext p) dn U λη R3=>⟨u,g,R3,x2.trans p,?_⟩;have s3:=s2.trans p.gg;cases ef:F g with
    |nx f=>rw[ef]at a;exact λb L o s C v=>⟨M,L,f,s3.trans s,C,v,ki.same (p.gg.trans s) a⟩
    |ct f=>rw[ef]at a;exact λb L o s C v=>⟨M,L,f,s3.trans s,C,v,ki.same (p.gg.trans s) a⟩
    |bk f=>rw[ef]at a;exact λb L o s C v=>a b L o (p.gg.trans s) C v
    |rt d=>rw[ef]at a;exact a
    |er c=>rw[ef]at a;exact a
    |st=>rw[ef]at a;exact a
  .have z:i=_7 j:=by lia
   subst z;rw[uF]at a;exact .inl ⟨Q (iF _),a O l H2 (ca.refl l) R2 x2⟩⟩
noncomputable def cz:b_ r_->b_ D->En
 |_,[]=>[]
 |true::a,d::b=>.bo d::cz a b
 |false::a,d::b=>.pu d::cz a b
 |[],_::_=>[]
noncomputable def fe:fc->ce
 |.rt d=>.ok d
 |.nx _=>.ok .fD
 |.er c=>.er c
 |_=>.st
def dH(b:b_ r_)(n:g_)(F:En->fc)(a:b_ D):ce:=fe (F (cz b a++iT (n-a.length) .no))
inductive spPu(K:KA)(ms:b_ r_)(f:b_ D->ce)(vs:b_ V)(H:Hp)(Q:VK)(E:XK):Prop
 |mk (_:vs.length=ms.length) (_:GOk H) (G ds) (_:ca G H) (_:ii K G H ms ds vs) (_:eu (ek K E) G H (f ds) λd=>∀v G' H',c8 G H G' H'->gr K G' d v->Q v H'):spPu K ms f vs H Q E
def Ur{K:KA}:∀{b}{h}{g},ii K G H b h g->(cz b h).length=_7 g:=by
 intro a;induction a with
 |nil=>rintro _ _ ⟨f,e⟩;subst f;subst e;rfl
 |cons m b c=>
  rintro _ _ ⟨d,n,v,j,f,e,l,i⟩
  subst f;subst e;cases m<;>simp only[cz,iC,(c i)]
def A4{K:KA}:∀{g}{p}{j},ii K G H g p j->∀(i:g_) s,(cz g p)[i]?=a_ s->s.own=e_/\∃v,j[i]?=a_ v/\p' K H G H s (a_ v):=by
 intro b;induction b with
 |nil=>rintro _ _ ⟨h,o⟩ i s q;subst h;simp[cz]at q
 |cons m g a=>
  rintro _ _ ⟨d,w,v,r,h,o,n,l⟩ i s q
  subst h;subst o;cases i with
  |zero=>
   cases m with
   |true=>simp only[cz,kA,e?]at q;subst q;exact⟨_6,v,_6,v,_6,n⟩
   |false=>simp only[cz,kA,e?]at q;subst q;exact⟨_6,v,_6,v,_6,n⟩
  |succ i=>
   cases m with
   |true=>obtain⟨f,u,e,c⟩:=a l i s q;exact⟨f,u,by simpa using e,c⟩
   |false=>obtain⟨f,u,e,c⟩:=a l i s q;exact⟨f,u,by simpa using e,c⟩
def N9{K:KA}(x:GOk H)(s:ca G H)(e:ii K G H m d h):dg K H G H (L2.t4 N h) (cz m d++iT (_7 N-_7 d) .no):=by
 have n:=Ur e;obtain⟨r,p⟩:=e.length;have b:∀i t,(cz m d++iT (_7 N-_7 d) Sl.no)[i]?=a_ t->t=.no\/(i<_7 h/\_[i]?=a_ t):=λi t q=>by
  by_cases z:i<(cz m d).length
  .rw[kI z]at q;exact .inr ⟨by rwa[<-n],q⟩
  .rw[kW (by lia)]at q;have:=jT q;exact .inl (List.eq_of_mem_replicate this)
 refine⟨ca.refl H,s,?_,λi t q=>?_,λi t a l g f=>?_,λi j t u a l g f C B A=>?_,x⟩
 .unfold L2.t4;rw[iO,iO,iD,lQ,lQ,n,r,p]
 .rcases b i t q with rfl|⟨o,c⟩
  .have w:i<(L2.t4 N h).length:=by
    have:=(h_.mp q).1;rw[iO,lQ,n]at this;unfold L2.t4;rw[iO,iD,lQ]
    lia
   exact⟨_,iR w,trivial⟩
  .obtain⟨_,v,y,ok⟩:=A4 e i t c;refine⟨a_ v,?_,ok⟩;unfold L2.t4;rw[kI (by rw[iD];exact o),jF,y];rfl
 .rcases b i t l with rfl|⟨o,c⟩
  .cases g
  .obtain⟨z,_⟩:=A4 e i t c;rw[z]at g;cases g
 .rcases b i t l with rfl|⟨o,c⟩
  .cases f
  .obtain⟨z,_⟩:=A4 e i t c;rw[z]at f;cases f
def JL{K:KA}(s:ca G H)(h:eu E G H (fe o) λd=>∀v b a,c8 G H b a->gr K b d v->Q v a):
  ki K G H E G o {nx:=λz a=>Q .fD a,rt:=Q}:=by
 cases o with
 |nx δ=>exact λf b a z z e=>h .fD b a e _6
 |bk δ=>exact h.elim
 |ct δ=>exact h.elim
 |rt d=>exact λv b a e g=>h v b a e g
 |er c=>exact h
 |st=>exact h
end
section
noncomputable def ah(f:b_ D->ce)(r:En->f8):En->ce:=λδ=>match r δ with
 |.ok a=>f a
 |.er c=>.er c
 |.st=>.st
def Xt(q:eu E G H (ah f r δ) P):gc E G H (r δ) λa=>eu E G H (f a) P:=by
 unfold ah at q;cases e:r δ with
 |ok a=>rw[e]at q;exact q
 |er c=>rw[e]at q;exact q
 |st=>rw[e]at q;exact q
def KL{E:XK}(F:ky X.prog X.w X.K X.mg X.base U k f z h (spPu (kx X) i C))(l:h9 k X.A)(o:Gl X x)(m:X.mg x=a_ (.ref f))(n:mC X.K (.ref f)=c_)
  (u:lv X.K z h [])(j:oo U X E)(y:Q0 X B (ek (kx X) E) i (e::es) r)(g:Q! ((x==("__debug__":x_))=e_) Q1!)(s:Q! (jI (e::es) X.bi=(e_,I_ e X.bi)::jI es X.bi) Q2!)(c:Q! ((nU b (jI es X.bi)).any (·.1)=e_) Q2!):
  f7 X B (ek (kx X) E) (.Call (.Name x p) (e::es) [] b) (ah C r):=
 PE.imp (JI F l o m n u .nil j y g s c) λZ H Q ⟨G,δ,R,q⟩=>⟨G,δ,R,(Xt q).be λJ W q Y O H1 a M=>
  ⟨by rw[jX];exact M.length.2,R.gb.same (R.bh.trans a.hh),O,J,a.gh,by rwa[jX],(q.ext a).be λd W q v T N I L=>q v T N (a.trans I) L⟩⟩
def BC{E:XK}(F:ky X.prog X.w X.K X.mg X.base n k f l b (spPu (kx X) [] m))(e:h9 k X.A)(i:Gl X x)(g:X.mg x=a_ (.ref f))(h:mC X.K (.ref f)=c_)
  (j:lv X.K l b [])(d:oo n X E)(a:Q! ((x==("__debug__":x_))=e_) Q1!):f7 X B (ek (kx X) E) (.Call (.Name x p) [] [] c) (λz=>m []):=
 PE.imp (AB F e i g h j .nil d a) (by rintro Z H Q ⟨G,δ,R,q⟩;exact⟨_6,R.gb.same R.bh,G,[],R.gh,⟨_6,_6⟩,q⟩)
end
mutual
def e9:D->f_ rS
 |.fD=>a_ .none
 |.bl b=>a_ (.bool b)
 |.int i=>a_ (.int i)
 |.str x=>a_ (.str x)
 |.ci ds=>match fu ds with
  |some ps=>a_ (.tuple ps)
  |none=>d_
 |.au ds=>match fu ds with
  |some ps=>a_ (.list ps)
  |none=>d_
 |.js _ _=>d_
 |.obj _ _=>d_
 |.fn _=>d_
def fu:b_ D->f_ (b_ rS)
 |[]=>a_ []
 |d::ds=>match e9 d with
  | a_ p => (match fu ds with
   |some ps=>a_ (p::ps)
   |none=>d_)
  |none=>d_
end
section
mutual
theorem E6(I:c5 X c7 Z H s)(sg:ca G H):∀{d:D}{v:V}{u:jB}{p:rS},gr (kx X) G d v->ez v u->e9 d=a_ p->∃as,wF s.1 u p as
 |.fD,v,u,p,h,r,e=>by cases (show v=.fD from h);cases (show u=nB from r);cases e;exact⟨_,Reads.none⟩
 |.bl b,v,u,p,h,r,e=>by cases (show v=.bl b from h);cases (show u=vQ b from r);cases e;exact⟨_,Reads.bool b⟩
 |.int i,v,u,p,h,r,e=>by cases (show v=.int i from h);obtain⟨t,q⟩:=(show∃t,u=yF i t from r);cases q;cases e;exact⟨_,Reads.int i t⟩
 |.str x,v,u,p,h,r,e=>by cases (show v=.str x from h);obtain⟨t,q⟩:=(show∃t,u=g! x t from r);cases q;cases e;exact⟨_,Reads.str x t⟩
 |.ci ds,v,u,p,h,r,e=>by
  obtain⟨a,vs,rfl,sq,dl⟩:=h;cases (show u=pW a from r);unfold e9 at e;cases e2:fu ds with
  |none=>rw[e2]at e;cases e
  |some ps=>rw[e2]at e;cases e;obtain⟨its,rv,⟨o,ho,hc,n,hd⟩,_⟩:=I.tuple (ng.of (sg _ _ sq));obtain⟨as,ra⟩:=xy I sg dl rv e2;exact⟨as,Reads.tuple ho hc hd (by simpa using ra)⟩
 |.au ds,v,u,p,h,r,e=>by
  obtain⟨a,vs,rfl,sq,dl⟩:=h;cases (show u=pW a from r);unfold e9 at e;cases e2:fu ds with
  |none=>rw[e2]at e;cases e
  |some ps=>rw[e2]at e;cases e;obtain⟨its,rv,pl,_⟩:=I.list (gL.be sg sq);obtain⟨o,ho,hc,n,hd⟩:=pl.isList;obtain⟨as,ra⟩:=xy I sg dl rv e2;exact⟨_,Reads.list ho hc hd (by simpa using ra)⟩
 |.js _ _,_,_,_,_,_,e=>by cases e
 |.obj _ _,_,_,_,_,_,e=>by cases e
 |.fn _,_,_,_,_,_,e=>by cases e
theorem xy(I:c5 X c7 Z H s)(sg:ca G H):∀{ds:b_ D}{vs:b_ V}{us:b_ jB}{ps:b_ rS},cr (kx X) G ds vs->dL vs us->fu ds=a_ ps->∃as,ReadsAll s.1 us ps as
 |[],vs,us,ps,h,r,e=>by cases (show vs=[]from h);cases r;cases e;exact⟨_,ReadsAll.nil⟩
 |d::ds,vs,us,ps,h,r,e=>by
  obtain⟨v,vr,rfl,dv,dl⟩:=h;cases r with
  |cons rv rr=>
   unfold fu at e;cases e1:e9 d with
   |none=>rw[e1]at e;cases e
   |some p=>
    rw[e1]at e;dsimp only at e;cases e2:fu ds with
    |none=>rw[e2]at e;cases e
    |some ps'=>rw[e2]at e;cases e;obtain⟨as,ra⟩:=E6 I sg dv rv e1;obtain⟨bs,rb⟩:=xy I sg dl rr e2;exact⟨_,ReadsAll.cons ra rb⟩
end
def d9(I:c5 X f Z H s)(c:ca G H)(h:Arg (kx X) G H d v)(r:ez v u)(e:e9 d=a_ p):∃g,wF s.1 u p g:=by
 obtain h|⟨A,a,B,rfl,rfl,i,dl⟩|⟨t,q,a,rfl,_⟩:=h
 .exact E6 I c h r e
 .cases (r);unfold e9 at e;cases b:fu A with
  |none=>rw[b]at e;cases e
  |some C=>rw[b]at e;cases e;obtain⟨w,j,m,_⟩:=I.list i;obtain⟨o,x,z,n,y⟩:=m.isList;obtain⟨g,l⟩:=xy I c dl j b;exact⟨_,Reads.list x z y (by simpa using l)⟩
 .cases e
end
def W7(d e:D):f_ r_:=match e9 d,e9 e with
 |some p,a_ q=>if jZ p&&jZ q then a_ (lC p q)else d_
 |_,_=>d_
def gu(d e:D):f_ D:=(W7 d e).map .bl
def e8(d e:D):f_ D:=(W7 d e).map λb=>.bl !b
def K2(h:W7 d e=a_ b):∃p q,e9 d=a_ p/\e9 e=a_ q/\jZ p=c_/\jZ q=c_/\b=lC p q:=by
 unfold W7 at h;cases c:e9 d with
 |none=>rw[c]at h;cases h
 |some p=>
  cases f:e9 e with
  |none=>rw[c,f]at h;cases h
  |some q=>
   rw[c,f]at h;dsimp only at h
   by_cases a:(jZ p&&jZ q)=c_
   .rw[iH a]at h;cases h;rw[iQ]at a;exact⟨p,q,_6,_6,a.1,a.2,_6⟩
   .rw[iG a]at h;cases h
section
inductive rEqD(K:KA)(neg:r_)(x:V)(y:V)(H:Hp)(Q:VK):Prop
 |mk (G dx dy b) (_:ca G H) (_:Arg K G H dx x) (_:Arg K G H dy y) (_:W7 dx dy=a_ b) (_:Q (.bl (if neg then !b else b)) H):rEqD K neg x y H Q
def RM(j:X.A.units+64<lN):lz X (lS .Eq) (rEqD (kx X) e_):=by intro c s Z H x y v u Q I g f q;obtain⟨G,B,z,b,a,r,o,l,q⟩:=q;obtain⟨p,w,n,m,e,d,rfl⟩:=K2 l;obtain⟨C,i⟩:=d9 I a r g n;obtain⟨bs,h⟩:=d9 I a o f m;exact eq_dataH i h e d j ⟨.bl _,H,I,_6,q⟩
def RG(j:X.A.units+64<lN):lz X (lS .NotEq) (rEqD (kx X) c_):=by intro c s Z H x y v u Q I g f q;obtain⟨G,B,z,b,a,r,o,l,q⟩:=q;obtain⟨p,w,n,m,e,d,rfl⟩:=K2 l;obtain⟨C,i⟩:=d9 I a r g n;obtain⟨bs,h⟩:=d9 I a o f m;exact ne_dataH i h e d j ⟨.bl _,H,I,_6,q⟩
def KW{K:KA}:jk K gu (rEqD K e_):=λG H x y g f d c i h a Q q=>by
 unfold gu at a;cases e:W7 g f with
 |none=>rw[e]at a;cases a
 |some b=>rw[e]at a;cases a;exact⟨G,g,f,b,c,i,h,e,q _ G H (c8.refl c) _6⟩
def KR{K:KA}:jk K e8 (rEqD K c_):=λG H x y g f d c i h a Q q=>by
 unfold e8 at a;cases e:W7 g f with
 |none=>rw[e]at a;cases a
 |some b=>rw[e]at a;cases a;exact⟨G,g,f,b,c,i,h,e,q _ G H (c8.refl c) _6⟩
def Em{o:f_ r_}{f:r_->r_}(h:(o.map λb=>D.bl (f b))=a_ d):∃b,d=.bl b:=by
 cases o with
 |none=>cases h
 |some b=>cases h;exact⟨_,_6⟩
def Nn(f:j_->j_->f_ D):D->D->f_ D
 |.int i,.int j=>f i j
 |_,_=>d_
noncomputable def Mp:D->D->f_ D:=Nn λi j=>a_ (.int (i-j))
def E5:D->D->f_ D:=Nn λi j=>if 0<j then a_ (.int (i%j))else d_
def SM{K:KA}(e:∀i j d,f i j=a_ d->C i j/\∀G,gr K G d (r i j)):jk K (Nn f) (rI C r):=λG H x y h g d b n m a Q q=>by
 cases h with
 |int i=>
  cases g with
  |int j=>obtain⟨c,l⟩:=e i j d a;exact⟨i,j,n.int,m.int,c,q _ G H (c8.refl b) (l G)⟩
  |_=>cases a
 |_=>cases a
def S7{K:KA}(c:∀i j d,f i j=a_ d->∀G,gr K G d (r i j)):jk K (Nn f) (rI0 r):=λG H x y g e d b l h a Q q=>by
 cases g with
 |int i=>
  cases e with
  |int j=>exact⟨i,j,l.int,h.int,q _ G H (c8.refl b) (c i j d a G)⟩
  |_=>cases a
 |_=>cases a
def TH(l:k6 X B E a g)(f:k6 X B E b h):f7 X B E (.BinOp a .Sub b c) (g2 Mp g h):=S8 RE (S7 λi j d e G=>by cases e;rfl) l f
def TN(m:k6 X B E a g)(l:k6 X B E b h):f7 X B E (.BinOp a .Mod b f) (g2 E5 g h):=S8 RJ (SM λi j d e=>by
 by_cases c:0<j
 .rw[iH c]at e;cases e;exact⟨c,λz=>rfl⟩
 .rw[iG c]at e;cases e) m l
def yj(f:j_->j_->r_):D->D->f_ D:=Nn λi j=>a_ (.bl (f i j))
def Py:D->D->f_ D:=yj λi j=>decide (i<=j)
def UU:D->D->f_ D:=yj λi j=>decide (j<i)
def YB:D->D->f_ D:=yj λi j=>decide (i<j)
def Ez{K:KA}:jk K (yj f) (rI0 λi j=>.bl (f i j)):=S7 λi j d e G=>by cases e;rfl
def N3:∀x y d,yj f x y=a_ d->∃b,d=.bl b:=λx y d h=>by
 unfold yj Nn at h;split at h
 .exact⟨_,(jM h).symm⟩
 .cases h
noncomputable def wx(f a:D->D->f_ D)(g h k:En->ce):En->ce:=λδ=>(g δ).bind λx=>(h δ).bind λy=>(ce.of (f x y)).bind λz=>match z with
 |.bl c_=>(k δ).bind λw=>ce.of (a y w)
 |.bl e_=>.ok (.bl e_)
 |_=>.st
def X0{K:KA}(J:jk K f r)(i:jk K L z)(q:tPu K B E (wx f L g h k) Z H Q):Qk r z (tAr K B E g) (tAr K B E h) (tAr K B E k) Z H Q:=by
 obtain⟨G,δ,R,q⟩:=q;refine⟨G,δ,R,(eu.bind q).be λO W C x G1 H1 n Y=>⟨G1,δ,R.ext n,((eu.bind C).ext n).be λp W A y G2 H2 m s=>?_⟩⟩;have b:=n.trans m;obtain⟨d,M,a⟩:=eu.of (eu.bind A);refine J G2 H2 x y O p d m.gh (Y.ext m) s M _ λv u H3 c o=>?_;cases d with
 |bl t=>
  refine⟨t,o,?_⟩;cases t with
  |true=>refine⟨u,δ,R.ext (b.trans c),((eu.bind a).ext (b.trans c)).be λT W I w G4 H4 l aw=>?_⟩;obtain⟨U,j,e⟩:=eu.of I;exact i G4 H4 y w p T U l.gh ((s.ext c).ext l) aw j Q λv G5 H5 N o=>e v G5 H5 (((b.trans c).trans l).trans N) o
  |false=>exact a _ u H3 (b.trans c) _6
 |fD=>exact a.elim
 |int _=>exact a.elim
 |str _=>exact a.elim
 |ci _=>exact a.elim
 |au _=>exact a.elim
 |js _ _=>exact a.elim
 |obj _ _=>exact a.elim
 |fn _=>exact a.elim
def BB(o:lz X (lS j) r)(n:jk (kx X) f r)(i:lz X (lS d) l)(e:jk (kx X) w l)(v:k6 X B E a g)(u:k6 X B E b h)(s:k6 X B E c k)
  (p:Q! (yH [j,d] [b,c]=e_) Q4!):f7 X B E (.Compare a [j,d] [b,c] m) (wx f w g h k):=PE.imp (AA o i v u s p) λZ H Q q=>X0 n e q
def We(u:lz X (lS l) r)(s:jk (kx X) f r)(j:lz X (lS e) n)(i:jk (kx X) m n)(A:∀x y d,m x y=a_ d->∃b,d=.bl b)(I:k6 X B E a g)(C:k6 X B E b h)(z:k6 X B E c k)
  (w:Q! (yH [l,e] [b,c]=e_) Q4!):Ft X B E (.Compare a [l,e] [b,c] p) (wx f m g h k):=
 PT.imp (BF u j I C z w) λZ H Q ⟨G,δ,R,q⟩=>X0 s i ⟨G,δ,R,q.be<|by
  rintro d T ⟨b,J,o⟩ v O N L M
  subst J;exact⟨b,M,o O N L⟩⟩
noncomputable def bj:D->D->f_ D
 |.int i,.int j=>a_ (.int (i+j))
 |.str x,.str y=>if x.length+y.length<=iN then a_ (.str (x++y))else d_
 |.au xs,.au a=>if xs.length+a.length<=iN then a_ (.au (xs++a))else d_
 |.ci xs,.ci a=>if xs.length+a.length<=iN then a_ (.ci (xs++a))else d_
 |_,_=>d_
inductive rAddD(K:KA)(x:V)(y:V)(H:Hp)(Q:VK):Prop
 |mk (G dx dy d) (_:ca G H) (_:Arg K G H dx x) (_:Arg K G H dy y) (_:bj dx dy=a_ d) (_:∀v G' H',c8 G H G' H'->gr K G' d v->Q v H'):rAddD K x y H Q
def Xi{E:jB->jP->Prop}{b:o_}{e:b_ jB}(v:PlainL s.1 l e.toArray)(x:PlainL s.1 b a.toArray)(u:_7 e+_7 a<=iN)
  (h:Q (.ref s.1.1.size) {s with heap:=s.1.push {cls:=.type "list",data:=.seq (e++a).toArray}}):jK (jG i w) A (qO .Add (.ref l) (.ref b)) Q E s:=by
 obtain⟨⟨cls,G,data,o⟩,n,j,c,d,q⟩:=v;obtain⟨⟨m,z,data2,g⟩,r,f,C,B,p⟩:=x;subst c d q C B p;have y:e.toArray++a.toArray=(e++a).toArray:=by simp
 refine xH ⟨_,j,_6⟩ ⟨_,f,_6⟩ noFill_list_add seq_list_add PySem.F.slot_list_add PySem.F.entry_list_add (PySem.F.args_list_add_2 _ _) (list_addW l b e.toArray a.toArray n r _ _ o g (by simpa using u)) ⟨j,f,?_⟩;rwa[y]
def Xy{E:jB->jP->Prop}{b:o_}{g:b_ jB}(q:U? s.1 t h.toArray)(v:U? s.1 b g.toArray)(p:h=[])(x:Q (.ref b) s):
  jK (jG i w) A (qO .Add (.ref t) (.ref b)) Q E s:=by
 obtain⟨⟨cls,y,data,m⟩,j,u,n,r⟩:=id q;obtain⟨⟨l,f,data2,c⟩,a,e,o,d⟩:=id v;subst u r e d;exact xH ⟨_,j,_6⟩ ⟨_,a,_6⟩ wW M? tH sW (sI _ _)
  (tuple_addW0 t b h.toArray g.toArray n o y f m c (by simp[p])) ⟨j,a,x⟩
set_option tactic.hygienic true in
def JT:lz X (qO .Add) (rAddD (kx X)):=by
 intro e s Z H x y v u Q I i h q;obtain⟨G,dx,dy,d,c,o,n,a,q⟩:=q;unfold bj at a;split at a
 .cases a;rw[o.int]at i;rw[n.int]at h;exact RN e s Z H _ _ _ _ Q I i h ⟨_,_,_6,_6,q _ G H (c8.refl c) _6⟩
 .split at a
  .rename_i O;cases a;rw[o.str]at i;rw[n.str]at h;exact Pj e s Z H _ _ _ _ Q I i h ⟨_,_,_6,_6,O,q _ G H (c8.refl c) _6⟩
  .cases a
 .split at a
  .cases a;obtain⟨l,A,rfl,r,dl⟩:=o.au c;obtain⟨b,L,rfl,g,f⟩:=n.au c;cases i;cases h;obtain⟨C,w,U,_⟩:=I.list r;obtain⟨m,j,B,_⟩:=I.list g;have N:=dl.length;have M:=f.length;have l3:=w.length;have l4:=j.length;exact Xi U B (by lia) ⟨.ref _,_,I.lnew (w.append j) (by rw[iO];lia),_6,(q _ _ _ (c8.new c _ I.fresh) (zy c I.fresh (dl.append f)))⟩
  .cases a
 .split at a
  .rename_i xs J O;cases a;obtain⟨l,A,rfl,r,dl⟩:=o.ci c;obtain⟨b,L,rfl,g,f⟩:=n.ci c;have N:=dl.length;have M:=f.length
   by_cases E:A=[]
   .cases i;cases h;obtain⟨C,w,p1,_⟩:=I.tuple r;obtain⟨m,j,Y,_⟩:=I.tuple g;refine Xy p1 Y (w.qw.mpr E) ⟨.ref b,H,I,_6,?_⟩;subst E;have:xs=[]:=by cases xs with
     |nil=>rfl
     |cons _ _=>simp at N
    subst this;obtain ad|⟨_,_,_,z,_⟩|⟨_,_,_,z,_⟩:=n
    .exact q _ G H (c8.refl c) ad
    .cases z
    .cases z
   .refine JS e s Z H _ _ _ _ Q I i h ⟨l,b,A,L,_6,_6,r,g,E,by lia,λz=>?_,λz p T=>?_⟩
    .subst z;have:J=[]:=by cases J with
      |nil=>rfl
      |cons _ _=>simp at M
     subst this;rw[jX]at q;obtain ad|⟨_,_,_,z,_⟩|⟨_,_,_,z,_⟩:=o
     .exact q _ G H (c8.refl c) ad
     .cases z
     .cases z
    .exact q _ _ _ (c8.new c _ T) (o9 c T (dl.append f))
  .cases a
 .cases a
def BL{K:KA}:jk K bj (rAddD K):=λG H x y e c d a g f b Q q=>⟨G,e,c,d,a,g,f,b,q⟩
def SI(e:k6 X B E a g)(d:k6 X B E b h):f7 X B E (.BinOp a .Add b c) (g2 bj g h):=S8 JT BL e d
def cr.atI{K:KA}{G:Hp}{b:b_ D}{a:b_ V}{i:j_}{d:D}(dl:cr K G b a)(h:atI b i=a_ d):∃v,atI a i=a_ v/\gr K G d v:=by
 unfold L2.atI at h⊢;rw[dl.length]at h;cases e:MA a.length i with
 |none=>rw[e]at h;cases h
 |some j=>rw[e]at h;exact dl.get h
def FD{K:KA}{f:D->f_ D}{rr:b_ V->Hp->VK->Prop}(l:∀G H x a d,ca G H->Arg K G H a x->f a=a_ d->∀Q,(∀v h b,c8 G H h b->gr K h d v->Q v b)->rr [x] H Q){Z:St}{H:Hp}{Q:VK}(q:tPu K B E (g1 f g) Z H Q):
  bR rr (tAl K B E [c_] (am g af)) Z H Q:=by
 obtain⟨G,δ,R,q⟩:=q;refine⟨G,δ,R,?_⟩;unfold am;unfold g1 at q;cases e:g δ with
 |ok a=>rw[e]at q;obtain⟨d,m,j⟩:=eu.of (q);intro w u s i r;obtain⟨v,rfl,p⟩:=ii.pv r;exact l u s v a d i.gh p m Q λv h b n o=>j v h b (i.trans n) o
 |er c=>rw[e]at q;exact q
 |st=>rw[e]at q;exact q
noncomputable def i6:D->f_ D
 |.str x=>if x.length<=iN then a_ (.int x.length)else d_
 |.ci a=>a_ (.int a.length)
 |.au a=>a_ (.int a.length)
 |_=>d_
set_option tactic.hygienic true in
def TU(r:Gl X "len")(o:X.mg "len"=d_)(s:k6 X B E e g)(m:Q! (jI [e] X.bi=(e_,I_ e X.bi)::jI [] X.bi) Q2!)(i:Q! ((nU h (jI [] X.bi)).any (·.1)=e_) Q2!):f7 X B E (.Call (.Name "len" p) [e] [] h) (g1 i6 g):=
 PE.imp (l7 Xx r o PySem.boot_len (g7 s jr m) (by decide) (by decide) m i) λZ H Q q=>FD (λG H x u d b j a Q q=>by
  unfold i6 at a;split at a
  .split at a
   .rename_i n;cases a;rw[j.str];exact⟨_,_,_6,⟨n,_6⟩,q _ G H (c8.refl b) _6⟩
   .cases a
  .cases a;obtain⟨l,c,rfl,f,dl⟩:=j.ci b;exact⟨_,_,_6,.inr ⟨c,f,dl.length⟩,q _ G H (c8.refl b) _6⟩
  .cases a;obtain⟨l,c,rfl,f,dl⟩:=j.au b;exact⟨_,_,_6,.inl ⟨c,f,dl.length⟩,q _ G H (c8.refl b) _6⟩
  .cases a) q
noncomputable def MW:D->f_ Y_
 |.fD=>a_ "NoneType"
 |.bl _=>a_ "bool"
 |.int _=>a_ "int"
 |.str _=>a_ "str"
 |.ci _=>a_ "tuple"
 |.au _=>a_ "list"
 |.js _ _=>a_ "dict"
 |_=>d_
noncomputable def MC(t c:Y_):r_:=t==c||(t=="bool"&&c=="int")
def cf(c:Y_)(d:D):f_ D:=match MW d with
 |some t=>a_ (.bl (MC t c))
 |none=>d_
end
end Pu
namespace L2
def Tt(_:kR)(_:mG):FQ:=λz z z z z z=>T_
def V8:oo (Tt P w) X E:=λz z z z z z z h=>h.elim
def Acc(_:Cx)(_:XK):Prop:=_u
def Acc.goes(_:Acc X E):oo (Tt X.prog X.w) X E:=V8
def zh:Acc X E0:=trivial
def J7{K:iL}:
  Acc (A3 (Tt P w) P w K mg base N c a f e A cc b d E) E:=trivial
end L2
namespace Pu
open L2
def xt(h:a<b):a≠b+1:=by lia
def aD(h:b<n)(e:a=n+2)(z:a=b):T_:=by lia
def fP(e:a=n+2):a≠n/\n<=a:=by lia
def AU:b+1≠b:=by lia
instance:Inhabited D:=⟨.fD⟩
def Il(I:g_->jP->Prop)
   (y:∀n s,I n s->jK (jG a w) A (vR it) (λr d=>match r with
   |none=>R (.ok .next) d
   |some v=>jK (jG a w) A (xQ f it v) (λY d=>jK (jG a w) A (assign f b v) (λY q=>
     jK (jG a w) A (forIn H c_ λc r=>if r=c_ then do let ok <-isTrue c b (I_ c b);Q_ (vA ok)else Q_ (vA r)) (λok i=>
      if ok=c_ then jK (jG a w) A (I_ J b) (λx p=>
       jK (jG a w) A (call (.builtin "list.append") [L,x]) (λY o=>∃m,m<n/\I m o) (xN (jG a w) A b λe j=>R (.error e) j) p) (xN (jG a w) A b λe j=>R (.error e) j) i
      else∃m,m<n/\I m i) (xN (jG a w) A b λe j=>R (.error e) j) q) (xN (jG a w) A b λe j=>R (.error e) j) d) (xN (jG a w) A b λe j=>R (.error e) j) d) (xN (jG a w) A b λe j=>R (.error e) j) s)
  (n:g_) (h:I n s):
  pR (jG a w) A (.compLoop (.ListComp J [⟨f,iter,H,0⟩] G M) 0 it L b) R s:=by
 refine codeAny_loop _6 I (λn s N=>(wpAny_noted (iA (wO (iA (kN (y n s N) (λr d g=>?_) λY Y l=>l)))))) n h;cases r with
 |none=>exact iB g
 |some v=>
  refine iA (kN g (λY E g=>(iA (kN g (λY q C=>iA (kN C (λok i u=>?_) λY Y l=>l)) λY Y l=>l))) λY Y l=>l);cases ok with
  |false=>exact iB ⟨_6,u⟩
  |true=>exact iA (iA (kN u (λx p B=>iA (kN B (λY o z=>iB (iB ⟨_6,z⟩)) λY Y l=>l)) λY Y l=>l))
noncomputable def jz(a:j?):b_ (x_×vU)->b_ (x_×o_)->f_ (b_ (x_×o_))
 |[],b=>a_ b
 | (n, k) :: r, b => if k = .free then (match a.cells.lookup n with
  |some c=>jz a r ((n,c)::b)
  |none=>d_)else jz a r b
def Ub(d:j?):∀b i f,jz d b i=a_ f->
  (forIn b i λx (c:b_ (x_×o_))=>(if(x.2==nF)=c_ then do let a <-cellOf d x.1;Q_ (vA ((x.1,a)::c))else Q_ (vA c):Sem _))=Q_ f:=by
 intro e;induction e with
 |nil=>rintro i f h;cases h;rfl
 |cons e r g=>
  obtain⟨n,k⟩:=e
  rintro i f h
  unfold jz at h;rw[List.forIn_cons]
  by_cases j:k=.free
  .subst j;cases l:d.cells.lookup n with
   |none=>rw[l]at h;cases h
   |some c=>
    rw[l]at h;have:cellOf d n=Q_ c:=by unfold cellOf;rw[l]
    simp only[_g,this];exact g _ f h
  .rw[iG j]at h;have m:(k==nF)=e_:=by simpa using j
   simp only[m];exact g _ f h
def mz(h:jz b a.names []=a_ c):closureFor a b=Q_ c:=(u_ (λt=>t>>=λd=>Q_ d) (Ub b a.names [] c h)).trans (pure_bind _ _)
theorem ua(a:j?):∀b e d,jz a b e=a_ d->(∀p∈e,a.cells.lookup p.1=a_ p.2)->∀p∈d,a.cells.lookup p.1=a_ p.2
 |[],e,d,h,q=>by cases h;exact q
 |(n,k)::r,e,d,h,q=>by
  unfold jz at h
  by_cases i:k=.free
  .subst i;cases g:a.cells.lookup n with
   |none=>rw[g]at h;cases h
   |some c=>
    rw[g]at h;refine ua a r _ d h λp f=>?_;rcases l_.mp f with rfl|f
    .exact g
    .exact q p f
  .rw[iG i]at h;exact ua a r _ d h q
def kj:∀{l:b_ (x_×β)}{x}{c},l.lookup x=a_ c->(x,c)∈l:=by
 intro a;induction a with
 |nil=>rintro _ _ h;simp at h
 |cons a r d=>
  obtain⟨n,b⟩:=a
  rintro x c h
  rw[lY]at h
  by_cases e:x=n
  .subst e;simp only[W_]at h;cases h;exact iM
  .have f:(x==n)=e_:=by simpa using e
   rw[f]at h;exact iI _ (d h)
noncomputable def J5(own:b_ x_)(c:o_)(a:b_ (x_×o_)):b_ (x_×o_):=match own with
 |[]=>a
 |x::_=>(x,c)::a
def ot(h:(J5 own c a).lookup y=a_ d):a.lookup y=a_ d\/(y∈own/\@Eq g_ d c):=by
 cases own with
 |nil=>exact .inl h
 |cons x r=>
  have h:(_::a).lookup y=a_ d:=h;rw[lY]at h
  by_cases e:y=x
  .subst e;simp only[W_]at h;cases h;exact .inr ⟨iM,_6⟩
  .have b:(y==x)=e_:=by simpa using e
   rw[b]at h;exact .inl h
def X4(h:y∉own):(J5 own c a).lookup y=a.lookup y:=by
 cases own with
 |nil=>rfl
 |cons x r=>have b:(y==x)=e_:=G_.mpr λz=>h (z▸iM);show(_::a).lookup y=_;rw[lY,b]
def Rh(a:_7 own<=1)(h:y∈own):(J5 own c b).lookup y=a_ c:=by
 match own,a,h with
 |[x],_,h=>rw[q_.mp h];show(_::b).lookup x=_;simp
def Ij:∀b a d,rZ a b d=rZ a (b.filter λy=>y.2==.cell) d:=by
 intro c;induction c with
 |nil=>rintro _ _;exact _6
 |cons c r e=>
  obtain⟨n,k⟩:=c
  rintro a d
  rw[pJ]
  by_cases f:(k==nQ)=c_
  .rw[iH f];unfold rZ;rw[iH f,iH f];exact e _ _
  .rw[iG f]
   conv=>lhs;unfold rZ
   rw[iG f];exact e _ _
def Mm:∀a h,yI h a=yI h (a.filter λy=>y.2==.cell):=by
 intro b;induction b with
 |nil=>rintro _;exact _6
 |cons b r c=>
  obtain⟨n,k⟩:=b
  rintro h
  rw[pJ]
  by_cases d:(k==nQ)=c_
  .rw[iH d];unfold yI;rw[iH d,iH d];exact c _
  .rw[iG d]
   conv=>lhs;unfold yI
   rw[iG d];exact c _
def FR(p:(a.names.filter λy=>y.2==.cell)=own.map λx=>(x,nQ))(m:_7 own<=1)
  (h:∀f,f.Ns s.1.1.size (λz=>d_)->(∀b o,s.1.get? b=a_ o->f.get? b=a_ o)->(∀x∈own,f.IsCell (s.1.1.size+1) d_)->Q (newEnv a s.1.1.size g (J5 own (s.1.1.size+1) r) q d_ .none (a_ i) sP) {s with heap:=f}):
  jK M A (z? a g r [] q d_ .none (a_ i)) Q E s:=by
 simp only[z?];refine iA (S! (iA (wpAny_layCells _ (λj c cells=>by cases n:c==nQ<;>simp) _ _ _ _ ?_)));rw[mM ..,Ij,Mm,p];refine iA (iB (iB ?_));have d:=h (yI _ (own.map λx=>(x,nQ))) ((Heap.Ns.new s.1 (.type "dict")).keeps (pushCells_keeps _ _)) (λb o e=>pushCells_keeps _ _ b o (iE _ e))
 match own,m with
 |[],_=>exact d λx l=>by cases l
 |[x],_=>exact d λz z=>⟨_,by
   rw[(mM ..).symm];exact iS _ _6,_6⟩
def fT(X:Cx)(b:pA)(f:b_ (x_×o_))(C:o_):jB->jP->Prop:=xN (jG X.prog X.w) X.A (compEnvC b f C X.bi) λe c=>∃m,c.1.Ns C m/\∀d,kZ C c.1 d->∀a:j?,a.locals=C->jK (jG X.prog X.w) X.A (PySem.passOn "comprehension.variables-let-go" e a:Sem jB) (λz z=>T_) X.xe {c with heap:=d}
noncomputable def kh(X:Cx)(a:pA)(b:b_ (x_×o_))(N:b_ x_)(xs:b_ x_)(C:o_)(im:jP)(n7:Hp)(ex:b_ o_)(pn:b_ (o_×_d)):Cx where
 prog:=X.prog
 w:=X.w
 K:=kx X
 mg:=X.mg
 base:=X.base
 A:=X.A
 N:=N
 im:=im
 n7:=n7
 bi:=compEnvC a b C X.bi
 cc:=X.stack
 stack:=X.stack
 ex:=ex
 fn:=λy=>decide (y∈xs)
 calm:=X.calm
 pn:=pn
 xe:=fT X a b C
structure CapOk(X:Cx)(scope:pA)(cl:b_ (x_×o_))(y:x_)(i:g_):Prop where
 nw:X.N[i]?=a_ y
 vis:WM X.bi.scope y
 nloc:X.bi.kindOf y≠a_ .local
 cell:∃c,cl.lookup y=a_ c
 kind:(wG scope X.bi).names.lookup y=a_ .cell\/(wG scope X.bi).names.lookup y=a_ .free
def Caps(X:Cx)(a:pA)(c:b_ (x_×o_)):b_ x_->b_ g_->Prop
 |[],b=>b=[]
 |y::M,b=>Cn (CapOk X a c y) (Caps X a c M) b
theorem Caps.get:∀{M}{e},Caps X a n M e->∀(j:g_) y,M[j]?=a_ y->∃i,e[j]?=a_ i/\CapOk X a n y i
 |[],_,_,j,y,h=>by simp at h
 |_::_,_,c,0,y,h=>by obtain⟨i,r,d,g,f⟩:=c;simp at h;subst h;subst d;exact⟨i,_6,g⟩
 |_::_,_,b,j+1,y,h=>by obtain⟨i,r,d,g,f⟩:=b;subst d;obtain⟨k,m,l⟩:=Caps.get f j y (by simpa using h);exact⟨k,by simpa using m,l⟩
def Caps.length:∀{M}{d},Caps X b j M d->_7 M=_7 d:=by
 intro a;induction a with
 |nil=>rintro _ h;rw[h];rfl
 |cons _ _ c=>rintro _ ⟨i,r,f,g,e⟩;rw[f,iC,iC,c e]
structure io(X:Cx)(scope:pA)(cl:b_ (x_×o_))(own xs:b_ x_)(M:b_ x_)(ix:b_ g_):Prop where
 clos:jz X.bi scope.names []=a_ cl
 kind:scope.kind=.function
 ocell:(scope.names.filter λy=>y.2==.cell)=own.map λx=>(x,nQ)
 own1:_7 own<=1
 osub:∀x∈own,x∈xs
 names:∀y∈scope.names,y.2=.local->scope.names.lookup y.1=a_ .local
 loc:∀x∈xs,Xa scope x
 xcl:∀x∈xs,cl.lookup x=d_
 nd:(xs++M).Nodup
 ixd:ix.Nodup
 cap:Caps X scope cl M ix
section
def wo(g:j?):∀a i d,jz g a i=a_ d->∀y,((∃c,i.lookup y=a_ c)\/(y,nF)∈a)->∃c,d.lookup y=a_ c:=by
 intro b;induction b with
 |nil=>
  rintro i d h y q
  cases h;obtain q|q:=q
  .exact q
  .simp at q
 |cons b r f=>
  obtain⟨n,k⟩:=b
  rintro i d h y q
  unfold jz at h
  by_cases j:k=.free
  .subst j;cases l:g.cells.lookup n with
   |none=>rw[l]at h;cases h
   |some c=>
    rw[l]at h;refine f _ d h y ?_
    by_cases e:y=n
    .subst e;exact .inl ⟨c,by simp⟩
    .obtain ⟨o,q⟩|q:=q
     .refine .inl ⟨o,?_⟩;have m:(y==n)=e_:=by simpa using e
      rwa[lY,m]
     .rcases l_.mp q with z|z
      .cases z;exact t_ _6 e
      .exact .inr z
  .rw[iG j]at h;refine f _ d h y ?_;obtain q|q:=q
   .exact .inl q
   .rcases l_.mp q with z|z
    .cases z;exact t_ _6 j
    .exact .inr z
def io.free(O:io X a b own xs M d):∀y,(y,nF)∈a.names->∃c,b.lookup y=a_ c:=λy h=>wo X.bi _ _ b O.clos y (.inr h)
def io.cells(O:io X a b own xs M e)(h:b.lookup y=a_ c):X.bi.cells.lookup y=a_ c:=
 ua X.bi _ _ b O.clos (λp d=>by simp at d) _ (kj h)
def Jc(h:(wG a b).names.lookup y=a_ .cell\/(wG a b).names.lookup y=a_ .free):(y,nF)∈a.names\/(y,nQ)∈a.names:=by
 have g:∃k,(y,k)∈(wG a b).names/\(k=.cell\/k=.free):=by
  obtain h|h:=h
  .exact⟨_,kj h,.inl _6⟩
  .exact⟨_,kj h,.inr _6⟩
 obtain⟨k,j,d⟩:=g;obtain⟨⟨n,i⟩,c,e⟩:=k_.mp j
 by_cases f:(i==nF&&b.scope.kind==.function&&b.kindOf n==a_ .cell)=c_
 .simp only[f]at e;cases e;have:i=.free:=by simp only[iQ]at f;simpa using f.1.1
  subst this;exact .inl c
 .simp only[f]at e;cases e;obtain d|d:=d
  .subst d;exact .inr c
  .subst d;exact .inl c
def io.cellIn(O:io X a d own xs M c)(h:(y,nQ)∈a.names):y∈own:=by have:_∈a.names.filter λy=>y.2==.cell:=z_.mpr ⟨h,_6⟩;rw[O.ocell]at this;obtain⟨z,b,e⟩:=k_.mp this;cases e;exact b
theorem Al{b:j?}:∀{a:b_ (x_×vU)}{x},a.lookup x=a_ .cell->
  (a.map λ(n,k)=>if(k==nF&&b.scope.kind==.function&&b.kindOf n==a_ .cell)then(n,nQ)else(n,k)).lookup x=a_ .cell
 |[],_,h=>by simp at h
 |(n,k)::r,x,h=>by
  have d:=@Al b r x;show rR x ((if _=c_ then _ else _)::_)=_;cases c:x==n with
  |true=>simp only[lY,c]at h;cases h;simp[lY,c]
  |false=>
   simp only[lY,c]at h
   by_cases e:(k==nF&&b.scope.kind==.function&&b.kindOf n==a_ .cell)=c_
   .rw[iH e];simp only[lY,c];exact d h
   .rw[iG e];simp only[lY,c];exact d h
def Lr(h:Xa a x):Xa (wG a b) x:=h.imp (λh=>lookup_relabel_local h) λh=>Al h
def GX(O:io X l C own xs M Q)(I:c5 X i Z H s)(n:∀b∈B,pk X i H b)(r:∀b∈B,b<s.1.1.size)(A:∀b o,s.1.get? b=a_ o->d.get? b=a_ o)(T:d.objs.size=s.1.1.size+1):
  (kh X l (J5 own (s.1.1.size+2) C) (xs++M) xs (s.1.1.size+1) {s with heap:=d,toks:=L} (eT H s.1.1.size (.au [])) B (X.pn++i)).Ok:=by
 have lP:∀{b}{o},s.1.get? b=a_ o->b≠s.1.1.size:=λe z=>by have:=jA e;rw[z]at this;exact kU _ this
 have cne:∀y c,C.lookup y=a_ c->c<s.1.1.size:=λy c e=>by obtain⟨v,q⟩:=I.cell y c (O.cells e);exact q.lt
 have g:=I.ok;refine⟨g.tz,O.kind,g.se,g.blt,?_,?_,?_,?_,g.hd,g.frames,.inl _6,?_,?_,?_,?_,?_,?_,?_⟩
 .show d.objs.size<=s.1.1.size+1
  lia
 .intro a b c d j;rcases ot d with d|⟨d,J⟩<;>rcases ot j with j|⟨j,G⟩
  .exact g.inj a b c (O.cells d) (O.cells j)
  .exact(aD (cne _ _ d) G _6).elim
  .exact(aD (cne _ _ j) J _6).elim
  .match own,O.own1,d,j with
   |[x],_,d,j=>rw[q_.mp d,q_.mp j]
 .intro y p;rcases Jc (y:=y) p with h|h
  .by_cases m:y∈own
   .exact⟨_,Rh O.own1 m⟩
   .obtain⟨c,e⟩:=O.free _ h;exact⟨c,(X4 m).trans e⟩
  .exact⟨_,Rh O.own1 (O.cellIn h)⟩
 .intro y c p E;rcases ot E with h|⟨_,e⟩
  .rw[O.xcl y (A_ p)]at h;cases h
  .show d.objs.size<=c
   lia
 .intro b f;have:=r b f;refine⟨?_,λy c e=>?_⟩
  .exact xt this
  .rcases ot e with e|⟨_,e⟩
   .exact(n b f).5 y c (O.cells e)
   .exact λz=>aD this e z
 .intro b o e;obtain⟨w,N⟩:=I.bs b o e;refine⟨A b o w,?_⟩;show eT H s.1.1.size _ b=d_;rwa[ai (lP w)]
 .show X.base.objs.size<=d.objs.size;have:=g.bsz;have:=I.sz
  lia
 .intro b o e f;rcases(n b f).4 with q|q
  .exact g.noex b o e q
  .exact t_ (jR (jA e) (kC g.bsz q)) (kU _)
 .intro b f u;rcases l_.mp (I.rc b u)with e|e
  .exact(n b f).2 e
  .exact(n b f).3 e
 .exact I.stack.of_keeps λb o e Y=>⟨o,A b o e,_6⟩
 .intro b f;show eT H s.1.1.size _ b=d_;obtain⟨_,o,m,_⟩:=I.stack.mem f;rw[ai (lP m)];exact(I.stkFree b f)
def mi(Z:St)(a:b_ g_)(os:b_ (f_ V)):St:=os++a.map λi=>(Z[i]?).join
def N5{os:b_ (f_ V)}(c:_7 os=_7 xs)(O:io X a d own xs M b):(mi Z b os).length=(xs++M).length:=by unfold mi;rw[iO,iO,iD,c,O.cap.length]
def X3(O:io X h cl own xs M ix)(I:c5 X g Z H s)(hf:∀b∈fp,pk X g H b)(T:∀b∈fp,b<s.1.1.size)(B:∀b o,s.1.get? b=a_ o->E.get? b=a_ o)(hz:E.objs.size=s.1.1.size+1)
  (ha:E.get? s.1.1.size=a_ {cls:=.type "list",data:=.seq #[] 0})(a:∀b o,E.get? b=a_ o->Y.get? b=a_ o)(hn:Y.Ns (s.1.1.size+1) m)(L:∀x∈own,Y.IsCell (s.1.1.size+2) d_):
  c5 (kh X h (J5 own (s.1.1.size+2) cl) (xs++M) xs (s.1.1.size+1) {s with heap:=E,toks:=tk} (eT H s.1.1.size (.au [])) fp (X.pn++g)) [] (mi Z ix (iT xs.length d_)) (eT H s.1.1.size (.au [])) {s with heap:=Y,toks:=tk2}:=by
 have lP:∀{b}{o},s.1.get? b=a_ o->b≠s.1.1.size:=λe z=>by have:=jA e;rw[z]at this;exact kU _ this
 refine⟨GX O I hf T B hz,_6,I.lU,Un.h7 a,⟨m,hn,?_⟩,?_,?_,?_,?_,?_,N5 lQ O⟩
 .intro i y v hi n _
  by_cases hx:i<_7 xs
  .unfold mi at n;rw[kI (by rw[lQ];exact hx),List.getElem?_replicate_of_lt hx]at n;cases n
  .obtain⟨j,rfl⟩:∃j,i=_7 xs+j:=⟨i-_7 xs,by lia⟩;have hy:M[j]?=a_ y:=by have q:(xs++M)[_7 xs+j]?=a_ y:=hi;rw[kW (mO _ _)]at q;simpa using q
   obtain⟨k,Q,C⟩:=O.cap.get j y hy;have w:((ix.map λi=>(Z[i]?).join)[j]?)=a_ (a_ v):=by unfold mi at n;rw[kW (by rw[lQ];exact mO _ _)]at n;simpa using n
   rw[jF,Q]at w;have A:(Z[k]?).join=a_ v:=by simpa using w
   have J:Z[k]?=a_ (a_ v):=by
    cases e:Z[k]? with
    |none=>rw[e]at A;simp at A
    |some o=>rw[e]at A;simp at A;rw[A]
   obtain⟨mX,_,hl⟩:=I.loc;obtain⟨u,r,lk⟩:=hl k y v C.nw J C.vis;refine⟨u,r,.inr ⟨C.kind,?_⟩⟩;obtain ⟨q,_⟩|⟨_,c,f,l⟩:=lk
   .exact t_ q C.nloc
   .obtain⟨c',d⟩:=C.cell;have:=O.cells d;rw[f]at this;cases this;exact⟨c,(X4 (λz=>(O_.mp O.nd).2.2 y (O.osub y z) y (jT hy) _6)).trans d,l.keeps λb o e=>a b o (B b o e)⟩
 .intro y c f;rcases ot f with f|⟨ho,e⟩
  .obtain⟨v,q⟩:=I.cell y c (O.cells f);exact⟨v,q.keeps λb o e=>a b o (B b o e)⟩
  .rw[e];exact⟨_,L y ho⟩
 .show eT H s.1.1.size _ (s.1.1.size+1)=d_;rw[ai AU];exact(I.fg.fresh (oO _))
 .intro y c f;rcases ot f with f|⟨ho,e⟩
  rotate_left
  .refine .inl ?_;rw[ai (fP e).1];exact I.fg.fresh (fP e).2
  obtain⟨v,q⟩:=I.cell y c (O.cells f);have N:=i_ λz=>by have d:=f;rw[O.xcl y z]at d;cases d
  rcases I.nm y c (O.cells f)with fr|⟨_,o,fr⟩
  .refine .inl ?_;rwa[ai (jJ q.lt)]
  .refine .inr ⟨N,o,?_⟩;rwa[ai (jJ q.lt)]
 .intro p hp;obtain⟨G,q2,q3,q4,q5⟩:=I.pin p (by simpa[kh]using hp);refine⟨a _ _ (B _ _ G),?_,?_,?_,q5⟩
  .rwa[ai (lP G)]
  .exact xt (jA G)
  .intro U;rcases l_.mp (I.rc p.1 U)with e|e
   .exact q3 e
   .exact q4 e
 .refine I.fg.laid (λb o e=>a b o (B b o e)) (iF _) ⟨jW _,[],0,.nil,a _ _ ha⟩
end
noncomputable def vk(f:D->f_ (f_ D)):b_ D->f_ (b_ D)
 |[]=>a_ []
 |d::r=>match f d with
  |none=>d_
  |some o=>match vk f r with
   |none=>d_
   |some a=>a_ (o.toList++a)
inductive TR where
 |ok (o:f_ D)
 |er (c:x_)
 |st
noncomputable def vm(F:D->TR):b_ D->f8
 |[]=>.ok []
 |d::r=>match F d with
  | .ok o => (match vm F r with
   |.ok a=>.ok (o.toList++a)
   |.er c=>.er c
   |.st=>.st)
  |.er c=>.er c
  |.st=>.st
noncomputable def bP:f_ (f_ D)->TR
 |some o=>.ok o
 |none=>.st
def Rf:∀c,vm (λd=>bP (f d)) c=match vk f c with
  |some e=>.ok e
  |none=>.st:=by
 intro a;induction a with
 |nil=>exact _6
 |cons d r b=>
  unfold vm vk;cases f d with
  |none=>rfl
  |some o=>rw[b];cases vk f r<;>rfl
noncomputable def Rp(a:b_ D):f8->f8
 |.ok r=>.ok (a++r)
 |.er c=>.er c
 |.st=>.st
def Yz(R:f8):R=Rp [] R:=by cases R<;>rfl
def Uv(a:b_ D)(o:f_ D)(R:f8):Rp a (match R with
  |.ok b=>.ok (o.toList++b)
  |.er c=>.er c
  |.st=>.st)=Rp (a++o.toList) R:=by
 cases R with
 |ok r=>exact u_ f8.ok (kF ..).symm
 |er c=>rfl
 |st=>rfl
def fq(a:b_ g_)(δ:En)(s:Sl):En:=s::a.map λi=>(δ[i]?).getD .no
noncomputable def Ci(a:b_ g_)(t:En->ce)(g:En->ce)(δ:En)(d:D):f_ (f_ D):=match t (fq a δ (.pu d))with
 |.ok (.bl c_)=>(match g (fq a δ (.pu d))with
  |.ok y=>a_ (a_ y)
  |_=>d_)
 |.ok (.bl e_)=>a_ d_
 |_=>d_
noncomputable def ao(r:En->f8)(d:b_ g_)(t:En->ce)(g:En->ce):En->ce:=λδ=>match r δ with
 | .ok a => if a.length <= iN then (match vk (Ci d t g δ) a with
  |some b=>.ok (.au b)
  |none=>.st)else .st
 |.er c=>.er c
 |.st=>.st
noncomputable def Ys(r:En->f8)(f:En->D->f_ (f_ D)):En->ce:=λδ=>match r δ with
 | .ok a => if a.length <= iN then (match vk (f δ) a with
  |some b=>.ok (.au b)
  |none=>.st)else .st
 |.er c=>.er c
 |.st=>.st
def ug(r:En->f8)(F:En->D->TR):En->ce:=λδ=>match r δ with
 | .ok a => if a.length <= iN then (match vm (F δ) a with
  |.ok b=>.ok (.au b)
  |.er c=>.er c
  |.st=>.st)else .st
 |.er c=>.er c
 |.st=>.st
def K7:Ys r f=ug r λδ d=>bP (f δ d):=by
 funext δ
 unfold Ys ug;cases r δ with
 |ok a=>dsimp only;rw[Rf];cases vk _ a<;>rfl
 |er c=>rfl
 |st=>rfl
def U8:IsL (ug r F):=λδ d h=>by
 unfold ug at h;cases e:r δ with
 |ok f=>
  rw[e]at h;dsimp only at h
  by_cases b:_7 f<=iN
  .rw[iH b]at h;cases a:vm _ f with
   |ok g=>rw[a]at h;cases h;exact⟨_,_6⟩
   |er c=>rw[a]at h;cases h
   |st=>rw[a]at h;cases h
  .rw[iG b]at h;cases h
 |er c=>rw[e]at h;cases h
 |st=>rw[e]at h;cases h
def MO(q:eu E G H (ug r F δ) P):
  gc E G H (r δ) λa=>_7 a<=iN/\gc E G H (vm (F δ) a) λf=>P (.au f):=by
 unfold ug at q;cases e:r δ with
 |ok a=>
  rw[e]at q;dsimp only at q
  by_cases b:_7 a<=iN
  .rw[iH b]at q;refine⟨b,?_⟩;cases d:vm _ a with
   |ok f=>rw[d]at q;exact q
   |er c=>rw[d]at q;exact q
   |st=>rw[d]at q;exact q
  .rw[iG b]at q;exact q.elim
 |er c=>rw[e]at q;exact q
 |st=>rw[e]at q;exact q
def vg(a:b_ g_)(δ:En):En:=a.map λi=>(δ[i]?).getD .no
def GP{K:KA}:∀{a}{b},cr K G a b->∀{j:g_}{t},(a.map Sl.pu)[j]?=a_ t->∃d v,t=.pu d/\(b.map a_)[j]?=a_ (a_ v)/\gr K G d v:=λ{a b} dl j t h=>by
 rw[jF]at h;cases e:a[j]? with
 |none=>rw[e]at h;cases h
 |some d=>rw[e]at h;cases h;obtain⟨v,c,f⟩:=dl.get e;exact⟨d,v,_6,by rw[jF,c];rfl,f⟩
def N4{K:KA}(R:dg K B G H Z δ)(U:c.Nodup)(dl:cr K G l x):dg K B G H (mi Z c (x.map a_)) (l.map Sl.pu++vg c δ):=by
 have f:∀(j:g_) t,(vg c δ)[j]?=a_ t->∃i,c[j]?=a_ i/\((t=.no)\/δ[i]?=a_ t)/\(c.map λi=>(Z[i]?).join)[j]?=a_ _:=λj t h=>by
  unfold vg at h;rw[jF]at h;cases e:c[j]? with
  |none=>rw[e]at h;cases h
  |some i=>
   rw[e]at h;refine⟨i,_6,?_,by rw[jF,e];rfl⟩;cases M:δ[i]? with
   |none=>rw[xV,M]at h;cases h;exact .inl _6
   |some u=>rw[xV,M]at h;cases h;exact .inr _6
 have y:∀(i:g_) a,(Z[i]?).join=a_ (V.ref a)->Z[i]?=a_ _:=λi a h=>by
  cases e:Z[i]? with
  |none=>rw[e]at h;simp at h
  |some o=>rw[e]at h;simp at h;rw[h]
 have r:(x.map a_).length=(l.map Sl.pu).length:=by rw[iD,iD,dl.length]
 have g:∀{j}{t},(l.map Sl.pu++vg c δ)[j]?=a_ t->(∃d v,t=.pu d/\(mi Z c (x.map a_))[j]?=a_ _/\gr K G d v)\/∃k,j=_7 l+k/\_[k]?=a_ t/\(mi Z c _)[j]?=_[k]?:=λ{j t} h=>by
  unfold mi
  by_cases A:j<(l.map Sl.pu).length
  .rw[kI A]at h;rw[kI (by rw[r];exact A)];exact .inl (GP dl h)
  .obtain⟨k,rfl⟩:∃k,j=_7 l+k:=⟨j-_7 l,by rw[iD]at A;lia⟩;rw[kW (by rw[iD];exact mO _ _),iD,tB]at h;exact .inr ⟨k,_6,h,by rw[kW (by rw[r,iD];exact mO _ _),r,iD,tB]⟩
 refine⟨R.bh,R.gh,?_,λj t h=>?_,λj t a E p m=>?_,λj k t u a E p m C L J=>?_,R.gb⟩
 .unfold mi vg;rw[iO,iO,r,iD (as:=c),iD (as:=c)]
 .rcases g h with⟨d,v,rfl,e,s⟩|⟨k,rfl,h,e⟩
  .exact⟨a_ v,e,v,_6,s⟩
  .obtain⟨i,q,b,n⟩:=f k t h;refine⟨_,e.trans n,?_⟩;obtain rfl|b:=b
   .trivial
   .obtain⟨o',O,z2⟩:=R.sl i t b;rwa[O]
 .rcases g E with⟨d,v,rfl,e,s⟩|⟨k,rfl,h,e⟩
  .cases p
  .obtain⟨i,q,b,n⟩:=f k t h;rw[e,n]at m;obtain rfl|b:=b
   .cases p
   .exact R.own i t a b p (y i a (jM m))
 .rcases g E with⟨d,v,rfl,e,s⟩|⟨j',rfl,h,e⟩
  .cases m
  .rcases g p with⟨d,v,rfl,N,s⟩|⟨Y,rfl,h',N⟩
   .cases C
   .obtain⟨i,q,b,n⟩:=f j' t h;obtain⟨I,T,w,Q⟩:=f Y u h';rw[e,n]at L;rw[N,Q]at J;obtain rfl|b:=b
    .cases m
    .obtain rfl|w:=w
     .cases C
     .have z:=R.dis i I t u a b w m C (y i a (jM L)) (y I a (jM J));subst z;rw[(List.getElem?_inj ((h_.mp q).1) U).mp (q.trans T.symm)]
structure TgB(X:Cx)(n:g_)(tg:Expr)(td:D->f_ (b_ D)):Prop where
 ex:∃gl,PG X tg gl/\∀{G H:Hp}{os:b_ (f_ V)}{cs:St}{d:D}{v:V}{ds:b_ D}{Q:St->Hp->Prop},_7 os=n->ca G H->gr (kx X) G d v->td d=a_ ds->(∀vs,cr (kx X) G ds vs->_7 vs=n->Q (vs.map a_++cs) H)->gl v (os++cs) H Q
section
abbrev EF:EK:=λz z=>T_
structure qx(X:Cx)(B:Hp)(E:XK)(scope:pA)(cl:b_ (x_×o_))(own xs:b_ x_)(M:b_ x_)(tg:Expr)(td:D->f_ (b_ D))(elt:Expr)(ifs:b_ Expr)(t g:En->ce):Prop where
 tgt:∀C im n7 ex pn,TgB (kh X scope (J5 own (C+1) cl) (xs++M) xs C im n7 ex pn) xs.length tg td
 test:(ifs=[]/\t=gC (.bl c_))\/∃c,ifs=[c]/\∀C im n7 ex pn,Ft (kh X scope (J5 own (C+1) cl) (xs++M) xs C im n7 ex pn) B EF c t
 elt:∀C im n7 ex pn,Acc (kh X scope (J5 own (C+1) cl) (xs++M) xs C im n7 ex pn) E->f7 (kh X scope (J5 own (C+1) cl) (xs++M) xs C im n7 ex pn) B (ek (kx X) E) elt g
def fF(d:D):f_ (b_ D):=a_ [d]
def Ti(O:io X a l own [x] M p)(C b c h f):TgB (kh X a (J5 own (C+1) l) ([x]++M) [x] C b c h f) 1 (.Name x n) fF:=
 ⟨_,S0 (i:=0) O.nd _6 (Lr (O.loc x iM)) (.inl (m_ iM)),λ{G H os s d v r Q} g m j e q=>by
  cases e
  match os,g with
  |[o],_=>exact q [v] (cr.pv j) _6⟩
def TurnF(c:D->f_ (b_ D))(a:En)(t g:En->ce)(f:D->f_ (f_ D)):Prop:=∀d o,f d=a_ o->∃b,c d=a_ b/\
 ((t (b.map Sl.pu++a)=.ok (.bl c_)/\∃y,g (b.map Sl.pu++a)=.ok y/\o=a_ y)\/(t (b.map Sl.pu++a)=.ok (.bl e_)/\o=d_))
set_option tactic.hygienic true in
def EN:TurnF fF (vg a δ) t g (Ci a t g δ):=λd o h=>by
 refine⟨[d],_6,?_⟩
 .unfold Ci at h;have e:[d].map Sl.pu++vg a δ=fq a δ _:=rfl;split at h
  .rename_i b;split at h
   .rename_i y c;cases h;exact .inl ⟨b,y,c,_6⟩
   .cases h
  .rename_i b;cases h;exact .inr ⟨b,_6⟩
  .cases h
def F9(e:D->f_ (b_ D))(a:En)(t g:En->ce)(F:D->TR):Prop:=∀d,F d≠.st->∃b,e d=a_ b/\
 ((t (b.map Sl.pu++a)=.ok (.bl c_)/\((∃y,g (b.map Sl.pu++a)=.ok y/\F d=.ok (a_ y))\/∃c,g (b.map Sl.pu++a)=.er c/\F d=.er c))\/(t (b.map Sl.pu++a)=.ok (.bl e_)/\F d=.ok d_))
def TurnF.tr(h:TurnF l j t g f):F9 l j t g λd=>bP (f d):=λd i=>by
 dsimp only at i⊢;cases e:f d with
 |none=>rw[e]at i;exact t_ _6 i
 |some o=>obtain⟨m,q,z⟩:=h d o e;refine⟨m,q,z.imp (by rintro⟨a,y,b,c⟩;exact⟨a,.inl ⟨y,b,by rw[c];rfl⟩⟩) (by rintro⟨a,c⟩;exact⟨a,by rw[c];rfl⟩)⟩
def eu.ok0{r:ce}(d:D)(e:r=.ok d)(h:P d):eu E G H r P:=by rwa[e]
inductive CJ(Y:Cx)(a:o_)(k:g_)(Z:St)(ix:b_ g_)(fp:b_ o_)(tn:g_->C_->Prop)(G H:Hp)(F:D->TR)(ds:b_ D)(r0:f8)(n:g_)(s1:jP):Prop
 |mk (i:g_) (os:b_ (f_ V)) (H1 G1:Hp) (vs:b_ V) (zs:b_ D) (_:_7 os=k) (_:n=_7 ds-i) (_:i<=_7 ds) (_:c5 Y [] (mi Z ix os) H1 s1) (_:tn i s1.1) (_:∀b∈fp,H1 b=d_)
   (_:H1 a=a_ (.au vs)) (_:G1 a=d_) (_:c8 G H G1 H1) (_:cr (kx Y) G1 zs vs) (_:_7 zs<=i) (_:r0=Rp zs (vm F (ds.drop i))):CJ Y a k Z ix fp tn G H F ds r0 n s1
def Ue{Y:Cx}{a:o_}{k:g_}{Z:St}{δ:En}{G H:Hp}{s:jP}{it:o_}{fp:b_ o_}{tn:g_->C_->Prop}{J:It}{p:b_ D}{r0:f8}{F:D->TR}{RR:Result->jP->Prop}{n:g_}
  (TB:TgB Y k tg td)(TE:f7 Y B (ek (kx Y) E') elt g)(TT:(τ=[]/\t=gC (.bl c_))\/∃c,τ=[c]/\Ft Y B EF c t)(hc:Y.calm=c_)(M:∀v s,Y.xe v s->xN (jG Y.prog Y.w) Y.A Y.bi (λe s'=>RR (.error e) s') v s)(T:qh Y.prog Y.w (kx Y) tg J fp it tn)(α:∀{r},(∀b∈fp,r b=d_)->∀b∈fp,pk Y [] r b)
  (R:dg (kx Y) B G H Z δ) (ixd:ix.Nodup) (fresh:H a=d_) (ok:zg (kx Y) J p (λG2 H2=>c8 G H G2 H2)) (hl:_7 p<=iN) (hF:F9 td (vg ix δ) t g F) (hst:r0≠.st) (her:∀c,r0=.er c->∀G' H',c8 G H G' H'->ek (kx Y) E' c H')
  (fin:∀s1 r G1 vs zs os,c5 Y [] (mi Z ix os) r s1->r a=a_ (.au vs)->G1 a=d_->c8 G H G1 r->cr (kx Y) G1 zs vs->r0=.ok zs->RR (.ok .next) s1)
  (j:CJ Y a k Z ix fp tn G H F p r0 n s):pR (jG Y.prog Y.w) Y.A (.compLoop (.ListComp elt [⟨tg,iter,τ,0⟩] scope pos) 0 (.ref it) (.ref a) Y.bi) RR s:=by
 refine Il _ ?_ n j
 rintro n s1 ⟨i,os,r,G1,vs,zs,hos,rfl,hi,I1,μ,ω,β,ψ,x1,I,zl,er⟩
 obtain⟨okg,oks⟩:=ok i G1 r x1 x1.gh
 by_cases o:i<_7 p
 .obtain⟨go,yl⟩:=okg p[i] (iR o);rw[lG o]at er;unfold vm at er;have jd:F p[i]≠.st:=λz=>by rw[z]at er;exact hst er
  refine kN (T.item Y _6 _6 _6 hc i [] s1 _ r _ I1 (α ω) μ go) (λrr s2 ⟨u,hr,h2⟩=>?_) M;subst hr;refine kN h2 (λW s3 ⟨xv,H3,I3,r3,y3,Q,fr3⟩=>?_) M;obtain⟨G3,e3,dn⟩:=yl xv H3 y3;have x3:=x1.trans e3;have C:=e3.hh _ _ β;have χ:=e3.fr _ _ β ψ _6;obtain⟨dx,htd,υ⟩:=hF _ jd;obtain⟨gl,TO1,TO2⟩:=TB.ex;refine kN (TO1 _ s3 _ H3 xv u (λσ' H'=>H'=H3/\∃O,cr _ G3 dx O/\_7 O=k/\σ'=mi Z ix (O.map a_)) (I3.pinned (α fr3) (T.obj _ _ Q)) r3 (TO2 hos e3.gh dn htd λO dl U=>⟨_6,O,dl,U,_6⟩)) (λW s4 ⟨σ4,H4,I4,e4,O,dlx,hvx,e5⟩=>?_) M;subst e4 e5;have R4:=N4 (R.ext x3) ixd dlx;have next:∀{L}{q}{x}{us}{ws}{oy},F p[i]=.ok oy->c5 Y ([]++Ex fp s3.1) _ q L->
    q a=a_ _->x a=d_->c8 G H x q->cr _ x ws us->ws=zs++oy.toList->∃m,m<_7 p-i/\CJ Y a k Z ix fp tn G H F p r0 m L:=λ{L q x us ws oy} ef I5 ha5 ga5 x5 dl5 ew=>by
   have pn:=λb N ob e=>I5.pin (b,ob) (kS _ (kS _ (y8 N e)));refine⟨_,Nat.sub_succ_lt_self _ _ o,i+1,O.map a_,q,x,us,ws,(iD _).trans hvx,_6,o,I5.o0,T.keep _ _ _ Q λb N ob e=>(pn b N ob e).1,λb N=>?_,ha5,ga5,x5,dl5,?_,?_⟩
   .obtain⟨ob,e,d⟩:=T.obj _ _ Q b N;exact(pn b N ob e).2.1
   .rw[ew,iO];exact Nat.add_le_add zl (by cases oy<;>simp)
   .rw[er,ef,ew];exact Uv zs oy _
  have val:∀{L}{q x},c5 Y ([]++Ex fp s3.1) _ q L->c8 G3 H4 x q->((∃y,g _=.ok y/\F p[i]=.ok _)\/∃c,g _=.er c/\F p[i]=.er c)->
    jK _ Y.A _ (λxx κ=>jK _ Y.A _ _ _ κ) _ L:=λ{L q x} I5 e5 U=>by
    refine kN (TE _ L _ q (λv l=>∃y f,F p[i]=.ok (a_ y)/\c8 x q f l/\gr (kx Y) f y v) I5 ⟨x,_,R4.ext e5,?_⟩) (λxx s6 ⟨v6,l,I6,r6,y,f,ef,h,d6⟩=>?_) M
    .obtain ⟨y,eg,ef⟩|⟨c,eg,ef⟩:=U
     .exact eu.ok0 y eg λv f l h d6=>⟨y,f,ef,h,d6⟩
     .rw[eg];rw[ef]at er;exact λf l h=>her c er f l (x3.trans (e5.trans h))
    .have E:=e5.trans h;have φ:=E.fr _ _ C χ _6;refine kN (xr _ s6 _ l (.ref a) [v6] _ [xx] (λW H7=>H7=eT l a _) I6 _6 (.cons r6 .nil) ⟨_,vs,v6,_6,_6,E.hh _ _ C,?_,_6⟩) (λW s7 ⟨_,H7,I7,_,e7⟩=>?_) M
     .rw[<-I.length];exact sR zl (jR o hl)
     .subst e7;exact next ef I7 aj φ ((x3.trans E).wr φ fresh) ((I.be (e3.gg.trans E.gg)).append (cr.pv d6)) _6
  obtain ⟨rfl,rfl⟩|⟨c,rfl,ht⟩:=TT
  .refine wpAny_tests_nil ?_;obtain ⟨_,U⟩|⟨N,_⟩:=υ
   .exact val I4 (c8.refl R4.gh) U
   .cases N
  .refine wpAny_tests_one ?_;obtain ⟨et,U⟩|⟨et,ef⟩:=υ
   .refine kN (ht _ s4 _ H4 (λb l=>b=c_/\∃f,c8 G3 H4 f l) I4 ⟨G3,_,R4,eu.ok0 _ et ⟨c_,_6,λf l h=>⟨_6,f,h⟩⟩⟩) (λb s6 ⟨l,I6,eb,f,h⟩=>?_) M;subst eb;exact val I6 h U
   .refine kN (ht _ s4 _ H4 (λb l=>b=e_/\∃f,c8 G3 H4 f l) I4 ⟨G3,_,R4,eu.ok0 _ et ⟨e_,_6,λf l h=>⟨_6,f,h⟩⟩⟩) (λb s6 ⟨l,I6,eb,f,h⟩=>?_) M;subst eb;exact next ef I6 (h.hh _ _ C) (h.fr _ _ C χ _6) (x3.trans h) (I.be (e3.gg.trans h.gg)) (jX _).symm
 .obtain rfl:i=_7 p:=xW hi (wY o);rw[uF]at er;refine kN (T.done Y _6 _6 _6 hc _ [] s1 _ r _ I1 (α ω) μ (oks (iF _))) (λrr s2 ⟨hr,I2⟩=>?_) M;subst hr;exact fin s2 r G1 vs zs os I2 β ψ x1 I (er.trans (u_ f8.ok (jX _)))
def Xe(X:Cx)(E:XK):Prop:=E=E0
def Xf(l:Xe X o)(I:c5 X d Z q i)(p:i.1.get? C=d_)(back:∀{b f h g},c5 (kh X a n N xs C c e m j) b f h g->c5 X d Z h g):Acc (kh X a n N xs C c e m j) o:=by cases l;exact zh
def Kl(O:io X a cl own xs M ix)(hc:X.calm=c_)(hA:Xe X E')(Bk:qx X B E' a cl own xs M tg td κ η t g) 
  (I:c5 X f Z H s)(T:qh X.prog X.w (kx X) tg J Y it tn)(st:tn 0 s.1)(hf:∀b∈Y,pk X f H b)(R:dg (kx X) B G H Z δ)(ok:zg (kx X) J ds (λG2 H2=>c8 G H G2 H2))(hl:_7 ds<=iN)(hF:F9 td (vg ix δ) t g F)
  {RR:jB->o_->Result->jP->Prop} (ι:∀e s',(∃m,s'.1.Ns (s.1.1.size+1) m/\∀h',kZ (s.1.1.size+1) s'.1 h'->∀j,j.locals=s.1.1.size+1->jK (jG X.prog X.w) X.A (PySem.passOn "comprehension.variables-let-go" e j:Sem jB) (λW W=>T_) X.xe {s' with heap:=h'})->RR (.ref s.1.1.size) (s.1.1.size+1) (.error e) s')
  (n:gc (ek (kx X) E') G H (vm F ds) λys=>∀N l G1 vs m,c5 X f Z l N->N.1.Ns (s.1.1.size+1) m->l (s.1.1.size+1)=d_->c8 G H G1 l->G1 s.1.1.size=d_->l s.1.1.size=a_ (.au vs)->cr (kx X) G1 ys vs->RR (.ref s.1.1.size) (s.1.1.size+1) (.ok .next) N):
  jK (jG X.prog X.w) X.A (newList []) (λμ γ=>jK (jG X.prog X.w) X.A (z? a X.bi.globals cl [] X.bi.qual d_ .none (a_ X.bi)) (λj β=>
   pR (jG X.prog X.w) X.A (.compStart (.ListComp κ [⟨tg,iter,η,0⟩] a υ) 0 (.ref it) μ {j with scope:=wG a X.bi}) (RR μ j.locals) β) X.xe γ) X.xe s:=by
 have C:∀b∈Y,b<s.1.1.size:=λb r=>by obtain⟨o,e,_⟩:=T.obj 0 _ st b r;exact jA e
 refine kX (FR O.ocell O.own1 λθ d x Q=>?_);generalize U:s.1.push {cls:=.type "list",dict:=d_,data:=.seq ([]).toArray}=i at d x Q⊢;have hz:i.objs.size=s.1.1.size+1:=by rw[<-U,mM]
 rw[hz]at d Q⊢;have hk:∀b o,s.1.get? b=a_ o->i.get? b=a_ o:=λb o e=>by rw[<-U];exact iE _ e
 have ha:i.get? s.1.1.size=a_ {cls:=.type "list",data:=.seq #[] 0}:=by rw[<-U];exact iS _ _6
 have fresh:=I.fg.fresh (iF _);have ψ:∀{l},(∀b∈Y,l b=d_)->∀b∈Y,pk (kh X a (J5 own _ cl) (xs++M) xs _ {s with heap:=i,toks:=s.toks} (eT H s.1.1.size (.au [])) Y (X.pn++f)) [] l b:=λ{l} hn b r=>by
  obtain⟨f0,f1,f2,f3,f4,f5⟩:=hf b r;refine⟨hn b r,?_,?_,.inl r,λy c e=>(by
   rcases ot e with e|⟨_,e⟩
   .exact f4 y c (O.cells e)
   .exact λz=>aD (C b r) e z),λp hp=>f5 p (by simpa[kh]using hp)⟩
  .exact xt (C b r)
  .intro χ;rcases l_.mp (I.rc b χ)with e|e
   .exact f1 e
   .exact f2 e
 have back:∀{u α l N},c5 (kh X a (J5 own (s.1.1.size+2) cl) (xs++M) xs (s.1.1.size+1) {s with heap:=i,toks:=s.toks} (eT H s.1.1.size (.au [])) Y (X.pn++f)) u α l N->c5 X f Z l N:=λ{u α l N} L=>by
  exact I.call' L.os ((Un.laid hk (iF _) fresh).trans L.base) L.fg L.lU λb r=>by obtain⟨f0,f1,f2,f3,f4,f5⟩:=hf b r;exact⟨f3,f1,f4,f5⟩
 have E:pR _ X.A (.compLoop (.ListComp κ [⟨tg,iter,η,0⟩] a υ) 0 _ _ (compEnvC a _ _ X.bi)) _
   {s with heap:=θ}:=
  Ue (r0:=vm F ds) (Bk.tgt _ _ _ _ _) (Bk.elt _ _ _ _ _ (Xf hA I (G? (oO _)) back)) (Bk.test.imp_right (by rintro⟨c,e,h⟩;exact⟨c,e,h _ _ _ _ _⟩)) hc (λv s' q=>kN q (λW s2 z=>ι v s2 z) λe s2 z=>ι e s2 z) T ψ R O.ixd fresh ok hl hF (λz=>by rw[z]at n;exact n) (λc z=>by rw[z]at n;exact n)
   (λs2 l G1 vs zs os L ω Γ x1 Ψ z=>by
    obtain⟨m2,φ,_⟩:=L.loc;rw[z]at n;exact n s2 l G1 vs m2 (back L) φ L.free x1 Γ ω Ψ)
   ⟨0,iT xs.length d_,_,G,[],[],lQ,_6,jW _,(X3 (tk2:=s.toks) O I hf C hk hz ha x d Q),T.keep 0 _ _ st (λb W o e=>x b o (hk b o e)),λb r=>by rw[ai (jJ (C b r))];exact(hf b r).1,aj,(ff R.gh fresh),(c8.own R.gh _ fresh),_6,iF _,Yz _⟩
 exact codeAny_compStart_list E (T.self _ 0 _ _ _ (T.keep 0 _ _ st (λb W o e=>x b o (hk b o e))) E)
def FM(E b:EK)(F:En->D->TR):Prop:=∀δ a c,vm (F δ) a=.er c->∀H,E c H->b c H
def Yk{f:En->D->f_ (f_ D)}:FM E g λδ d=>bP (f δ d):=λδ a c h=>by
 rw[Rf]at h;cases e:vk (f δ) a with
 |none=>rw[e]at h;cases h
 |some b=>rw[e]at h;cases h
def gc.er{r:f8}(h:gc E G H r P)(f:∀c,r=.er c->∀H,E c H->d c H):gc d G H r P:=by
 cases r with
 |ok g=>exact h
 |er c=>exact λb a e=>f c _6 a (h b a e)
 |st=>exact h
def AE(O:io X d cl own xs M ix)(hc:X.calm=c_)(hA:Xe X E')(Bk:qx X B E' d cl own xs M tg td Y C t g)(hF:∀δ,F9 td (vg ix δ) t g (F δ))(hE:FM E (ek (kx X) E') F)(hi:Tv X B E tg iter r)
  (hs:Q! (∀x,oS iter X.bi x=Q_ x) Q3!):Xb X B E (.ListComp Y [⟨tg,iter,C,0⟩] d ι) (ug r F):=by
 intro l s Z H Q I q;obtain⟨G,δ,R,q⟩:=q;refine N? _6 hs (mz O.clos) O.kind O.names (kN (hi l s Z H (λJ H1=>∃u i,c8 G H u H1/\zg _ J i _/\_7 i<=iN/\gc E G H _ λw=>
  ∀a A G' H',c8 G H G' H'->H a=d_->G' a=d_->H' a=a_ _->cr _ G' w A->Q _ H') I
  ⟨G,δ,R,(MO q).be (by rintro i _ ⟨N,q⟩ J u H1 h ok;exact⟨u,i,h,ok,N,q.be λw W ⟨ds',ed,q⟩=>by cases ed;exact q⟩)⟩) (λv s1 h1=>kN h1 (λμ n h2=>?_) λW W e=>e) λW W e=>e)
 obtain⟨it,fp,tn,J,H1,rfl,j,T,st,hf,u,i,h,ok,N,q⟩:=h2;refine Kl O hc hA Bk j T st hf (R.ext h) ok N (hF δ) (λW W z=>z) (((q.ext h).er (hE δ i)).be λw W q=>?_);intro s3 H3 G3 A m I3 hm hC e3 g3 h3 dl;refine⟨m,hm,λh' L=>⟨.ref n.1.1.size,H3,?_,_6,q _ A G3 H3 (h.trans e3) (ff h.hh (j.fg.fresh (iF _))) g3 h3 dl⟩⟩;have f:n.1.1.size<=n.1.1.size+1:=oO _;refine I3.hZ (it:=n.1.1.size+1) (λb o hb e=>L.extBut b o hb e) hC ?_ (.inr (kC j.sz f)) ?_ ?_
 .exact λz=>t_ (jR j.lt (kC f (oJ z))) (kU _)
 .intro y c U z;obtain⟨v',q'⟩:=j.cell y c U;exact t_ (jR q'.lt (kC f (oJ z.symm))) (kU _)
 .intro p hp z;exact t_ (jR (jA (j.pin p hp).1) (kC f (oJ z.symm))) (kU _)
end
section
variable{K:KA}
def HA(h:MW d=a_ t):rT K (.type t) (.type "int")=a_ (MC t "int"):=by cases d<;>cases h<;>rfl
def Zr(h:MW d=a_ t):rT K (.type t) (.type "bool")=a_ (MC t "bool"):=by cases d<;>cases h<;>rfl
def IZ(h:MW d=a_ t):rT K (.type t) (.type "str")=a_ (MC t "str"):=by cases d<;>cases h<;>rfl
def Zs(h:MW d=a_ t):rT K (.type t) (.type "list")=a_ (MC t "list"):=by cases d<;>cases h<;>rfl
def Vj(h:MW d=a_ t):rT K (.type t) (.type "tuple")=a_ (MC t "tuple"):=by cases d<;>cases h<;>rfl
end
section
def WQ(K:KA)(c:Y_):Prop:=∀{d:D}{t:Y_},MW d=a_ t->rT K (.type t) (.type c)=a_ (MC t c)
inductive rIsI(K:KA)(c:Y_)(xs:b_ V)(H:Hp)(Q:VK):Prop
 |mk (G d x t) (_:xs=[x,.ty c]) (_:ca G H) (_:Arg K G H d x) (_:MW d=a_ t) (_:Q (.bl (MC t c)) H):rIsI K c xs H Q
def Xw(hk:WQ (kx X) c):ie X (.builtin "isinstance") (rIsI (kx X) c):=by
 intro w s Z H xs us Q I r q;obtain⟨G,d,x,t,rfl,A,v,h,q⟩:=q;obtain⟨u,u2,rfl,g,E⟩:=FX r;cases E;have e:=hk h;have b:∀B,EP X w Z Q _ {s with toks:=B}:=λB=>⟨.bl _,H,I.qd B,_6,q⟩;cases d with
 |fD=>cases h;rw[v.fD]at g;cases g;exact oY PySem.W.kitx_none I.u6 qG e (λz=>nomatch z) b
 |bl y=>cases h;rw[v.bl]at g;cases g;exact oY PySem.W.kitx_bool I.u6 qG e (λz=>nomatch z) b
 |int i=>cases h;rw[v.int]at g;obtain⟨t,rfl⟩:=g;exact oY PySem.W.kitx_int I.u6 qG e (λz=>nomatch z) b
 |str y=>cases h;rw[v.str]at g;obtain⟨t,rfl⟩:=g;exact oY PySem.W.kitx_str I.u6 qG e (λz=>nomatch z) b
 |ci ds=>cases h;obtain⟨l,U,rfl,C,dl⟩:=v.ci A;cases g;obtain⟨L,rv,⟨o,M,N,n,hd⟩,_⟩:=I.tuple C;exact oY PySem.W.kitx_tuple I.u6 ⟨o,M,N⟩ e (λz=>nomatch z) b
 |au ds=>cases h;obtain⟨l,U,rfl,C,dl⟩:=v.au A;cases g;obtain⟨L,rv,pl,_⟩:=I.list C;obtain⟨o,M,N,_⟩:=pl.isList;exact oY PySem.W.kitx_list I.u6 ⟨o,M,N⟩ e (λz=>nomatch z) b
 |js tt γ=>
  cases h;have J:∃a,x=.ref a/\((∃f,H a=a_ (.dK f))\/∃f,Rd H a (.dT f)):=by
   obtain ⟨a,m,j⟩|⟨_,_,_,z,_⟩|⟨t',Y,a,z,m,j⟩:=v
   .exact⟨a,m,j.elim (by rintro⟨_,f,q,_⟩;exact .inl ⟨f,A _ _ q⟩) (by rintro⟨_,o,f,q,_⟩;exact .inr ⟨f,.inr ⟨o,A _ _ q⟩⟩)⟩
   .cases z
   .exact⟨a,m,j.elim (by rintro⟨_,f,q,_⟩;exact .inl ⟨f,q⟩) (by rintro⟨_,f,q,_⟩;exact .inr ⟨f,.inl q⟩)⟩
  obtain⟨a,rfl,j⟩:=J;cases g;obtain ⟨f,T⟩|⟨f,T⟩:=j
  .obtain⟨_,_,U,_,p⟩:=I.fg a _ T;obtain⟨o,O,ep,m,j,_⟩:=p;exact oY H? I.u6 ⟨o,m,j.1⟩ e (λz=>nomatch z) b
  .obtain⟨_,_,xs,_,o,O,ep,m,j,_⟩:=Rd.ok T I.fg;exact oY H? I.u6 ⟨o,m,j.1⟩ e (λz=>nomatch z) b
 |obj _ _=>cases h
 |fn _=>cases h
def E1(I:WQ (kx X) c)(J:Gl X "isinstance")(C:X.mg "isinstance"=d_)(m:Gl X x)(l:X.mg x=d_)(h:qA x=a_ (.type c))(L:k6 X B E e g)
  (j:Q! (x≠"__name__") Q1!)(o:Q! ((x==("__debug__":x_))=e_) Q1!)
  (s:Q! (jI [e,.Name x a] X.bi=(e_,I_ e X.bi)::jI [.Name x a] X.bi) Q2!) (n:Q! (jI [.Name x a] X.bi=(e_,I_ (.Name x a) X.bi)::jI [] X.bi) Q2!) (i:Q! ((nU f (jI [.Name x a] X.bi)).any (·.1)=e_) Q2!):
  f7 X B E (.Call (.Name "isinstance" p) [e,.Name x a] [] f) (g1 (cf c) g):=
 PE.imp (l7 (Xw I) J C boot_isinstance (jy L (jy (JJ (v:=.ty c) m l h _6 j o) qc n) s) (by decide) (by decide) s i) λZ H Q ⟨G,δ,R,q⟩=>⟨G,δ,R,(eu.bind q).be λw Y z x y N u M=>by
  obtain⟨d,b,A⟩:=eu.of z;unfold cf at b;cases r:MW w with
  |none=>rw[r]at b;cases b
  |some t=>
   rw[r]at b;cases b;exact⟨y,w,x,t,_6,u.gh,M,r,A _ y N u _6⟩⟩
noncomputable def yk(d:D):D->f_ r_
 |.au xs=>match fu xs,e9 d with
  |some a,a_ q=>if jN a&&jZ q then a_ (a.any λy=>lC y q)else d_
  |_,_=>d_
 |.ci xs=>match fu xs,e9 d with
  |some a,a_ q=>if jN a&&jZ q then a_ (a.any λy=>lC y q)else d_
  |_,_=>d_
 |.str z=>match d with
  |.str x=>a_ (!(sU z x 0 z.length 1).isEmpty)
  |_=>d_
 |_=>d_
def Jq(d e:D):f_ D:=(yk d e).map .bl
def og(d e:D):f_ D:=(yk d e).map λb=>.bl !b
def C4{b:r_}(h:(match fu xs,e9 d with
  |some a,a_ q=>if jN a&&jZ q then a_ (a.any λy=>lC y q)else d_
  |_,_=>d_)=a_ b):∃a q,fu xs=a_ a/\e9 d=a_ q/\jN a=c_/\jZ q=c_/\b=a.any λy=>lC y q:=by
 cases e:fu xs with
 |none=>rw[e]at h;cases h
 |some a=>
  cases f:e9 d with
  |none=>rw[e,f]at h;cases h
  |some q=>
   rw[e,f]at h;dsimp only at h
   by_cases c:(jN a&&jZ q)=c_
   .rw[iH c]at h;cases h;rw[iQ]at c;exact⟨a,q,_6,_6,c.1,c.2,_6⟩
   .rw[iG c]at h;cases h
inductive rInD(K:KA)(neg:r_)(x:V)(y:V)(H:Hp)(Q:VK):Prop
 |mk (G dx dy b) (_:ca G H) (_:Arg K G H dx x) (_:Arg K G H dy y) (_:yk dx dy=a_ b) (_:Q (.bl (if neg then !b else b)) H):rInD K neg x y H Q
def RL(r:X.A.units+65<lN):lz X (lS .In) (rInD (kx X) e_):=by
 intro c s Z H x y v u Q I g f q;obtain⟨G,E,C,b,e,o,n,d,q⟩:=q;cases C with
 |au xs=>obtain⟨B,p,m,l,h,a,rfl⟩:=C4 d;obtain⟨J,j⟩:=d9 I e o g l;obtain⟨bs,i⟩:=d9 I e n f (by unfold e9;rw[m]);exact SeqAt.in_list_reads i j h (pG a) (tL a r) ⟨.bl _,H,I,_6,q⟩
 |ci xs=>obtain⟨B,p,m,l,h,a,rfl⟩:=C4 d;obtain⟨J,j⟩:=d9 I e o g l;obtain⟨bs,i⟩:=d9 I e n f (by unfold e9;rw[m]);exact SeqAt.in_tuple_reads i j h (pG a) (tL a r) ⟨.bl _,H,I,_6,q⟩
 |str z=>
  cases E with
  |str w=>cases d;rw[o.str]at g;rw[n.str]at f;exact V3 c s Z H _ _ _ _ Q I g f ⟨_,_,_6,_6,q⟩
  |_=>cases d
 |_=>cases d
def V4(r:X.A.units+65<lN):lz X (lS .NotIn) (rInD (kx X) c_):=by
 intro c s Z H x y v u Q I g f q;obtain⟨G,E,C,b,e,o,n,d,q⟩:=q;cases C with
 |au xs=>obtain⟨B,p,m,l,h,a,rfl⟩:=C4 d;obtain⟨J,j⟩:=d9 I e o g l;obtain⟨bs,i⟩:=d9 I e n f (by unfold e9;rw[m]);exact SeqAt.notIn_list_reads i j h (pG a) (tL a r) ⟨.bl _,H,I,_6,q⟩
 |ci xs=>obtain⟨B,p,m,l,h,a,rfl⟩:=C4 d;obtain⟨J,j⟩:=d9 I e o g l;obtain⟨bs,i⟩:=d9 I e n f (by unfold e9;rw[m]);exact SeqAt.notIn_tuple_reads i j h (pG a) (tL a r) ⟨.bl _,H,I,_6,q⟩
 |str z=>
  cases E with
  |str w=>cases d;rw[o.str]at g;rw[n.str]at f;exact Jl c s Z H _ _ _ _ Q I g f ⟨_,_,_6,_6,q⟩
  |_=>cases d
 |_=>cases d
def KU:jk (kx X) Jq (rInD (kx X) e_):=λG H x y g f d c i h a Q q=>by
 unfold Jq at a;cases e:yk g f with
 |none=>rw[e]at a;cases a
 |some b=>rw[e]at a;cases a;exact⟨G,g,f,b,c,i,h,e,q _ G H (c8.refl c) _6⟩
def Pw:jk (kx X) og (rInD (kx X) c_):=λG H x y g f d c i h a Q q=>by
 unfold og at a;cases e:yk g f with
 |none=>rw[e]at a;cases a
 |some b=>rw[e]at a;cases a;exact⟨G,g,f,b,c,i,h,e,q _ G H (c8.refl c) _6⟩
noncomputable def gm:D->f_ D
 |.au a=>a_ (.ci a)
 |.ci a=>a_ (.ci a)
 |_=>d_
noncomputable def CO:D->f_ D
 |.int i=>a_ (.int i)
 |.bl b=>a_ (.int (if b then 1 else 0))
 |_=>d_
def CV(r:Gl X "tuple")(o:X.mg "tuple"=d_)(s:k6 X B E e g)(n:Q! (jI [e] X.bi=(e_,I_ e X.bi)::jI [] X.bi) Q2!)(i:Q! ((nU h (jI [] X.bi)).any (·.1)=e_) Q2!):f7 X B E (.Call (.Name "tuple" p) [e] [] h) (g1 gm g):=
 PE.imp (tf Fw r o _q (g7 s jr n) (by decide) (by decide) n i) λZ H Q q=>FD (λG H x u d a j b Q q=>by
  unfold gm at b;split at b
  .cases b;obtain⟨l,c,rfl,f,dl⟩:=j.au a;exact⟨l,c,_6,.inl ⟨f,λp m=>q _ _ _ (c8.new a _ m) (o9 a m dl)⟩⟩
  .cases b;obtain⟨l,c,rfl,f,dl⟩:=j.ci a;obtain ad|⟨_,_,_,z,_⟩|⟨_,_,_,z,_⟩:=j
   .exact⟨l,c,_6,.inr ⟨f,q _ G H (c8.refl a) ad⟩⟩
   .cases z
   .cases z
  .cases b) q
def KH(l:Gl X "int")(j:X.mg "int"=d_)(m:k6 X B E e g)(h:Q! (jI [e] X.bi=(e_,I_ e X.bi)::jI [] X.bi) Q2!)(c:Q! ((nU b (jI [] X.bi)).any (·.1)=e_) Q2!):f7 X B E (.Call (.Name "int" p) [e] [] b) (g1 CO g):=
 PE.imp (tf T4 l j _w (g7 m jr h) (by decide) (by decide) h c) λZ H Q q=>FD (λG H x n d f i a Q q=>by
  unfold CO at a;split at a
  .cases a;rw[i.int];exact .inl ⟨_,_6,q _ G H (c8.refl f) _6⟩
  .cases a;rw[i.bl];exact .inr ⟨_,_6,q _ G H (c8.refl f) _6⟩
  .cases a) q
end
section
noncomputable def qi(i:g_)(g:En->ce):En->fc:=λδ=>match δ[i]? with
 |some (.ow a)=>(g δ).then λd=>if _7 a<iN then .nx (δ.set i (.ow (a++[d])))else .st
 |_=>.st
def dg.owAt{K:KA}{i:g_}(R:dg K B G H Z δ)(h:δ[i]?=a_ (.ow l)):OA B G H .au (cr K G l) Z[i]?:=by obtain⟨o,c,a,d,j,f,e⟩:=R.sl i _ h;subst j;obtain⟨g,b⟩:=R.own i _ a h _6 c;exact⟨a,d,c,f,e,g,b⟩
def DY(hv:PE X (.Name x p) (ya i))(ha:f7 X B E e g)
  (m:Q! (qH (.Name x p) "append" X.bi (I_ (.Name x p) X.bi)=I_ (.Name x p) X.bi) Q2!)
  (o:Q! (((nU a (jI [e] X.bi)).all (λx=> !x.1)&&(uR a (qU [] X.bi)).all (λx=>x.1.isSome)
  &&decide (([e]:b_ Expr).length+([]:b_ pS).length+(if([]:b_ pS).isEmpty then 0 else 1)<30))=c_) Q2!)
  (j:Q! ((h.endLine==a.line)=c_) Q2!) (I:Q! (jI [e] X.bi=(e_,I_ e X.bi)::jI [] X.bi) Q2!) (f:Q! ((nU a (jI [] X.bi)).any (·.1)=e_) Q2!)
  (w:Q! (rF (.Call (.Attribute (.Name x p) "append" h) [e] [] a) d_ u.line X.bi=Q_ e_) Q2!):
  yd X G0 B E (.Expr (.Call (.Attribute (.Name x p) "append" h) [e] [] a) u) (qi i g):=
 PS.imp (uq (B8 mU sJ sL xr hv (Do ha jr I) m o j I f) w)<|by
  rintro D Z H ⟨G,δ,R,M,q⟩
  unfold qi at q;cases r:δ[i]? with
  |none=>rw[r]at q;exact q.elim
  |some T=>
   rw[r]at q;cases T with
   |ow ds=>
    obtain⟨l,z,C,s,A,Y,U⟩:=R.owAt r;refine⟨.ref l,C,.inl ⟨_6,z,gL.of s⟩,G,δ,R,?_⟩;have b:=Aw M q;unfold am;cases y:g δ with
    |er c=>rw[y]at b;exact b
    |st=>rw[y]at b;exact b
    |ok d=>
     rw[y]at b;have b:ki _ G0 B E G _ D:=b
     by_cases J:_7 ds<iN
     .rw[iH J]at b;intro ws G1 H1 n al;obtain⟨d',dr,v,vr,Q,O,dv,z3,N⟩:=al;cases Q;subst O N;have L:=n.hh _ _ s;refine⟨l,z,v,_6,_6,L,by rwa[<-A.length],?_⟩;exact b Z G1 _ n.gg (dg.wr (R.ext n) r C L ((A.be n.gg).append (cr.pv dv))) (c8.wr (M.trans n) (n.fr _ _ s Y _6) U)
     .rw[iG J]at b;exact b.elim
   |no=>exact q.elim
   |pu _=>exact q.elim
   |bo _=>exact q.elim
   |od _ _=>exact q.elim
def K5(T:Y_)(v:T="list"\/T="tuple")(l:o_)(c:p_ jB)(n:g_)(b:o_)(a:p_ jB)(p:g_)(j:f_ o_)(i:p_ (f_ jB))(u:¬(!c.isEmpty&&qI (c.size+a.size))=c_)(r:c.size<=iN)(q:c.size+a.size<=iN+1):
  Meets (K_.«list.extend» ⟨[.ref l,.ref b],[]⟩) (λY R s=>s.1.get? l=a_ {cls:=.type "list",dict:=d_,data:=.seq c n,slots:=#[]}/\s.1.get? b=a_ {cls:=.type T,dict:=j,data:=.seq a p,slots:=i}/\R (.ok (.ret nB)) {s with heap:=s.1.update l (vV λx=>x++a),toks:=s.toks}):=
 .of_wp λm w A R s h=>by
  obtain⟨z,g,d,y,os⟩:=s;obtain⟨f,o,h⟩:=h;have B:=AutoSeq1.sub_list_tuple;have e:(c++a).size<=iN+1:=by rwa[Array.size_append]
  obtain rfl|rfl:=v
  .wp_walk using(pY f _6 (_hz':=e)),qK f,qK o;exact⟨_,_6,h⟩
  .wp_walk using(pY f _6 (_hz':=e)),qK f,qK o;exact⟨_,_6,h⟩
inductive rExtD(K:KA)(x:V)(vs:b_ V)(H:Hp)(Q:VK):Prop
 |mk (l b xs zs) (_:x=.ref l) (_:vs=[.ref b]) (_:H l=a_ (.au xs)) (_:(gL K H b zs\/ng K H b zs)) (_:_7 xs+_7 zs<=iN) (_:Q .fD (eT H l (.au (xs++zs)))):rExtD K x vs H Q
def Sn:dR X "list.extend" (rExtD (kx X)):=by
 intro C s Z H x vs v us Q I J L h;obtain⟨l,b,xs,G,rfl,rfl,E,hB,hz,q⟩:=h;cases J;obtain⟨u,rfl,M⟩:=L.pv;cases M;obtain⟨z,f,n,r,hl,e⟩:=I.lstM E;have y:∃T a i m g,(T="list"\/T="tuple")/\dL G a/\s.1.get? b=a_ {cls:=.type T,dict:=m,data:=.seq a.toArray i,slots:=g}:=by
  obtain hB|hB:=hB
  .obtain⟨a,o,w,_⟩:=I.list hB;obtain⟨⟨cls,Y,data,p⟩,i,B,c,d,q⟩:=w;subst c d q;exact⟨_,a,i,_,p,.inl _6,o,B⟩
  .obtain⟨a,o,w,_⟩:=I.tuple hB;obtain⟨⟨cls,Y,data,p⟩,B,c,i,q⟩:=w;subst c q;exact⟨_,a,i,_,p,.inr _6,o,B⟩
 obtain⟨T,a,i,m,g,O,o,U⟩:=y;have N:=o.length;have A:f.toArray.size+a.toArray.size<=iN:=by rw[jS,jS];lia
 have j:¬(!f.toArray.isEmpty&&qI (f.toArray.size+a.toArray.size))=c_:=by rw[Ma A,Bool.and_false];exact D_
 refine sQ F.slot_list_extend ⟨_,e,_6⟩ F.entry_list_extend (F.args_list_extend_2 _ _)
  (K5 T O l f.toArray n b a.toArray i m g j (by lia) (by lia)) ⟨e,U,?_⟩
 refine⟨.fD,_,I.lset E e (by simp) (r.append o) ?_,_6,q⟩;rw[iO]
 lia
noncomputable def An(i:g_)(g:En->ce):En->fc:=λδ=>match δ[i]? with
 |some (.ow b)=>(g δ).then λd=>match yz d with
  |some a=>if _7 b+_7 a<=iN then .nx (δ.set i (.ow (b++a)))else .st
  |none=>.st
 |_=>.st
def DX(hv:PE X (.Name x p) (ya i))(ha:k6 X B E e g)
  (r:Q! (qH (.Name x p) "extend" X.bi (I_ (.Name x p) X.bi)=I_ (.Name x p) X.bi) Q2!)
  (s:Q! (((nU f (jI [e] X.bi)).all (λx=> !x.1)&&(uR f (qU [] X.bi)).all (λx=>x.1.isSome)
  &&decide (([e]:b_ Expr).length+([]:b_ pS).length+(if([]:b_ pS).isEmpty then 0 else 1)<30))=c_) Q2!)
  (o:Q! ((n.endLine==f.line)=c_) Q2!) (U:Q! (jI [e] X.bi=(e_,I_ e X.bi)::jI [] X.bi) Q2!) (j:Q! ((nU f (jI [] X.bi)).any (·.1)=e_) Q2!)
  (L:Q! (rF (.Call (.Attribute (.Name x p) "extend" n) [e] [] f) d_ I.line X.bi=Q_ e_) Q2!):
  yd X G0 B E (.Expr (.Call (.Attribute (.Name x p) "extend" n) [e] [] f) I) (An i g):=
 PS.imp (uq (B8 mU _B _C Sn hv (g7 ha jr U) r s o U j) L)<|by
  rintro D Z H ⟨G,δ,R,ex,q⟩
  unfold An at q;cases w:δ[i]? with
  |none=>rw[w]at q;exact q.elim
  |some sl=>
   rw[w]at q;cases sl with
   |ow ds=>
    obtain⟨l,O,T,C,Q,q4,q5⟩:=R.owAt w;refine⟨.ref l,T,.inl ⟨_6,O,gL.of C⟩,G,δ,R,?_⟩;have a:=Aw ex q;unfold am;cases M:g δ with
    |er c=>rw[M]at a;exact a
    |st=>rw[M]at a;exact a
    |ok d=>
     rw[M]at a;cases u:yz d with
     |none=>have a:ki _ G0 B E G _ D:=a;rw[u]at a;exact a.elim
     |some es=>
      have a:ki _ G0 B E G _ D:=a;rw[u]at a;dsimp only at a
      by_cases Y:_7 ds+_7 es<=iN
      .rw[iH Y]at a;intro ws G1 H1 m al;obtain⟨v,rfl,av⟩:=ii.pv al;have h1:=m.hh _ _ C;have J:∃b h,v=.ref b/\(gL (kx X) H1 b h\/ng (kx X) H1 b h)/\cr (kx X) G1 es h:=by
        cases d with
        |au N=>cases u;obtain⟨b,h,A,z,y⟩:=av.au m.gh;exact⟨b,h,A,.inl z,y⟩
        |ci N=>cases u;obtain⟨b,h,A,z,y⟩:=av.ci m.gh;exact⟨b,h,A,.inr z,y⟩
        |_=>cases u
       obtain⟨b,h,rfl,sq,dl⟩:=J;have l1:=Q.length;have l2:=dl.length;refine⟨l,b,O,h,_6,_6,h1,sq,by lia,?_⟩;exact a Z G1 _ m.gg (dg.wr (R.ext m) w T h1 ((Q.be m.gg).append dl)) (c8.wr (ex.trans m) (m.fr _ _ C q4 _6) q5)
      .rw[iG Y]at a;exact a.elim
   |no=>exact q.elim
   |pu _=>exact q.elim
   |bo _=>exact q.elim
   |od _ _=>exact q.elim
end
noncomputable def me:D->f_ vz
 |.int i=>a_ (.inl i)
 |.str x=>a_ (.inr x)
 |_=>d_
def Ag(k:vz):me (kD k)=a_ k:=by cases k<;>rfl
noncomputable def Aj:b_ (D×D)->vz->f_ D
 |[],_=>d_
 |(k,d)::r,j=>if me k=a_ j then a_ d else Aj r j
def QZ(a:b_ (D×D))(j:vz):r_:=a.any λp=>decide (me p.1=a_ j)
def KC(a:b_ (D×D))(j:vz)(v:D):b_ (D×D):=if QZ a j=c_ then a.map (λp=>if me p.1=a_ j then(p.1,v)else p)else a++[(kD j,v)]
section
variable{K:KA}
def ir.length:∀{a}{es},ir K G a es->_7 a=_7 es:=by
 intro b;induction b with
 |nil=>rintro _ h;rw[h];rfl
 |cons _ _ c=>rintro _ ⟨k,v,r,e,_,_,d⟩;rw[e,iC,iC,c d]
def ir.kH:∀{b}{es},ir K G b es->∀j,(∀d,Aj b j=a_ d->∃v,mw es j=a_ v/\gr K G d v)/\(Aj b j=d_->mw es j=d_):=by
 intro a;induction a with
 |nil=>
  rintro es h j
  rw[h];exact⟨λd e=>(by cases e),λq=>Ni⟩
 |cons a r c=>
  obtain⟨k,d⟩:=a
  rintro es h j
  obtain⟨l,v,t,rfl,rfl,o,p⟩:=h;obtain⟨n,m⟩:=c p j;unfold Aj;rw[Ag]
  by_cases e:l=j
  .subst e;rw[iH _6];exact⟨λf z=>⟨v,qq _6,by cases z;exact o⟩,λz=>by cases z⟩
  .rw[iG (λz=>e (jM z))];refine⟨λf z=>?_,λz=>?_⟩
   .obtain⟨u,i,g⟩:=n f z;exact⟨u,(ma e).trans i,g⟩
   .exact(ma e).trans (m z)
def ir.has:∀{b}{es},ir K G b es->∀j,QZ b j=es.any λf=>decide (f.1=j):=by
 intro a;induction a with
 |nil=>rintro es h j;rw[h];rfl
 |cons a r c=>
  obtain⟨k,m⟩:=a
  rintro es h j
  obtain⟨g,u,t,rfl,rfl,l,i⟩:=h;have d:=c i j;unfold QZ at d⊢;rw[mZ,mZ,d]
  congr 1
  rw[Ag]
  by_cases e:g=j
  .simp
  .rw[i_ e,i_ λz=>e (jM z)]
def ir.repl(l:gr K G d v):∀{b}{es},ir K G b es->∀j,ir K G (b.map λp=>if me p.1=a_ j then(p.1,d)else p) (es.map λc=>if c.1=j then(c.1,v)else c):=by
 intro a;induction a with
 |nil=>rintro es h j;rw[h];rfl
 |cons a r g=>
  obtain⟨k,o⟩:=a
  rintro es h j
  obtain⟨f,u,t,rfl,rfl,m,n⟩:=h;have i:=g n j;rw[iJ,iJ];rw[Ag]
  by_cases e:f=j
  .rw[iH e,iH (by rw[e])];exact⟨f,v,_,_6,_6,l,i⟩
  .rw[iG e,iG λz=>e (jM z)];exact⟨f,u,_,_6,_6,m,i⟩
def ir.snoc(f:gr K G d v):∀{b}{es},ir K G b es->∀j,ir K G (b++[(kD j,d)]) (es++[(j,v)]):=by
 intro a;induction a with
 |nil=>rintro es h j;rw[h];exact⟨j,v,[],_6,_6,f,_6⟩
 |cons a r c=>
  obtain⟨k,l⟩:=a
  rintro es h j
  obtain⟨e,u,t,rfl,rfl,g,i⟩:=h;exact⟨e,u,_,_6,_6,g,c i j⟩
def ir.put(b:gr K G d v)(h:ir K G a es)(j:vz):ir K G (KC a j d) (ku es j v):=by
 unfold KC ku;rw[h.has j]
 by_cases e:(es.any λc=>decide (c.1=j))=c_
 .rw[iH e,iH e];exact h.repl b j
 .rw[iG e,iG e];exact h.snoc b j
end
section
def Arg.dctK{K:KA}(s:ca G H)(h:Arg K G H (.js e_ b) v):RA H .dK (ir K G b) v:=by
 obtain ⟨a,d,c⟩|⟨_,_,_,z,_⟩|⟨g,f,a,z,d,c⟩:=h
 .obtain ⟨_,e,q,r⟩|⟨z,_⟩:=c
  .exact⟨a,e,d,s _ _ q,r⟩
  .cases z
 .cases z
 .cases z;obtain ⟨_,e,q,r⟩|⟨z,_⟩:=c
  .exact⟨a,e,d,q,r⟩
  .cases z
def C1{K:KA}{G H:Hp}{d:D}{v:V}{k:vz}(h:Arg K G H d v)(e:me d=a_ k):v=kV k:=by
 cases d with
 |int i=>cases e;exact h.int
 |str x=>cases e;exact h.str
 |_=>cases e
end
noncomputable def jd:Expr->r_
 |.Starred _ _=>e_
 |_=>c_
def ar(h:jd e=c_):jI (e::es) a=(e_,I_ e a)::jI es a:=by cases e<;>first|rfl|cases h
def Fi:∀{es}{b}{a},es.all jd=c_->(nU a (jI es b)).any (·.1)=e_:=by
 intro c;induction c with
 |nil=>rintro _ _ _;exact _6
 |cons e es d=>
  rintro b a h
  rw[kJ,iQ]at h;rw[ar h.1];show((e_||(nU a _).any (·.1)))=e_;rw[d h.2];rfl
def qp:∀{es}{b}{a},es.all jd=c_->(nU a (jI es b)).all (λx=> !x.1)=c_:=by
 intro c;induction c with
 |nil=>rintro _ _ _;exact _6
 |cons e es d=>
  rintro b a h
  rw[kJ,iQ]at h;rw[ar h.1];show((c_&&(nU a _).all _))=c_;rw[d h.2];rfl
def M4(h:jd e=c_)(c:jd f=c_):nU b (jI [e,f] a)=[(e_,I_ e a),(e_,I_ f a)]:=by rw[ar h,ar c];rfl
noncomputable def Jp:Expr->r_
 |.UnaryOp .Not _ _=>e_
 |.BoolOp _ _ _=>e_
 |.IfExp _ _ _ _=>e_
 |.Compare _ _ _ _=>e_
 |_=>c_
set_option tactic.hygienic true in
def Hc(h:Jp a=c_):∀b,isTrue a d b=(do let v <-b;standAt a.pos;holding [v] (truthy v)):=by
 intro b;cases a<;>first|rfl|(cases h;done)|skip
 rename_i c x p;cases c<;>first|rfl|cases h
noncomputable def Jo:Expr->r_
 |.Slice _ _ _ _=>e_
 |_=>c_
def Wc(h:Jo b=c_):Hw b:=by intro o i;cases b<;>first|rfl|cases h
noncomputable def vq:Expr->r_
 |.Set _ _ _=>e_
 |_=>c_
def wz(h:vq b=c_):uO a b=e_:=by cases b<;>first|rfl|cases h
def uo(h:vq e=c_):∀x,oS e a x=Q_ x:=by intro x;cases e<;>first|rfl|cases h
def Et(h:vq c=c_):yH [d,a] [b,c]=e_:=wz h
noncomputable def um:Expr->r_
 |.ListComp _ _ _ _=>e_
 |.SetComp _ _ _ _=>e_
 |.DictComp _ _ _ _ _=>e_
 |_=>c_
def l6(h:um e=c_):rF e t n a=Q_ e_:=by cases e<;>first|rfl|cases h
noncomputable def mq:Expr->r_
 |.Call _ _ _ _=>e_
 |_=>c_
def rj(h:mq o=c_):qH o a b w=w:=by cases o<;>first|rfl|cases h
end Pu
namespace L2
section
variable{K:iL}
def Fun.okE{st:S_}(F:Fun K x b st f j)(S:lW N i (bp st))(len:∀c H Q E,h c H Q E->_7 c=_7 i)
   (d:∀a A cc s H c Q E,j.code=a->h9 k (A.deeper (xG b (bp st) s.1.1.size f a))->h c H Q E->
   ∃t,PSs (A3 (Tt P w) P w K mg base N b (bp st) f a A cc s H E) (d8 st) t/\t {nx:=λz p=>Q .fD p,rt:=Q} (t4 N c) H):ky P w K mg base (Tt P w) (k+1) f j i h:=by
 obtain⟨r,od,kV,o,q,u,a,ct,l,rfl,m,g⟩:=F.ex;exact WA m g S len λA cc s H c Q E n e=>d a A cc s H c Q E _6 n e
def ky.calm(F:ky P w K mg base (Tt P w) k f n i d):ky P w K mg base W8 k f n i (λa H Q q=>d a H Q E0):=by
 refine⟨λa H Q E h=>F.len a H Q E0 h,λA cc s H b c a Q E j o l r h=>oK (F.run A cc s H b c a Q E0 j o l r h) λg p z=>?_⟩;cases g with
 |ok m=>cases m<;>exact z
 |error e=>exact lV z
end
end L2
namespace Pu
open L2
def Yp{P:kR}{w:mG}{d:iL}{mg:x_->f_ jB}{base:C_}{x a:x_}{st:S_}{f:o_}{i:vT}{N g:b_ x_}{k:g_}{ms:b_ r_}{Fb:En->fc}(F:Fun d x a st f i)(S:lW N g (bp st))(m:_7 ms=_7 g)
   (c:∀b A cc s H r E,i.code=b->h9 k (A.deeper (xG a (bp st) s.1.1.size f b))->
   Co (A3 (Tt P w) P w d mg base N a (bp st) f b A cc s H E) r H (ek ⟨d,Nl mg⟩ E) (d8 st) Fb):
  ky P w d mg base (Tt P w) (k+1) f i g (spPu ⟨d,Nl mg⟩ ms (dH ms N.length Fb)):=by
 refine F.okE S (λj H Q E h=>h.1.trans m) λb A cc s H j Q E n l h=>?_;obtain⟨u,o,G,v,e,p,q⟩:=h;exact⟨_,c b A cc s H G E n l,G,_,N9 o e p,c8.refl e,JL e q⟩
end Pu
namespace L2
def PJ{K:iL}{dV kV L pm ct oc:jB} 
  (lk:K.lookup f=a_ ⟨oc,od,.func (lI B c g i a dV kV L pm an h ct),ι⟩)(U:nD K h c=c_)(S:lW N T a)
  (len:∀l H Q E,Y l H Q E->_7 l=_7 T)
  (p:∀A cc s H l Q E,Y l H Q E->
   ∃t,PSs (A3 CX P w K mg base N c a f h A cc s H E) i t/\t {nx:=λW j=>Q .fD j,rt:=Q} (t4 N l) H):
  ky P w K mg base CX 0 f (lI B c g i a dV kV L pm an h ct) T Y:=by
 refine⟨len,λA cc s H δ us l Q E hr I hb r C=>?_⟩;have hl:=len _ _ _ _ C;have KX:=I.tz.kin.keeps λb o e=>(I.bs b o e).1;have m:∀y∈T.zip us,a.names.lookup y.1=a_ .local\/(a.names.lookup y.1=a_ .cell/\((rZ (s.1.1.size+1) a.names []).lookup y.1).isSome=c_):=by
  rintro⟨n,v⟩ hy
  rcases S.par n (uY hy).1 with q|q
  .exact .inl q
  .exact .inr ⟨q,tG _ _ _ (.inl q)⟩
 refine G! hr.depth (KX _ _ lk) _6 S.co S.gen _6 (v? KX U) (hb _ _ _ _ (w? S.kind m λχ he s1 x=>?_));subst he;refine⟨(I.tz.nolimit.keeps λb o e=>(I.bs b o e).1).keeps x.toInCall.keep,codeAny_func ?_⟩;obtain⟨t,ht,hq⟩:=p A cc s H l Q E C;refine kN (ht [] s1 _ H _ (Gu S hr.hd I hl r x) hq) (λfl M z=>?_) λe M z=>z;have G:∀{d}{j}{v}{u},c5 (A3 CX P w K mg base N c a f h A cc s H E) [] d j M->ez v u->Q v j->CE cc P w H s Q u M:=
  λ{d j v u} J O q=>⟨v,j,J.os,J.lU,J.base,J.fg,O,q⟩
 cases fl with
 |ret u=>obtain⟨v,d,j,J,O,q⟩:=z;exact G J O q
 |next=>obtain⟨d,j,J,q⟩:=z;exact G (v:=V.fD) (u:=nB) J _6 q
 |brk=>obtain⟨_,_,_,q⟩:=z;exact lV q
 |cont=>obtain⟨_,_,_,q⟩:=z;exact lV q
end L2
namespace Pu
open L2
inductive spIns(C:o_)(n1 n2:x_)(vs:b_ V)(H:Hp)(Q:VK)(E:XK):Prop
 |mk (x dx u1 u2) (_:vs=[.ref x,u1,u2]) (_:H x=a_ (.ins C dx [])) (_:Q .fD (eT H x (.ins C dx [(n1,u1),(n2,u2)]))):spIns C n1 n2 vs H Q E
inductive u8(P:kR)(w:mG)(K:iL)(mg:x_->f_ jB)(base:C_)(c n1 n2:x_):Prop
 |mk (C f fd) (_:mg c=a_ (.ref C)) (_:Cls K C) (_:lL K C n1) (_:lL K C n2) (_:n1≠n2) (_:Mk K C f) (_:lv K fd ["self",n1,n2] []) (_:ky P w K mg base W8 0 f fd ["self",n1,n2] (spIns C n1 n2)):u8 P w K mg base c n1 n2
def HU{K:iL}{st:S_}{kV i r ct L:jB} 
  (M:K.lookup f=a_ ⟨L,od,.func (lI h a (ig st) (d8 st) (bp st) .none kV i r an g ct),J⟩)(l:nD K g a=c_)(S:lW ["self",d,b] ["self",d,b] (bp st))
  (Y:d8 st=[.Assign [.Attribute (.Name "self" I) d p2] (.Name d G) p4,.Assign [.Attribute (.Name "self" B) b p6] (.Name b z) p8]) (ne:d≠b)
  (ok:([("self":x_),d,b].all λx=>decide ((bp st).names.lookup x=a_ .local)&&!(x==("__debug__":x_))&&!(x==("__classdict__":x_)))=c_) (c:Cls K C) (a1:lL K C d) (a2:lL K C b):ky P w K mg base W8 0 f (lI h a (ig st) (d8 st) (bp st) .none kV i r an g ct) ["self",d,b] (spIns C d b):=by
 refine PJ M l S (by rintro u H Q E ⟨x,m,o,j,e,_,_⟩;rw[e];rfl) λA cc s H u Q E ⟨x,m,o,j,e,U,q⟩=>?_;subst e;simp only[iQ,n_,qC,kJ,List.all_nil,and_true]at ok;obtain⟨⟨⟨T,d0⟩,ε⟩,⟨⟨O,d1⟩,d2⟩,⟨N,d3⟩,d4⟩:=ok;rw[Y];have n:∀p,PE (A3 W8 P w K mg base ["self",d,b] a _ f g A cc s H E) (.Name "self" p) (ya 0):=λp=>Jn _6 (.inl T);have y:∀p,PE (A3 W8 P w K mg base ["self",d,b] a _ f g A cc s H E) (.Name d p) (ya 1):=λp=>Jn _6 (.inl O) d1 d2;have v:∀p,PE (A3 W8 P w K mg base ["self",d,b] a _ f g A cc s H E) (.Name b p) (ya 2):=λp=>Jn _6 (.inl N) d3 d4;refine⟨_,Ml (BH (n I) (y G) _6) (Dc (BH (n B) (v z) _6)),⟨o,_6,.ref x,_6,x,C,m,[],_6,U,c,a1,by simp,?_⟩⟩;refine⟨j,_6,.ref x,_6,x,C,m,[_],_6,aj,c,a2,by simp,?_⟩;rw[Di,show xc b j [_]=[_,_]from by unfold xc;rw[iG ne];rfl];exact q
def S9(cls:x_->f_ (x_×x_))(f:x_)(d:D):f_ D:=match d with
 | .obj (.Name c _) fs => (match cls c with
  |some (b,a)=>if f=b\/f=a then fs.lookup f else d_
  |none=>d_)
 |_=>d_
def gp(cls:x_->f_ (x_×x_))(f:x_)(g:En->ce):En->ce:=λδ=>(g δ).bind λd=>ce.of (S9 cls f d)
def oD.kH{K:KA}:∀{fs}{c}{d},oD K G fs c->fs.lookup f=a_ d->∃v,c.lookup f=a_ v/\gr K G d v:=by
 intro a;induction a with
 |nil=>rintro _ _ _ e;cases e
 |cons a r b=>
  obtain⟨n,p⟩:=a
  rintro _ d ⟨v,t,m,l,j⟩ e
  subst m;rw[lY]at e
  by_cases g:f=n
  .subst g;rw[show(f==f)=c_ from by simp]at e;cases e;exact⟨v,by rw[lY,show(f==f)=c_ from by simp],l⟩
  .have h:(f==n)=e_:=by simpa using g
   rw[h]at e;obtain⟨u,o,i⟩:=b j e;exact⟨u,by rwa[lY,h],i⟩
section
def SA(L:∀c i h,cls c=a_ (i,h)->u8 X.prog X.w X.K X.mg X.base c i h)(N:k6 X B E e g)(M:mq e=c_):f7 X B E (.Attribute e f x) (gp cls f g):=
 PE.imp (SZ N (rj M)) λZ H Q ⟨G,δ,R,q⟩=>⟨G,δ,R,(eu.bind q).be λd W q v r H1 o av=>by
  obtain⟨d',b,u⟩:=eu.of q;cases d with
  |obj T fs=>
   cases T with
   |Name c p=>
     change (match cls c with
    |some (i,h)=>if f=i\/f=h then fs.lookup f else d_
    |none=>d_)=a_ d' at b
     cases l:cls c with
     |none=>rw[l]at b;cases b
     |some y=>
      obtain⟨i,h⟩:=y;rw[l]at b;dsimp only at b
      by_cases j:f=i\/f=h
      .rw[iH j]at b;obtain⟨C,fi,fd,J,O,a1,a2,_⟩:=L c i h l;obtain⟨a,s,rfl,⟨Y,n⟩,df⟩:gr _ r _ v:=by
        obtain z|⟨_,_,_,z,_⟩|⟨_,_,_,z,_⟩:=av
        .exact z
        .cases z
        .cases z
       obtain⟨m,I,dv⟩:=df.kH b;have U:(kx X).A c=C:=by show Nl X.mg c=C;unfold Nl;rw[J]
       rw[U]at n;exact⟨a,C,Y,s,m,_6,o.gh _ _ n,O,by rcases j with rfl|rfl<;>assumption,I,u m r H1 o dv⟩
      .rw[iG j]at b;cases b
   |_=>cases b
  |_=>cases b⟩
noncomputable def Cb(c b a:x_)(d:b_ D):ce:=match d with
 |[f,e]=>.ok (.obj (.Name c ⟨0,0,0,0⟩) [(b,f),(a,e)])
 |_=>.st
def TY(T:u8 X.prog X.w X.K X.mg X.base x I z)(L:h9 1 X.A)(N:Gl X x)(U:Q0 X B E [e_,e_] [a,b] r)(h:(x==("__debug__":x_))=e_)
  (O:jI [a,b] X.bi=(e_,I_ a X.bi)::jI [b] X.bi)(f:(nU d (jI [b] X.bi)).any (·.1)=e_):f7 X B E (.Call (.Name x p) [a,b] [] d) (ah (Cb x I z) r):=by
 obtain⟨C,fi,fd,m,hC,a1,a2,ne,M,bd,F⟩:=T;refine PE.imp (JG (E:=E0) M F L N m bd .nil YQ U h O f) λZ H Q ⟨G,δ,R,q⟩=>⟨G,δ,R,(Xt q).be λds W q vs s i a al=>?_⟩;intro y c J g v;obtain⟨d1,dr,l,vr,rfl,rfl,h1,h2⟩:=al;obtain⟨d2,η,j,u,rfl,rfl,h3,h4,Y⟩:=h2;subst h4 Y;refine⟨y,c,l,j,_6,aj,_6,?_⟩;rw[Di];have o:c8 s i s (eT i c (.own y)):=c8.own a.gh _ g;have e:eT i c (.own y) y=d_:=by rwa[ai v.symm]
 have n:=ff a.gh J;have eC:(kx X).A x=C:=by show Nl X.mg x=C;unfold Nl;rw[m]
 refine q _ _ _ ((a.trans o).trans (c8.new o.gh _ e)) ⟨y,_,_6,⟨c,by rw[eC];exact aj⟩,l,_,_6,h1.be (cq n _),j,[],_6,h3.be (cq n _),_6⟩
end
structure SC where
 N:b_ x_
 sc:pA
 td:b_ x_
 lam:r_
 blk:r_
structure FS where
 ms:b_ r_
 f:b_ D->ce
structure XT where
 cls:x_->f_ (x_×x_)
structure GT where
 fns:x_->f_ FS
 r9:x_->f_ x_
 xs:XT
 lam:Expr->b_ (x_×D)->b_ D->ce
 cls:x_->f_ (x_×x_)
noncomputable def t8:b_ x_:=["len","list","tuple","int","isinstance","range","all","any","sorted","set","min","max","abs","str","bool","dict","enumerate","zip","reversed","ValueError"]
inductive LamCx(X:Cx):Prop
 |mk (c P) (_:(c,P,X.bi.qual++"<lambda>")∈Na) (_:X.bi.code=.ref c) (_:q! X.base c P)
 (_:∃bm o,X.mg "__builtins__"=a_ (.ref bm)/\bm≠sP/\bm≠mB/\X.base.get? bm=a_ o/\o.cls=.type "module"/\o.dict=a_ sP/\o.data=.plain)
 (_:∀y c,X.bi.cells.lookup y=a_ c->X.im.1.1.size<=c) (_:∀y∈rf,X.fn y=e_):LamCx X
structure qb(k:g_)(A:oN):Prop where
 hd:A.handled=d_
 dp:A.depth+3*k+5<vS
 un:A.units+16*k+190<lN
def qb.of(r:h9 k A):qb k A:=⟨r.hd,r.dp,by have:=r.un;lia⟩
def qb.depth(r:qb k A):A.depth<vS:=by have:=r.dp;lia
def qb.deeper(r:qb (k+1) A)(a:j?):h9 k (A.deeper a):=
 ⟨r.hd,by have:=r.dp;show A.depth+1+3*k+5<_;lia,by have:=r.un;show A.units+3+16*k+200<_;lia⟩
def Np(P:kR)(w:mG)(K:iL)(mg:x_->f_ jB)(base:C_)(k:g_)(e:Expr)(fs:b_ (x_×D))(h:b_ D)(d:D):Prop:=
 ∀(A:oN)(cc:b_ j?)(s:jP)(H G:Hp)(a:o_)(c:b_ jB)(b:b_ V)(Q:VK),qb k A->Env0 P w K mg base A cc s H->GOk H->ca G H->gr ⟨K,Nl mg⟩ G (.obj e fs) (.ref a)->cr ⟨K,Nl mg⟩ G h b->dL b c->
  (∀v g f,c8 G H g f->gr ⟨K,Nl mg⟩ g d v->Q v f)->pR (jG P w) A (.call (.ref a) ⟨c,[]⟩) (CR (Tt P w) cc P w H s Q E0) s
structure ls(X:Cx)(C:SC)(T:GT)(E:XK):Prop where
 n:X.N=C.N
 s:X.bi.scope=C.sc
 nd:C.N.Nodup
 calm:X.calm=c_
 units:X.A.units+65<lN
 fns:∀x s,T.fns x=a_ s->∃k f fd ps,h9 k X.A/\X.mg x=a_ (.ref f)/\mC X.K (.ref f)=c_/\lv X.K fd ps []/\ky X.prog X.w X.K X.mg X.base (Tt X.prog X.w) k f fd ps (spPu (kx X) s.ms s.f)
 r9:∀x y,T.r9 x=a_ y->∃t,X.mg x=a_ (.str y t)
 bl:∀x∈t8,X.mg x=d_
 acc:Acc X E
 li:C.blk=e_->X.ex=[]/\X.stack=X.bi::X.cc/\X.bi.frame=a_ X.bi.locals
 lamc:C.lam=c_->LamCx X
 lams:∀e fs ds d,T.lam e fs ds=.ok d->∃k,h9 k X.A/\Np X.prog X.w X.K X.mg X.base k e fs ds d
 cls:∀c n1 n2,T.cls c=a_ (n1,n2)->h9 1 X.A/\u8 X.prog X.w X.K X.mg X.base c n1 n2
def vis(a:pA)(x:x_):r_:=match a.names.lookup x with
 |some .local=>c_
 |some .cell=>c_
 |some .free=>c_
 |_=>e_
def Qx(h:vis a x=c_):WM a x:=by
 unfold vis at h;unfold WM;cases e:a.names.lookup x with
 |none=>rw[e]at h;cases h
 |some k=>rw[e]at h;cases k<;>first|exact .inl _6|exact .inr (.inl _6)|exact .inr (.inr _6)|cases h
def Lf(a:pA)(x:x_):r_:=match a.names.lookup x with
 |some .local=>c_
 |some .cell=>c_
 |_=>e_
def D8(h:Lf a x=c_):L2.Xa a x:=by
 unfold Lf at h;unfold L2.Xa;cases e:a.names.lookup x with
 |none=>rw[e]at h;cases h
 |some k=>rw[e]at h;cases k<;>first|exact .inl _6|exact .inr _6|cases h
noncomputable def ro(x:x_):r_:= !(x==("__debug__":x_))&&!(x==("__classdict__":x_))
def Mc(h:ro x=c_):(x==("__debug__":x_))=e_:=by unfold ro at h;simp only[iQ,qC]at h;exact h.1
def AN(h:ro x=c_):(x==("__classdict__":x_))=e_:=by unfold ro at h;simp only[iQ,qC]at h;exact h.2
noncomputable def Zf(x:x_):b_ x_->g_->f_ g_
 |[],_=>d_
 |y::r,i=>if x=y then a_ i else Zf x r (i+1)
def Sa:∀{l}{i j},Zf x l i=a_ j->i<=j/\l[j-i]?=a_ x:=by
 intro a;induction a with
 |nil=>rintro _ _ h;cases h
 |cons y r b=>
  rintro i j h
  unfold Zf at h
  by_cases e:x=y
  .rw[iH e]at h;cases h;subst e;exact⟨iF _,by simp⟩
  .rw[iG e]at h;obtain⟨d,c⟩:=b h;refine⟨by lia,?_⟩;rw[show j-i=(j-(i+1))+1 by lia];simpa using c
def slot(C:SC)(x:x_):f_ g_:=if vis C.sc x&&ro x then Zf x C.N 0 else d_
def Df(h:slot C x=a_ i):C.N[i]?=a_ x/\vis C.sc x=c_/\ro x=c_:=by
 unfold slot at h
 by_cases e:(vis C.sc x&&ro x)=c_
 .rw[iH e]at h;rw[iQ]at e;obtain⟨_,q⟩:=Sa h;exact⟨by simpa using q,e.1,e.2⟩
 .rw[iG e]at h;cases h
def FO(C:SC)(x:x_):r_:=decide (C.sc.names.lookup x=a_ .globalImplicit)&&ro x
section
def ls.var(O:ls X C T e)(h:slot C x=a_ i):PE X (.Name x b) (ya i):=by obtain⟨d,c,a⟩:=Df h;exact Jn (by rwa[O.n]) (by rw[O.s];exact Qx c) (Mc a) (AN a)
def ls.gl(O:ls X C T a)(h:FO C x=c_):Gl X x/\(x==("__debug__":x_))=e_:=by unfold FO at h;rw[iQ]at h;refine⟨?_,Mc h.2⟩;show X.bi.scope.names.lookup x=_;rw[O.s];exact A_ h.1
end
def j4:En->ce:=λz=>.st
def PC:En->f8:=λz=>.st
def zc:En->fc:=λz=>.st
section
def cu:f7 X B E e j4:=by rintro a s Z H Q I ⟨G,δ,R,q⟩;exact q.elim
def YR:Xb X B E e j4:=by rintro a s Z H Q I ⟨G,δ,R,q⟩;exact q.elim
def B9:Ft X B E e j4:=by rintro a s Z H Q I ⟨G,δ,R,q⟩;exact q.elim
def MQ:Q0 X B E c es PC:=by rintro b a s Z H Q I ⟨G,δ,R,q⟩;exact q.elim
def tq{st:S_}:yd X b B E st zc:=by rintro a s Z H D I ⟨G,δ,R,x,q⟩;exact q.elim
end
def mn:∀{l},(y,nF)∈l↔y∈fb l:=by
 intro a;induction a with
 |nil=>simp[fb]
 |cons a r b=>
  obtain⟨n,k⟩:=a;unfold fb
  by_cases h:k=.free
  .subst h;rw[iH _6,mF,mF,b];constructor
   .rintro (z|z)
    .cases z;exact .inl _6
    .exact .inr z
   .rintro (z|z)
    .subst z;exact .inl _6
    .exact .inr z
  .rw[iG h,mF,b];constructor
   .rintro (z|z)
    .cases z;exact t_ _6 h
    .exact z
   .exact .inr
def xg(a b:pA):pA:=
 {a with names:=a.names.map λ(n,k)=>if(k==.free&&b.kind==.function&&b.names.lookup n==a_ .cell)then(n,.cell)else(n,k)}
def slots(C:SC):b_ x_->f_ (b_ g_)
 |[]=>a_ []
 |y::r=>match slot C y,slots C r with
  |some i,a_ is=>a_ (i::is)
  |_,_=>d_
noncomputable def Rc(C:SC)(a:pA)(y:x_):r_:=
 (decide (C.sc.names.lookup y=a_ .cell)||decide (C.sc.names.lookup y=a_ .free)) &&
 (decide ((xg a C.sc).names.lookup y=a_ .cell)||decide ((xg a C.sc).names.lookup y=a_ .free))
def Ew(a:pA):b_ x_:=(a.names.filter λy=>y.2==.cell).map λy=>y.1
def Pm(a:pA):(a.names.filter λy=>y.2==.cell)=(Ew a).map λx=>(x,nQ):=by
 unfold Ew;rw[jV];refine(n? _).symm.trans (jY λy b=>?_);have:=(z_.mp b).2;obtain⟨n,k⟩:=y;have:k=.cell:=by simpa using this
 rw[this];rfl
noncomputable def A2(C:SC)(a:pA)(xs:b_ x_):r_:=
 decide (a.kind=.function)&&(decide ((Ew a).length<=1)&&(Ew a).all λy=>decide (y∈xs))&&(a.names.all λy=> !decide (y.2=.local)||decide (a.names.lookup y.1=a_ .local)) &&
 (xs.all λx=>decide (a.names.lookup x=a_ .local)||decide (a.names.lookup x=a_ .cell))&&decide ((xs++fb a.names).Nodup)&&(fb a.names).all (Rc C a)
def DK:∀{M}{d},slots C M=a_ d->∀{X}{a}{g},X.N=C.N->X.bi.scope=C.sc->(∀y∈M,∃c,g.lookup y=a_ c)->M.all (Rc C a)=c_->Caps X a g M d:=by
 intro j;induction j with
 |nil=>rintro d h X a g _ _ _ _;cases h;exact _6
 |cons y r l=>
  rintro d h X a g o e p m
  unfold slots at h;cases f:slot C y with
  |none=>rw[f]at h;cases h
  |some i=>
   cases n:slots C r with
   |none=>rw[f,n]at h;cases h
   |some is=>
    rw[f,n]at h;cases h;rw[kJ,iQ]at m;obtain⟨v,q,u⟩:=Df f;have b:=m.1;unfold Rc at b;rw[iQ,pZ,pZ,n_,n_,n_,n_]at b;refine⟨i,is,_6,⟨by rwa[o],by rw[e];exact Qx q,?_,p y (iM),?_⟩,l n o e (λz s=>p z (iI _ s)) m.2⟩
    .show X.bi.scope.names.lookup y≠_;rw[e];rcases b.1 with z|z<;>rw[z]<;>decide
    .have:wG a X.bi=xg a C.sc:=by rw[<-e];rfl
     rw[this];exact b.2
def DL(v:C.N.Nodup):∀{M}{a},slots C M=a_ a->M.Nodup->a.Nodup/\∀i∈a,∃y∈M,C.N[i]?=a_ y:=by
 intro d;induction d with
 |nil=>rintro a h _;cases h;exact⟨nE,λi l=>by simp at l⟩
 |cons y r e=>
  rintro a h u
  unfold slots at h;cases c:slot C y with
  |none=>rw[c]at h;cases h
  |some i=>
   cases m:slots C r with
   |none=>rw[c,m]at h;cases h
   |some is=>
    rw[c,m]at h;cases h;obtain⟨s,q⟩:=B_.mp u;obtain⟨p,o⟩:=e m q;obtain⟨n,_,_⟩:=Df c;refine⟨B_.mpr ⟨λl=>?_,p⟩,λj g=>?_⟩
    .obtain⟨z,f,b⟩:=o i l;rw[n]at b;cases b;exact s f
    .rcases l_.mp g with rfl|g
     .exact⟨y,iM,n⟩
     .obtain⟨z,f,b⟩:=o j g;exact⟨z,iI _ f,b⟩
def Bx(f:j?):∀a g,(∀y∈fb a,∃c,f.cells.lookup y=a_ c)->∃l,jz f a g=a_ l:=by
 intro b;induction b with
 |nil=>rintro g _;exact⟨g,_6⟩
 |cons b r d=>
  obtain⟨n,k⟩:=b
  rintro g h
  unfold jz
  by_cases i:k=.free
  .subst i;obtain⟨c,e⟩:=h n (by unfold fb;exact iM);rw[e];exact d _ λy j=>h y (by unfold fb;exact iI _ j)
  .rw[iG i];exact d g λy j=>h y (by unfold fb;rwa[iG i])
def Kj(f:j?):∀a g d,jz f a g=a_ d->∀y,(g.lookup y=d_)->y∉fb a->d.lookup y=d_:=by
 intro b;induction b with
 |nil=>rintro g d h y q _;cases h;exact q
 |cons b r e=>
  obtain⟨n,k⟩:=b
  rintro g d h y q m
  unfold jz at h
  by_cases i:k=.free
  .subst i;unfold fb at m;rw[iH _6,mF,not_or]at m;cases j:f.cells.lookup n with
   |none=>rw[j]at h;cases h
   |some c=>
    rw[j]at h;refine e _ d h y ?_ m.2;have l:(y==n)=e_:=by simpa using m.1
    rwa[lY,l]
  .rw[iG i]at h;unfold fb at m;rw[iG i]at m;exact e g d h y q m
def By(O:ls X C T B)(ok:X.Ok)(h:A2 C a xs=c_)(g:slots C (fb a.names)=a_ r):∃i,io X a i (Ew a) xs (fb a.names) r:=by
 unfold A2 at h;simp only[iQ,n_]at h;obtain⟨⟨⟨⟨⟨z,m⟩,w⟩,v⟩,l⟩,j⟩:=h;have b:∀y∈fb a.names,∃c,X.bi.cells.lookup y=a_ c:=λy d=>by have q:=w_.mp j y d;unfold Rc at q;rw[iQ,pZ,n_,n_,<-O.s]at q;exact ok.has y q.1
 obtain⟨i,f⟩:=Bx X.bi a.names [] b;obtain⟨A,o,p⟩:=O_.mp l;refine⟨i,f,z,Pm a,m.1,λy d=>?_,λy d e=>?_,λx g=>?_,λx g=>Kj X.bi _ _ i f x _6 (λu=>p x g x u _6),l,(DL O.nd g o).1,DK g O.n O.s (λy d=>wo X.bi _ _ i f y (.inr (mn.mpr d))) j⟩
 .exact A_ (w_.mp m.2 y d)
 .have q:=w_.mp w y d;rw[m_ e]at q;exact A_ (by simpa using q)
 .have q:=w_.mp v x g;rw[pZ,n_,n_]at q;exact q
def Im(C:SC)(a:pA)(xs:b_ x_):SC:=⟨xs++fb a.names,xg a C.sc,[],e_,c_⟩
def Dw(O:ls X C T l)(h:A2 C a xs=c_)(f b c e d)(i:Acc (kh X a g (xs++fb a.names) xs f b c e d) j):ls (kh X a g (xs++fb a.names) xs f b c e d) (Im C a xs) T j where
 n:=rfl
 s:=by show wG a X.bi=_;show _=xg a C.sc;rw[<-O.s];rfl
 nd:=by unfold A2 at h;simp only[iQ,n_]at h;exact h.1.2
 calm:=O.calm
 units:=O.units
 fns:=O.fns
 r9:=O.r9
 bl:=O.bl
 acc:=i
 li:=λh=>by cases h
 lamc:=λh=>by cases h
 lams:=O.lams
 cls:=O.cls
def ls.goes(O:ls X C T E):oo (Tt X.prog X.w) X E:=O.acc.goes
def ls.none(O:ls X C T E):ls X C T E0:=⟨O.n,O.s,O.nd,O.calm,O.units,O.fns,O.r9,O.bl,zh,O.li,O.lamc,O.lams,O.cls⟩
end Pu
section
namespace L2
def c5.chill(I:c5 X d Z H s)(g:X.bi.cells.lookup y=a_ c)(B:X.fn y=e_)(G:X.im.1.1.size<=c)(i:s.1.get? c=a_ o)(a:H c=d_):
  c5 X d Z (eT H c (.il o (.own 0))) s:=by
 refine⟨I.ok,I.os,I.lU,⟨I.base.keep,I.base.slot,λb o e n w=>?_,I.base.there,λb xs e=>?_,λb o u e=>?_,λb q e=>?_⟩,I.loc,I.cell,?_,λx j e=>?_,λp A=>?_,λb u e=>?_,I.len⟩
 .rw[ai ((λb o e=>jJ (jR (jA e) G)) b o e)];exact I.base.free b o e n w
 .have:=I.base.q7 b xs e;rwa[ai (a8 this a)]
 .have:=I.base.kO b o u e;rwa[ai (a8 this a)]
 .have:=I.base.qe b q e;rwa[ai (a8 this a)]
 .rw[ai (pE (I.cne y c g))];exact I.free
 .by_cases z:j=c
  .subst z;have:=I.ok.inj _ _ _ e g;subst this;exact .inr ⟨B,o,aj⟩
  .rw[ai z];exact I.nm x j e
 .obtain⟨f,L,r,m,h⟩:=I.pin p A;have ne:p.1≠c:=λz=>by obtain⟨v,M,E,C⟩:=I.cell y c g;rw[z,E]at f;cases f;exact h v C
  exact⟨f,by rwa[ai ne],r,m,h⟩
 .by_cases z:b=c
  .subst z;rw[aj]at e;cases e;exact⟨i,o,i⟩
  .rw[ai z]at e;exact(I.fg b u e).t3 (λY Y Y q=>q) (λl q=>by rwa[ai (a8 q a)]) (λl xs q=>by rwa[ai (a8 q a)]) λl N J q=>by rwa[ai (a8 q a)]
end L2
namespace Pu
open L2
def c8.known(h:ca G H)(e:H p=a_ (.il o u)):c8 G H (eT G p (.il o u)) H:=by
 refine⟨λb v q=>?_,ca.refl H,λb v q=>?_,λa v q g z=>?_⟩
 .by_cases c:b=p
  .subst c;rw[aj,<-e];exact h b v q
  .rwa[ai c]
 .by_cases c:b=p
  .subst c;rw[aj]at q;rwa[e]
  .rw[ai c]at q;exact h b v q
 .by_cases c:a=p
  .subst c;rw[e]at q;cases q;cases z
  .rwa[ai c]
section
def OC:∀(l:b_ (x_×o_)),(∀p∈l,X.bi.cells.lookup p.1=a_ p.2/\X.fn p.1=e_/\X.im.1.1.size<=p.2)->∀{G H},c5 X i Z H s->ca G H->
  ∃g f,c5 X i Z f s/\c8 G H g f/\∀p∈l,∃o,g p.2=a_ (.il o (.own 0))/\s.1.get? p.2=a_ o:=by
 intro b;induction b with
 |nil=>rintro _ G H I e;exact⟨G,H,I,c8.refl e,λp a=>by simp at a⟩
 |cons b r j=>
  obtain⟨y,c⟩:=b
  rintro h G H I e
  obtain⟨u,A,z⟩:=h (y,c) iM;obtain⟨v,o,n,C⟩:=I.cell y c u;rcases I.nm y c u with d|⟨_,B,d⟩
  .obtain⟨g,f,w,m,q⟩:=j (λp a=>h p (iI _ a)) (I.chill u A z n d) (c8.new e _ d).gh;refine⟨g,f,w,(c8.new e _ d).trans m,λp a=>?_⟩;rcases l_.mp a with rfl|a
   .exact⟨o,m.gg _ _ aj,n⟩
   .exact q p a
  .obtain⟨x,_⟩:=I.fg c _ d;rw[n]at x;cases x;obtain⟨g,f,w,m,q⟩:=j (λp a=>h p (iI _ a)) I (c8.known e d).gh;refine⟨g,f,w,(c8.known e d).trans m,λp a=>?_⟩;rcases l_.mp a with rfl|a
   .exact⟨o,m.gg _ _ aj,n⟩
   .exact q p a
end
theorem wq(b:j?):∀a f d,jz b a f=a_ d->∀p∈d,p∈f\/(p.1,nF)∈a
 |[],f,d,h,p,e=>by cases h;exact .inl e
 |(n,k)::r,f,d,h,p,e=>by
  unfold jz at h
  by_cases g:k=.free
  .subst g;cases i:b.cells.lookup n with
   |none=>rw[i]at h;cases h
   |some c=>
    rw[i]at h;rcases wq b r _ d h p e with z|z
    .rcases l_.mp z with rfl|z
     .exact .inr iM
     .exact .inl z
    .exact .inr (iI _ z)
  .rw[iG g]at h;rcases wq b r _ d h p e with z|z
   .exact .inl z
   .exact .inr (iI _ z)
noncomputable def Ds(δ:En):b_ x_->b_ g_->f_ (b_ (x_×D))
 |[],[]=>a_ []
 |y::a,i::is=>match δ[i]?,Ds δ a is with
  |some (.pu d),a_ r=>a_ ((y,d)::r)
  |_,_=>d_
 |_,_=>d_
set_option tactic.hygienic true in
theorem Dt{K:KA}(R:dg K B G H Z δ):∀{b}{c}{fs},Ds δ b c=a_ fs->
  ∃a,oD K G fs a/\a.map (·.1)=b/\∀y v,(y,v)∈a->∃(j i:g_),b[j]?=a_ y/\c[j]?=a_ i/\Z[i]?=a_ (a_ v)
 |[],[],fs,h=>by cases h;exact⟨[],_6,_6,λy v h=>by simp at h⟩
 |[],_::_,_,h=>by cases h
 |_::_,[],_,h=>by cases h
 |y::b,i::is,fs,h=>by
  unfold Ds at h;split at h
  .rename_i d r u s;cases h;obtain⟨a,p,o,n⟩:=Dt R s;obtain⟨v,g,f⟩:=R.var u;refine⟨(y,v)::a,⟨v,a,_6,f,p⟩,by rw[iJ,o],λl m hm=>?_⟩;rcases l_.mp hm with e|hm
   .cases e;exact⟨0,i,_6,_6,g⟩
   .obtain⟨j,q,z,x,w⟩:=n l m hm;exact⟨j+1,q,by simpa using z,by simpa using x,w⟩
  .cases h
def Zu(C:SC)(a:wV)(b:pA):r_:=
 C.lam&&a.defaults.isEmpty&&a.kw_defaults.isEmpty&&decide ((fb b.names).Nodup)&&(fb b.names).all λy=>decide (C.sc.names.lookup y=a_ .cell)&&decide (y∈rf)
def Ro(e:Expr)(a:b_ x_)(b:b_ g_):En->ce:=λδ=>match Ds δ a b with
 |some fs=>.ok (.obj e fs)
 |none=>.st
def PF(C:SC)(b:wV)(c:Expr)(a:pA)(d:h!):En->ce:=if Zu C b a then(match slots C (fb a.names)with
 |some e=>Ro (.Lambda b c a d) (fb a.names) e
 |none=>j4)else j4
def To(l:b_ jB)(h:nz H q l):TriplesOk l:=by
 fun_induction nz H q l with
 |case1=>trivial
 |case2 _ _ _ _ b r a=>exact a h.2
 |case3=>exact h.elim
def EU(l:b_ jB)(h:nz H q l)(e:codeAmong d l=a_ j):∃(c:o_) (b:_d) (a:p_ jB) (t:Tok),j=.ref c/\H c=a_ (.il b (.own 0))/\b.data=.fields a/\a[1]?=a_ (.str q t):=by
 fun_induction nz H q l with
 |case1=>cases e
 |case2 _ _ _ _ c r f=>
  unfold codeAmong at e;split at e
  .cases e;obtain⟨⟨b,a,t,i,g⟩,_⟩:=h;exact⟨c,b,a,t,_6,i,g⟩
  .exact f h.2 e
 |case3=>exact h.elim
def Ww{H:Hp}{q:x_}{i j:j_}{b:o_}{a:_d}{vs:p_ jB}{t:Tok}(l:b_ jB)(h:nz H q l)(f:H b=a_ (.il a (.own 0)))(e:a.data=.fields vs)(d:vs[1]?=a_ (.str q t)):nz H q (l++[mK i,mK j,.ref b]):=by
 fun_induction nz H q l with
 |case1=>exact⟨⟨a,vs,t,f,e,d⟩,trivial⟩
 |case2 _ _ _ _ g r c=>exact⟨h.1,c h.2⟩
 |case3=>exact h.elim
section
def TV(O:ls X C T E'):f7 X B E (.Lambda d η a Γ) (PF C d η a Γ):=by
 unfold PF;cases hl:Zu C d a with
 |false=>exact cu
 |true=>
 rw[iH _6];cases hx:slots C _ with
 |none=>exact cu
 |some ix=>
 dsimp only
 rintro ξ s Z H Q I ⟨G,δ,R,q⟩
 unfold Ro at q;cases hf:Ds δ _ ix with
 |none=>rw[hf]at q;exact q.elim
 |some fs=>
 rw[hf]at q;unfold Zu at hl;simp only[iQ,sA]at hl;obtain⟨⟨⟨⟨l1,l2⟩,l3⟩,l4⟩,l5⟩:=hl;obtain⟨c,P,hm,β,C0,⟨bm,ob,b1,b2,b3,b4,b5,b6,b7⟩,hab,hfn⟩:=O.lamc l1;have l:∀y,_∈a.names->X.bi.scope.names.lookup y=a_ .cell/\y∈rf:=λy hy=>by have z:=w_.mp l5 y (mn.mp hy);rw[iQ,n_,n_,<-O.s]at z;exact z
 obtain⟨J,γ⟩:=Bx X.bi a.names [] (λy hy=>I.ok.has y (.inl (l y (mn.mpr hy)).1));have ζ:=ua X.bi _ _ J γ λp hp=>by simp at hp
 have ν:∀p∈J,_∈a.names:=λp hp=>(wq X.bi _ _ J γ p hp).elim (λz=>by simp at z) λz=>z;obtain⟨G1,H1,w,L,hz⟩:=OC J (λp hp=>⟨ζ p hp,hfn _ (l _ (ν p hp)).2,hab _ _ (ζ p hp)⟩) I R.gh;have hP:=L.hh _ _ (R.bh _ _ (R.gb _ hm));obtain⟨ps,hPo,tr⟩:=w.fg P _ hP;have Φ:=w.tz.se.keeps w.bk;have Δ:∀{b}{o},X.base.get? b=a_ o->b≠P:=λ{b o} e z=>by have:=(w.bs b o e).2;rw[z,hP]at this;cases this
 have hgP:mB≠P:=by obtain⟨o,es,ep,e,_⟩:=w.tz.se;exact Δ e
 have hb:s.1.BuiltinsAt X.mg P:=⟨bm,ob,b1,b2,b3,Δ b4,w.bk _ _ b4,b5,b6,b7⟩;have Ω:defaultsOf d X.bi=([],[]):=by obtain⟨a1,a2,a3,a4,a5,a6,a7⟩:=d;have Y:=l2;have U:=l3;subst Y U;rfl
 obtain⟨vs,dF,dm,dv⟩:=Dt R hf
 -- the cells,as what was taken
 have cells:∀{G'},ca G1 G'->∀y c,J.lookup y=a_ c->∃o v u,G' c=a_ (.il o _)/\o.data=.cell (a_ u)/\(y,v)∈vs/\ez v u:=λ{G'} sg y c hc=>by
  have A:=kj hc;obtain⟨o,g1,g2⟩:=hz _ A;have:y∈vs.map (·.1):=by rw[dm];exact(mn.mp (ν _ A))
  obtain⟨⟨y',v⟩,hp,rfl⟩:=k_.mp this;obtain⟨j,i,a1,a2,a3⟩:=dv _ _ hp;obtain⟨k1,k2,k3⟩:X.N[i]?=a_ y'/\vis C.sc y'=c_/\_u:=by
   have gen:∀{M}{ix},slots C M=a_ ix->∀{j i:g_}{y},M[j]?=a_ y->ix[j]?=a_ i->slot C y=a_ i:=by
    intro M;induction M with
    |nil=>intro ix h j i y z;simp at z
    |cons m M ih=>
     intro ix h j i y Y U;unfold slots at h;cases L:slot C m with
     |none=>rw[L]at h;cases h
     |some i0=>
      cases e2:slots C M with
      |none=>rw[L,e2]at h;cases h
      |some is=>
       rw[L,e2]at h;cases h;cases j with
       |zero=>simp at Y U;subst Y;subst U;exact L
       |succ j=>exact ih e2 (by simpa using Y) (by simpa using U)
   obtain⟨m1,m2,m3⟩:=Df (gen hx a1 a2);exact⟨by rwa[O.n],m2,trivial⟩
  obtain⟨m,hn,hl⟩:=I.loc;obtain⟨u,ru,lk⟩:=hl i y' v k1 a3 (by rw[O.s];exact Qx k2);have kc:X.bi.kindOf y'=a_ .cell:=(l _ (ν _ A)).1;obtain ⟨z,_⟩|⟨_,c2,Y,o2,U,z3⟩:=lk
  .rw[kc]at z;cases z
  .have:=ζ _ A;rw[this]at Y;cases Y;rw[g2]at U;cases U;exact⟨o,v,u,sg _ _ g1,z3,hp,ru⟩
 have inj:∀x y c,J.lookup x=a_ c->J.lookup y=a_ c->x=y:=λx y c h1 h2=>I.ok.inj x y c (ζ _ (kj h1)) (ζ _ (kj h2));have all:∀y,_∈a.names->∃c,J.lookup y=a_ c:=λy h=>wo X.bi _ _ J γ y (.inr h);have frm:∀y c,J.lookup y=a_ c->_∈a.names:=λy c h=>ν _ (kj h);refine PySem.W.kla_eval Ω ?_;cases ha:codeAmong Γ ps.toList with
 |none=>
  refine PySem.W.kla_makeFunction (mz γ) I.ok.se Φ β (C0.keeps w.bk) hPo (To _ tr) ha hgP hb λc' ε f tk hxt τ κ Ξ Θ=>?_;obtain⟨c2,oc,μ,t,e2,hoc,hd,hv⟩:=Ξ;cases e2;have f1:=w.fg.fresh τ;have hs:=xE (sR τ κ);have f2:eT H1 c' (.il oc (.own 0)) f.objs.size=d_:=by rw[ai (nH κ)];exact w.fg.fresh hs
  generalize α:xU "<lambda>" _ d η a J _ c' ε=g;have x2:=(c8.new L.gh _ f1).trans (c8.new (c8.new L.gh _ f1).gh (.il g (.own 0)) f2);have lP:∀{b}{u},H1 b=a_ u->b≠c'/\b≠f.objs.size:=λ{b u} z=>⟨a8 z f1,λy=>by
   have:=w.fg.lt z;rw[y]at this;exact t_ (jR this hs) (kU _)⟩
  have up:∀{b}{u},H1 b=a_ u->eT (eT H1 c' (.il oc (.own 0))) f.objs.size (.il g (.own 0)) b=a_ u:=λz=>by rwa[ai (lP z).2,ai (lP z).1]
  have kp:∀{b}{o},b≠P->s.1.get? b=a_ o->(f.push g).get? b=a_ o:=λhb e=>iE _ (hxt _ _ hb e);have I2:c5 X ξ Z (eT (eT H1 c' (.il oc (.own 0))) f.objs.size (.il g (.own 0))) {s with heap:=f.push g,toks:=tk}:=by
   refine w.un ⟨λb o e n S S=>kp (λz=>by rw[z,hP]at n;cases n) e,λb o e n S S=>⟨o.slots,kp (λz=>by rw[z,hP]at n;cases n) e⟩,λb o e n S=>?_,λb o e S=>?_,λb xs e=>up e,λb o u e=>up e,λb q e=>up e⟩ λb u e=>?_
   .have:=jA e;rwa[ai (jJ (jR this hs)),ai (jJ (jR this τ))]
   .by_cases z:b=P
    .subst z;exact⟨_,iE _ Θ⟩
    .exact⟨o,kp z e⟩
   .by_cases Y:b=f.objs.size
    .subst Y;rw[aj]at e;cases e;have:(f.push g).get? f.objs.size=a_ g:=iS _ (by rw[<-α];rfl);exact⟨this,g,this⟩
    .rw[ai Y]at e
     by_cases U:b=c'
     .subst U;rw[aj]at e;cases e;have:(f.push g).get? b=a_ oc:=iE _ hoc;exact⟨this,oc,this⟩
     .rw[ai U]at e
      by_cases z3:b=P
      .subst z3;rw[hP]at e;cases e;refine⟨_,iE _ Θ,?_⟩;rw[lT];refine Ww (vs:=μ) (t:=t) _ (tr.be λb o u z=>up z) ?_ hd hv;rw[ai (jJ κ),aj]
      .refine(w.fg b u e).t3 (λb' u' hb' r=>kp ?_ r) (λb' z=>up z) (λb' xs z=>up z) λb' o' u' z=>up z;obtain y|y:=hb'
       .rwa[y]
       .intro y';rw[y',hP]at y;cases y
  refine⟨.ref f.objs.size,_,I2,_6,q _ _ _ (L.trans x2) ⟨_,vs,_6,⟨X.bi.qual++"<lambda>",(X.mg "__name__").getD .none,c',ε,J,oc,μ,t,?_,?_,hd,hv,inj,all,frm,cells x2.gg,dm⟩,(dF.be L.gg).be x2.gg⟩⟩
  .rw[α];exact aj
  .rw[ai (jJ κ),aj]
 |some cv=>
  obtain⟨c',oc,μ,t,rfl,hc',hd,hv⟩:=EU _ tr ha;refine PySem.W.kla_makeFunctionHit (mz γ) I.ok.se Φ β (C0.keeps w.bk) hPo (To _ tr) ha hb λε f tk hk hs=>?_;have f2:=w.fg.fresh hs;generalize α:xU "<lambda>" _ d η a J _ c' ε=g;have x1:=c8.known L.gh hc';have x2:=x1.trans (c8.new x1.gh (.il g (.own 0)) f2);have I2:c5 X ξ Z (eT H1 f.objs.size (.il g (.own 0))) {s with heap:=f.push g,toks:=tk}:=by refine w.laid (λb u e=>iE _ (hk b u e)) hs ?_;have:(f.push g).get? f.objs.size=a_ g:=iS _ (by rw[<-α];rfl);exact⟨this,g,this⟩
  subst α;refine⟨.ref f.objs.size,_,I2,_6,q _ _ _ (L.trans x2) ⟨_,vs,_6,⟨X.bi.qual++"<lambda>",(X.mg "__name__").getD .none,c',ε,J,oc,μ,t,?_,?_,hd,hv,inj,all,frm,cells x2.gg,dm⟩,(dF.be L.gg).be x2.gg⟩⟩
  .exact aj
  .exact(c8.new x1.gh _ f2).gg _ _ aj
end
end Pu
end
namespace Pu
open L2 PySem.SeqAt
def OT(A:oN)(s:jP)(y x:jB)(b:r_):Prop:=
 ∀(a:kR)(w:mG)(E:jB->jP->Prop)(Q:jB->jP->Prop),Q (.bool b) s->jK (jG a w) A (T! .Lt y x) Q E s
noncomputable def Ah(e c:g_->r_)(a:r_):b_ g_->r_
 |[]=>a
 |i::r=>if e i then Ah e c a r else c i
def Qr(l m:o_)(xs a:p_ jB)(n k:g_)(dd dm:f_ o_)(O N:p_ (f_ jB))(e c:g_->r_):
  Meets (K_.«tuple.__lt__» ⟨[.ref l,.ref m],[]⟩) (λA R s=>
   s.1.get? l=a_ {cls:=.type "tuple",dict:=dd,data:=.seq xs n,slots:=O}/\
   s.1.get? m=a_ {cls:=.type "tuple",dict:=dm,data:=.seq a k,slots:=N}/\
   (∀j (p:j<xs.size) (q:j<a.size),EqAt A.in1 s xs[j] a[j] (e j)/\(e j=e_->OT A.in1 s xs[j] a[j] (c j)))/\
   R (.ok (.ret (.bool (Ah e c (decide (xs.size<a.size)) (jD (min xs.size a.size)))))) s):=
 .of_wp λf w A R s h=>by
  obtain⟨L,g,d,J,os⟩:=s;obtain⟨T,Q,M,h⟩:=h;have f2:=AutoSeq1.sub_tuple_tuple;have Y:(xs.toList.zip a.toList).length=min xs.size a.size:=by simp
  wp_walk using rB T,rB Q,oC _ (λcW b E=>b.1=d_/\E=⟨L,g,d,J,os⟩/\∃i,
   cW=(xs.toList.zip a.toList).drop i/\R (.ok (.ret (.bool (Ah e c (decide (xs.size<a.size)) ((jD (min xs.size a.size)).drop i))))) ⟨L,g,d,J,os⟩) _
  case turn=>
   rintro⟨y,x⟩ cW b E ⟨v,rfl,i,r,o⟩
   have B:i<(xs.toList.zip a.toList).length:=by
    by_cases z:i<(xs.toList.zip a.toList).length
    .exact z
    .rw[pH (wY z)]at r;cases r
   have G:i<min xs.size a.size:=by rw[<-Y];exact B
   have p:i<xs.size:=by lia
   have q:i<a.size:=by lia
   rw[lG B]at r;injection r with C u
   obtain rfl:y=xs[i]:=by simpa using u_ Prod.fst C
   obtain rfl:x=a[i]:=by simpa using u_ Prod.snd C
   have U:(jD (min xs.size a.size)).drop i=i::(jD (min xs.size a.size)).drop (i+1):=by simp[lG,G]
   rw[U]at o;refine iA ((M i p q).1 f w _ _ ?_);cases H:e i with
   |true=>
    simp only[Ah,H]at o
    wp_walk
    exact⟨_6,_6,i+1,u,o⟩
   |false=>
    simp only[Ah,H]at o;rw[iH (show(!false)=c_ from rfl)];refine iA (nJ (iA ((M i p q).2 H f w _ _ ?_)))
    wp_walk
    exact⟨_,_6,o⟩
  case fin=>
   rintro⟨b1,b2⟩ E ⟨v,rfl,i,r,o⟩
   simp only at v;subst v;have I:min xs.size a.size<=i:=by
    by_cases z:i<(xs.toList.zip a.toList).length
    .rw[lG z]at r;cases r
    .lia
   rw[pH (by simpa using I)]at o
   wp_walk
   exact⟨_,_6,by simpa[Builtin.Tuple.tupleCompareSizes,Ah]using o⟩
  case h=>exact⟨_6,_6,0,_6,by simpa using h⟩
mutual
def VF:rS->rS->f_ r_
 |.int i,.int j=>a_ (decide (i<j))
 |.str x,.str y=>a_ (decide (x.cps.toList<y.cps.toList))
 |.tuple xs,.tuple ys=>lq xs ys
 |_,_=>d_
def lq:b_ rS->b_ rS->f_ r_
 |[],[]=>a_ e_
 |[],_::_=>a_ c_
 |_::_,[]=>a_ e_
 |x::xs,y::ys=>match VF x y,lq xs ys with
  |some a,a_ b=>a_ (if lC x y then b else a)
  |_,_=>d_
end
def rp(xs a:b_ rS)(j:g_):r_:=match xs[j]?,a[j]? with
 |some x,a_ y=>(VF x y).getD e_
 |_,_=>e_
def B5(h:lq (x::xs) (y::e)=a_ c):∃a b,VF x y=a_ a/\lq xs e=a_ b/\c=if lC x y then b else a:=by
 rw[lq]at h;cases d:VF x y with
 |none=>rw[d]at h;cases h
 |some a=>
  cases f:lq xs e with
  |none=>rw[d,f]at h;cases h
  |some b=>rw[d,f]at h;cases h;exact⟨a,b,_6,_6,_6⟩
def O5:∀l,Ah e c d (l.map (· +1))=Ah (λj=>e (j+1)) (λj=>c (j+1)) d l:=by
 intro a;induction a with
 |nil=>exact _6
 |cons i r b=>rw[iJ];unfold Ah;rw[b]
theorem Je:∀{xs f}{c},lq xs f=a_ c->Ah (pairEq xs f) (rp xs f) (decide (_7 xs<_7 f)) (jD (min xs.length f.length))=c
 |[],[],c,h=>by cases h;rfl
 |[],_::_,c,h=>by cases h;simp[Ah]
 |_::_,[],c,h=>by cases h;simp[Ah]
 |x::xs,y::f,c,h=>by
  obtain⟨a,b,i,g,rfl⟩:=B5 h;have e:min (x::xs).length (y::f).length=min xs.length (_7 f)+1:=by simp
  rw[e,List.range_succ_eq_map];unfold Ah;have m:pairEq (x::xs) (y::f) 0=lC x y:=rfl;have o:rp (x::xs) (y::f) 0=a:=by simp[rp,i]
  rw[m,o,show Nat.succ=_ from rfl,O5];have d:(decide ((x::xs).length<(y::f).length))=decide (_7 xs<_7 f):=by simp
  rw[d];have l:(λj=>pairEq (x::xs) (y::f) (j+1))=pairEq xs f:=rfl;have n:(λj=>rp (x::xs) (y::f) (j+1))=rp xs f:=rfl;rw[l,n,(Je g)]
mutual
theorem y7:∀(da db:rS)(A:oN)(s:jP)(a b:jB)(as bs:b_ o_)(c:r_),wF s.1 a da as->wF s.1 b db bs->da.canLay0=c_->db.canLay0=c_->A.units+min da.depth db.depth<lN->
  VF da db=a_ c->OT A s a b c
 |.int i,db,A,s,_,_,_,_,c,ra,rb,ha,hb,hu,h=>by
  cases db<;>cases h
  cases ra;cases rb;exact λprog w E Q q=>(show jK _ _ (lS .Lt _ _) _ _ _ from vI q)
 |.str i,db,A,s,_,_,_,_,c,ra,rb,ha,hb,hu,h=>by
  cases db<;>cases h
  cases ra;cases rb;exact λprog w E Q q=>(show jK _ _ (lS .Lt _ _) _ _ _ from PyProof.Rows.lt_str q)
 |.tuple xs,.tuple ys,A,s,_,_,_,_,c,ra,rb,ha,hb,hu,h=>by
  cases ra with
  |@tuple l o vs n _ as₁ h1 h2 h3 h4=>
   cases rb with
   |@tuple l' o' vs' n' _ bs₁ k1 k2 k3 k4=>
    have h':lq xs ys=a_ c:=h;have n1:vs.size=xs.length:=by simpa using ReadsAll.length _ _ _ h4
    have n2:vs'.size=ys.length:=by simpa using ReadsAll.length _ _ _ k4
    obtain⟨cl,dd,dt,sl⟩:=o;obtain⟨cl',dd',dt',sl'⟩:=o';simp only at h2 h3 k2 k3;subst h2 h3 k2 k3;intro prog w E Q q;refine t! (op:=.Lt) ⟨_,h1,_6⟩ ⟨_,k1,_6⟩ vB wZ (wI _ _) (Qr l l' vs vs' n n' dd dd' sl sl' (pairEq xs ys) (rp xs ys)) ⟨h1,k1,λj p r=>⟨?_,λg=>?_⟩,?_⟩ (room_here hu)
    .have z:=eqAt_readsAll xs ys A.in1 s vs.toList vs'.toList _ _ h4 k4 ha hb (room_in hu) j (by simpa using p) (by simpa using r);simpa using z
    .have z:=rk xs ys A.in1 s vs.toList vs'.toList _ _ c h4 k4 ha hb (room_in hu) h' j (by simpa using p) (by simpa using r);simpa using z
    .have e:=Je h';rw[<-n1,<-n2]at e;rw[e];exact show vQ c≠Value.notImplemented/\Q (.bool c) s from⟨(λx=>nomatch x),q⟩
 |.none,_,_,_,_,_,_,_,_,_,_,_,_,_,h|.bool _,_,_,_,_,_,_,_,_,_,_,_,_,_,h|.list _,_,_,_,_,_,_,_,_,_,_,_,_,_,h|.dict _,_,_,_,_,_,_,_,_,_,_,_,_,_,h=>by cases h
 |.tuple _,.none,_,_,_,_,_,_,_,_,_,_,_,_,h|.tuple _,.bool _,_,_,_,_,_,_,_,_,_,_,_,_,h|.tuple _,.int _,_,_,_,_,_,_,_,_,_,_,_,_,h|.tuple _,.str _,_,_,_,_,_,_,_,_,_,_,_,_,h|.tuple _,.list _,_,_,_,_,_,_,_,_,_,_,_,_,h|.tuple _,.dict _,_,_,_,_,_,_,_,_,_,_,_,_,h=>by cases h
theorem rk:∀(xs ys:b_ rS)(A:oN)(s:jP)(vs ws:b_ jB)(as bs:b_ o_)(c:r_),ReadsAll s.1 vs xs as->ReadsAll s.1 ws ys bs->jN xs=c_->jN ys=c_->
  A.units+min (lF xs) (lF ys)<lN->lq xs ys=a_ c->∀j (p:j<vs.length) (q:j<ws.length),OT A s vs[j] ws[j] (rp xs ys j)
 |[],_,_,_,_,_,_,_,_,ra,_,_,_,_,_,j,p,_=>by cases ra;exact t_ p (vC _)
 |_::_,[],_,_,_,_,_,_,_,_,rb,_,_,_,_,j,_,q=>by cases rb;exact t_ q (vC _)
 |x::xs,y::ys,A,s,_,_,_,_,c,ra,rb,ha,hb,hu,h,j,p,q=>by
  have ha':x.canLay0=c_/\jN xs=c_:=by simpa[jN]using ha
  have hb':y.canLay0=c_/\jN ys=c_:=by simpa[jN]using hb
  obtain⟨a,b,h1,h2,_⟩:=B5 h;cases ra with
  |cons r rs=>
   cases rb with
   |cons r' rs'=>
    cases j with
    |zero=>
     have e:rp (x::xs) (y::ys) 0=a:=by simp[rp,h1]
     rw[e];exact y7 x y A s _ _ _ _ a r r' ha'.1 hb'.1 (room_head hu) h1
    |succ j=>exact rk xs ys A s _ _ _ _ b rs rs' ha'.2 hb'.2 (room_tail hu) h2 j (A? p) (A? q)
end
def fL(d e:D):f_ r_:=match e9 d,e9 e with
 |some p,a_ q=>if jZ p&&jZ q then VF p q else d_
 |_,_=>d_
def Ak(d e:D):f_ D:=match YB d e with
 |some r=>a_ r
 |none=>(fL d e).map .bl
def V5{f:rS->rS->f_ r_}(h:(match e9 d,e9 e with
 |some p,a_ q=>if(jZ p&&jZ q)=c_ then f p q else d_
 |_,_=>d_)=a_ b):∃p q,e9 d=a_ p/\e9 e=a_ q/\jZ p=c_/\jZ q=c_/\f p q=a_ b:=by
 cases c:e9 d with
 |none=>rw[c]at h;cases h
 |some p=>
  cases g:e9 e with
  |none=>rw[c,g]at h;cases h
  |some q=>
   rw[c,g]at h;dsimp only at h
   by_cases a:(jZ p&&jZ q)=c_
   .rw[iH a]at h;rw[iQ]at a;exact⟨p,q,_6,_6,a.1,a.2,h⟩
   .rw[iG a]at h;cases h
section
inductive rOrd(K:KA)(f:D->D->f_ r_)(x:V)(y:V)(H:Hp)(Q:VK):Prop
 |mk (G dx dy b) (_:ca G H) (_:Arg K G H dx x) (_:Arg K G H dy y) (_:f dx dy=a_ b) (_:Q (.bl b) H):rOrd K f x y H Q
def RK(m:X.A.units+64<lN):lz X (lS .Lt) (rOrd (kx X) fL):=by intro e s Z H x y v u Q I h g q;obtain⟨G,E,C,b,c,z,r,a,q⟩:=q;obtain⟨p,l,o,n,d,f,a⟩:=V5 a;obtain⟨B,j⟩:=d9 I c z h o;obtain⟨bs,i⟩:=d9 I c r g n;exact y7 p l X.A s v u B bs b j i (canLay_of_shaped d) (canLay_of_shaped f) (room_of_shaped d m) a X.prog X.w _ _ ⟨.bl b,H,I,_6,q⟩
def BJ{K:KA}(s:∀d e,g d e=match yj c d e with
 |some r=>a_ r
 |none=>(f d e).map .bl):jk K g (λx y H Q=>rI0 (λi j=>.bl (c i j)) x y H Q\/rOrd K f x y H Q):=λG H x y m l d n p o a Q q=>by
 rw[s]at a;cases h:yj c m l with
 |some r=>rw[h]at a;cases a;exact .inl (Ez G H x y m l d n p o h Q q)
 |none=>
  rw[h]at a;cases e:f m l with
  |none=>rw[e]at a;cases a
  |some b=>rw[e]at a;cases a;exact .inr ⟨G,m,l,b,n,p,o,e,q _ G H (c8.refl n) _6⟩
def RD{f:D->D->f_ r_}{g:D->D->f_ D}(i:∀d e,g d e=match yj c d e with
 |some r=>a_ r
 |none=>(f d e).map .bl) (x y d:D) (a:g x y=a_ d):∃b,d=.bl b:=by
 rw[i]at a;cases h:yj c x y with
 |some r=>rw[h]at a;cases a;exact N3 _ _ _ h
 |none=>rw[h]at a;exact Em a
end
end Pu
namespace Pu
open L2
def iq(d e:D):f_ D:=Jq d e
def fj(d e:D):f_ D:=og d e
def BK:jk (kx X) iq (rInD (kx X) e_):=KU
def Mj:jk (kx X) fj (rInD (kx X) c_):=Pw
def QW(x y d:D)(h:iq x y=a_ d):∃b,d=.bl b:=Em h
def Vx(x y d:D)(h:fj x y=a_ d):∃b,d=.bl b:=Em h
abbrev Ev:=SC->Expr->En->ce
def k7(T:GT)(a:Ev):Prop:=∀X C B (E:XK) e,ls X C T E->f7 X B (ek (kx X) E) e (a C e)
def Hy(T:GT)(a:Ev):Prop:=∀X C B (E:XK) e,ls X C T E->Ft X B (ek (kx X) E) e (a C e)
section
def R7:D->r_
 |.fD=>c_
 |_=>e_
noncomputable def NM:D->D->f_ D
 |d,.fD=>a_ (.bl (R7 d))
 |.bl b,.bl c=>a_ (.bl (b==c))
 |.fD,.bl _=>a_ (.bl e_)
 |_,_=>d_
noncomputable def jw:D->D->f_ D
 |d,.fD=>a_ (.bl (!R7 d))
 |.bl b,.bl c=>a_ (.bl (!(b==c)))
 |.fD,.bl _=>a_ (.bl c_)
 |_,_=>d_
def J9{K:KA}(h:Arg K G H d v):decide (v=.fD)=R7 d:=by
 obtain h|⟨g,a,c,rfl,rfl,_⟩|⟨t,e,a,rfl,rfl,_⟩:=h
 .cases d with
  |fD=>cases (h);rfl
  |bl b=>cases (h);rfl
  |int b=>cases (h);rfl
  |str b=>cases (h);rfl
  |ci g=>obtain⟨a,c,rfl,_⟩:=h;rfl
  |au g=>obtain⟨a,c,rfl,_⟩:=h;rfl
  |js t e=>obtain⟨a,rfl,_⟩:=h;rfl
  |obj C fs=>obtain⟨a,c,rfl,_⟩:=h;rfl
  |fn f=>cases (h);rfl
 .rfl
 .rfl
def YA(f:r_->r_):R2:=λx y H Q=>(∃b c,x=.bl b/\y=.bl c/\Q (.bl (f (b==c))) H)\/∃c,x=.fD/\y=.bl c/\Q (.bl (f e_)) H
def JQ:lz X (lS .IsNot) (YA λb=> !b):=by
 intro e s Z H x y v u Q I d a h;obtain ⟨b,c,rfl,rfl,q⟩|⟨c,rfl,rfl,q⟩:=h
 .cases d;cases a;exact wpAny_isNot_plain _6 ⟨.bl _,H,I,(by cases b<;>cases c<;>rfl),q⟩
 .cases d;cases a;exact wpAny_isNot_plain _6 ⟨.bl c_,H,I,_6,q⟩
def Mi{K:KA}:jk K jw (λx y H Q=>(y=.fD/\Q (.bl (!decide (x=.fD))) H)\/YA (λb=> !b) x y H Q):=λG H x y h g d c f e a Q q=>by
 unfold jw at a;split at a
 .cases a;refine .inl ⟨e.fD,?_⟩;rw[J9 f];exact q _ G H (c8.refl c) _6
 .cases a;exact .inr (.inl ⟨_,_,f.bl,e.bl,q _ G H (c8.refl c) _6⟩)
 .cases a;exact .inr (.inr ⟨_,f.fD,e.bl,q _ G H (c8.refl c) _6⟩)
 .cases a
def QU(a:f=NM\/f=jw)(x y d:D)(h:f x y=a_ d):∃b,d=.bl b:=by
 obtain rfl|rfl:=a
 .unfold NM at h;split at h<;>first|(cases h;exact⟨_,_6⟩)|cases h
 .unfold jw at h;split at h<;>first|(cases h;exact⟨_,_6⟩)|cases h
noncomputable def N1:CmpOp->f_ (D->D->f_ D)
 |.Eq=>a_ gu
 |.NotEq=>a_ e8
 |.Lt=>a_ Ak
 |.LtE=>a_ Py
 |.Gt=>a_ UU
 |.GtE=>d_
 |.In=>a_ iq
 |.NotIn=>a_ fj
 |.Is=>d_
 |.IsNot=>a_ jw
def Ik(e:N1 a=a_ f)(c:X.A.units+65<lN):∃r,lz X (lS a) r/\jk (kx X) f r/\∀x y d,f x y=a_ d->∃b,d=.bl b:=by
 cases a<;>cases e
 .exact⟨_,RM (by lia),KW,λz z z h=>Em h⟩
 .exact⟨_,RG (by lia),KR,λz z z h=>Em h⟩
 .exact⟨_,YT.or (RK (by lia)),BJ λz z=>rfl,RD λz z=>rfl⟩
 .exact⟨_,YU,Ez,N3⟩
 .exact⟨_,YV,Ez,N3⟩
 .exact⟨_,JP.or JQ,Mi,QU (.inr _6)⟩
 .exact⟨_,RL c,BK,QW⟩
 .exact⟨_,V4 c,Mj,Vx⟩
end
def uf(a:Ev)(C:SC)(e:Expr):En->ce:=match e with
 | .Name x _ => (match slot C x with
  |some i=>aa i
  |none=>a C e)
 |_=>a C e
noncomputable def PH(a:Ev)(C:SC):b_ r_->b_ Expr->En->f8
 |[],[]=>af
 |m::b,e::c=>am (if m then uf a C e else a C e) (PH a C b c)
 |_,_=>PC
def Gm(a:Ev)(C:SC):b_ Expr->En->f8
 |[]=>af
 |e::b=>am (a C e) (Gm a C b)
noncomputable def Fk(T:GT)(C:SC)(x:x_):En->ce:=match slot C x with
 |some i=>a0 i
 | d_ => if FO C x then (match T.r9 x with
  |some y=>gC (.str y)
  | d_ => (match T.fns x with
   |some _=>gC (.fn x)
   |none=>j4))else j4
def K6(f:Expr->En->ce):b_ Expr->En->ce
 |[]=>j4
 |[a]=>f a
 |a::r=>vy (f a) (K6 f r)
def Yu(f:Expr->En->ce):b_ Expr->En->ce
 |[]=>j4
 |[a]=>f a
 |a::r=>Fs (f a) (Yu f r)
noncomputable def Au(a:Ev)(C:SC)(l:Expr)(b:b_ CmpOp)(e:b_ Expr):En->ce:=match b,e with
 | [d], [r] => (match N1 d with
  |some f=>if vq r then g2 f (uf a C l) (uf a C r)else j4
  |none=>j4)
 | [d, c], [m, r] => (match N1 d, N1 c with
  |some f,a_ g=>if vq r then wx f g (uf a C l) (uf a C m) (uf a C r)else j4
  |_,_=>j4)
 |_,_=>j4
section
def fk(h:k7 T a)(O:ls X C T E)(e:Expr):k6 X B (ek (kx X) E) e (uf a C e):=by
 have d:=YI (h X C B E e O);cases e with
 |Name x p=>
  show k6 X B _ _ (match slot C x with
   |some i=>aa i
   |none=>a C _)
  cases b:slot C x with
  |none=>exact d
  |some i=>exact OO i (O.var b)
 |_=>exact d
theorem Dk(h:k7 T b)(O:ls X C T E):∀{ms}{es},es.all jd=c_->Q0 X B (ek (kx X) E) ms es (PH b C ms es)
 |[],[],_=>jr
 |[],_::_,_=>MQ
 |_::_,[],_=>MQ
 |m::ms,e::es,a=>by
  rw[kJ,iQ]at a;cases m with
  |true=>exact g7 (fk h O e) (Dk h O a.2) (ar a.1)
  |false=>exact Do (h X C B E e O) (Dk h O a.2) (ar a.1)
def Cz(h:k7 T d)(O:ls X C T E):∀{es},es.all jd=c_->Q0 X B (ek (kx X) E) (es.map λz=>e_) es (Gm d C es):=by
 intro a;induction a with
 |nil=>rintro _;exact jr
 |cons e es b=>
  rintro c
  rw[kJ,iQ]at c;exact Do (h X C B E e O) (b c.2) (ar c.1)
def wb:∀{es:b_ Expr},Hz (es.map λz=>e_)=c_:=by
 intro a;induction a with
 |nil=>exact _6
 |cons _ es b=>show(!false&&Hz _)=c_;rw[b];rfl
def IC(O:ls X C T E):f7 X B (ek (kx X) E) (.Name x b) (Fk T C x):=by
 unfold Fk;cases c:slot C x with
 |some i=>exact TC i (O.var c)
 |none=>
  by_cases a:FO C x=c_
  .rw[iH a];obtain⟨g1,g2⟩:=O.gl a;cases e:T.r9 x with
   |some y=>obtain⟨t,q⟩:=O.r9 x y e;exact KI g1 q g2
   |none=>
    cases d:T.fns x with
    |some s=>obtain⟨k,f,h,g,_,q,_⟩:=O.fns x s d;exact TZ g1 q g2
    |none=>exact cu
  .rw[iG a];exact cu
theorem Q7{E:EK}(h:∀e,f7 X B E e (f e)):∀{c},f7 X B E (.BoolOp .And c d) (K6 f c)
 |[]=>cu
 |[a]=>CW (h a)
 |a::b::r=>SG (h a) (Q7 h)
theorem AM{E:EK}(h:∀e,f7 X B E e (f e)):∀{c},f7 X B E (.BoolOp .Or c d) (Yu f c)
 |[]=>cu
 |[a]=>CW (h a)
 |a::b::r=>YD (h a) (AM h)
def NN{E:EK}:FP X B E e j4:=by rintro b a s Z H Q I ⟨G,δ,R,q⟩;exact q.elim
theorem Q8{E:EK}(h:∀e,Ft X B E e (f e)):∀{c},FP X B E (.BoolOp .And c d) (K6 f c)
 |[]=>NN
 |[a]=>CP (h a)
 |a::b::r=>LZ (h a) (Q8 h)
theorem AL{E:EK}(h:∀e,Ft X B E e (f e)):∀{c},FP X B E (.BoolOp .Or c d) (Yu f c)
 |[]=>NN
 |[a]=>LX (h a)
 |a::b::r=>UW (h a) (AL h)
set_option tactic.hygienic true in
def X1(h:k7 T v)(O:ls X C T E):f7 X B (ek (kx X) E) (.Compare l b i j) (Au v C l b i)/\Ft X B (ek (kx X) E) (.Compare l b i j) (Au v C l b i):=by
 unfold Au;split
 .rename_i o r;cases q:N1 o with
  |none=>exact⟨cu,B9⟩
  |some f=>
   dsimp only
   by_cases a:vq r=c_
   .rw[iH a];obtain⟨x,g,d,u⟩:=Ik q O.units;exact⟨SD g d (fk h O l) (fk h O r) (wz a),KO g d u (fk h O l) (fk h O r) (wz a)⟩
   .rw[iG a];exact⟨cu,B9⟩
 .rename_i o n m r;cases q:N1 o with
  |none=>exact⟨cu,B9⟩
  |some f=>
   cases p:N1 n with
   |none=>exact⟨cu,B9⟩
   |some y=>
    dsimp only
    by_cases a:vq r=c_
    .rw[iH a];obtain⟨x,g,d,u⟩:=Ik q O.units;obtain⟨w,e,c,s⟩:=Ik p O.units;exact⟨BB g d e c (fk h O l) (fk h O m) (fk h O r) (Et a),We g d e c s (fk h O l) (fk h O m) (fk h O r) (Et a)⟩
    .rw[iG a];exact⟨cu,B9⟩
 .exact⟨cu,B9⟩
end
section
noncomputable def k9:b_ D->f_ (b_ r_)
 |[]=>a_ []
 |.bl b::r=>(k9 r).map (b::·)
 |_::_=>d_
def Bt{K:KA}:∀{f}{bs}{a}{c},k9 f=a_ bs->cr K G f a->dL a c->c=bs.map vQ:=by
 intro g;induction g with
 |nil=>rintro bs a c h d r;cases h;cases (d);cases r;rfl
 |cons d f i=>
  rintro bs a c h dl r
  obtain⟨v,p,rfl,m,n⟩:=dl;cases d with
  |bl b=>
   unfold k9 at h;cases e:k9 f with
   |none=>rw[e]at h;cases h
   |some o=>
    rw[e]at h;cases h;cases r with
    |cons l j=>cases (m);cases (l);rw[iJ,i e n j]
  |_=>cases h
def ye(bs:b_ r_)(f:b_ r_->(g_->r_))(a:f=λbs i=>bs.getD i e_):(jD bs.length).all (f bs)=bs.all id/\(jD bs.length).any (f bs)=bs.any id:=by
 subst a;have e:(jD bs.length).map (λi=>bs.getD i e_)=bs:=by
  apply qQ
  .simp
  .intro i c b;simp[b]
 constructor
 .have:=u_ (λl=>l.all id) e;simpa using this
 .have:=u_ (λl=>l.any id) e;simpa using this
inductive rAllD(K:KA)(an:r_)(xs:b_ V)(H:Hp)(Q:VK):Prop
 |mk (G l vs ds bs) (_:xs=[.ref l]) (_:gL K H l vs) (_:cr K G ds vs) (_:k9 ds=a_ bs) (_:Q (.bl (if an then bs.any id else bs.all id)) H):rAllD K an xs H Q
def Bw{bs:b_ r_}{a:p_ jB}(e:a.toList=bs.map vQ):TruthOf g w A (λi v=>a[i]?=a_ v) (λi=>bs.getD i e_):=by
 intro i v s Q E h j;have c:a.toList[i]?=a_ v:=by simpa using h
 rw[e,jF]at c;cases f:bs[i]? with
 |none=>rw[f]at c;cases c
 |some b=>rw[f]at c;cases c;have d:Q (bs.getD i e_) s:=j;rw[iK,f]at d;exact lZ d
def T1(v:X.calm=c_):ie X (.builtin "all") (rAllD (kx X) e_):=by
 intro g s Z H xs z Q I r q;obtain⟨G,l,y,E,bs,rfl,h,dl,x,q⟩:=q;obtain⟨u,rfl,m⟩:=ny r;cases m;obtain⟨a,j,c,_⟩:=I.list h;have e:=Bt x dl j;have n:l<s.1.1.size:=by obtain⟨o,f,_⟩:=c.isList;exact jA f
 have W:=xO (prog:=X.prog) (w:=X.w) (A:=X.A.in1) (I.ok.hd v) s.1.1.size l (jJ n) a.toArray;refine call_all_walk (mS c.isList ⟨s.1.1.size,_,_,_,_,_,λi=>bs.getD i e_,_6,W,⟨⟨_,iS _ _6,_6,_6⟩,c.isList.at λo f=>iE _ f⟩,Bw (by simpa using e),λC B p=>?_⟩);refine⟨.bl _,H,I.h7 λb o e=>p b o (by simpa using jJ (jA e)) (iE _ e),?_,q⟩;have d:a.toArray.size=_7 bs:=by rw[jS,e,iD]
 rw[d,(ye bs _ _6).1];rfl
def T3(v:X.calm=c_):ie X (.builtin "any") (rAllD (kx X) c_):=by
 intro g s Z H xs z Q I r q;obtain⟨G,l,y,E,bs,rfl,h,dl,x,q⟩:=q;obtain⟨u,rfl,m⟩:=ny r;cases m;obtain⟨a,j,c,_⟩:=I.list h;have e:=Bt x dl j;have n:l<s.1.1.size:=by obtain⟨o,f,_⟩:=c.isList;exact jA f
 have W:=xO (prog:=X.prog) (w:=X.w) (A:=X.A.in1) (I.ok.hd v) s.1.1.size l (jJ n) a.toArray;refine call_any_walk (mS c.isList ⟨s.1.1.size,_,_,_,_,_,λi=>bs.getD i e_,_6,W,⟨⟨_,iS _ _6,_6,_6⟩,c.isList.at λo f=>iE _ f⟩,Bw (by simpa using e),λC B p=>?_⟩);refine⟨.bl _,H,I.h7 λb o e=>p b o (by simpa using jJ (jA e)) (iE _ e),?_,q⟩;have d:a.toArray.size=_7 bs:=by rw[jS,e,iD]
 rw[d,(ye bs _ _6).2];rfl
def xf:D->f_ D
 |.au a=>(k9 a).map λbs=>.bl (bs.all id)
 |_=>d_
def Ca:D->f_ D
 |.au a=>(k9 a).map λbs=>.bl (bs.any id)
 |_=>d_
def SH(r:X.calm=c_)(o:Gl X "all")(n:X.mg "all"=d_)(s:k6 X B E e g)(f:jI [e] X.bi=(e_,I_ e X.bi)::jI [] X.bi):f7 X B E (.Call (.Name "all" p) [e] [] m) (g1 xf g):=
 PE.imp (l7 (T1 r) o n PyProof.Rows.boot_all (g7 s jr f) (by decide) (by decide) f _6) λZ H Q q=>FD (λG H x u d c v a Q q=>by
  cases u with
  |au h=>
   unfold xf at a;dsimp only at a;cases b:k9 h with
   |none=>rw[b]at a;cases a
   |some bs=>rw[b]at a;cases a;obtain⟨l,i,rfl,j,dl⟩:=v.au c;exact⟨G,l,i,h,bs,_6,j,dl,b,q _ G H (c8.refl c) _6⟩
  |_=>cases a) q
def SF(r:X.calm=c_)(o:Gl X "any")(n:X.mg "any"=d_)(s:k6 X B E e g)(f:jI [e] X.bi=(e_,I_ e X.bi)::jI [] X.bi):f7 X B E (.Call (.Name "any" p) [e] [] m) (g1 Ca g):=
 PE.imp (l7 (T3 r) o n PyProof.Rows.boot_any (g7 s jr f) (by decide) (by decide) f _6) λZ H Q q=>FD (λG H x u d c v a Q q=>by
  cases u with
  |au h=>
   unfold Ca at a;dsimp only at a;cases b:k9 h with
   |none=>rw[b]at a;cases a
   |some bs=>rw[b]at a;cases a;obtain⟨l,i,rfl,j,dl⟩:=v.au c;exact⟨G,l,i,h,bs,_6,j,dl,b,q _ G H (c8.refl c) _6⟩
  |_=>cases a) q
end
def DP(x:x_):b_ D:=x.cps.toList.map λc=>.str ⟨#[c]⟩
def aH(x:x_):It:=⟨λi z=>i<x.cps.size,λi H v a=>a=H/\∃c,x.cps[i]?=a_ c/\v=.str ⟨#[c]⟩,λi z=>x.cps.size<=i⟩
def Qt{K:iL}(it:o_)(x:x_)(t:Tok):qh P w K tg (aH x) [it] it (λi h=>h.IsStrIter it "str_ascii_iterator" x t i) where
 mem:=by simp
 obj:=λi h st b a=>by
  have e:b=it:=by simpa using a
  subst e;obtain⟨o,e,c,d⟩:=st;exact⟨o,e,λv z=>by rw[d]at z;cases z⟩
 keep:=λi h B st k=>let ⟨o,J,r⟩:=st;⟨o,k it (by simp) o J,r⟩
 item:=by intro X L G M A i g s Z H E I l st m;obtain⟨y,u,N,q,p,n⟩:=l it (by simp);have j:i<x.cps.size:=m;refine wpAny_pyNext_ascii_item st (c:=x.cps[i]) (by simp) λB f C=>?_;obtain⟨o,e,c,d⟩:=id f;exact⟨_,_6,Gq e c d (by decide) ⟨.str ⟨#[x.cps[i]]⟩,H,(I.hZ (λb o a e=>(C.2 b a).trans e) y u q p n),⟨_,_6⟩,⟨_6,_,by simp,_6⟩,f,λb a=>(l b a).1⟩⟩
 done:=by intro X L G M A i g s Z H E I l st m;obtain⟨y,u,N,q,p,n⟩:=l it (by simp);have j:x.cps.size<=i:=m;exact wpAny_pyNext_ascii_end (I.ok.hd A) st (by simp[j]) λB O=>⟨_6,I.hZ (λb o a e=>O b o a e) y u q p n⟩
 self:=λY Y Y Y Y st h=>wpAny_pyIter_striter_ascii st h
def W0{K:iL}(it:o_)(x:x_)(t:Tok):qh P w K tg (aH x) [it] it (λi h=>h.IsStrIter it "str_iterator" x t i) where
 mem:=by simp
 obj:=λi h st b a=>by
  have e:b=it:=by simpa using a
  subst e;obtain⟨o,e,c,d⟩:=st;exact⟨o,e,λv z=>by rw[d]at z;cases z⟩
 keep:=λi h B st k=>let ⟨o,J,r⟩:=st;⟨o,k it (by simp) o J,r⟩
 item:=by intro X L G M A i g s Z H E I l st m;obtain⟨y,u,N,q,p,n⟩:=l it (by simp);have j:i<x.cps.size:=m;refine wpAny_pyNext_wide_item st (c:=x.cps[i]) (by simp) λB f C=>?_;obtain⟨o,e,c,d⟩:=id f;exact⟨_,_6,Gq e c d (by decide) ⟨.str ⟨#[x.cps[i]]⟩,H,(I.hZ (λb o a e=>(C.2 b a).trans e) y u q p n),⟨_,_6⟩,⟨_6,_,by simp,_6⟩,f,λb a=>(l b a).1⟩⟩
 done:=by intro X L G M A i g s Z H E I l st m;obtain⟨y,u,N,q,p,n⟩:=l it (by simp);have j:x.cps.size<=i:=m;exact wpAny_pyNext_wide_end (I.ok.hd A) st (by simp[j]) λB O=>⟨_6,I.hZ (λb o a e=>O b o a e) y u q p n⟩
 self:=λY Y Y Y Y st h=>wpAny_pyIter_striter_wide st h
def Zd{K:KA}:zg K (aH x) (DP x) S:=λi G H m b=>by
 unfold DP;refine⟨λd a=>?_,λf=>?_⟩
 .rw[jF]at a;cases e:x.cps.toList[i]? with
  |none=>rw[e]at a;cases a
  |some c=>
   rw[e]at a;cases a;have g:i<x.cps.size:=by simpa using(h_.mp e).1
   refine⟨g,λv n ⟨z,l,j,h⟩=>?_⟩;subst z;have:x.cps.toList[i]?=a_ l:=by simpa using j
   rw[e]at this;cases this;exact⟨G,c8.refl b,h⟩
 .show x.cps.size<=i;simpa using f
section
def XX(K:iL)(c:TE):TI:=λZ H R=>c Z H λx b=>(∃a,x=.ref a/\(((∃xs,gL K b a xs)/\R (aJ K a) b)\/((∃xs,ng K b a xs)/\R (aG K a) b)))\/∃z,x=.str z/\R (aH z) b
def S5(B:PE X l u):PI X tg l (XX X.K u):=by
 intro g s Z H R I h;refine jf (B g s Z H _ I h) λv d ⟨x,i,c,j,y⟩=>?_;obtain ⟨a,e,⟨⟨xs,n⟩,q⟩|⟨⟨xs,n⟩,q⟩⟩|⟨z,e,q⟩:=y
 .subst e;cases j;obtain⟨m,w,p,A⟩:=c.list n;refine mS p.isList (⟨d.1.1.size,_,_,_,i,_6,c.h7 λb o e=>iE _ e,Ho a _,⟨_,iS _ _6,_6,_6⟩,λb f=>?_,q⟩);have e:b=d.1.1.size:=by simpa using f
  subst e;exact c.p9 (iF _) (c.fg.fresh (iF _))
 .subst e;cases j;obtain⟨m,w,p,A⟩:=c.tuple n;refine wpAny_pyIter_tuple (p) (⟨d.1.1.size,_,_,_,i,_6,c.h7 λb o e=>iE _ e,Fn a _,⟨_,iS _ _6,_6,_6⟩,λb f=>?_,q⟩);have e:b=d.1.1.size:=by simpa using f
  subst e;exact c.p9 (iF _) (c.fg.fresh (iF _))
 .subst e;obtain⟨t,rfl⟩:=j;cases r:z.cps.all _
  .refine wpAny_pyIter_wide r ⟨d.1.1.size,_,_,_,i,_6,c.h7 λb o e=>iE _ e,W0 _ z t,⟨_,iS _ _6,_6,_6⟩,λb f=>?_,q⟩;have e:b=d.1.1.size:=by simpa using f
   subst e;exact c.p9 (iF _) (c.fg.fresh (iF _))
  .refine wpAny_pyIter_ascii r ⟨d.1.1.size,_,_,_,i,_6,c.h7 λb o e=>iE _ e,Qt _ z t,⟨_,iS _ _6,_6,_6⟩,λb f=>?_,q⟩;have e:b=d.1.1.size:=by simpa using f
   subst e;exact c.p9 (iF _) (c.fg.fresh (iF _))
def Ht:D->f_ (b_ D)
 |.au a=>a_ a
 |.ci a=>a_ a
 |.str x=>a_ (DP x)
 |_=>d_
noncomputable def ak(g:En->ce):En->f8:=λδ=>match g δ with
 | .ok d => (match Ht d with
  |some a=>.ok a
  |none=>.st)
 |.er c=>.er c
 |.st=>.st
def OY(q:gc E G H (ak g δ) P):eu E G H (g δ) λd=>∃a,Ht d=a_ a/\P a:=by
 unfold ak at q;cases e:g δ with
 |ok d=>
  rw[e]at q;dsimp only at q;cases b:Ht d with
  |some a=>rw[b]at q;exact⟨a,b,q⟩
  |none=>rw[b]at q;exact q.elim
 |er c=>rw[e]at q;exact q
 |st=>rw[e]at q;exact q
def Pq(h:OX X B E e g):Tu X B E tg e (ak g):=PI.imp (S5 h) λZ H R ⟨G,δ,w,q⟩=>⟨G,δ,w,(OY q).be<|by
 rintro d _ ⟨A,b,q⟩ v m l f u
 cases d with
 |au r=>
  cases b;obtain ⟨a,i,rfl,s,dl⟩|⟨p,a,i,z,rfl,s,dl⟩|⟨t,o,a,z,_⟩:=u
  .exact .inl ⟨a,_6,.inl ⟨⟨i,gL.be f.gh s⟩,q _ m l f (Os (by rintro y x ⟨c,n⟩ j;exact⟨gL.be (c.trans j) s,c⟩) dl)⟩⟩
  .cases z;exact .inl ⟨a,_6,.inl ⟨⟨i,gL.be (w.bh.trans f.hh) s⟩,q _ m l f (Os (by rintro y x ⟨c,n⟩ j;exact⟨gL.be n s,c⟩) dl)⟩⟩
  .cases z
 |ci r=>
  cases b;obtain ⟨a,i,rfl,s,dl⟩|⟨p,a,i,z,rfl,s,dl⟩|⟨t,o,a,z,_⟩:=u
  .exact .inl ⟨a,_6,.inr ⟨⟨i,ng.of (f.gh _ _ s)⟩,q _ m l f (Ze (by rintro y x ⟨c,n⟩ j;exact⟨ng.of ((c.trans j) _ _ s),c⟩) dl)⟩⟩
  .cases z
  .cases z
 |str z=>cases b;exact .inr ⟨z,u.str,q _ m l f Zd⟩
 |fD=>cases b
 |bl _=>cases b
 |int _=>cases b
 |js _ _=>cases b
 |obj _ _=>cases b
 |fn _=>cases b⟩
def JD(h:k6 X B E e g):Tv X B E tg e (ak g):=PI.imp (S5 h) λZ H R ⟨G,δ,o,q⟩=>⟨G,δ,o,(OY q).be<|by
 rintro d _ ⟨u,b,q⟩ v m l c j
 cases d with
 |au i=>cases b;obtain⟨a,f,rfl,s,dl⟩:=j.au c.gh;exact .inl ⟨a,_6,.inl ⟨⟨f,s⟩,q _ m l c (Os (λr p x n=>⟨gL.be x.hh s,x.gg⟩) dl)⟩⟩
 |ci i=>cases b;obtain⟨a,f,rfl,s,dl⟩:=j.ci c.gh;exact .inl ⟨a,_6,.inr ⟨⟨f,s⟩,q _ m l c (Ze (λr p x n=>⟨ng.be x.hh s,x.gg⟩) dl)⟩⟩
 |str z=>cases b;exact .inr ⟨z,j.str,q _ m l c Zd⟩
 |fD=>cases b
 |bl _=>cases b
 |int _=>cases b
 |js _ _=>cases b
 |obj _ _=>cases b
 |fn _=>cases b⟩
def D2(a:b_ rS)(q:rS):f_ g_:=a.findIdx? λy=>lC y q
noncomputable def jm:D->D->f_ D
 | .au xs, d => (match fu xs, e9 d with
  |some a,a_ q=>if jN a&&jZ q&&decide (_7 xs<=iN)then(D2 a q).map λj=>.int (j:g_)else d_
  |_,_=>d_)
 |_,_=>d_
inductive rMt(K:KA)(f:D->D->f_ D)(x:V)(vs:b_ V)(H:Hp)(Q:VK):Prop
 |mk (G dx dy y d) (_:ca G H) (_:Arg K G H dx x) (_:vs=[y]) (_:Arg K G H dy y) (_:f dx dy=a_ d) (_:∀v,gr K G d v->Q v H):rMt K f x vs H Q
def Vt(hu:X.A.units+65<lN):aF X "list.index" (rMt (kx X) jm):=by
 intro L s Z H x vs v us Q I J rv q;obtain⟨G,dx,dy,y,d,r,Y,rfl,ay,b,q⟩:=q;obtain⟨u,rfl,ru⟩:=rv.pv;cases dx with
 |au xs=>
  unfold jm at b;dsimp only at b;cases p:fu xs with
  |none=>rw[p]at b;cases b
  |some c=>
   cases E:e9 dy with
   |none=>rw[p,E]at b;cases b
   |some h=>
    rw[p,E]at b;dsimp only at b
    by_cases i:(jN c&&jZ h&&decide (_7 xs<=iN))=c_
    .rw[iH i]at b;simp only[iQ,n_]at i;obtain⟨⟨T,O⟩,h3⟩:=i;cases C:D2 c h with
     |none=>rw[C]at b;cases b
     |some j=>
      rw[C]at b;cases b;obtain⟨as,ra⟩:=d9 I r Y J (by unfold e9;rw[p]);obtain⟨bs,rb⟩:=d9 I r ay ru E;cases ra with
      |@list l o a n _ _ g1 g2 g3 U=>
       obtain⟨cls,dd,data,sl⟩:=o;subst g2 g3;have M:=SeqAt.readsAll_map c _ _ T U;have f:a.size=_7 c:=by rw[<-M,iD];simp
       obtain⟨w1,w2,w3⟩:=_n.mp C;have g:∀(k:g_) m,lC (SeqAt.readOf s.1 a[k]) h=lC (c[k]'(by lia)) h:=λk m=>by
        congr 1
        have:(a.toList.map (SeqAt.readOf s.1))[k]?=c[k]?:=by rw[M]
        rw[jF,iR (by simpa using m),iR (by lia)]at this;simpa using this
       have hz:_7 c<=iN:=by
        have:_7 xs=_7 c:=by obtain⟨l',β,rfl,sq,dl⟩:=Y.au r;cases J;obtain⟨κ,w,pl,_⟩:=I.list sq;obtain⟨o',e,ξ,n',B⟩:=pl.isList;rw[g1]at e;cases e;cases B;rw[dl.length,w.length,<-f];simp
        lia
       have N:(iN:j_)<2^63-1:=by decide
       refine sQ _J ⟨_,g1,_6⟩ PySem.F.entry_list_index (PySem.F.args_list_index_2 _ _)
        (PySem.SeqAt.list_indexAt l a n dd sl u _ j (by lia) (by lia) ?_ ?_) ⟨g1,λy hy=>SeqAt.items_eqAt U rb T (pG O) (tL O hu) y hy,?_⟩
       .rwa[g j (by lia)]
       .intro k m z;rw[g k m];have:=w3 k z;simpa using this
       .exact⟨.int j,H,I.qd _,⟨_,_6⟩,q _ _6⟩
    .rw[iG i]at b;cases b
 |_=>cases b
end
section
def gM(f:D->D->f_ D)(g h:En->ce):En->ce:=λδ=>(g δ).bind λx=>match x with
 |.au xs=>(h δ).bind λy=>ce.of (f (.au xs) y)
 |_=>.st
def YE{id:Y_}(slot:Slot "list" m id)(j:typeOf (.builtin id)=Q_ (.type "method_descriptor"))(C:aF X id (rMt (kx X) f))(A:k6 X B E a g)(J:k6 X B E e h)
  (L:qH a m X.bi (I_ a X.bi)=I_ a X.bi)(n:jd e=c_)(I:(ap.endLine==U.line)=c_):f7 X B E (.Call (.Attribute a m ap) [e] [] U) (gM f g h):=
 PE.imp (B8 mU slot j C A (g7 J jr (ar n)) L (by rw[qp (by rw[kJ,n];rfl)];rfl) I (ar n) _6) λZ H Q ⟨G,δ,R,q⟩=>⟨G,δ,R,(eu.bind q).be λO W b x G1 H1 i r=>by
  cases O with
  |au xs=>
   obtain⟨l,u,rfl,w,dl⟩:=r.au i.gh;refine⟨.inl ⟨_6,u,w⟩,G1,δ,R.ext i,?_⟩;have b:=eu.ext i b;unfold am;cases o:h δ with
   |ok N=>rw[o]at b;obtain⟨d,M,z⟩:=eu.of (b);intro ws s H2 p al;obtain⟨y,rfl,Y⟩:=ii.pv al;exact⟨s,.au xs,N,y,d,p.gh,r.ext p,_6,Y,M,λv T=>z v s H2 (i.trans p) T⟩
   |er c=>rw[o]at b;exact b
   |st=>rw[o]at b;exact b
  |_=>exact b.elim⟩
def CY(b:X.A.units+65<lN)(c:k6 X B E a g)(i:k6 X B E e h)(j:mq a=c_)(d:jd e=c_)(f:(m.endLine==l.line)=c_):f7 X B E (.Call (.Attribute a "index" m) [e] [] l) (gM jm g h):=
 YE _J PySem.F.type_list_index (Vt b) c i (rj j) d f
noncomputable def j7:D->D->f_ D
 |.int i,.int j=>if(-(2^64)<i/\i<2^64)\/(-(2^64)<j/\j<2^64)then a_ (.int (i*j))else d_
 |.str x,.int n=>if x.length*n.toNat<=iN/\-(2^20)<=n/\n<2^20 then a_ (.str (Txt.mul x n))else d_
 |_,_=>d_
def XB(h:x.length*n.toNat<=iN/\-(2^20)<=n/\n<2^20):MulOk x n:=by
 obtain⟨c,j,i⟩:=h;refine⟨?_,λa b=>?_,λa b=>?_⟩
 .simp only[Bool.or_eq_false_iff,X_]
  lia
 .intro f;have d:x.length<=iN:=by
   have:1<=n.toNat:=by lia
   exact kC (Nat.le_mul_of_pos_right _ this) c
  have e:(iN:j_)=2^24:=rfl;have g:(2^63-1:j_) / n>=2^43-1:=by
   rw[ge_iff_le,Int.le_ediv_iff_mul_le (by lia)]
   lia
  lia
 .unfold Builtin.Str.tooLong;simp only[X_,Nat.not_lt];exact c
inductive rMulD(K:KA)(x:V)(y:V)(H:Hp)(Q:VK):Prop
 |mk (G dx dy d) (_:ca G H) (_:Arg K G H dx x) (_:Arg K G H dy y) (_:j7 dx dy=a_ d) (_:∀v G' H',c8 G H G' H'->gr K G' d v->Q v H'):rMulD K x y H Q
set_option tactic.hygienic true in
def JR:lz X (qO .Mult) (rMulD (kx X)):=by
 intro b s Z H x y v u Q I e c q;obtain⟨G,n,m,d,g,i,h,a,q⟩:=q;unfold j7 at a;split at a
 .split at a
  .rename_i f;cases a;rw[i.int]at e;rw[h.int]at c;exact RH b s Z H _ _ _ _ Q I e c ⟨_,_,_6,_6,f,q _ G H (c8.refl g) _6⟩
  .cases a
 .split at a
  .rename_i f;cases a;rw[i.str]at e;rw[h.int]at c;obtain⟨t,rfl⟩:=e;obtain⟨l,rfl⟩:=c;exact SB.mul (XB f) λj k=>⟨.str _,H,I.qd _,⟨_,_6⟩,q _ G H (c8.refl g) _6⟩
  .cases a
 .cases a
def TM(i:k6 X B E a g)(f:k6 X B E b h):f7 X B E (.BinOp a .Mult b e) (g2 j7 g h):=S8 JR (λG H x y m l d c o n j Q q=>⟨G,m,l,d,c,o,n,j,q⟩) i f
theorem Nj:∀{xs}{a},_7 xs=_7 a->(∀(i:g_) x u,xs[i]?=a_ x->a[i]?=a_ u->ez x u)->dL xs a
 |[],[],_,_=>.nil
 |[],_::_,h,_=>by simp at h
 |_::_,[],h,_=>by simp at h
 |x::xs,u::a,h,f=>.cons (f 0 x u _6 _6) (Nj (by simpa using h) λi y v c b=>f (i+1) y v (by simpa using c) (by simpa using b))
end
section
def X9{K:KA}(dl:cr K G d c):∀n,cr K G (iT n d).flatten (iT n c).flatten:=by
 intro a;induction a with
 |zero=>exact _6
 |succ n b=>exact dl.append (b)
def Og(g h:En->ce):En->ce:=λδ=>(g δ).bind λx=>(h δ).bind λy=>match x,y with
 |.au xs,.int n=>if _7 xs*n.toNat<=iN/\-(2^20)<=n/\n<2^20 then .ok (.au (iT n.toNat xs).flatten)else .st
 |_,_=>.st
set_option tactic.hygienic true in
def RC(z:Xb X B E a g)(i:IsL g)(x:k6 X B E b h):Xb X B E (.BinOp a .Mult b u) (Og g h):=
 PE.imp (NP RF z x) λZ H Q ⟨G,δ,R,q⟩=>⟨G,δ,R,(eu.bind q).be λI j r=>by
  obtain⟨xs,rfl⟩:=i δ I j
  .refine⟨xs,_6,λl o M Y m N O v dl=>⟨M,δ,R.ext m,((eu.bind r).ext m).be λC _ c y L U d J=>?_⟩⟩;cases C with
   |int n=>
    dsimp only at c;split at c
    .rename_i w;obtain⟨T,A,s⟩:=c;cases A;have e:=m.trans d;refine⟨l,n,o,_6,J.int,d.hh _ _ v,by lia,by lia,by rw[<-dl.length];exact w.1,λp f=>?_⟩;exact s p _ L _ (e.trans (c8.own d.gh _ f)) (ff e.hh f) (ff d.gh f) aj (X9 (dl.be d.gg) n.toNat)
    .exact c.elim
   |_=>exact c.elim⟩
def HP:IsL (Og g h):=λδ d e=>by
 unfold Og at e;cases b:g δ with
 |er c=>rw[b]at e;cases e
 |st=>rw[b]at e;cases e
 |ok x=>
  rw[b]at e;cases a:h δ with
  |er c=>rw[a]at e;cases e
  |st=>rw[a]at e;cases e
  |ok y=>
   rw[a]at e;cases x with
   |au xs=>
    cases y with
    |int n=>
     have e:(if _7 xs*n.toNat<=iN/\-_<=n/\n<2^20 then ce.ok _ else .st)=.ok d:=e;split at e
     .cases e;exact⟨_,_6⟩
     .cases e
    |_=>cases e
   |_=>cases e
end
inductive ResE where
 |ok (d:D) (δ:En)
 |er (c:x_)
 |st
def Q3(K:KA)(f B:Hp)(E:EK)(G:Hp)(Z:St)(r:ResE)(P:D->Hp->Hp->En->Prop):Prop:=match r with
 |.ok d e=>∀b a,ca G b->dg K B b a Z e->c8 f B b a->P d b a e
 |.er c=>∀b a,c8 f B b a->E c a
 |.st=>T_
inductive tEf(K:KA)(G0 B:Hp)(E:EK)(g:En->ResE)(Z:St)(H:Hp)(Q:VK):Prop
 |mk (G δ) (_:dg K B G H Z δ) (_:c8 G0 B G H) (_:Q3 K G0 B E G Z (g δ) λd G' H' _=>∀v,gr K G' d v->Q v H'):tEf K G0 B E g Z H Q
abbrev aK(X:Cx)(a B:Hp)(E:EK)(e:Expr)(g:En->ResE):Prop:=PE X e (tEf (kx X) a B E g)
noncomputable def ce.ef(r:ce)(δ:En):ResE:=match r with
 |.ok d=>.ok d δ
 |.er c=>.er c
 |.st=>.st
section
noncomputable def ym(i:g_)(f:En->ResE):En->fc:=λδ=>match f δ with
 |.ok d a=>.nx (a.set i (.pu d))
 |.er c=>.er c
 |.st=>.st
def UJ(l:PS X (.Assign [.Name x a] e b) (Ws (tEf (kx X) r B E f) (vp i))):yd X r B E (.Assign [.Name x a] e b) (ym i f):=
 PS.imp l λD Z H ⟨G,δ,R,x,q⟩=>⟨G,δ,R,x,by
  unfold ym at q;cases ef:f δ with
  |er c=>rw[ef]at q;exact q
  |st=>rw[ef]at q;exact q
  |ok d g=>
   rw[ef]at q;intro p o j n h v m;exact q _ p o j (n.set m) h⟩
noncomputable def uy(f:En->ResE):En->fc:=λδ=>match f δ with
 |.ok _ a=>.nx a
 |.er c=>.er c
 |.st=>.st
def LP(h:aK X o B E e f)(j:rF e d_ a.line X.bi=Q_ e_):yd X o B E (.Expr e a) (uy f):=
 PS.imp (uq h j) λD Z H ⟨G,δ,R,x,q⟩=>⟨G,δ,R,x,by
  unfold uy at q;cases ef:f δ with
  |er c=>rw[ef]at q;exact q
  |st=>rw[ef]at q;exact q
  |ok d b=>
   rw[ef]at q;intro n m i l g v p;exact q Z n m i l g⟩
end
section
noncomputable def bX(i:g_)(f e:En->ce):En->ResE:=λδ=>match δ[i]? with
 | a_ (.od e_ a) => (match f δ with
  | .ok g => (match e δ with
   | .ok b => (match me g with
    | a_ j => if a.length < iN then (match Aj a j with
     |some d=>.ok d δ
     |none=>.ok b (δ.set i (.od e_ (KC a j b))))else .st
    |none=>.st)
   |.er c=>.er c
   |.st=>.st)
  |.er c=>.er c
  |.st=>.st)
 |_=>.st
def NZ(a:b_ (D×D)):b_ D:=a.map (·.1)
def Uk{K:KA}:∀{b}{es},ir K G b es->cr K G (NZ b) (es.map λp=>kV p.1):=by
 intro a;induction a with
 |nil=>rintro es h;rw[h];rfl
 |cons a _ c=>
  obtain⟨_,_⟩:=a
  rintro es ⟨k,v,r,e,f,g,d⟩
  subst e f;refine⟨kV k,_,_6,?_,c d⟩;cases k<;>rfl
def iu:D->f_ D
 |.au b=>a_ (.au b)
 |.ci b=>a_ (.au b)
 |.js e_ a=>a_ (.au (NZ a))
 |_=>d_
def XO{k:vz}(h:(bg P w).is k v=c_):ez (kV k) v:=by
 rcases b8 (h)with⟨i,t,rfl,rfl⟩|⟨x,t,rfl,rfl⟩
 .exact⟨t,_6⟩
 .exact⟨t,_6⟩
def Ny(O:X.calm=c_):ie X (.type "list") (λxs H Q=>∃p es,xs=[.ref p]/\H p=a_ (.dK es)/\∀l,H l=d_->Q (.ref l) (eT H l (.au (es.map λp=>kV p.1)))):=by
 intro A s Z H xs us Q I r h;obtain⟨p,es,rfl,G,q⟩:=h;obtain⟨u,rfl,B⟩:=ny r;cases B;obtain⟨z,N,vs,rel,Y⟩:=WD I.fg G;obtain⟨U,da⟩:=Y.dictAt;refine PySem.W.kdl_call (PySem.W.kdl_dict (ep:=U) N) (I.ok.hd O) da (by rwa[<-rel.length]) λh' tk g c' L T ⟨J,d⟩=>?_;have E:dL (es.map λp=>kV p.1) g.toList:=by
  refine Nj (by rw[iD,rel.length];simp[J]) λi x u c f=>?_;obtain⟨k,y,ek,n⟩:=d i u (by simpa using f);rw[jF]at c;have j:∀{l}{m},KV l m->∀(i:g_)(p:vz×V) q,l[i]?=a_ p->m[i]?=a_ q->p.1=q.1:=by
   intro l m r;induction r with
   |nil=>intro i p q e;simp at e
   |@cons a b as bs M t C=>
    intro i p q c f;cases i with
    |zero=>simp at c f;subst c f;exact M.1
    |succ i=>exact C i p q (by simpa using c) (by simpa using f)
  cases v:es[i]? with
  |none=>rw[v]at c;cases c
  |some w=>rw[v]at c;cases c;have:=j rel i w _ v ek;show ez (kV w.1) u;rw[this];exact XO n
 refine⟨.ref _,_,I.laid (o:=.au _) L (iF _) ⟨by rwa[iD],g.toList,c',E,by simpa using T⟩,_6,q _ I.fresh⟩
def Md(w:X.calm=c_)(u:Gl X "list")(s:X.mg "list"=d_)(x:k6 X B E e g)(o:jd e=c_):Xb X B E (.Call (.Name "list" p) [e] [] r) (g1 iu g):=
 PE.imp (tf (ie.or Ii (Ny w)) u s _r (g7 x jr (ar o)) (by decide) (by decide) (ar o) _6) λZ H Q ⟨G,δ,R,q⟩=>⟨G,δ,R,by
  unfold am;unfold g1 at q;cases e:g δ with
  |er c=>rw[e]at q;exact q
  |st=>rw[e]at q;exact q
  |ok I=>
   rw[e]at q;obtain⟨d,h,J,A,j⟩:=eu.of (q);subst A;intro f n L a C;obtain⟨v,rfl,m⟩:=ii.pv C;unfold iu at h;split at h
   .cases h;obtain⟨l,f,rfl,i,dl⟩:=m.au a.gh;exact .inl ⟨l,f,_6,.inl i,λp b=>j p f n _ (a.trans (c8.own a.gh _ b)) (ff a.hh b) (ff a.gh b) aj dl⟩
   .cases h;obtain⟨l,f,rfl,i,dl⟩:=m.ci a.gh;exact .inl ⟨l,f,_6,.inr i,λp b=>j p f n _ (a.trans (c8.own a.gh _ b)) (ff a.hh b) (ff a.gh b) aj dl⟩
   .cases h;obtain⟨l,z,rfl,y,dl⟩:=Arg.dctK a.gh m;exact .inr ⟨l,z,_6,y,λp b=>j p _ n _ (a.trans (c8.own a.gh _ b)) (ff a.hh b) (ff a.gh b) aj (Uk dl)⟩
   .cases h⟩
def U9:IsL (g1 iu g):=λδ d h=>by
 unfold g1 at h;cases e:g δ with
 |er c=>rw[e]at h;cases h
 |st=>rw[e]at h;cases h
 |ok b=>
  rw[e]at h;have a:ce.of _=.ok d:=h;unfold iu at a;split at a
  .cases a;exact⟨_,_6⟩
  .cases a;exact⟨_,_6⟩
  .cases a;exact⟨_,_6⟩
  .cases a
end
def QA(b:b_ (D×D))(a:b_ (vz×D)):b_ (D×D):=a.foldl (λc p=>KC c p.1 p.2) b
def PD(K:KA)(G:Hp):b_ (vz×D)->b_ (vz×V)->Prop
 |[],[]=>_u
 |(j,d)::r,(k,v)::q=>j=k/\gr K G d v/\PD K G r q
 |_,_=>T_
theorem PD.merge{K:KA}:∀{l}{q}{a}{es},PD K G l q->ir K G a es->ir K G (QA a l) (Z5 es q)
 |[],[],_,_,_,h=>h
 |(j,d)::r,(k,v)::q,a,es,b,h=>by obtain⟨e,c,t⟩:=b;subst e;exact PD.merge (l:=r) (q:=q) t (h.put c j)
end Pu
section
namespace Pu
open L2
def Jf:typeLookup (.type "list") "keys"=Q_ d_:=am_miss_of_fast (by decide+kernel)
def Ai:typeLookup (.type "list") "__getattr__"=Q_ d_:=by rw[typeLookup_type,builtinLookup_eq_fast];kernel_rfl
def I8(a:o_)(c:p_ jB)(n:g_)(i:p_ (f_ jB))(u:Tok):
  Meets (K_.«object.__getattribute__» ⟨[.ref a,.str "keys" u],[]⟩) (λA R s=>s.1.get? a=a_ {cls:=.type "list",dict:=d_,data:=.seq c n,slots:=i}/\raisesAttr (.ref a) "keys" A R s):=
 Meets.of_wp λf w A R s b=>by
  obtain⟨l,g,d,h,os⟩:=s;obtain⟨j,b⟩:=b;have m:(⟨l,g,d,h,os⟩:jP).TypeIs (.ref a) "list":=⟨_,j,_6⟩;have e:=Jf;unfold K_.«object.__getattribute__»
  repeat (any_goals (first|assumption|wp_step))
  exact wpAny_raiseAttrError (A:=A.in1) b.1 b.2 (attrMsg_fits (by decide+kernel) (by rw[kP];decide))
def Jj{os:OsState}(m:h.get? a=a_ {cls:=.type "list",dict:=d_,data:=.seq i n,slots:=q})(u:A.handled=d_)
  (r:∀f p,(∀b l,h.get? b=a_ l->f.get? b=a_ l)->Q d_ ⟨f,g,d,p,os⟩):jK (jG j w) A (getAttr? (.ref a) "keys") Q E ⟨h,g,d,t,os⟩:=by
 have s:(⟨h,g,d,t,os⟩:jP).TypeIs (.ref a) "list":=⟨_,m,_6⟩;have G:=sub_AttributeError;have C:=F.slot_list_getattribute.lookup;have B:=F.slot_list_getattribute.bind (.ref a);have z:=Ai;unfold getAttr? getAttrBy? getAttrBy
 repeat (any_goals (first|assumption|((with_reducible show jK _ _ (call (Value.builtin "list.__getattribute__") _ _) _ _ _);refine sQ F.slot_list_getattribute s F.entry_list_ga (F.args_list_getattribute_2 _ _) (I8 a i n q _) ⟨m,u,λf o e c=>?_⟩)|wp_step))
 obtain⟨x,v,y⟩:=c.there;show jK _ _ (getattributeRaised _ _ _ _ _ _ _) _ _ _;unfold getattributeRaised
 repeat (any_goals (first|assumption|wp_step))
 exact r f _ c.keeps
def vn:U! table "dict.update.loop"=a_ K_.«dict.update.loop»:=entryFor_of_tree (by kernel_rfl)
def vt:plainId "dict.update.loop"=c_:=by decide+kernel
noncomputable def Lo(w:mG):r_:= !(w.params.followText "set-order")
section
def IA(x:jB)(h:Q (.ref s.1.1.size) {s with heap:=s.1.push {cls:=.type "set",dict:=d_,data:=.set #[] 0 (.fresh 0 0 (Lo w))}}):
  pR (jG a w) A (.call (.builtin "set.__new__") ⟨[.type "set",x],[]⟩) (wants Q E) s:=by
 refine xX ?_;refine iA (rU (PySem.F.newCall_set_1 x) (iB ?_));refine⟨nR PySem.F.plain_set_new _,mN PySem.F.entry_set_new ?_⟩;have b:=sub_set_self
 wp_walk
 refine qR (iB ?_);refine iA (S! (iB (iB ?_)));exact h
end
theorem mm:∀{l:b_ α}{i} h,(l[i]::l.eraseIdx i).Perm l
 |a::r,0,_=>pK _
 |a::r,i+1,h=>by
  have b:i<_7 r:=by simpa using h
  exact(qS a _ _).trans ((mm b).cons a)
def Mg(next:g_->g_):∀n k (left:b_ α) a,_7 left=n->(_D next n k left a).toList.Perm (a.toList++left):=by
 intro c;induction c with
 |zero=>
  rintro k left a h
  have:=H_.mp h;subst this;unfold _D;rw[jX]
 |succ n d=>
  rintro k left a h
  unfold _D;have b:next k%(_7 left)<_7 left:=_R _ (by lia)
  rw[iR b];refine(d _ _ _ (by rw[List.length_eraseIdx,iH b];lia)).trans ?_;rw[W?,kF];exact _K _ (mm b)
def Wb(next:g_->g_)(xs:p_ α):(X? next xs).toList.Perm xs.toList:=by
 have:=Mg next xs.size 0 xs.toList #[] (by simp)
 simpa[X?]using this
noncomputable def t7(w:mG)(a b:g_)(es:p_ (j_×jB)):p_ (j_×jB):=if w.params.followText "set-order" then X? (w.params.setOrder a b) es else es
def qr(w:mG)(a b:g_)(es:p_ (j_×jB)):(t7 w a b es).toList.Perm es.toList:=by
 unfold t7;split
 .exact Wb _ _
 .exact pK _
def sB(h:C_)(I a:o_)(slot i n b:g_):Prop:=h.get? I=a_ {cls:=.type "set_iterator",data:=.fields #[mK slot,mK i,.ref a,mK n,mK b]}
def je:Slot "set_iterator" "__next__" "set_iterator.__next__":=
 .of (owner:="set_iterator") (n:="__next__") (by kernel_rfl) (by decide+kernel) (by decide+kernel) (by decide+kernel) (.inl (by decide+kernel)) (by kernel_rfl)
def u9:U! table "set_iterator.__next__"=a_ K_.«set_iterator.__next__»:=entryFor_of_tree (by kernel_rfl)
def uz(a:jB):argsOk "set_iterator.__next__" ⟨[a],[]⟩:=by kernel_rfl
def Ao:Slot "set_iterator" "__iter__" "set_iterator.__iter__":=
 .of (owner:="set_iterator") (n:="__iter__") (by kernel_rfl) (by decide+kernel) (by decide+kernel) (by decide+kernel) (.inl (by decide+kernel)) (by kernel_rfl)
def Fc:U! table "set.__iter__"=a_ K_.«frozenset.__iter__»:=entryFor_alias (id':="frozenset.__iter__") (by kernel_rfl) _6 (by decide+kernel) (by kernel_rfl)
def Fd(a:jB):argsOk "set_iterator.__iter__" ⟨[a],[]⟩:=by kernel_rfl
def Fe:U! table "set_iterator.__iter__"=a_ K_.«dict_keyiterator.__iter__»:=entryFor_alias (id':="dict_keyiterator.__iter__") (by kernel_rfl) (by first|rfl|decide+kernel) (by decide+kernel) (by kernel_rfl)
section
variable{s:jP}
def sB.ty(h:sB s.1 I a z i n b):s.TypeIs (.ref I) "set_iterator":=⟨_,h,_6⟩
def Mw(e:s.TypeIs (.ref a) "set")(h:Q e_ s):jK (jG f w) A (Builtin.List.listLengthHint (.ref a)) Q E s:=by
 refine iA (rA e PySem.F.slot_set_len.lookup ?_);generalize c:("set.__len__")=g
 wp_delta
 subst c;exact iA (oE (b:=c_) e sub_set_self (vD (λd=>t_ d (by decide)) (λz=>(iA (pF e (iB h))))))
end
end Pu
end
section
namespace Pu
open PySem.SeqAt PySem.W
structure Ord(n:g_)(cmp:g_->g_->r_):Prop where
 as:∀i j,i<n->j<n->i≠j->cmp j i= !cmp i j
 tr:∀i j k,i<n->j<n->k<n->cmp i j=c_->cmp j k=c_->cmp i k=c_
noncomputable def At(p:p_ g_)(i:g_):g_:=p.getD i 0
def eU(n:g_)(p:p_ g_):Prop:=p.toList.Perm (jD n)
section
def eU.size(h:eU n p):p.size=n:=by have:=List.Perm.length_eq h;simpa using this
def k8{p:p_ g_}{i:g_}(h:i<p.size):At p i=p[i]:=by unfold At;simp[Array.getD,h]
def eU.lt(h:eU n p)(b:i<n):At p i<n:=by
 have a:i<p.size:=by rwa[h.size]
 rw[k8 a];exact v_.mp (h.mem_iff.mp (by simp))
def eU.ne(h:eU n p)(d:i<n)(c:j<n)(e:i≠j):At p i≠At p j:=by
 have b:i<p.size:=by rwa[h.size]
 have a:j<p.size:=by rwa[h.size]
 rw[k8 b,k8 a];intro z;have pw:=F_.mp ((h.nodup_iff).mpr xA);rcases sS e with q|q
 .exact pw i j (by simpa using b) (by simpa using a) q (by simpa using z)
 .exact pw j i (by simpa using a) (by simpa using b) q (by simpa using z.symm)
def eU.no{p:p_ g_}(O:Ord n a)(h:eU n p){i j:g_}(d:i<n)(b:j<n)(e:i≠j)(c:a (At p i) (At p j)=e_):a (At p j) (At p i)=c_:=by rw[O.as _ _ (h.lt d) (h.lt b) (h.ne d b e),c];rfl
def eU.rev(a:eU n p)(i j:g_):eU n (u! p i j):=(_E.mp (mirror_perm p i j _)).trans a
def eU.bub(a:eU n p)(i j:g_):eU n (_S p i j):=(_E.mp (bubble_perm p i j)).trans a
def yp:At p i=(p[i]?).getD 0:=by unfold At;simp
def Nw(a:m<=p.size):At (u! p i m) k=if i<=k/\k<m then At p (i+m-1-k)else At p k:=by rw[yp,yp,yp];unfold u!;rw[getElem?_mirror_all a];split<;>rfl
def Nv(c:k<p.size)(d:l<=k)(i:g_):At (_S p k (k-l)) i=if i=l then At p k else if l<i/\i<=k then At p (i-1)else At p i:=by
 rw[yp,getElem?_bubble c (k-l) (by lia),yp,yp,yp];have e:k-(k-l)=l:=by lia
 by_cases a:i=l
 .subst a;simp[e]
 .by_cases b:l<i/\i<=k
  .simp[e,a,b]
  .simp[e,a,b]
end
def So(c:g_->g_->r_)(p:p_ g_)(m:g_):Prop:=∀a b,a<b->b<m->c (At p a) (At p b)=c_
def SoR(c:g_->g_->r_)(p:p_ g_)(lo d:g_):Prop:=∀a b,lo<=a->a<b->b<d->c (At p a) (At p b)=c_
def DeR(c:g_->g_->r_)(p:p_ g_)(lo d:g_):Prop:=∀a b,lo<=a->a<b->b<d->c (At p b) (At p a)=c_
def Eo(p a:p_ g_)(lo b:g_):Prop:=∀i,i<lo\/b<=i->At a i=At p i
def si(a:kR)(w:mG)(A:oN)(s:jP)(κ:tM)(item:g_->nG)(n:g_)(b:g_->g_->r_):Prop:=
 ∀i j,i<n->j<n->∀Q:r_->jP->Prop,Q (b i j) s->jK (jG a w) A (keyLt' κ (item i).1 (item j).1) Q (λz z=>T_) s
def gx(κ:tM)(item:g_->nG)(p:p_ g_)(a:p_ (g_×g_×g_))(g:g_):nO:=uG κ (p.map item) a g d_
section
def nv{d:g_->β->_T nO Sem (_U β)}{Q:β->nO->jP->Prop}(I:b_ g_->β->nO->Prop)(R:β->nO->Prop)
  (m:∀x l b st (f:_U β->nO->jP->Prop),I (x::l) b st->(∀c a,I l c a->f (.yield c) a s)->(∀c a,R c a->f (.done c) a s)->M_ (jG e w) A E (d x b) f st s)
  (n:∀b st,I [] b st->R b st) (g:∀b st,R b st->Q b st s):∀l b st,I l b st->M_ (jG e w) A E (forIn l b d) Q st s:=by
 intro l;induction l with
 |nil=>exact λb st i=>kasC_nil (g b st (n b st i))
 |cons x l h=>exact λb st i=>kasC_cons (m x l b st _ i (λc a j=>h c a j) λc a r=>g c a r)
def I9(a:i<p.size):(Array.map item p)[i]?=a_ (item (At p i)):=by rw[k8 a];simp[a]
def Z3(P:si a w A s κ item n d)(l:i<n)(f:j<n)(q:Q (a_ (d i j)) (gx κ item p c g) s):M_ (jG a w) A E (lt' (item i) (item j)) Q (gx κ item p c g) s:=by refine jC (tO (jC (vO (pI (kN (P i j l f (λb e=>b=d i j/\e=s) ⟨_6,_6⟩) (λb e h=>?_) λY Y z=>z.elim)))));obtain⟨rfl,rfl⟩:=h;exact jH q
def gf{a:p_ g_}{i:g_}{Q:nG->nO->jP->Prop}{st:nO}(c:i<a.size)(q:Q (item (At a i)) st s):M_ (jG b w) A E (elem' (a.map item) i) Q st s:=by rw[elem'_eq,I9 c];exact jH q
def Bc(P:si a w A s κ item n d)(c:eU n p)(f:i<n)(e:j<n)(q:Q (a_ (d (At p i) (At p j))) (gx κ item p b g) s):M_ (jG a w) A E (ltAt' i j) Q (gx κ item p b g) s:=by exact jC (tO (jC (gf (by rwa[c.size]) (jC (gf (by rwa[c.size]) (Z3 P (c.lt f) (c.lt e) q))))))
def RY(q:Q () (gx κ item (_S p i (i-j)) a g) s):M_ (jG b w) A E (moveDown' i j) Q (gx κ item p a g) s:=by
 rw[moveDown'_eq];refine uT ?_;have e:setArr (gx κ item p a g) (_S (arrOf (gx κ item p a g)) i (i-j))=gx κ item (_S p i (i-j)) a g:=by show uG κ (_S (p.map item) i (i-j)) a g d_=uG κ _ a g d_;rw[show _S _ i (i-j)=(_S p i (i-j)).map item from kas_swaps_map item _ _ _ p]
 rwa[e]
def ZZ(q:Q () (gx κ item (u! p i j) a g) s):M_ (jG b w) A E (reverseSlice' i j) Q (gx κ item p a g) s:=by
 rw[reverseSlice'_eq];refine uT ?_;have e:setArr (gx κ item p a g) (mirror (arrOf (gx κ item p a g)) i j ((j-i) / 2))=gx κ item (u! p i j) a g:=by show uG κ (mirror (p.map item) i j _) a g d_=uG κ ((mirror p i j _).map item) a g d_;rw[show mirror _ i j _=(mirror p i j _).map item from kas_swaps_map item _ _ _ p]
 rwa[e]
def SoR.succ{lo:g_}(O:Ord n c)(d:eU n p)(r:1<=m)(j:lo+m<n)(h:SoR c p lo (lo+m))(l:c (At p (lo+m)) (At p (lo+m-1))=e_):SoR c p lo (lo+(m+1)):=by
 intro a b i g q
 by_cases f:b<lo+m
 .exact h a b i g f
 .obtain rfl:b=lo+m:=by lia
  have e:=d.no O j (show lo+m-1<n by lia) (by lia) l
  by_cases o:a=lo+m-1
  .rwa[o]
  .exact O.tr _ _ _ (d.lt (by lia)) (d.lt (by lia)) (d.lt j) (h a _ i (by lia) (by lia)) e
def DeR.succ{lo:g_}(O:Ord n c)(d:eU n p)(q:1<=m)(i:lo+m<n)(h:DeR c p lo (lo+m))(j:c (At p (lo+m)) (At p (lo+m-1))=c_):DeR c p lo (lo+(m+1)):=by
 intro a b g f o
 by_cases e:b<lo+m
 .exact h a b g f e
 .obtain rfl:b=lo+m:=by lia
  by_cases l:a=lo+m-1
  .rwa[l]
  .exact O.tr _ _ _ (d.lt i) (d.lt (by lia)) (d.lt (by lia)) j (h a _ g (by lia) (by lia))
def MP{lo nrem m:g_}{e:g_->AscSt->_T nO Sem (_U AscSt)}{Q:AscSt->nO->jP->Prop}(O:Ord n d)(B:eU n p)(L:1<=m)(J:m<=nrem)(I:lo+nrem<=n)(y:SoR d p lo (lo+m))
  (G:∀x k (r:_U AscSt->nO->jP->Prop),lo+k<n->lo+k-1<n->(∀c,d (At p (lo+k)) (At p (lo+k-1))=c->r (if c then .done (d_,k)else .yield (d_,k+1)) (gx κ item p a g) s)->M_ (jG j w) A E (e x (d_,k)) r (gx κ item p a g) s)
  (q:∀k,m<=k->k<=nrem->SoR d p lo (lo+k)->(k<nrem->d (At p (lo+k)) (At p (lo+k-1))=c_)->Q (d_,k) (gx κ item p a g) s):M_ (jG j w) A E (forIn [m:nrem] ((d_,m):AscSt) e) Q (gx κ item p a g) s:=by
 refine nL (nv (λl b st=>st=gx κ item p a g/\∃k,b=(d_,k)/\m<=k/\k+_7 l=nrem/\SoR d p lo (lo+k))
  (λb st=>st=gx κ item p a g/\∃k,b=(d_,k)/\m<=k/\k<=nrem/\SoR d p lo (lo+k)/\(k<nrem->d (At p (lo+k)) (At p (lo+k-1))=c_)) ?_ ?_ ?_ _ _ _ ⟨_6,m,_6,iF _,by rw[nM];lia,y⟩)
 .rintro x l b st r ⟨rfl,k,rfl,o,i,f⟩ v C
  rw[iC]at i;refine G x k r (by lia) (by lia) λc u=>?_;cases c with
  |true=>exact C _ _ ⟨_6,k,_6,o,by lia,f,λY=>u⟩
  |false=>exact v _ _ ⟨_6,k+1,_6,by lia,by lia,f.succ O B (by lia) (by lia) u⟩
 .rintro b st ⟨h,k,rfl,o,i,f⟩
  exact⟨h,k,_6,o,oJ i,f,λz=>by simp at i;lia⟩
 .rintro b st ⟨rfl,k,rfl,o,i,f,H⟩
  exact q k o i f H
def GV{lo:g_}(P:si r w A s κ item n d)(O:Ord n d)(f:eU n p)(h1:1<=c)(U:lo+c<=n)
  (q:∀m B,eU n B->1<=m->m<=c->SoR d B lo (lo+m)->Eo p B lo (lo+c)->Q (a_ m) (gx κ item B e g) s):M_ (jG r w) A E (countRun' lo c) Q (gx κ item p e g) s:=by
 refine jC (MP O f (iF _) h1 U (λa b W W W=>by lia) (λx k Q' J I v=>jC (Bc P f J I ?_)) λm H C u N=>?_)
 .cases j:d _ _ with
  |true=>exact jH (v _ j)
  |false=>exact jH (v _ j)
 .show M_ _ _ _ (if _=c_ then _ else _) _ _ _
  by_cases e1:m=c
  .rw[iH (by simpa using e1)];exact jH (q m p f H C u λW W=>rfl)
  .rw[iG (by simpa using e1)]
   by_cases e2:m>1
   .rw[iH e2];refine jC (Bc P f (by lia) (by lia) ?_);rw[u lo _ (iF _) (by lia) (by lia)];exact jH (q m p f H C u λW W=>rfl)
   .obtain rfl:m=1:=by lia
    refine jC (vO (nJ (jC (nL (nv (λl b st=>st=gx κ item p e g/\∃k,b=(d_,k,0)/\2<=k/\k+_7 l=c/\DeR d p lo (lo+k))
     (λb st=>st=gx κ item p e g/\∃k,b=(d_,k,0)/\2<=k/\k<=c/\DeR d p lo (lo+k)) ?_ ?_ ?_ _ _ _ ⟨_6,2,_6,iF _,by rw[nM];lia,λa b T M Y=>?_⟩)))))
    .rintro x l b st Q' ⟨rfl,k,rfl,G,y,o⟩ hy hd
     rw[iC]at y;refine jC (Bc P f (show lo+k<n by lia) (show lo+k-1<n by lia) ?_);cases j:d _ _ with
     |true=>exact jH (hy _ _ ⟨_6,k+1,_6,by lia,by lia,o.succ O f (by lia) (by lia) j⟩)
     |false=>refine jC (Bc P f (show lo+k-1<n by lia) (show lo+k<n by lia) ?_);rw[f.no O (show lo+k<n by lia) (show lo+k-1<n by lia) (by lia) j];exact jH (hd _ _ ⟨_6,k,_6,G,by lia,o⟩)
    .rintro b st ⟨h,k,rfl,G,y,o⟩
     exact⟨h,k,_6,G,oJ y,o⟩
    .rintro b st ⟨rfl,k,rfl,G,y,o⟩
     have L:=f.rev lo (lo+k);have z:lo+k<=p.size:=by rw[f.size];lia
     refine jC (ZZ (jC (MP (nrem:=c) (m:=k) O L (by lia) y U (λa b T M Y=>?_) (λx k Q' J I v=>jC (Bc P L J I ?_)) λm H C u N=>?_)))
     .rw[Nw z,Nw z,iH ⟨T,by lia⟩,iH ⟨by lia,Y⟩];exact o _ _ (by lia) (by lia) (by lia)
     .cases j:d _ _ with
      |true=>exact jH (v _ j)
      |false=>exact jH (v _ j)
     .exact jH (q m _ L (by lia) C u λi hi=>by rw[Nw z,iG (by lia)])
    .obtain rfl:b=lo+1:=by lia
     obtain rfl:a=lo:=by lia
     exact(N (by lia))
def WI{lo m:g_}(P:si I w A s κ item n j)(O:Ord n j)(hp:eU n p)(N:lo+m<=n)(τ:1<=ok)(hm:ok<=m)(hs:SoR j p lo (lo+ok))
  (q:∀d,eU n d->SoR j d lo (lo+m)->Eo p d lo (lo+m)->Q c_ (gx κ item d r g) s):M_ (jG I w) A E (binarySort' lo m ok) Q (gx κ item p r g) s:=by
 have mx:max ok 1=ok:=by lia
 rw[binarySort'_eq,mx];refine jC (nL (nv (λl b st=>b=_/\∃k d,l=List.range' k (m-k)/\ok<=k/\k<=m/\st=gx κ item d r g/\eU n d/\SoR j d lo (lo+k)/\Eo p d lo (lo+m))
  (λb st=>b=(d_,())/\∃d,st=gx κ item d r g/\eU n d/\SoR j d lo (lo+m)/\Eo p d lo (lo+m)) ?_ ?_ ?_ _ _ _ ⟨_6,ok,p,_6,iF _,hm,_6,hp,hs,λW W=>rfl⟩))
 .rintro x l b st Q' ⟨rfl,k,d,C,k1,k2,rfl,f,o,L⟩ hy hd
  have k3:k<m:=by
   rcases nY k m with h|h
   .exact h
   .rw[show m-k=0 by lia]at C;cases C
  rw[show m-k=(m-(k+1))+1 by lia,xB]at C;obtain⟨rfl,rfl⟩:=Y? C;refine jC (nL (nv (λl b st=>st=gx κ item d r g/\∃u v,b=(d_,u,v)/\u<=v/\v<=x/\v<=u+_7 l/\(∀a,a<u->j (At d (lo+a)) (At d (lo+x))=c_)/\(∀a,v<=a->a<x->j (At d (lo+x)) (At d (lo+a))=c_))
   (λb st=>st=gx κ item d r g/\∃u v,b=(d_,u,v)/\u<=x/\(∀a,a<u->j (At d (lo+a)) (At d (lo+x))=c_)/\(∀a,u<=a->a<x->j (At d (lo+x)) (At d (lo+a))=c_)) ?_ ?_ ?_ _ _ _
   ⟨_6,0,x,_6,jW _,iF _,by rw[nM];lia,λa h=>by lia,λa h h'=>by lia⟩))
  .rintro y l b st Q2 ⟨rfl,u,v,rfl,h1,M,Y,H,G⟩ J T
   by_cases c:u>=v
   .rw[iH c];obtain rfl:u=v:=by lia
    exact jH (T _ _ ⟨_6,u,u,_6,M,H,G⟩)
   .rw[iG c];rw[iC]at Y;have g1:u<=(u+v) / 2:=by lia
    have g2:(u+v) / 2<v:=by lia
    generalize (u+v) / 2=B at *;have g3:lo+x<n:=by lia
    have g4:lo+B<n:=by lia
    refine jC (Bc P f g3 g4 ?_);cases hc:j _ (At d (lo+B))with
    |true=>
     refine jH (J _ _ ⟨_6,u,B,_6,by lia,by lia,by lia,H,λa a1 a2=>?_⟩)
     by_cases z:a=B
     .rwa[z]
     .exact O.tr _ _ _ (f.lt (by lia)) (f.lt (by lia)) (f.lt (by lia)) hc (o _ _ (by lia) (by lia) (by lia))
    |false=>
     have e:=f.no O g3 g4 (by lia) hc;refine jH (J _ _ ⟨_6,B+1,v,_6,by lia,M,by lia,λa ha=>?_,G⟩)
     by_cases z:a=B
     .rwa[z]
     .exact O.tr _ _ _ (f.lt (by lia)) (f.lt (by lia)) (f.lt (by lia)) (o _ _ (by lia) (by lia) (by lia)) e
  .rintro b st ⟨h,u,v,rfl,h1,M,Y,H,G⟩
   obtain rfl:u=v:=by simp at Y;lia
   exact⟨h,u,u,_6,M,H,G⟩
  .rintro b st ⟨rfl,u,v,rfl,M,H,G⟩
   refine jC (RY (jH (hy _ _ ⟨_6,x+1,_,_6,by lia,by lia,_6,f.bub _ _,λa b la U hb=>?_,λi hi=>?_⟩)))
   .have N:lo+x<d.size:=by rw[f.size];lia
    rw[Nv N (show lo+u<=lo+x by lia),Nv N (show lo+u<=lo+x by lia)]
    by_cases a1:a=lo+u
    .rw[iH a1,iG (by lia),iH (by lia)];have:=G (b-1-lo) (by lia) (by lia);rwa[show lo+(b-1-lo)=b-1 by lia]at this
    .rw[iG a1]
     by_cases a2:lo+u<a/\a<=lo+x
     .rw[iH a2,iG (by lia),iH (by lia)];exact o _ _ (by lia) (by lia) (by lia)
     .rw[iG a2]
      by_cases b1:b=lo+u
      .rw[iH b1];have:=H (a-lo) (by lia);rwa[show lo+_=a by lia]at this
      .rw[iG b1]
       by_cases b2:lo+u<b/\b<=lo+x
       .rw[iH b2];exact o _ _ la (by lia) (by lia)
       .rw[iG b2];exact o _ _ la U (by lia)
   .rw[Nv (by rw[f.size];lia) (show lo+u<=lo+x by lia),iG (by lia),iG (by lia)];exact L i hi
 .rintro b st ⟨rfl,k,d,C,k1,k2,rfl,f,o,L⟩
  obtain rfl:k=m:=by have:=u_ mD C;simp at this;lia
  exact⟨_6,d,_6,f,o,L⟩
 .rintro b st ⟨rfl,d,rfl,f,o,L⟩
  exact jH (q d f o L)
end
end Pu
end
section
namespace Pu
open PySem.SeqAt PySem.W
noncomputable def GB:r_->nG->p_ nG->g_->g_->g_->_T nO Sem (f_ g_):=sortPriv% PySem.Builtin.gallop
noncomputable def L0:p_ nG->p_ nG->_T nO Sem (p_ nG):=sortPriv% PySem.Builtin.mergeLo
noncomputable def Lz:p_ nG->p_ nG->_T nO Sem (p_ nG):=sortPriv% PySem.Builtin.mergeHi
section
def Ih(b:g_->g_->r_)(l:r_)(a:g_)(p:p_ g_)(base i:g_):r_:=if l then b (At p (base+i)) a else !b a (At p (base+i))
def BN(n:g_)(p:p_ g_):Prop:=∀i,i<p.size->At p i<n
def Kd{q:p_ g_}{l:r_}{a base i:g_}{Q:f_ r_->nO->jP->Prop}(P:si c w A s κ item n f)(m:a<n)(j:BN n p)(e:base+i<p.size)(h:Q (a_ (Ih f l a p base i)) (gx κ item q d g) s):
  M_ (jG c w) A E (elem' (p.map item) (base+i)>>=λx=>if l=c_ then lt' x (item a)else lt' (item a) x>>=λr=>Q_ (r.map λb=> !b)) Q (gx κ item q d g) s:=by
 refine jC (gf e ?_);cases l with
 |true=>exact Z3 P (j _ e) m h
 |false=>exact jC (Z3 P m (j _ e) (jH h))
def Gp{q:p_ g_}{l:r_}{f base m hint k:g_}{Q:f_ g_->nO->jP->Prop}(P:si j w A s κ item n C)(N:f<n)(M:BN n p)(hz:base+m<=p.size)(hh:hint<m)(km:k<=m)
  (Y:∀i,i<m->Ih C l f p base i=decide (i<k))(h:Q (a_ k) (gx κ item q a g) s):
  M_ (jG j w) A E (GB l (item f) (p.map item) base m hint) Q (gx κ item q a g) s:=by
 have last:∀{lo O}{y}{R:f_ (f_ g_)×g_×g_->nO->jP->Prop},lo<=k->k<=O->O<=m->
   (∀x u v (G:_U _->nO->jP->Prop),v<=m->(u>=v->G (.done (d_,u,v)) (gx κ item q a g) s)->(¬u>=v->∀c,Ih C l f p base (u+(v-u) / 2)=c->G (.yield (if c then(d_,u+(v-u) / 2+1,v)else(d_,u,u+(v-u) / 2))) (gx κ item q a g) s)->M_ (jG j w) A E (y x (d_,u,v)) G (gx κ item q a g) s)->
   (∀u,R (d_,u,k) (gx κ item q a g) s)->M_ (jG j w) A E (forIn [:m] (d_,lo,O) y) R (gx κ item q a g) s:=by
  intro lo O y R U T h3 γ r;refine nL (nv (λl b st=>st=gx κ item q a g/\∃u v,b=(d_,u,v)/\u<=k/\k<=v/\v<=m/\v<=u+_7 l) (λb st=>st=gx κ item q a g/\∃u,b=(d_,u,k)) ?_ ?_ ?_ _ _ _ ⟨_6,lo,O,_6,U,T,h3,by rw[nM];lia⟩)
  .rintro x l b st G ⟨rfl,u,v,rfl,e,H,o,k4⟩ L I
   rw[iC]at k4;refine γ x u v G o (λc=>I _ _ ⟨_6,u,?_⟩) λc b B=>?_
   .rw[show k=v by lia]
   .have g2:u+(v-u) / 2<v:=by lia
    have g1:=mO u ((v-u) / 2);generalize u+(v-u) / 2=d at *;rw[Y _ (by lia)]at B;cases b with
    |true=>exact L _ _ ⟨_6,_,_,_6,by simp at B;lia,H,o,by lia⟩
    |false=>exact L _ _ ⟨_6,_,_,_6,e,by simp at B;lia,by lia,by lia⟩
  .rintro b st ⟨h,u,v,rfl,e,H,o,k4⟩
   refine⟨h,u,?_⟩;simp at k4;rw[show k=v by lia]
  .rintro b st ⟨rfl,u,rfl⟩
   exact r u
 refine jC (Kd P N M (by lia) ?_);rw[Y hint hh]
 by_cases hr:hint<k
 .rw[m_ hr];show M_ _ _ _ (if c_=c_ then _ else _) _ _ _;refine jC (nL (nv (λl b st=>st=gx κ item q a g/\∃u v,b=(d_,u,v)/\hint+u<k/\u<v/\m<=_7 l+v) (λb st=>st=gx κ item q a g/\∃u v,b=(d_,u,v)/\hint+u<k/\(m-hint<=v\/k<=hint+v)) ?_ ?_ ?_ _ _ _ ⟨_6,0,1,_6,hr,by lia,by rw[nM];lia⟩))
  .rintro x l b st G ⟨rfl,u,v,rfl,e,H,o⟩ L I
   rw[iC]at o
   by_cases c:v>=m-hint
   .rw[iH c];exact jH (I _ _ ⟨_6,u,v,_6,e,.inl c⟩)
   .rw[iG c];refine jC (Kd (i:=hint+v) P N M (by lia) ?_);rw[Y _ (by lia)]
    by_cases J:hint+v<k
    .rw[m_ J];exact jH (L _ _ ⟨_6,v,2*v+1,_6,J,by lia,by lia⟩)
    .rw[i_ J];exact jH (I _ _ ⟨_6,u,v,_6,e,.inr (by lia)⟩)
  .rintro b st ⟨h,u,v,rfl,e,H,o⟩
   exact⟨h,u,v,_6,e,.inl (by simp at o;lia)⟩
  .rintro b st ⟨rfl,u,v,rfl,e,H⟩
   refine jC (last (by dsimp only;lia) (by dsimp only;lia) (by lia) (λx u v G hv U T=>?_) λu=>jH h)
   by_cases c:u>=v
   .rw[iH c];exact jH (U c)
   .rw[iG c];refine jC (Kd (i:=u+(v-u) / 2) P N M (by lia) ?_);have z:=T c _ _6;cases B:Ih C l f p base _ with
    |true=>rw[B]at z;exact jH z
    |false=>rw[B]at z;exact jH z
 .rw[i_ hr];show M_ _ _ _ (if e_=c_ then _ else _) _ _ _;refine jC (nL (nv (λl b st=>st=gx κ item q a g/\∃u v,b=(d_,u,v)/\k<=hint-u/\u<=hint/\u<v/\m<=_7 l+v) (λb st=>st=gx κ item q a g/\∃u v,b=(d_,u,v)/\k<=hint-u/\(hint+1<=v\/hint-v<k)) ?_ ?_ ?_ _ _ _ ⟨_6,0,1,_6,by lia,by lia,by lia,by rw[nM];lia⟩))
  .rintro x l b st G ⟨rfl,u,v,rfl,e,k0,H,o⟩ L I
   rw[iC]at o
   by_cases c:v>=hint+1
   .rw[iH c];exact jH (I _ _ ⟨_6,u,v,_6,e,.inl c⟩)
   .rw[iG c];refine jC (Kd P N M (by lia) ?_);rw[Y _ (by lia)]
    by_cases J:hint-v<k
    .rw[m_ J];exact jH (I _ _ ⟨_6,u,v,_6,e,.inr J⟩)
    .rw[i_ J];exact jH (L _ _ ⟨_6,v,2*v+1,_6,by lia,by lia,by lia,by lia⟩)
  .rintro b st ⟨h,u,v,rfl,e,k0,H,o⟩
   exact⟨h,u,v,_6,e,.inl (by simp at o;lia)⟩
  .rintro b st ⟨rfl,u,v,rfl,e,H⟩
   refine jC (last (by dsimp only;lia) ‹_› (by lia) (λx u v G hv U T=>?_) λu=>jH h)
   by_cases c:u>=v
   .rw[iH c];exact jH (U c)
   .rw[iG c];refine jC (Kd (i:=u+(v-u) / 2) P N M (by lia) ?_);have z:=T c _ _6;cases B:Ih C l f p base _ with
    |true=>rw[B]at z;exact jH z
    |false=>rw[B]at z;exact jH z
end
end Pu
end
section
namespace Pu
open PySem.SeqAt PySem.W
def mg(c:g_->g_->r_)(a b:b_ g_):b_ g_:=a.merge b λx y=> !c y x
section
def uh(b:b_ g_):mg a [] b=b:=by cases b<;>simp[mg]
def ri(a:b_ g_):mg b a []=a:=by cases a<;>simp[mg]
def L3(xs b:b_ g_)(c:a y x=c_):mg a (x::xs) (y::b)=y::mg a (x::xs) b:=by unfold mg;simp[c]
def Pe(xs b:b_ g_)(c:a y x=e_):mg a (x::xs) (y::b)=x::mg a xs (y::b):=by unfold mg;simp[c]
def Z8(c d:b_ g_):∀a,(∀x∈a,b y x=e_)->mg b (a++d) (y::c)=a++mg b d (y::c):=by
 intro a;induction a with
 |nil=>intro _;rfl
 |cons x a e=>intro h;rw[mI,Pe _ _ (h x (.head _)),e λz f=>h z (.tail _ f)];rfl
def NV(xs c:b_ g_):∀a,(∀y∈a,b y x=c_)->mg b (x::xs) (a++c)=a++mg b (x::xs) c:=by
 intro a;induction a with
 |nil=>intro _;rfl
 |cons y a d=>intro h;rw[mI,L3 _ _ (h y (.head _)),d λz e=>h z (.tail _ e)];rfl
def L4(h:∀y∈a,b y x=c_):mg b [x] a=a++[x]:=by have:=NV [] [] a h;rwa[jX,ri]at this
def Vq(h:∀x∈xs,a y x=e_):mg a xs [y]=xs++[y]:=by have:=Z8 [] [] xs h;rwa[jX,uh]at this
def NU:∀a b,(∀y∈b,d y x=c_)->mg d (a++[x]) b=mg d a b++[x]:=by
 intro a;induction a with
 |nil=>intro b h;rw[oX,uh];exact L4 h
 |cons u a f=>
  intro b;induction b with
  |nil=>intro _;rw[ri,ri]
  |cons v b e=>
   intro h;cases c:d v u with
   |true=>rw[mI,L3 _ _ c,L3 _ _ c,<-mI,e λz g=>h z (.tail _ g)];rfl
   |false=>rw[mI,Pe _ _ c,Pe _ _ c,f _ h];rfl
def NT:∀a b,(∀x∈a,d y x=e_)->mg d a (b++[y])=mg d a b++[y]:=by
 intro a;induction a with
 |nil=>intro b _;rw[uh,uh]
 |cons u a f=>
  intro b;induction b with
  |nil=>intro h;rw[oX,ri];exact Vq h
  |cons v b e=>
   intro h;cases c:d v u with
   |true=>rw[mI,L3 _ _ c,L3 _ _ c,e h];rfl
   |false=>rw[mI,Pe _ _ c,Pe _ _ c,<-mI,f _ λz g=>h z (.tail _ g)];rfl
def Z9:∀a b l,(∀x∈a,∀y∈l,c y x=e_)->mg c a (b++l)=mg c a b++l:=by
 intro a b l;induction l generalizing b with
 |nil=>intro _;rw[jX,jX]
 |cons y l e=>intro h;rw[show b++y::l=(b++[y])++l by simp,e _ λx d z f=>h x d z (.tail _ f),NT _ _ λx d=>h x d y (.head _)];simp
def RZ:∀a b l,(∀x∈l,∀y∈b,c y x=c_)->mg c (a++l) b=mg c a b++l:=by
 intro a b l;induction l generalizing a with
 |nil=>intro _;rw[jX,jX]
 |cons x l d=>intro h;rw[show a++x::l=(a++[x])++l by simp,d _ λx g z e=>h x (.tail _ g) z e,NU _ _ λy f=>h x (.head _) y f];simp
def C9(a b:b_ g_):(mg c a b).Perm (a++b):=List.merge_perm_append _
def Pf(a b:b_ g_):(mg c a b).length=_7 a+_7 b:=by rw[(C9 a b).length_eq,iO]
structure p5(n:g_)(cmp:g_->g_->r_)(a b:b_ g_):Prop where
 sa:a.Pairwise λx y=>cmp x y=c_
 sb:b.Pairwise λx y=>cmp x y=c_
 la:∀x∈a,x<n
 lb:∀y∈b,y<n
 ne:∀x∈a,∀y∈b,x≠y
def p5.no{n:g_}{a b:b_ g_}(O:Ord n c)(T:p5 n c a b){x y:g_}(e:x∈a)(d:y∈b):c x y= !c y x:=O.as y x (T.lb y d) (T.la x e) (T.ne x e y d).symm
def p5.ta(T:p5 n c (x::a) b):p5 n c a b:=⟨(y_.mp T.sa).2,T.sb,λx h=>T.la x (.tail _ h),T.lb,λx h=>T.ne x (.tail _ h)⟩
def p5.tb(T:p5 n c a (y::b)):p5 n c a b:=⟨T.sa,(y_.mp T.sb).2,T.la,λx h=>T.lb x (.tail _ h),λx h y d=>T.ne x h y (.tail _ d)⟩
def XF(O:Ord n d):∀a b,p5 n d a b->(mg d a b).Pairwise λx y=>d x y=c_:=by
 intro a;induction a with
 |nil=>intro b T;rw[uh];exact T.sb
 |cons x a g=>
  intro b;induction b with
  |nil=>intro T;rw[ri];exact T.sa
  |cons y b f=>
   intro T;have e:=T.no O (y:=y) (.head _) (.head _);cases c:d y x with
   |true=>
    rw[L3 _ _ c];refine y_.mpr ⟨λz i=>?_,f T.tb⟩;rcases s_.mp ((C9 _ _).mem_iff.mp i)with h|h
    .rcases l_.mp h with rfl|h
     .exact c
     .exact O.tr _ _ _ (T.lb _ (.head _)) (T.la _ (.head _)) (T.la _ (.tail _ h)) c ((y_.mp T.sa).1 z h)
    .exact(y_.mp T.sb).1 z h
   |false=>
    rw[Pe _ _ c];rw[c]at e;refine y_.mpr ⟨λz i=>?_,g _ T.ta⟩;rcases s_.mp ((C9 _ _).mem_iff.mp i)with h|h
    .exact(y_.mp T.sa).1 z h
    .rcases l_.mp h with rfl|h
     .exact e
     .exact O.tr _ _ _ (T.la _ (.head _)) (T.lb _ (.head _)) (T.lb _ (.tail _ h)) e ((y_.mp T.sb).1 z h)
end
def xl:At p i=p.toList.getD i 0:=by unfold At;simp[iK]
def ue{p:p_ g_}{i:g_}(h:i<p.size):p.toList.drop i=At p i::p.toList.drop (i+1):=by rw[k8 h,lG (by simpa using h)];simp
def Dg{p:p_ g_}{i:g_}(h:i<p.size):p.toList.take (i+1)=p.toList.take i++[At p i]:=by rw[k8 h,List.take_add_one];simp[h]
def wc{p:p_ g_}{i:g_}(h:i<p.size):At p i∈p.toList:=by rw[k8 h];simp
def Mo{p:p_ g_}(h:p.toList.Pairwise R)(a:i<j)(b:j<p.size):R (At p i) (At p j):=by rw[k8 b,k8 _];have:=F_.mp h i j (by simp;lia) (by simpa using b) a;simpa using this
def EO(f:g_->r_):∀m,(∀i j,i<j->j<m->f j=c_->f i=c_)->∃k,k<=m/\∀i,i<m->f i=decide (i<k):=by
 intro m;induction m with
 |zero=>exact λq=>⟨0,iF _,λi h=>by lia⟩
 |succ m g=>
  intro h;obtain⟨k,l,e⟩:=g λi j a b=>h i j a (by lia)
  by_cases c:f m=c_
  .refine⟨m+1,iF _,λi d=>?_⟩;rw[m_ d];rcases nY i m with z|z
   .exact h i m z (iF _) c
   .rwa[show i=m by lia]
  .refine⟨k,by lia,λi d=>?_⟩;rcases nY i m with z|z
   .exact e i z
   .rw[show i=m by lia,i_ (by lia)];simpa using c
end Pu
end
section
namespace Pu
open PySem.SeqAt PySem.W
def bw[Decidable c]{x y:_T Z Sem α}{Q:α->Z->jP->Prop}{st:Z}(b:c->M_ M A E x Q st s)(a:¬c->M_ M A E y Q st s):M_ M A E (if c then x else y) Q st s:=by
 by_cases h:c
 .rw[iH h];exact b h
 .rw[iG h];exact a h
section
def iz(a:p_ α)(i j:g_):(a.extract i j).toList=(a.toList.drop i).take (j-i):=by simp[Array.toList_extract]
def ML(c:g_->g_->r_)(a b o:p_ g_)(e d:g_):Prop:=o.toList++mg c (a.toList.drop e) (b.toList.drop d)=mg c a.toList b.toList
def mR(c:g_->g_->r_)(item:g_->nG)(a b:p_ g_):p_ nG:=(mg c a.toList b.toList).toArray.map item
def Jg{o:p_ g_}(h:o.toList=l):o.map item=l.toArray.map item:=by rw[<-h]
def xq(o a:p_ g_)(i j:g_):o.map item++(a.map item).extract i j=(o++a.extract i j).map item:=by simp
def Dy{a:p_ g_}(h:a.size<=i):a.toList.drop i=[]:=pH (by simpa using h)
def ML.done(h:ML c a b o f d)(e:a.size<=f\/b.size<=d):o.map item++(a.map item).extract f (a.map item).size++(b.map item).extract d (b.map item).size=mR c item a b:=by
 rw[xq,xq];refine Jg ?_;rw[<-h,lT,lT,iz,iz,pL,pL,lJ (by simp),lJ (by simp),kF]
 congr 1
 obtain e|e:=e
 .rw[Dy e,uh];rfl
 .rw[Dy e,ri,jX]
def ML.last(h:ML c a b o d f)(e:d+1=a.size)(i:∀y∈b.toList,c y (At a (a.size-1))=c_):o.map item++(b.map item).extract f (b.map item).size++(a.map item).extract d (a.map item).size=mR c item a b:=by
 rw[xq,xq];refine Jg ?_;rw[<-h,lT,lT,iz,iz,pL,pL,lJ (by simp),lJ (by simp),kF]
 congr 1
 rw[ue (p:=a) (by lia),Dy (a:=a) (oJ e.symm),L4 λy g=>?_];have:=i y (rV g);rwa[show a.size-1=d by lia]at this
def ML.ul{a b o:p_ g_}{ia ib:g_}(h:ML cmp a b o ia ib)(e:ia<a.size)(d:ib<b.size)(c:cmp (At b ib) (At a ia)=c_):ML cmp a b (o.push (At b ib)) ia (ib+1):=by unfold ML at h⊢;rw[<-h,ue d,ue e,L3 _ _ c];simp
def ML.ut(h:ML d a b o e f)(i:e<a.size)(g:f<b.size)(c:d (At b f) (At a e)=e_):ML d a b (o.push (At a e)) (e+1) f:=by unfold ML at h⊢;rw[<-h,ue g,ue i,Pe _ _ c];simp
def nj{a:p_ g_}{i k x:g_}(h:x∈(a.toList.drop i).take k):∃j,j<k/\i+j<a.size/\At a (i+j)=x:=by obtain⟨j,b,e⟩:=_b.mp h;rw[lX,lD,iP]at b;have z:i+j<a.size:=Nat.add_lt_of_lt_sub' (jR b (uE ..));refine⟨j,jR b (Nat.min_le_left ..),z,?_⟩;rw[k8 z,<-e];simp
def ML.takeA{a b o:p_ g_}{c e k:g_}(h:ML d a b o c e)(m:e<b.size)(l:∀j,j<k->c+j<a.size->d (At b e) (At a (c+j))=e_):ML d a b (o++a.extract c (c+k)) (c+k) e:=by
 unfold ML at h⊢;rw[<-h,ue m,lT,iz,kF,show c+k-c=k by lia,show a.toList.drop (c+k)=(a.toList.drop c).drop k by rw[vW]]
 congr 1
 rw[<-Z8 _ _ _ λx i=>?_,lA];obtain⟨j,g,f,rfl⟩:=nj i;exact l j g f
def ML.takeB{a b o:p_ g_}{e c k:g_}(h:ML d a b o e c)(m:e<a.size)(l:∀j,j<k->c+j<b.size->d (At b (c+j)) (At a e)=c_):ML d a b (o++b.extract c (c+k)) e (c+k):=by
 unfold ML at h⊢;rw[<-h,ue m,lT,iz,kF,show c+k-c=k by lia,show b.toList.drop (c+k)=(b.toList.drop c).drop k by rw[vW]]
 congr 1
 rw[<-NV _ _ _ λx i=>?_,lA];obtain⟨j,g,f,rfl⟩:=nj i;exact l j g f
def p5.bna{b:p_ g_}(T:p5 n c a.toList b.toList):BN n a:=λi h=>T.la _ (wc h)
def p5.bnb{a:p_ g_}(T:p5 n c a.toList b.toList):BN n b:=λi h=>T.lb _ (wc h)
def p5.turnA{a b:p_ g_}(O:Ord n d)(T:p5 n d a.toList b.toList){ia ib m:g_}(e:ib<b.size)(l:ia+m<=a.size):∃k,k<=m/\∀i,i<m->Ih d e_ (At b ib) a ia i=decide (i<k):=by refine EO _ m λi j h o c=>?_;unfold Ih at c⊢;rw[iG (by decide)]at c⊢;have g:=T.no O (wc (p:=a) (i:=ia+i) (by lia)) (wc e);have f:=T.no O (wc (p:=a) (i:=ia+j) (by lia)) (wc e);rw[<-f]at c;rw[<-g];exact O.tr _ _ _ (T.bna _ (by lia)) (T.bna _ (by lia)) (T.bnb _ e) (Mo T.sa (by lia) (by lia)) c
def p5.turnB{a b:p_ g_}(O:Ord n d)(T:p5 n d a.toList b.toList){ia ib m:g_}(f:ia<a.size)(g:ib+m<=b.size):∃k,k<=m/\∀i,i<m->Ih d c_ (At a ia) b ib i=decide (i<k):=by refine EO _ m λi j e h c=>?_;unfold Ih at c⊢;rw[iH _6]at c⊢;exact O.tr _ _ _ (T.bnb _ (by lia)) (T.bnb _ (by lia)) (T.bna _ f) (Mo T.sb (by lia) (by lia)) c
def Jt(c:f (gx κ item p a g)=gx κ item p a k)(q:Q () (gx κ item p a k) s):M_ (jG b w) A E (modify f:_T nO Sem Unit) Q (gx κ item p a g) s:=by refine uT ?_;rw[c];exact q
inductive L1(κ:tM)(item:g_->nG)(p:p_ g_)(pend:p_ (g_×g_×g_))(cmp:g_->g_->r_)(a b:p_ g_)(N:g_)(b':f_ (p_ nG)×p_ nG×g_×g_×g_)(st:nO):Prop
 |mk (g' o ia ib k) (_:st=gx κ item p pend g') (_:b'=(d_,o.map item,ia,ib,k)) (_:ia+1<a.size) (_:ib<b.size) (_:a.size+b.size<ia+ib+N) (_:ML cmp a b o ia ib):L1 κ item p pend cmp a b N b' st
inductive L2i(item:g_->nG)(cmp:g_->g_->r_)(a b:p_ g_)(X:g_->g_->Prop)(b':f_ (p_ nG)×p_ nG×g_×g_×g_×g_):Prop
 |mk (o ja jb ac bc) (_:b'=(d_,o.map item,ja,jb,ac,bc)) (_:ja+1<a.size) (_:jb<b.size) (_:X ja jb) (_:ML cmp a b o ja jb):L2i item cmp a b X b'
inductive L3i(item:g_->nG)(cmp:g_->g_->r_)(a b:p_ g_)(N:g_)(b':f_ (p_ nG)×p_ nG×g_×g_×g_×g_×g_):Prop
 |mk (o ja jb mgl ac bc) (_:b'=(d_,o.map item,ja,jb,mgl,ac,bc)) (_:ja+1<a.size) (_:jb<b.size) (_:N<ja+jb) (_:ML cmp a b o ja jb):L3i item cmp a b N b'
inductive L3a(κ:tM)(item:g_->nG)(p:p_ g_)(pend:p_ (g_×g_×g_))(cmp:g_->g_->r_)(a b:p_ g_)(N:g_)(b':f_ (p_ nG)×p_ nG×g_×g_×g_×g_×g_)(st:nO):Prop
 |mk (g' o ja jb mgl ac bc) (_:st=gx κ item p pend g') (_:b'=(d_,o.map item,ja,jb,mgl,ac,bc)) (_:ja+1<a.size) (_:jb<b.size) (_:N<ja+jb) (_:ML cmp a b o ja jb):L3a κ item p pend cmp a b N b' st
def XD(P:si N w A s κ item n f)(O:Ord n f)(T:p5 n f a.toList b.toList)(ha:0<a.size)(hb:0<b.size)(hf:f (At b 0) (At a 0)=c_)(hl:∀y∈b.toList,f y (At a (a.size-1))=c_)
  (q:∀L,Q (mR f item a b) (gx κ item p v L) s):M_ (jG N w) A E (L0 (a.map item) (b.map item)) Q (gx κ item p v g) s:=by
 have m0:ML f a b #[At b 0] 0 1:=by have:=ML.ul (cmp:=f) (a:=a) (b:=b) (o:=#[]) (ia:=0) (ib:=0) (by unfold ML;simp) ha hb hf;simpa using this
 have sa:(a.map item).size=a.size:=pL;have sb:(b.map item).size=b.size:=pL;refine jC (vO (nJ (jC (gf hb ?_))));have e0:(#[item (At b 0)]:p_ nG)=(#[At b 0]:p_ g_).map item:=by simp
 show M_ _ _ _ (if(1==(b.map item).size)=c_ then _ else _) _ _ _;refine bw (λc=>?_) λc=>?_
 .have c':1=b.size:=by simpa using c
  rw[e0];exact jH (Eq.mpr (u_ (λr=>Q r (gx κ item p v g) s) (m0.done (item:=item) (.inr (by lia)))) (q g))
 refine bw (λc2=>?_) λc2=>?_
 .have c':1=a.size:=by simpa using c2
  rw[e0];exact jH (Eq.mpr (u_ (λr=>Q r (gx κ item p v g) s) (m0.last (item:=item) ‹_› hl)) (q g))
 have b1:b.size≠1:=λz=>c (by simp[z]);have a1:a.size≠1:=λz=>c2 (by simp[z]);refine jC (tO (jC (nL ?_)));rw[e0];refine nv (λl=>L1 κ item p v f a b l.length)
  (λM st=>∃L,st=gx κ item p v L/\M.1=a_ (mR f item a b)) ?_ ?_ ?_ _ _ _ ⟨g,_,0,1,_,_6,_6,by lia,by lia,by rw[nM];lia,m0⟩
 .rintro x l M st Q' ⟨L,o,ia,ib,k,rfl,rfl,h1,h2,h3,h4⟩ hy hd
  rw[iC]at h3;refine jC (nL (nv (λl M st=>st=gx κ item p v L/\L2i item f a b (λu i=>ia+ib<u+i\/ia+ib<=u+i/\l≠[]) M)
   (λM st=>st=gx κ item p v L/\(M.1=a_ (mR f item a b)\/L2i item f a b (λu i=>ia+ib<u+i) M)) ?_ ?_ ?_ _ _ _ ⟨_6,o,ia,ib,0,0,_6,h1,h2,.inr ⟨iF _,?_⟩,h4⟩))
  .rintro x l M st Q2 ⟨rfl,o,u,i,ac,bc,rfl,k1,G,k3,Y⟩ ε C
   refine jC (gf (a:=b) G (jC (gf (a:=a) (show u<a.size by lia) (jC (Z3 P (T.bnb _ G) (T.bna _ (show u<a.size by lia)) ?_)))));cases hc:f (At b i) (At a u)with
   |true=>
    have k5:=Y.ul (by lia) G hc;refine jC (gf (a:=b) G ?_);show M_ _ _ _ (if(i+1==(b.map item).size)=c_ then _ else if bc+1>=k then _ else _) _ _ _;rw[<-pM];refine bw (λd=>jH (C _ _ ⟨_6,.inl (u_ a_ ?_)⟩)) λd=>?_
    .have U:i+1=b.size:=by simpa using d
     exact k5.done (.inr (by lia))
    .have U:i+1≠b.size:=λz=>d (by simp[z]);exact bw (λW=>jH (C _ _ ⟨_6,.inr ⟨_,u,i+1,_,_,_6,k1,by lia,by lia,k5⟩⟩)) λW=>jH (ε _ _ ⟨_6,_,u,i+1,_,_,_6,k1,by lia,.inl (by lia),k5⟩)
   |false=>
    have k5:=Y.ut (by lia) G hc;refine jC (gf (a:=a) (show u<a.size by lia) ?_);show M_ _ _ _ (if(u+1+1==(a.map item).size)=c_ then _ else if ac+1>=k then _ else _) _ _ _;rw[<-pM];refine bw (λd=>jH (C _ _ ⟨_6,.inl (u_ a_ ?_)⟩)) λd=>?_
    .have U:u+1+1=a.size:=by simpa using d
     exact k5.last U hl
    .have U:u+1+1≠a.size:=λz=>d (by simp[z]);exact bw (λW=>jH (C _ _ ⟨_6,.inr ⟨_,u+1,i,_,_,_6,by lia,G,by lia,k5⟩⟩)) λW=>jH (ε _ _ ⟨_6,_,u+1,i,_,_,_6,by lia,G,.inl (by lia),k5⟩)
  .rintro M st ⟨h,o,u,i,ac,bc,rfl,k1,G,k3,Y⟩
   exact⟨h,.inr ⟨o,u,i,ac,bc,_6,k1,G,k3.resolve_right λz=>z.2 _6,Y⟩⟩
  .rintro⟨r,z⟩ st ⟨rfl,(e:r=_)|⟨o,u,i,ac,bc,eb,k1,G,k3,Y⟩⟩
   .subst e;exact jH (hd _ _ ⟨L,_6,_6⟩)
   .cases eb;refine jC (vO (nJ (jC (nL (nv (λW=>L3a κ item p v f a b (ia+ib))
     (λM st=>∃L,st=gx κ item p v L/\(M.1=a_ (mR f item a b)\/L3i item f a b (ia+ib) M)) ?_ ?_ ?_ _ _ _ ⟨L,o,u,i,_,ac,bc,_6,_6,k1,G,k3,Y⟩)))))
    .rintro x l M st Q2 ⟨g2,o,u,i,H,ac,bc,rfl,rfl,k1,G,k3,Y⟩ ε C
     extract_lets _ _ _ _ _ _ _ _ _ _ _ _ jp
     have J:∀H,M_ (jG N w) A E (jp () H) Q2 (gx κ item p v g2) s:=λH=>by
      refine jC (Jt _6 (jC (gf (a:=b) G ?_)));obtain⟨k,e1,e2⟩:=T.turnA O (ia:=u) (m:=(a.map item).size-u) G (by lia);refine jC (Gp (k:=k) (base:=u) (m:=(a.map item).size-u) (hint:=0) P (T.bnb _ G) T.bna (by lia) (by lia) e1 e2 ?_);have nx:u+k<a.size->f (At b i) (At a (u+k))=c_:=λz=>by have:=e2 k (by lia);rw[i_ (kU _)]at this;simpa[Ih]using this
      dsimp -zeta only
      extract_lets ac Δ o2 i2
      have J2:∀o B,ML f a b o B i->B+1<a.size->u<=B->f (At b i) (At a B)=c_->M_ (jG N w) A E (Δ () (o.map item) B) Q2 (gx κ item p v H) s:=λo B u1 u2 u0 u3=>by
       have u4:=u1.ul (by lia) G u3;refine jC (gf (a:=b) G ?_);rw[<-pM];refine bw (λd=>jH (C _ _ ⟨_,_6,.inl (u_ a_ ?_)⟩)) λd=>?_
       .have U:i+1=b.size:=by rw[<-sb];exact nA d
        exact u4.done (.inr (by lia))
       have U:i+1≠b.size:=λz=>d (E_.mpr (by rw[sb];exact z));refine jC (gf (a:=a) (show B<a.size by lia) ?_);obtain⟨k',e1',μ⟩:=T.turnB O (ia:=B) (ib:=i+1) (m:=(b.map item).size-(i+1)) (by lia) (by lia);refine jC (Gp (k:=k') (base:=i+1) (m:=(b.map item).size-(i+1)) (hint:=0) P (T.bna _ (by lia)) T.bnb (by lia) (by lia) e1' μ ?_);have ρ:i+1+k'<b.size->f (At b (i+1+k')) (At a B)=e_:=λz=>by have:=μ k' (by lia);rw[i_ (kU _)]at this;simpa[Ih]using this
       dsimp -zeta only
       extract_lets bc i3 Γ o3 i4
       have J3:∀o I,ML f a b o B I->I<b.size->i<I->f (At b I) (At a B)=e_->M_ (jG N w) A E (Γ () (o.map item) I) Q2 (gx κ item p v H) s:=λo I v1 v2 v0 v3=>by
        have v4:=v1.ut (by lia) v2 v3;refine jC (gf (a:=a) (show B<a.size by lia) ?_);rw[<-pM];refine bw (λd=>jH (C _ _ ⟨_,_6,.inl (u_ a_ ?_)⟩)) λd=>?_
        .have U:B+1+1=a.size:=by rw[<-sa];exact nA d
         exact v4.last U hl
        have U:B+1+1≠a.size:=λz=>d (E_.mpr (by rw[sa];exact z));exact bw (λW=>jH (C _ _ ⟨_,_6,.inr ⟨_,B+1,I,_,_,_,_6,by lia,v2,by lia,v4⟩⟩)) λW=>jH (ε _ _ ⟨_,_,B+1,I,_,_,_,_6,_6,by lia,v2,by lia,v4⟩)
       refine bw (λc=>?_) λc=>?_
       .have u5:=u4.takeB (k:=k') (by lia) λj j1 j2=>by have:=μ j (by lia);rw[m_ j1]at this;simpa[Ih]using this
        have eo:o3=((o.push (At b i))++b.extract (i+1) (i+1+k')).map item:=xq _ _ _ _;rw[eo];refine bw (λd=>jH (C _ _ ⟨_,_6,.inl (u_ a_ ?_)⟩)) λd=>?_
        .have U:i+1+k'=b.size:=by rw[<-sb];exact nA d
         exact u5.done (.inr (by lia))
        have U:i+1+k'≠b.size:=λz=>d (E_.mpr (by rw[sb];exact z));exact J3 _ (i+1+k') u5 (by lia) (by lia) (ρ (by lia))
       .obtain rfl:k'=0:=by lia
        exact J3 _ (i+1) u4 (by lia) (by lia) (ρ (by lia))
      refine bw (λc=>?_) λc=>?_
      .have u5:=Y.takeA (k:=k) G λj j1 j2=>by have:=e2 j (by lia);rw[m_ j1]at this;simpa[Ih]using this
       have eo:o2=(o++a.extract u (u+k)).map item:=xq _ _ _ _;rw[eo];refine bw (λd=>jH (C _ _ ⟨_,_6,.inl (u_ a_ ?_)⟩)) λd=>?_
       .have U:u+k+1=a.size:=by rw[<-sa];exact nA d
        exact u5.last U hl
       have U:u+k+1≠a.size:=λz=>d (E_.mpr (by rw[sa];exact z));refine bw (λd2=>jH (C _ _ ⟨_,_6,.inl (u_ a_ ?_)⟩)) λd2=>?_
       .have d3:u+k=a.size:=by rw[<-sa];exact nA d2
        exact u5.done (.inl (by lia))
       have d3:u+k≠a.size:=λz=>d2 (E_.mpr (by rw[sa];exact z));exact J2 _ (u+k) u5 (by lia) (by lia) (nx (by lia))
      .obtain rfl:k=0:=by lia
       exact J2 _ u Y k1 (iF _) (nx (by lia))
     exact bw (λW=>J _) λW=>J _
    .rintro M st ⟨L,o,u,i,H,ac,bc,rfl,rfl,k1,G,k3,Y⟩
     exact⟨L,_6,.inr ⟨o,u,i,H,ac,bc,_6,k1,G,k3,Y⟩⟩
    .rintro⟨r,z⟩ st ⟨L,rfl,(e:r=_)|⟨o,u,i,H,ac,bc,eb,k1,G,k3,Y⟩⟩
     .subst e;exact jH (hd _ _ ⟨L,_6,_6⟩)
     .cases eb;exact jC (Jt _6 (jH (hy _ _ ⟨_,o,u,i,_,_6,_6,k1,G,by lia,Y⟩)))
  .rw[vL,show(a.map item).size+(b.map item).size=(a.size+b.size-1)+1 by lia,xB];exact λz=>by cases z
 .rintro M st ⟨L,o,ia,ib,k,rfl,rfl,h1,h2,h3,h4⟩
  simp at h3;lia
 .rintro⟨r,z⟩ st ⟨L,rfl,(e:r=_)⟩
  subst e;exact jH (q L)
end
end Pu
end
section
namespace Pu
open PySem.SeqAt PySem.W
section
def MH(c:g_->g_->r_)(a b o:p_ g_)(e d:g_):Prop:=mg c (a.toList.take e) (b.toList.take d)++o.toList.reverse=mg c a.toList b.toList
def Sm(o:p_ g_):(o.map item).reverse=o.reverse.map item:=by simp
def C6(o u:p_ g_):o.map item++u.map item=(o++u).map item:=by simp
def MH.done(h:MH c a b o f d)(e:f=0\/d=0):(a.map item).extract 0 f++(b.map item).extract 0 d++(o.map item).reverse=mR c item a b:=by
 rw[<-tP,<-tP,Sm,C6,C6];refine Jg ?_;rw[<-h,lT,lT,iz,iz,B?]
 congr 1
 obtain rfl|rfl:=e
 .simp[uh]
 .simp[ri]
def MH.first(h:MH c a b o d 1)(f:0<b.size)(g:∀x∈a.toList,c (At b 0) x=c_):(b.map item).extract 0 1++(a.map item).extract 0 d++(o.map item).reverse=mR c item a b:=by
 rw[<-tP,<-tP,Sm,C6,C6];refine Jg ?_;rw[<-h,lT,lT,iz,iz,B?]
 congr 1
 rw[show b.toList.take 1=[At b 0]from Dg (i:=0) f,vX,vX,show b.toList.take (1-0)=_ from Dg (i:=0) f,vL];cases e:a.toList.take d with
 |nil=>rw[uh];rfl
 |cons x xs=>rw[L3 _ _ (g x (rW (by rw[e];exact .head _))),ri];rfl
def sx(h:x∈a.toList.take k):∃j,j<k/\j<a.size/\At a j=x:=by obtain⟨j,d,c,b⟩:=nj (a:=a) (i:=0) (k:=k) (x:=x) h;rw[nZ]at c b;exact⟨j,d,c,b⟩
def MH.ut(h:MH d a b o (e+1) f)(m:e<a.size)(c:∀j,j<f->j<b.size->d (At b j) (At a e)=c_):MH d a b (o.push (At a e)) e f:=by
 unfold MH at h⊢;rw[<-h,Dg m,NU _ _ λy l=>?_]
 .simp
 .obtain⟨j,i,g,rfl⟩:=sx l;exact c j i g
def MH.ul{a b o:p_ g_}{e d:g_}(h:MH cmp a b o e (d+1))(l:d<b.size)(c:∀j,j<e->j<a.size->cmp (At b d) (At a j)=e_):MH cmp a b (o.push (At b d)) e d:=by
 unfold MH at h⊢;rw[<-h,Dg l,NT _ _ λy i=>?_]
 .simp
 .obtain⟨j,g,f,rfl⟩:=sx i;exact c j g f
def Hn(l:b_ α)(h:i<=j):l.take j=l.take i++(l.drop i).take (j-i):=by rw[show j=i+(j-i) by lia,List.take_add];simp
def MH.takeA{a b o:p_ g_}{e f k:g_}(h:MH d a b o e f)(q:k<=e)(c:∀i,k<=i->i<e->i<a.size->∀j,j<f->j<b.size->d (At b j) (At a i)=c_):MH d a b (o++(a.extract k e).reverse) k f:=by
 unfold MH at h⊢;rw[<-h,Hn a.toList q,RZ _ _ _ λx p y n=>?_]
 .simp[iz]
 .obtain⟨i,r,m,rfl⟩:=nj p;obtain⟨j,l,g,rfl⟩:=sx n;exact c _ (mO ..) (by lia) m j l g
def MH.takeB{a b o:p_ g_}{f e k:g_}(h:MH d a b o f e)(q:k<=e)(c:∀j,k<=j->j<e->j<b.size->∀i,i<f->i<a.size->d (At b j) (At a i)=e_):MH d a b (o++(b.extract k e).reverse) f k:=by
 unfold MH at h⊢;rw[<-h,Hn b.toList q,Z9 _ _ _ λy n x p=>?_]
 .simp[iz]
 .obtain⟨i,r,m,rfl⟩:=nj p;obtain⟨j,l,g,rfl⟩:=sx n;exact c _ (mO ..) (by lia) m j l g
def p5.yes{a b:p_ g_}(O:Ord n d)(T:p5 n d a.toList b.toList){i i' j j':g_}(c:d (At b j) (At a i)=c_)(f:i'<a.size)(e:j<b.size)(l:i<=i')(h:j'<=j):d (At b j') (At a i')=c_:=by
 have g:d (At b j) (At a i')=c_:=by
  rcases v! l with z|rfl
  .exact O.tr _ _ _ (T.bnb _ e) (T.bna _ (by lia)) (T.bna _ f) c (Mo T.sa z f)
  .exact c
 rcases v! h with z|rfl
 .exact O.tr _ _ _ (T.bnb _ (by lia)) (T.bnb _ e) (T.bna _ f) (Mo T.sb z e) g
 .exact g
def p5.nay{a b:p_ g_}(O:Ord n d)(T:p5 n d a.toList b.toList){i i' j j':g_}(c:d (At b j) (At a i)=e_)(g:i<a.size)(f:j'<b.size)(l:i'<=i)(h:j<=j'):d (At b j') (At a i')=e_:=by
 cases e:d (At b j') (At a i')with
 |false=>rfl
 |true=>rw[T.yes O e g f l h]at c;cases c
inductive H1i(κ:tM)(item:g_->nG)(p:p_ g_)(pend:p_ (g_×g_×g_))(cmp:g_->g_->r_)(a b:p_ g_)(N:g_)(b':f_ (p_ nG)×g_×g_×p_ nG×g_)(st:nO):Prop
 |mk (g' o na nb k) (_:st=gx κ item p pend g') (_:b'=(d_,na,nb,o.map item,k)) (_:0<na) (_:na<a.size) (_:1<nb) (_:nb<=b.size) (_:na+nb<N) (_:MH cmp a b o na nb):H1i κ item p pend cmp a b N b' st
inductive H2i(item:g_->nG)(cmp:g_->g_->r_)(a b:p_ g_)(X:g_->g_->Prop)(b':f_ (p_ nG)×g_×g_×p_ nG×g_×g_):Prop
 |mk (o ja jb ac bc) (_:b'=(d_,ja,jb,o.map item,ac,bc)) (_:0<ja) (_:ja<a.size) (_:1<jb) (_:jb<=b.size) (_:X ja jb) (_:MH cmp a b o ja jb):H2i item cmp a b X b'
inductive H3i(item:g_->nG)(cmp:g_->g_->r_)(a b:p_ g_)(N:g_)(b':f_ (p_ nG)×g_×g_×p_ nG×g_×g_×g_):Prop
 |mk (o ja jb mgl ac bc) (_:b'=(d_,ja,jb,o.map item,mgl,ac,bc)) (_:0<ja) (_:ja<a.size) (_:1<jb) (_:jb<=b.size) (_:ja+jb<N) (_:MH cmp a b o ja jb):H3i item cmp a b N b'
inductive H3a(κ:tM)(item:g_->nG)(p:p_ g_)(pend:p_ (g_×g_×g_))(cmp:g_->g_->r_)(a b:p_ g_)(N:g_)(b':f_ (p_ nG)×g_×g_×p_ nG×g_×g_×g_)(st:nO):Prop
 |mk (g' o ja jb mgl ac bc) (_:st=gx κ item p pend g') (_:b'=(d_,ja,jb,o.map item,mgl,ac,bc)) (_:0<ja) (_:ja<a.size) (_:1<jb) (_:jb<=b.size) (_:ja+jb<N) (_:MH cmp a b o ja jb):H3a κ item p pend cmp a b N b' st
def XE(P:si Y w A s κ item n u)(O:Ord n u)(T:p5 n u a.toList b.toList)(ha:0<a.size)(hb:0<b.size)(hf:u (At b 0) (At a 0)=c_)(hl:∀y∈b.toList,u y (At a (a.size-1))=c_)
  (q:∀N,Q (mR u item a b) (gx κ item p B N) s):M_ (jG Y w) A E (Lz (a.map item) (b.map item)) Q (gx κ item p B g) s:=by
 have sa:(a.map item).size=a.size:=pL;have sb:(b.map item).size=b.size:=pL;have η:∀x∈a.toList,u (At b 0) x=c_:=λx hx=>by
  obtain⟨i,hi,e⟩:=_b.mp hx;have υ:i<a.size:=by simpa using hi
  have:=T.yes O hf υ hb (jW _) (iF _);rwa[k8 υ,show a[i]=x from by simpa using e]at this
 have m0:MH u a b #[At a (a.size-1)] (a.size-1) b.size:=by
  have h0:MH u a b #[] (a.size-1+1) b.size:=by unfold MH;rw[lJ (by simp;lia),lJ (by simp)];simp
  have:=h0.ut (by lia) λj W h=>hl _ (wc h);simpa using this
 refine jC (vO (nJ ?_));rw[sa];refine jC (gf (a:=a) (i:=a.size-1) (by lia) ?_);have e0:(#[item (At a (a.size-1))]:p_ nG)=(#[At a (a.size-1)]:p_ g_).map item:=by simp
 show M_ _ _ _ (if(a.size-1==0)=c_ then _ else _) _ _ _;rw[sb,e0];refine bw (λc=>?_) λc=>?_
 .exact jH (Eq.mpr (u_ (λr=>Q r (gx κ item p B g) s) (m0.done (item:=item) (.inl (nA c)))) (q g))
 refine bw (λc2=>?_) λc2=>?_
 .have c':b.size=1:=nA c2;rw[c']at m0⊢;exact jH (Eq.mpr (u_ (λr=>Q r (gx κ item p B g) s) (m0.first (item:=item) hb η)) (q g))
 have b1:b.size≠1:=λz=>c2 (E_.mpr z);have a1:a.size-1≠0:=λz=>c (E_.mpr z);refine jC (tO (jC (nL (nv (λl=>H1i κ item p B u a b l.length)
  (λU st=>∃N,st=gx κ item p B N/\U.1=a_ (mR u item a b)) ?_ ?_ ?_ _ _ _ ⟨g,_,a.size-1,b.size,_,_6,_6,by lia,by lia,by lia,by lia,by rw[nM];lia,m0⟩))))
 .rintro x l U st Q' ⟨N,o,na,nb,k,rfl,rfl,h1,ψ,h2,χ,h3,h4⟩ hy hd
  rw[iC]at h3;refine jC (nL (nv (λl U st=>st=gx κ item p B N/\H2i item u a b (λv f=>v+f<na+nb\/v+f<=na+nb/\l≠[]) U)
   (λU st=>st=gx κ item p B N/\(U.1=a_ (mR u item a b)\/H2i item u a b (λv f=>v+f<na+nb) U)) ?_ ?_ ?_ _ _ _ ⟨_6,o,na,nb,0,0,_6,h1,ψ,h2,χ,.inr ⟨iF _,?_⟩,h4⟩))
  .rintro x l U st Q2 ⟨rfl,o,v,f,ac,bc,rfl,k1,H,k2,C,k3,k4⟩ ζ G
   obtain⟨v,rfl⟩:∃i,v=i+1:=⟨v-1,by lia⟩;obtain⟨f,rfl⟩:∃i,f=i+1:=⟨f-1,by lia⟩;refine jC (gf (a:=b) (i:=f) ‹_› (jC (gf (a:=a) (i:=v) (by lia) (jC (Z3 P (T.bnb _ ‹_›) (T.bna _ (by lia)) ?_)))));cases hc:u (At b f) (At a v)with
   |true=>have k5:=k4.ut (by lia) λj j1 j2=>T.yes O hc (by lia) ‹_› (iF _) (by lia);refine jC (gf (a:=a) (i:=v) (by lia) ?_);show M_ _ _ _ (if(v==0)=c_ then _ else if ac+1>=k then _ else _) _ _ _;rw[<-pM];refine bw (λd=>jH (G _ _ ⟨_6,.inl (u_ a_ (k5.done (.inl (nA d))))⟩)) λd=>?_;have d':v≠0:=λz=>d (E_.mpr z);exact bw (λW=>jH (G _ _ ⟨_6,.inr ⟨_,v,f+1,_,_,_6,by lia,by lia,k2,C,by lia,k5⟩⟩)) λW=>jH (ζ _ _ ⟨_6,_,v,f+1,_,_,_6,by lia,by lia,k2,C,.inl (by lia),k5⟩)
   |false=>
    have k5:=k4.ul ‹_› λj j1 j2=>T.nay O hc (by lia) ‹_› (by lia) (iF _);refine jC (gf (a:=b) (i:=f) ‹_› ?_);show M_ _ _ _ (if(f==1)=c_ then _ else if bc+1>=k then _ else _) _ _ _;rw[<-pM];refine bw (λd=>jH (G _ _ ⟨_6,.inl (u_ a_ ?_)⟩)) λd=>?_
    .obtain rfl:f=1:=nA d;exact k5.first hb η
    have d':f≠1:=λz=>d (E_.mpr z);exact bw (λW=>jH (G _ _ ⟨_6,.inr ⟨_,v+1,f,_,_,_6,by lia,by lia,by lia,by lia,by lia,k5⟩⟩)) λW=>jH (ζ _ _ ⟨_6,_,v+1,f,_,_,_6,by lia,by lia,by lia,by lia,.inl (by lia),k5⟩)
  .rintro U st ⟨h,o,v,f,ac,bc,rfl,k1,H,k2,C,k3,k4⟩
   exact⟨h,.inr ⟨o,v,f,ac,bc,_6,k1,H,k2,C,k3.resolve_right λz=>z.2 _6,k4⟩⟩
  .rintro⟨r,z⟩ st ⟨rfl,(e:r=_)|⟨o,v,f,ac,bc,eb,k1,H,k2,C,k3,k4⟩⟩
   .subst e;exact jH (hd _ _ ⟨N,_6,_6⟩)
   .cases eb;refine jC (vO (nJ (jC (nL (nv (λW=>H3a κ item p B u a b (na+nb))
     (λU st=>∃N,st=gx κ item p B N/\(U.1=a_ (mR u item a b)\/H3i item u a b (na+nb) U)) ?_ ?_ ?_ _ _ _ ⟨N,o,v,f,_,ac,bc,_6,_6,k1,H,k2,C,k3,k4⟩)))))
    .rintro x l U st Q2 ⟨g2,o,v,f,L,ac,bc,rfl,rfl,k1,H,k2,C,k3,k4⟩ ζ G
     obtain⟨f,rfl⟩:∃i,f=i+1:=⟨f-1,by lia⟩
     extract_lets _ _ _ _ _ _ _ _ _ _ _ _ jp
     have J:∀L,M_ (jG Y w) A E (jp () L) Q2 (gx κ item p B g2) s:=λL=>by
      refine jC (Jt _6 (jC (gf (a:=b) (i:=f) ‹_› ?_)));obtain⟨k,e1,e2⟩:=T.turnA O (ia:=0) (ib:=f) (m:=v) ‹_› (by lia);refine jC (Gp (k:=k) (base:=0) (m:=v) (hint:=v-1) P (T.bnb _ ‹_›) T.bna (by lia) (by lia) e1 e2 ?_);have nx:∀i,i<v->u (At b f) (At a i)=decide (k<=i):=λi z=>by
       have:=e2 i z;unfold Ih at this;rw[iG (by decide),nZ]at this
       by_cases c:i<k
       .rw[m_ c]at this;rw[i_ (by lia)];simpa using this
       .rw[i_ c]at this;rw[m_ (by lia)];simpa using this
      dsimp -zeta only
      extract_lets kk ac Ψ o2 n2
      have J2:∀o i,MH u a b o (i+1) (f+1)->i+1<=v->u (At b f) (At a i)=e_->M_ (jG Y w) A E (Ψ () (i+1) (o.map item)) Q2 (gx κ item p B L) s:=λo i u1 u2 u3=>by
       have u4:=u1.ul ‹_› λj j1 j2=>T.nay O u3 (by lia) ‹_› (by lia) (iF _);refine jC (gf (a:=b) (i:=f) ‹_› ?_);rw[<-pM];refine bw (λd=>jH (G _ _ ⟨_,_6,.inl (u_ a_ ?_)⟩)) λd=>?_
       .obtain rfl:f=1:=nA d;exact u4.first hb η
       have d':f≠1:=λz=>d (E_.mpr z);refine jC (gf (a:=a) (i:=i) (by lia) ?_);obtain⟨I,e1',ω⟩:=T.turnB O (ia:=i) (ib:=0) (m:=f) (by lia) (by lia);refine jC (Gp (k:=I) (base:=0) (m:=f) (hint:=f-1) P (T.bna _ (by lia)) T.bnb (by lia) (by lia) e1' ω ?_);have ι:∀j,j<f->u (At b j) (At a i)=decide (j<I):=λj z=>by have:=ω j z;unfold Ih at this;rw[iH _6,nZ]at this;exact this
       dsimp -zeta only
       extract_lets kk' bc n3 Φ o3 n4
       have J3:∀o M,MH u a b o (i+1) (M+1)->0<M->M<f->u (At b M) (At a i)=c_->M_ (jG Y w) A E (Φ () (M+1) (o.map item)) Q2 (gx κ item p B L) s:=λo M v1 v2 v0 v3=>by have v4:=v1.ut (by lia) λj j1 j2=>T.yes O v3 (by lia) (by lia) (iF _) (by lia);refine jC (gf (a:=a) (i:=i) (by lia) ?_);rw[<-pM];refine bw (λd=>jH (G _ _ ⟨_,_6,.inl (u_ a_ (v4.done (.inl (nA d))))⟩)) λd=>?_;have d':i≠0:=λz=>d (E_.mpr z);exact bw (λW=>jH (G _ _ ⟨_,_6,.inr ⟨_,i,M+1,_,_,_,_6,by lia,by lia,by lia,by lia,by lia,v4⟩⟩)) λW=>jH (ζ _ _ ⟨_,_,i,M+1,_,_,_,_6,_6,by lia,by lia,by lia,by lia,by lia,v4⟩)
       refine bw (λ(c:f-I>0)=>?_) λ(c:¬f-I>0)=>?_
       .have u5:=u4.takeB (k:=I) ‹_› λj j1 j2 j3 i' i1 i2=>T.nay O (show u (At b j) (At a i)=e_ by rw[ι j j2,i_ (by lia)]) (by lia) ‹_› (by lia) (iF _);have eo:o3=((o.push (At b f))++(b.extract I f).reverse).map item:=by show(o.push (At b f)).map item++((b.map item).extract I f).reverse=_;simp
        rw[eo];refine bw (λd=>jH (G _ _ ⟨_,_6,.inl (u_ a_ ?_)⟩)) λd=>?_
        .obtain rfl:I=1:=nA d;exact u5.first hb η
        have d2:I≠1:=λz=>d (E_.mpr z);refine bw (λd=>jH (G _ _ ⟨_,_6,.inl (u_ a_ (u5.done (.inr (nA d))))⟩)) λd=>?_;have d3:I≠0:=λz=>d (E_.mpr z);obtain⟨I,rfl⟩:∃i,I=i+1:=⟨I-1,by lia⟩;exact J3 _ I u5 (by lia) ‹_› (by rw[ι I ‹_›,m_ (by lia)])
       .obtain rfl:I=f:=by lia
        obtain⟨f,rfl⟩:∃i,I=i+1:=⟨I-1,by lia⟩;exact J3 _ f u4 (by lia) ‹_› (by rw[ι f ‹_›,m_ ‹_›])
      refine bw (λ(c:v-k>0)=>?_) λ(c:¬v-k>0)=>?_
      .have u5:=k4.takeA (k:=k) ‹_› λi i1 i2 i3 j j1 j2=>T.yes O (show u (At b f) (At a i)=c_ by rw[nx i i2,m_ ‹_›]) ‹_› ‹_› (iF _) (by lia);have eo:o2=(o++(a.extract k v).reverse).map item:=by show o.map item++((a.map item).extract k v).reverse=_;simp
       rw[eo];refine bw (λd=>jH (G _ _ ⟨_,_6,.inl (u_ a_ (u5.done (.inl (nA d))))⟩)) λd=>?_;have d3:k≠0:=λz=>d (E_.mpr z);obtain⟨k,rfl⟩:∃i,k=i+1:=⟨k-1,by lia⟩;exact J2 _ k u5 ‹_› (by rw[nx k ‹_›,i_ (by lia)])
      .obtain rfl:k=v:=by lia
       obtain⟨v,rfl⟩:∃i,k=i+1:=⟨k-1,by lia⟩;exact J2 _ v k4 ‹_› (by rw[nx v ‹_›,i_ (by lia)])
     exact bw (λW=>J _) λW=>J _
    .rintro U st ⟨N,o,v,f,L,ac,bc,rfl,rfl,k1,H,k2,C,k3,k4⟩
     exact⟨N,_6,.inr ⟨o,v,f,L,ac,bc,_6,k1,H,k2,C,k3,k4⟩⟩
    .rintro⟨r,z⟩ st ⟨N,rfl,(e:r=_)|⟨o,v,f,L,ac,bc,eb,k1,H,k2,C,k3,k4⟩⟩
     .subst e;exact jH (hd _ _ ⟨N,_6,_6⟩)
     .cases eb;exact jC (Jt _6 (jH (hy _ _ ⟨_,o,v,f,_,_6,_6,k1,H,k2,C,by lia,k4⟩)))
  .rw[vL,show a.size+b.size=(a.size+b.size-1)+1 by lia,xB];exact λz=>by cases z
 .rintro U st ⟨N,o,ia,ib,k,rfl,rfl,h1,ψ,h2,χ,h3,h4⟩
  simp at h3
 .rintro⟨r,z⟩ st ⟨N,rfl,(e:r=_)⟩
  subst e;exact jH (q N)
end
end Pu
end
section
namespace Pu
open PySem.SeqAt PySem.W
def KB(k:g_):∀M i (c lP b:b_ α),_7 c=k+i->_7 lP=_7 M->(M.zipIdx i).foldl (λa x=>a.setIfInBounds (k+x.2) x.1) (c++lP++b).toArray=(c++M++b).toArray:=by
 intro M;induction M with
 |nil=>intro i c lP b _ h;rw[H_.mp h];rfl
 |cons m M f=>
  intro i c lP b g d
  match lP,d with
  |o::lP,d=>
   rw[List.zipIdx_cons,uZ];have e:(c++o::lP++b).toArray.setIfInBounds (k+(m,i).2) (m,i).1=((c++[m])++lP++b).toArray:=by rw[_L,show k+(m,i).2=_7 c by simp[g]];simp
   rw[e,f (i+1) _ lP b (by simp;lia) (by simpa using d)];simp
def Xl{a A:b_ g_}(h:i<_7 A):At (a++A++b).toArray (_7 a+i)=At A.toArray i:=by rw[xl,xl];simp[kI,kW,h]
noncomputable def YL(x:g_×g_×g_):g_×g_:=(x.1,x.2.1)
noncomputable def qu(i:g_):b_ (b_ g_)->b_ (g_×g_)
 |[]=>[]
 |r::a=>(i,r.length)::qu (i+_7 r) a
def Mb:∀a b i,qu i (a++b)=qu i a++qu (i+_7 a.flatten) b:=by
 intro a;induction a with
 |nil=>intro b i;simp[qu]
 |cons r a c=>intro b i;simp[qu,c,qF]
def Ph:∀X a i {u v} {Y},X++u::v::Y=qu i a->∃b A B c,a=b++A::B::c/\X=qu i b/\u=(i+_7 b.flatten,A.length)/\v=(i+_7 b.flatten+_7 A,B.length)/\Y=qu (i+_7 b.flatten+_7 A+_7 B) c:=by
 intro X;induction X with
 |nil=>
  intro a i u v Y h
  match a,h with
  |A::B::c,h=>simp only[qu,oX,I?]at h;exact⟨[],A,B,c,_6,_6,by simpa using h.1,by simpa using h.2.1,by simpa using h.2.2⟩
  |[A],h=>simp[qu]at h
  |[],h=>simp[qu]at h
 |cons x X d=>
  intro a i u v Y h
  match a,h with
  |r::a,h=>
   rw[qu,mI,I?]at h;obtain⟨b,A,B,c,l,j,g,f,e⟩:=d a _ h.2;refine⟨r::b,A,B,c,by rw[l];rfl,by rw[h.1,j];rfl,?_,?_,?_⟩
   .rw[g];simp[qF]
   .rw[f];simp[qF]
   .rw[e];simp[qF]
  |[],h=>simp[qu]at h
def RI(c:g_->g_->r_)(p:p_ g_)(a:p_ (g_×g_×g_))(cW:b_ g_):Prop:=∃b:b_ (b_ g_),p.toList=b.flatten++cW/\(∀r∈b,r≠[]/\r.Pairwise λx y=>c x y=c_)/\a.toList.map YL=qu 0 b
section
def Zj{st:nO}(h:Q ⟨⟩ a s):M_ (jG b w) A E (set a:_T nO Sem PUnit) Q st s:=by unfold M_;exact iB h
def EH(T:p5 n c a b):p5 n c (a.drop k) (b.take m):=
 ⟨T.sa.sublist (List.drop_sublist _ _),T.sb.sublist (j! _ _),λx h=>T.la x (rV h),λx h=>T.lb x (rW h),λx h y d=>T.ne x (rV h) y (rW d)⟩
def Sk{a L:b_ g_}(d:i=_7 a)(c:j=_7 a+_7 L):((a++L++b).toArray.map item).extract i j=L.toArray.map item:=by
 congr 1
 apply w!.mp;rw[iz,d,c];simp
def XG(P:si L w A s κ item n o)(O:Ord n o)(T:p5 n o d B)(ha:d≠[])(hb:B≠[])(M:p=(l++(d++B)++f).toArray)(lt:∀x∈p.toList,x<n)
  (p1:u[i]?=a_ (J,N,pw))(p2:u[i+1]?=a_ (v,Y,pw2))(e1:J=_7 l)(e2:N=_7 d)(e3:v=_7 l+_7 d)(e4:Y=_7 B)
  (q:∀I,Q c_ (gx κ item (l++mg o d B++f).toArray ((u.setIfInBounds i (J,N+Y,pw)).eraseIdxIfInBounds (i+1)) I) s):M_ (jG L w) A E (mergeAt' i) Q (gx κ item p u g) s:=by
 have la:=R_.mpr ha;have lb:=R_.mpr hb;have bn:BN n p:=λi h=>lt _ (wc h);have sz:p.size=_7 l+(_7 d+_7 B)+_7 f:=by rw[M];simp;lia
 have aA:∀j,j<_7 d->At p (J+j)=At d.toArray j:=λj G=>by rw[M,e1,show l++_++f=l++d++(B++f) by simp];exact Xl G
 have aB:∀j,j<_7 B->At p (v+j)=At B.toArray j:=λj G=>by rw[M,e3,show l++_++f=(l++d)++B++f by simp,<-iO];exact Xl G
 have Ta:=T;refine jC (tO ?_);show M_ _ _ _ (match (u[i]?,u[i+1]?)with|(a_ (J,N,ζ),a_ (v,Y,_))=>_|_=>_) _ _ _;rw[p1,p2];refine jC (Zj ?_);show M_ _ _ _ _ _ (gx κ item p ((u.setIfInBounds i _).eraseIdxIfInBounds (i+1)) g) _;generalize (u.setIfInBounds i _).eraseIdxIfInBounds (i+1)=C at q⊢;refine jC (gf (i:=v) (by lia) ?_);obtain⟨k,k1,k2⟩:=Ta.turnA O (ia:=0) (ib:=0) (m:=d.length) lb (by simp);have ν:At p v=At B.toArray 0:=aB 0 lb;refine jC (Gp (k:=k) (base:=J) (m:=N) (hint:=0) P (bn _ (by lia)) bn (by lia) (by lia) (by lia) (λj G=>?_) ?_)
 .have:=k2 j (by lia);unfold Ih at this⊢;rw[aA j (by lia),ν];simpa using this
 have ub:∀j,j<_7 d->o _ _=decide (k<=j):=λj G=>by
  have:=k2 j G;unfold Ih at this
  by_cases c:j<k
  .rw[m_ c]at this;rw[i_ (by lia)];simpa using this
  .rw[i_ c]at this;rw[m_ (by lia)];simpa using this
 obtain⟨y,b,rfl⟩:∃y r,B=y::r:=by cases B with
  |nil=>exact t_ _6 hb
  |cons y r=>exact⟨y,r,_6⟩
 have ey:At (y::b).toArray 0=y:=rfl;have ly:(y::b).length=_7 b+1:=rfl;have m1:mg o d (y::b)=d.take k++mg o (d.drop k) (y::b):=by rw[<-Z8 _ _ _ λx U=>?_,lA];obtain⟨j,j1,j2,rfl⟩:=sx U;have:=ub j (by simpa using j2);rw[i_ (by lia),ey]at this;exact this
 refine bw (λc=>?_) λc=>?_
 .have c':=nA c;have e:mg o d (y::b)=d++(y::b):=by rw[m1,lJ (by lia),pH (by lia),uh]
  have:=q g;rw[e,<-M]at this;exact jH this
 have c':N-k≠0:=λz=>c (E_.mpr z);have aL:At p (J+k+(N-k)-1)=At d.toArray (_7 d-1):=by
  rw[<-aA _ (by lia)]
  congr 1;lia
 refine jC (gf (i:=J+k+_-1) (by lia) ?_);obtain⟨m,k3,k4⟩:=Ta.turnB O (ia:=_7 d-1) (ib:=0) (m:=(y::b).length) (by simp;lia) (by simp);refine jC (Gp (k:=m) (base:=v) (m:=Y) (hint:=Y-1) P (bn _ (by lia)) bn (by lia) (by lia) (by lia) (λj G=>?_) ?_)
 .have:=k4 j (by lia);unfold Ih at this⊢;rw[aB j (by lia),aL];simpa using this
 have vb:∀j,j<(y::b).length->o _ _=decide (j<m):=λj G=>by have:=k4 j G;unfold Ih at this;rwa[iH _6,nZ]at this
 have m0:m≠0:=λz=>by have H:=ub k (by lia);rw[m_ (iF _)]at H;have h3:=vb 0 (by simp);rw[(Ta.yes O H (i':=_7 d-1) (j':=0) (by simp;lia) (by simp) (by lia) (iF _)),z]at h3;simp at h3
 refine bw (λc=>t_ (nA c) m0) λW=>?_;have m2:mg o (d.drop k) (y::b)=mg o (d.drop k) ((y::b).take m)++(y::b).drop m:=by rw[<-Z9 _ _ _ λx U z hz=>?_,lA];obtain⟨j,G,rfl⟩:=_b.mp U;obtain⟨j',μ,rfl⟩:=_b.mp hz;rw[lD]at G μ;have H:=vb (m+j') (by lia);rw[i_ (by lia)]at H;have:=Ta.nay O H (i':=k+j) (j':=m+j') (by simp;lia) (by simp;lia) (by lia) (iF _);rw[k8 (i:=m+j') (by simp;lia),k8 (i:=k+j) (by simp;lia)]at this;simpa using this
 have T2:p5 n o (d.drop k).toArray.toList ((y::b).take m).toArray.toList:=EH T;have U:((p.map item).extract (J+k) v)=(d.drop k).toArray.map item:=by
  rw[M,show l++_++f=(l++d.take k)++d.drop k++(y::b++f) by
   simp]
  exact Sk (by simp;lia) (by simp;lia)
 have hy:((p.map item).extract v (v+m))=((y::b).take m).toArray.map item:=by
  rw[M,show l++_++f=_++(y::b).take m++((y::b).drop m++f) by
   rw[kF (l++d),<-kF ((y::b).take m),lA];simp]
  exact Sk (by simp;lia) (by simp;lia)
 have α:∀I,M_ (jG L w) A E (do
   modify λs=>setArr s ((mR o item (d.drop k).toArray ((y::b).take m).toArray).toList.zipIdx.foldl _ _)
   return (V! (<-get)).isNone) Q (gx κ item p C I) s:=λI=>by
  refine jC (uT (jC (tO (jH ?_))));have e:(mR o item (d.drop k).toArray ((y::b).take m).toArray).toList.zipIdx.foldl (λa x=>a.setIfInBounds (J+k+x.2) x.1) (p.map item)=(l++mg o d (y::b)++f).toArray.map item:=by
   have ep:p.map item=((l++d.take k).map item++(d.drop k++(y::b).take m).map item++((y::b).drop m++f).map item).toArray:=by
    rw[M,<-kQ,<-kQ,List.map_toArray]
    congr 2
    rw[show(l++d.take k)++_++_=l++((d.take k++d.drop k)++((y::b).take m++(y::b).drop m))++f by simp only[kF],lA,lA]
   rw[ep,KB _ _ 0 _ _ _ (by simp;lia) ?_]
   .unfold mR;rw[m1,m2];simp
   .unfold mR;simp[Pf]
  show Q c_ (uG κ (_I _ (p.map item) _) C I d_) s;rw[e];exact q I
 have hf:o (At ((y::b).take m).toArray 0) (At (d.drop k).toArray 0)=c_:=by have H:=ub k (by lia);rw[xl,xl]at H⊢;simpa[x! m0]using H
 have hl:∀z∈((y::b).take m).toArray.toList,o z (At (d.drop k).toArray _)=c_:=λz hz=>by
  obtain⟨j,j1,j2,rfl⟩:=sx hz;have H:=vb j (by simpa using j2);rw[m_ j1]at H;have:At (d.drop k).toArray ((d.drop k).toArray.size-1)=At d.toArray (_7 d-1):=by
   rw[xl,xl];simp
   congr 2;lia
  rwa[this]
 have s1:0<(d.drop k).toArray.size:=by simp;lia
 have s2:0<((y::b).take m).toArray.size:=by simp;lia
 refine bw (λW=>jC ?_) λW=>jC ?_
 .show M_ _ _ _ (L0 ((p.map item).extract _ v) ((p.map item).extract v _)) _ _ _;rw[U,hy];exact XD P O T2 s1 s2 hf hl λI=>α I
 .show M_ _ _ _ (Lz ((p.map item).extract _ v) ((p.map item).extract v _)) _ _ _;rw[U,hy];exact XE P O T2 s1 s2 hf hl λI=>α I
end
end Pu
end
section
namespace Pu
open PySem.SeqAt PySem.W
def UE:∀(l:b_ α) i,i+1<_7 l->∃X u v Y,l=X++u::v::Y/\_7 X=i:=by
 intro l;induction l with
 |nil=>intro i h;exact t_ h (vC _)
 |cons a l c=>
  intro i h;cases i with
  |zero=>
   cases l with
   |nil=>exact t_ h (by simp)
   |cons b l=>exact⟨[],a,b,l,_6,_6⟩
  |succ i=>obtain⟨X,u,v,Y,e,d⟩:=c i (by simpa using h);exact⟨a::X,u,v,Y,by rw[e];rfl,by rw[iC,d]⟩
def UI{u v a:α}{Y:b_ α}:∀X,((X++u::v::Y).set X.length a).eraseIdx (_7 X+1)=X++a::Y:=by
 intro X;induction X with
 |nil=>rfl
 |cons x X b=>rw[mI,iC,mL,List.eraseIdx_cons_succ,b];rfl
def LM{α:Type}{a:p_ α}{X Y:b_ α}{u v u':α}(h:a.toList=X++u::v::Y)(b:_7 X=i):((a.setIfInBounds i u').eraseIdxIfInBounds (i+1)).toList=X++u'::Y:=by subst b;rw[<-Array.toArray_toList (xs:=a),h];rw[_L,tX];exact UI X
section
def NW{i:g_}{cW:b_ g_}{Q:r_->nO->jP->Prop}(P:si u w A s κ item n d)(O:Ord n d)(N:eU n p)(R:RI d p a cW)(hi:i+1<a.size)
  (q:∀M b g',eU n M->RI d M b cW->b.size+1=a.size->Q c_ (gx κ item M b g') s):M_ (jG u w) A E (mergeAt' i) Q (gx κ item p a g) s:=by
 obtain⟨rs,h1,I,h3⟩:=R;obtain⟨X,⟨B,H,pw⟩,⟨sb,G,L⟩,Y,e,eX⟩:=UE a.toList i (by simpa using hi);rw[e,kQ,iJ,iJ]at h3;obtain⟨J,o,m,r2,rfl,k1,k2,k3,k4⟩:=Ph _ _ _ h3;obtain⟨c,j⟩:=Prod.mk.inj k2;obtain⟨v,f⟩:=Prod.mk.inj k3;rw[nZ]at c v k4;replace c:B=_:=c;replace j:H=_:=j;replace f:G=_:=f;have U:=I o (by simp);have hB:=I m (by simp);have C:p.toList=J.flatten++(o++m)++(r2.flatten++cW):=by rw[h1];simp
 have lt:∀x∈p.toList,x<n:=λx h=>v_.mp (N.mem_iff.mp h);have nd:=(N.nodup_iff).mpr xA;have ab:∀x∈o++m,x∈p.toList:=λx h=>by rw[C];exact kE _ (kS _ h)
 have T:p5 n d o m:=⟨U.2,hB.2,λx h=>lt x (ab x (kE _ h)),λx h=>lt x (ab x (kS _ h)),λx h y h'=>by
  rw[C,kF,rL]at nd;have:=(O_.mp nd.2.1).1;exact(O_.mp this).2.2 x h y h'⟩
 have p1:a[i]?=a_ (B,H,pw):=by rw[<-jO,e,<-eX];simp
 have p2:a[i+1]?=a_ (sb,G,L):=by rw[<-jO,e,<-eX];simp
 refine XG P O T U.1 hB.1 (by rw[<-C]) lt p1 p2 c j v f λg'=>?_;have pe:=LM (u':=(B,H+G,pw)) e eX;refine q _ _ _ ?_ ⟨J++mg d o m::r2,by simp,λr l=>?_,?_⟩ ?_
 .refine List.Perm.trans ?_ N;rw[C];exact((C9 o m).append_left _).append_right _
 .rcases s_.mp l with l|l
  .exact I r (kE _ l)
  .rcases l_.mp l with rfl|l
   .refine⟨λz=>?_,XF O _ _ T⟩;have l1:=u_ mD z;rw[Pf]at l1;have l2:=R_.mpr U.1;rw[lB]at l1
    lia
   .exact I r (kS _ (.tail _ (.tail _ l)))
 .rw[pe,kQ,iJ,Mb,qu,k1,k4,nZ];show qu 0 J++(B,H+G)::_=_;rw[c,j,f,Pf,qF]
 .have e1:=u_ mD pe;have e2:=u_ mD e;rw[iP,iO,iC]at e1 e2;rw[iC]at e2
  lia
def SoR.pw{lo:g_}(h:SoR c p lo d)(f:d<=p.size):((p.toList.drop lo).take (d-lo)).Pairwise λx y=>c x y=c_:=by rw[F_];intro i j b a e;rw[lX,lD,iP]at b a;have:=h (lo+i) (lo+j) (mO ..) (by lia) (by lia);rw[k8 (by lia),k8 (by lia)]at this;simpa using this
def GK{lo:g_}(h:Eo p a lo f)(b:a.size=p.size)(e:lo<=p.size):a.toList.take lo=p.toList.take lo:=by
 apply qQ
 .simp[b]
 intro i d c;rw[lX,iP]at d c;have:=h i (.inl (by lia));rw[k8 (by lia),k8 (by lia)]at this;simpa using this
def RI.pd(R:RI c p b cW)(h:a.toList.map YL=b.toList.map YL):RI c p a cW:=by obtain⟨d,g,f,e⟩:=R;exact⟨d,g,f,h.trans e⟩
def KY(i k:g_):∀l:b_ (g_×g_×g_),(l.modify i λx=>(x.1,x.2.1,k)).map YL=l.map YL:=by
 intro l;induction l generalizing i with
 |nil=>cases i<;>rfl
 |cons a l b=>
  cases i with
  |zero=>rfl
  |succ i=>rw[List.modify_succ_cons,iJ,iJ,b]
def RI.push{lo:g_}(R:RI c p a cW)(m:lo+_7 cW=p.size)(l:1<=k)(g:k<=_7 cW)(h:(cW.take k).Pairwise λx y=>c x y=c_):RI c p (a.push (lo,k,0)) (cW.drop k):=by
 obtain⟨d,f,j,i⟩:=R;have e:=u_ mD f;rw[iP,iO]at e;refine⟨d++[cW.take k],by rw[f];simp,λr b=>?_,?_⟩
 .rcases s_.mp b with b|b
  .exact j r b
  .rw[q_.mp b];refine⟨λz=>?_,h⟩;have:=u_ mD z;rw[lX,lB]at this
   lia
 .rw[W?,kQ,i,Mb,nZ,show _7 d.flatten=lo by lia]
  congr 1
  rw[iJ,nI,qu,lX,xY g];rfl
inductive U1(κ:tM)(item:g_->nG)(cmp:g_->g_->r_)(n N:g_){β:Type}(b:f_ β×g_)(st:nO):Prop
 |mk (p pend g cW) (_:b=(d_,n-cW.length)) (_:st=gx κ item p pend g) (_:eU n p) (_:RI cmp p pend cW) (_:cW.length<=N):U1 κ item cmp n N b st
inductive U0(κ:tM)(item:g_->nG)(cmp:g_->g_->r_)(n:g_){β:Type}(b:f_ β×g_)(st:nO):Prop
 |mk (p pend g lo) (_:b=(d_,lo)) (_:st=gx κ item p pend g) (_:eU n p) (_:RI cmp p pend []):U0 κ item cmp n b st
inductive U2(κ:tM)(item:g_->nG)(cmp:g_->g_->r_)(n:g_)(cW:b_ g_){β:Type}(b:f_ β×Unit)(st:nO):Prop
 |mk (x y z) (_:b=(d_,())) (_:st=gx κ item x y z) (_:eU n x) (_:RI cmp x y cW):U2 κ item cmp n cW b st
inductive U3(κ:tM)(item:g_->nG)(cmp:g_->g_->r_)(n N:g_){β:Type}(b:f_ β×Unit)(st:nO):Prop
 |mk (x y z) (_:b=(d_,())) (_:st=gx κ item x y z) (_:eU n x) (_:RI cmp x y []) (_:y.size<=N):U3 κ item cmp n N b st
def UP{Q:Unit->nO->jP->Prop}(P:si L w A s κ item n o)(O:Ord n o)(h2:2<=n)
  (q:∀p f g,eU n p->So o p n->Q () (gx κ item p f g) s):M_ (jG L w) A E sortRuns' Q (gx κ item (jD n).toArray #[] 7) s:=by
 rw[sortRuns'_eq];refine jC (tO ?_);have sz:(arrOf (gx κ item (jD n).toArray #[] 7)).size=n:=by show((jD n).toArray.map item).size=n;simp
 dsimp -zeta only;rw[sz]
 extract_lets size G
 have es:size=n:=rfl
 clear_value G
 refine jC (nL (nv (λl=>U1 κ item o n l.length)
  (U0 κ item o n) ?_ ?_ ?_ _ _ _ ⟨(jD n).toArray,#[],7,jD n,by rw[kG,Nat.sub_self],_6,pK _,⟨[],by simp,by simp,_6⟩,by simp[es]⟩))
 .rintro x l b st Q' ⟨p,f,g,cW,rfl,rfl,T,R,U⟩ hy hd
  have hsz:=T.size;have υ:_7 cW<=n:=by
   obtain⟨u,h1,_⟩:=R;have:=u_ mD h1;rw[iP,iO]at this
   lia
  dsimp -zeta only
  extract_lets lo jp γ nn
  have elo:lo+_7 cW=n:=Nat.sub_add_cancel υ;have fr:γ=min (size-lo) G:=rfl
  clear_value lo
  have J:∀k I,eU n I->1<=k->k<=_7 cW->SoR o I lo (lo+k)->Eo p I lo n->M_ (jG L w) A E (jp () k) Q' (gx κ item I f g) s:=by
   intro k I H k1 k2 hs he;have hz':=H.size;have lr:(I.toList.drop lo).length=_7 cW:=by rw[lD,iP];lia
   have R':RI o I f (I.toList.drop lo):=by
    obtain⟨u,N,a2,a3⟩:=R;refine⟨u,?_,a2,a3⟩;have:u.flatten=p.toList.take lo:=by have:=u_ mD N;rw[iP,iO]at this;rw[N,List.take_left' (by lia)]
    rw[this,<-GK he (by lia) (by lia),lA]
   have Y:=SoR.pw hs (by lia);rw[tB]at Y;generalize I.toList.drop lo=z at R' lr Y;refine jC (tO ?_)
   extract_lets lo2 ρ
   have J2:∀B e g2,eU n B->RI o B e z->M_ (jG L w) A E (ρ ()) Q' (gx κ item B e g2) s:=by
    intro B e g2 j R2;have hz2:=j.size;refine jC (uT (jH (hy _ _ ⟨B,e.push (lo,k,0),g2,z.drop k,?_,_6,j,R2.push (by lia) k1 (by lia) Y,?_⟩)))
    .show(d_,lo+k)=_;rw[lD]
     congr 1
     lia
    .rw[lD];rw[iC]at U
     lia
   show M_ _ _ _ (match f.back? with|some (s1,n1,snd)=>_|x=>_) _ _ _;cases hb:f.back? with
   |none=>exact J2 _ _ _ H R'
   |some v=>
    obtain⟨s1,n1,v3⟩:=v;dsimp -zeta only
    extract_lets pw
    clear_value pw
    refine jC (nL (nv (λW=>U2 κ item o n z)
     (U2 κ item o n z) ?_ (λW W h=>h) ?_ _ _ _ ⟨I,f,g,_6,_6,H,R'⟩))
    .rintro x l b st Q2 ⟨B,e,g2,rfl,rfl,j,R2⟩ α M
     refine jC (tO ?_);show M_ _ _ _ (match (if e.size>1 then e[e.size-2]? else d_)with|some (fst,Γ,ξ)=>_|x=>_) _ _ _
     by_cases c:e.size>1
     .rw[iH c];cases hv:e[e.size-2]? with
      |none=>exact jH (M _ _ ⟨B,e,g2,_6,_6,j,R2⟩)
      |some v=>obtain⟨v1,v2,lP⟩:=v;exact bw (λW=>jH (M _ _ ⟨B,e,g2,_6,_6,j,R2⟩)) λW=>(jC (NW (i:=e.size-2) P O j R2 (by lia) λp3 C g3 β R3 W=>(jH (α _ _ ⟨p3,C,g3,_6,_6,β,R3⟩))))
     .rw[iG c];exact jH (M _ _ ⟨B,e,g2,_6,_6,j,R2⟩)
    .rintro b st ⟨B,e,g2,rfl,rfl,j,R2⟩
     dsimp only;refine jC (uT (J2 B (e.modify (e.size-1) λx=>(x.1,x.2.1,pw)) g2 j (R2.pd ?_)));rw[Array.toList_modify];exact KY _ _ _
  refine bw (λc=>?_) λc=>?_
  .refine jH (hd _ _ ⟨p,f,g,lo,_6,_6,T,?_⟩);rw[es]at c;have:cW=[]:=H_.mp (by lia);rwa[this]at R
  rw[es]at c;refine jC (GV P O T (by lia) (by lia) λm I H m1 m2 hs he=>?_);dsimp -zeta only
  extract_lets n0
  have en:n0=m:=rfl;have η:Eo p I lo n:=by rw[show lo+(size-lo)=n by lia]at he;exact he
  refine bw (λd=>?_) λd=>?_
  .refine jC (vO (nJ (jC (WI P O H (by lia) ‹_› (by lia) hs λp'' ζ τ χ=>(J _ _ ζ (by lia) (by lia) τ λi hi=>?_)))));rw[χ i (by lia),η i hi]
  .exact J _ _ H ‹_› (by lia) hs η
 .rintro b st ⟨p,f,g,cW,rfl,rfl,T,R,U⟩
  have:cW=[]:=H_.mp (by simpa using U);subst this;exact⟨p,f,g,_,_6,_6,T,R⟩
 .rintro b st ⟨p,f,g,lo,rfl,rfl,T,R⟩
  dsimp only;have hz:=T.size;have ps:f.size<=n:=by
   obtain⟨u,N,a2,a3⟩:=R;have e1:=u_ mD N;have e3:=u_ mD a3;have:∀u i,(∀r∈u,r≠[])->(qu i u).length<=_7 u.flatten:=by
    intro u;induction u with
    |nil=>intro i _;exact iF _
    |cons r u ih=>
     intro i h;have:=ih (i+_7 r) λr hr=>h r (.tail _ hr);have h0:=R_.mpr (h r (.head _));rw[qu,nX,iC,iO]
     lia
   have:=this u 0 λr hr=>(a2 r hr).1;rw[iP,iO,lB]at e1;rw[iD,iP]at e3
   lia
  refine jC (nL (nv (λl=>U3 κ item o n (_7 l+1))
   (U3 κ item o n 1) ?_ ?_ ?_ _ _ _ ⟨p,f,g,_6,_6,T,R,by simp;lia⟩))
  .rintro x l b st Q2 ⟨B,e,g2,rfl,rfl,j,R2,U⟩ α M
   refine jC (tO ?_);show M_ _ _ _ (if e.size<=1 then _ else _) _ _ _;refine bw (λc=>jH (M _ _ ⟨B,e,g2,_6,_6,j,R2,c⟩)) λc=>(jC (NW P O j R2 (?_:(if _ then e.size-2-1 else e.size-2)+1<e.size) λp3 C g3 β R3 hs3=>?_))
   .have:∀c [Decidable c],(if c then e.size-2-1 else e.size-2)+1<e.size:=λc W=>by split<;>lia
    exact this _
   refine jH (α _ _ ⟨p3,C,g3,_6,_6,β,R3,?_⟩);rw[iC]at U
   lia
  .rintro b st ⟨B,e,g2,rfl,rfl,j,R2,U⟩
   exact⟨B,e,g2,_6,_6,j,R2,by simpa using U⟩
  .rintro b st ⟨B,e,g2,rfl,rfl,j,R2,U⟩
   refine jH (q _ _ _ j ?_);obtain⟨u,N,a2,a3⟩:=R2;have e3:=u_ mD a3;have ol:∀u i,(qu i u).length=_7 u:=by
    intro u;induction u with
    |nil=>intro i;rfl
    |cons r u ih=>intro i;rw[qu,iC,iC,ih]
   rw[iD,iP,ol]at e3;have pw:B.toList.Pairwise λx y=>o x y=c_:=by
    match u,e3,N,a2 with
    |[],_,N,_=>rw[N];exact qB
    |[r],_,N,a2=>rw[N,nX,H!,jX,jX];exact(a2 r (.head _)).2
    |r::r'::u,e3,_,_=>rw[iC,iC]at e3;lia
   intro a b ψ hb;exact Mo pw ψ (by rw[j.size];exact hb)
end
end Pu
end
namespace Pu
open L2 PySem.SeqAt PySem.W
def PM(i j:j_):lC (.int i) (.int j)=(i==j):=by rw[lC]
theorem K3:∀(c d:b_ j_),qL (c.map .int) (d.map .int)=decide (c=d)
 |[],[]=>by simp[qL]
 |[],_::_=>by simp[qL]
 |_::_,[]=>by simp[qL]
 |i::c,j::d=>by
  rw[iJ,iJ,qL,K3 c d,PM]
  by_cases h:i=j<;>simp[h]
theorem rh:∀(k l:b_ j_),lq (k.map .int) (l.map .int)=a_ (decide (k<l))
 |[],[]=>by simp[lq]
 |[],_::_=>by simp[lq]
 |_::_,[]=>by simp[lq]
 |i::k,j::l=>by
  rw[iJ,iJ,lq,rh k l,PM];show a_ _=_
  congr 1
  by_cases h:i=j
  .subst h;simp
  .simp[uB,h]
def ko:∀k:b_ j_,jN (k.map .int)=c_:=by
 intro a;induction a with
 |nil=>exact _6
 |cons i k b=>rw[iJ,jN,b];rfl
def Kr:∀k:b_ j_,lF (k.map .int)=0:=by
 intro a;induction a with
 |nil=>exact _6
 |cons i k b=>rw[iJ,lF,b];rfl
section
def V0(q:Q (decide (i<j)) s):jK (jG a w) A (oneLt' b (.int i t) (.int j u)) Q E s:=by
 cases b with
 |true=>exact oneLt_int q
 |false=>exact kat_one _ _ (vI q)
theorem Zk:∀(c d:b_ j_) l j i o bs a,ReadsAll s.1 l (c.map .int) o->ReadsAll s.1 j (d.map .int) bs->
  A.units<lN->a=decide (_7 c<_7 d)->Q (decide (c<d)) s->KatLex m w A b a Q (l.zip j) i s
 |[],[],l,j,i,o,bs,a,g,f,n,h,q=>by cases g;cases f;subst h;exact kat_nil (by simpa using q)
 |[],y::u,l,j,i,o,bs,a,g,f,n,h,q=>by cases g;cases f;subst h;exact kat_nil (by simpa using q)
 |x::xs,[],l,j,i,o,bs,a,g,f,n,h,q=>by cases g;cases f;subst h;exact kat_nil (by simpa using q)
 |x::xs,y::u,_,_,i,_,_,a,g,f,n,h,q=>by
  cases g with
  |@cons v J _ _ I H r C=>
   cases f with
   |@cons L B _ _ G E z p=>
    refine kat_cons (eqAt_reads _ _ A s _ _ _ _ r z _6 _6 n m w _ _ ?_);rw[PM]
    by_cases e:x=y
    .subst e;rw[W_];refine kat_yes (Zk xs u _ _ _ _ _ _ C p n (by rw[h];simp) ?_);simpa using q
    .have:(x==y)=e_:=by simpa using e
     rw[this];cases r;cases z;refine V0 ?_;simpa[uB,e]using q
def Q1(h:C_)(b:r_)(v:jB)(k:b_ j_):Prop:=if b then∃a,wF h v (.tuple (k.map .int)) a else∃i t,v=.int i t/\k=[i]
def HC{k:b_ j_}(j:wF s.1 x (.tuple (k.map .int)) L)(i:wF s.1 y (.tuple (l.map .int)) bs)(I:A.units+1<lN)(h:Q (decide (k<l)) s):
  jK (jG d w) A (keyLt' (tuples' b) x y) Q E s:=by
 cases j with
 |@tuple a o g n _ B v J u f=>
  cases i with
  |@tuple M C c G _ z r H q e=>
   have p:g.size=_7 k:=by simpa using ReadsAll.length _ _ _ f
   have m:c.size=_7 l:=by simpa using ReadsAll.length _ _ _ e
   exact kat_lt v u r q (Zk k l _ _ 0 _ _ _ f e (by lia) (by rw[p,m]) h)
def Gh(k:b_ j_):oM (.tuple (k.map .int))<=1:=by rw[oM,Kr];lia
def HF{k:b_ j_}(c:wF s.1 x (.tuple (k.map .int)) f)(b:wF s.1 y (.tuple (l.map .int)) bs)(d:A.units+1<lN)(h:Q (decide (k<l)) s):
  jK (jG a w) A (keyLt' general' x y) Q E s:=by
 have e:=Gh k;exact kat_one _ _ (y7 _ _ A s _ _ _ _ _ c b (ko k) (ko l) (by lia) (rh k l) a w _ _ h)
def HD{k:b_ j_}(C:wF s.1 x (.tuple (k.map .int)) as)(B:wF s.1 y (.tuple (l.map .int)) bs)(hu:A.units+1<lN)(h:Q (decide (k<l)) s):
  jK (jG u w) A (keyLt' oneType' x y) Q E s:=by
 rw[keyLt'_oneType,oneLt'_eq];have d2:=Gh l;have q:A.units+min (oM (.tuple (k.map .int))) (oM (.tuple (l.map .int)))<lN:=by lia
 refine iA (wpAny_cRoomFor (by lia) ?_);cases C with
 |@tuple a o c n _ γ i T O g=>
  cases B with
  |@tuple a' G b J _ β N M L f=>
   have I:c.size=(k.map lK).length:=by simpa using ReadsAll.length _ _ _ g
   have H:b.size=(l.map lK).length:=by simpa using ReadsAll.length _ _ _ f
   obtain⟨cl,Y,dt,v⟩:=o;obtain⟨α,m,U,d⟩:=G;subst T O M L;refine iA (wpAny_callSpecialIfBound?_slot ⟨_,i,_6⟩ vB (sQ vB ⟨_,i,_6⟩ wZ (wI _ _) (Qr a a' c b n J Y m v d (pairEq (k.map .int) (l.map .int)) (rp (k.map .int) (l.map .int))) ⟨i,N,λj p r=>⟨?_,λW=>?_⟩,?_⟩))
   .have z:=eqAt_readsAll _ _ A.in1 s c.toList b.toList _ _ g f (ko k) (ko l) (room_in q) j (by simpa using p) (by simpa using r);simpa using z
   .have z:=rk _ _ A.in1 s c.toList b.toList _ _ _ g f (ko k) (ko l) (room_in q) (rh k l) j (by simpa using p) (by simpa using r);simpa using z
   .have e:=Je (rh k l);rw[<-I,<-H]at e;rw[e];exact lZ h
def hW(s:jP)(b:r_):b_ jB->b_ (b_ j_)->Prop
 |[],[]=>_u
 |v::a,k::c=>Q1 s.1 b v k/\hW s b a c
 |_,_=>T_
theorem hW.len:∀{c}{d},hW s b c d->_7 d=_7 c
 |[],[],_=>rfl
 |[],_::_,h=>h.elim
 |_::_,[],h=>h.elim
 |v::c,k::d,a=>by obtain⟨_,h⟩:=a;rw[iC,iC,hW.len h]
theorem hW.get:∀{a}{c},hW s b a c->∀{i},i<_7 a->Q1 s.1 b (a.getD i nB) (c.getD i [])
 |[],_,_,i,h=>by simp at h
 |_::_,[],h,_,_=>h.elim
 |v::a,k::c,e,0,_=>by obtain⟨g,_⟩:=e;exact g
 |v::a,k::c,d,i+1,f=>by obtain⟨_,h⟩:=d;have:=hW.get h (by simpa using f);simpa using this
theorem hW.mem:∀{c}{e},hW s b c e->∀v∈c,∃k,Q1 s.1 b v k
 |[],_,_,v,h=>by cases h
 |_::_,[],h,_,_=>h.elim
 |v::c,k::e,a,x,d=>by
  obtain⟨f,h⟩:=a;rcases l_.mp d with rfl|d
  .exact⟨k,f⟩
  .exact hW.mem h x d
def Lv{f:α->Sem β}{P:β->Prop}{Q:b_ β->jP->Prop}:∀(a:b_ α),(∀v∈a,∀g,(∀r,P r->g r s)->jK (jG b w) A (f v) g E s)->(∀c,(∀r∈c,P r)->Q c s)->jK (jG b w) A (a.mapM f) Q E s:=by
 intro a;induction a generalizing Q with
 |nil=>intro _ q;exact iB (q [] λr h=>nomatch h)
 |cons v a i=>
  intro h q;rw[List.mapM_cons];refine iA (h v (.head _) _ λr l=>iA (i (λu j=>h u (.tail _ j)) λc e=>iB (q _ λx d=>?_)));rcases l_.mp d with rfl|d
  .exact l
  .exact e x d
def Ss{a:b_ jB}(h:∀v∈a,∃T,s.TypeIs v T)(q:∀r,Q r s):jK (jG b w) A (oneTypeOnly' a.toArray) Q E s:=by
 rw[oneTypeOnly'_eq,y!,map_eq_pure_bind];refine iA (iA (Lv (P:=λz=>_u) a (λv c g d=>?_) λf z=>iB ?_))
 .obtain⟨T,e⟩:=h v c;exact pF e (d _ trivial)
 .split
  .exact iB (q _)
  .exact iB (q _)
def Zq{m:b_ jB}(h:∀v∈m,∃k,Q1 s.1 c_ v k)(J:∀b,Q (tuples' b) s)(B:Q general' s)(I:Q oneType' s):jK (jG C w) A (keyKind' m.toArray) Q E s:=by
 rw[keyKind'_eq,y!,map_eq_pure_bind];refine iA (iA (Lv (P:=λr=>∀v,r=a_ v->∃i t,v=.int i t) m (λv f U M=>?_) λz p=>iB ?_))
 .obtain⟨k,O,r⟩:=h v f;cases r with
  |@tuple a o l n _ y j q G g=>
   refine iA (pF ⟨o,j,q⟩ (iA (listItems_at j G (iB (M _ λu c=>?_)))));rw[<-jO]at c;cases k with
   |nil=>
    cases d:l.toList with
    |nil=>rw[d]at c;cases c
    |cons x xs=>rw[d]at g;cases g
   |cons i k=>
    cases d:l.toList with
    |nil=>rw[d]at c;cases c
    |cons x xs=>
     rw[d]at g c;cases c;cases g with
     |cons H T=>cases H with
      |int _ t=>exact⟨_,_,_6⟩
 .split
  .refine iA (nJ (iA ?_));have e:z.toArray.filterMap id=(z.filterMap id).toArray:=by simp
   rw[e];refine Ss (λv f=>?_) λr=>iB (J _);obtain⟨r,L,N⟩:=U_.mp f;obtain⟨i,t,rfl⟩:=p r L v N;exact⟨"int",x? s i t⟩
  .split
   .exact iB B
   .refine iA (Ss (λv f=>?_) λr=>?_)
    .obtain⟨k,O,r⟩:=h v f;cases r with
     |@tuple a o l n _ y j q G g=>exact⟨"tuple",o,j,q⟩
    .split
     .exact iB I
     .exact iB B
noncomputable def N2(a:b_ (b_ j_))(i j:g_):r_:=decide (a.getD i []<a.getD j [])
def AJ(d:a.Nodup):Ord a.length (N2 a) where
 as:=λi j c b ne=>by
  have e:a.getD i []≠a.getD j []:=by
   rw[show a.getD i []=a[i] by simp[c],show a.getD j []=a[j] by simp[b]];have pw:=F_.mp d;rcases sS ne with q|q
   .exact pw i j c b q
   .exact(pw j i b c q).symm
  unfold N2
  by_cases z:a.getD i []<a.getD j []
  .have:¬a.getD j []<a.getD i []:=λy=>rX _ (sM z y);rw[m_ z,i_ this];rfl
  .have:=z! z (pE e);rw[m_ this,i_ z];rfl
 tr:=λi j k n n n g f=>by exact m_ (sM (A_ g) (A_ f))
def Hx(a:kR)(w:mG)(A:oN)(d b:b_ jB)(R:p_ g_->Prop)(s:jP):Prop:=
 ∀E:jB->jP->Prop,jK (jG a w) A (keyKind' d.toArray) (λκ e=>e=s/\∀f:jB->jP->Prop,jK (jG a w) A (sortRuns'.run (uG κ (d.toArray.zip b.toArray) #[] 7 d_)) (λr c=>
  c=s/\V! r.2=d_/\∃p:p_ g_,R p/\p.size=_7 b/\(arrOf r.2).map (·.2)=o? (p.toList.map λi=>b.getD i nB)) f s) E s
def UQ{b:r_}{vs:b_ jB}{G:b_ (b_ j_)}(f:hW s b vs G)(N:2<=_7 vs)(U:G.Nodup)(I:A.units+1<lN):
  Hx a w A vs vs (λp=>eU vs.length p/\So (N2 G) p vs.length) s:=by
 intro E;have o:=AJ U;rw[f.len]at o;have B:∀κ,si a w A s κ _ vs.length _->s=s/\∀J,jK _ A (sortRuns'.run _) (λr C=>
  C=s/\V! r.2=d_/\∃p:p_ g_,_/\p.size=_7 vs/\(arrOf r.2).map (·.2)=o? _) J s:=λκ P=>by
  refine⟨_6,λJ=>?_⟩;have r:=UP (E:=J) (Q:=λW st O=>O=s/\V! st=d_/\∃p,(eU vs.length p/\So _ p vs.length)/\p.size=_7 vs/\(arrOf st).map (·.2)=o? (p.toList.map λi=>vs.getD i nB)) P o N λp L g M Y=>⟨_6,_6,p,⟨M,Y⟩,M.size,kat_snds _6 _6⟩;have e:=kas_range (vs.toArray.zip vs.toArray);rw[show(vs.toArray.zip vs.toArray).size=_7 vs by simp]at e;unfold gx at r;rw[e]at r;exact r
 have it:∀i,i<_7 vs->(kas_item _ i).1=vs.getD i nB:=λi m=>by rw[kat_item _6]
 cases b with
 |true=>
  have P:∀κ,(∀x y (k l:b_ j_) z bs (Q:r_->jP->Prop),wF s.1 x (.tuple (k.map .int)) z->wF s.1 y (.tuple (l.map .int)) bs->Q (decide (k<l)) s->jK _ A (keyLt' κ x y) Q _ s)->si a w A s κ _ vs.length _:=λκ h i j m n Q q=>by obtain⟨z,d⟩:=f.get m;obtain⟨bs,c⟩:=f.get n;rw[it i m,it j n];exact h _ _ _ _ _ _ Q d c q
  exact Zq (λv H=>f.mem v H) (λb=>B _ (P _ λx y k l z bs Q d c q=>HC d c I q)) (B _ (P _ λx y k l z bs Q d c q=>HF d c I q)) (B _ (P _ λx y k l z bs Q d c q=>HD d c I q))
 |false=>
  refine kas_kind N (T:=.type "int") (λv H=>?_) (by decide) (by decide) (B _ λi j m n Q q=>?_)
  .obtain⟨k,i,t,rfl,_⟩:=f.mem v H;exact Looks.of_pure _6
  .obtain⟨x,t,e1,e2⟩:=f.get m;obtain⟨y,u,e3,e4⟩:=f.get n;rw[it i m,it j n,e1,e3];refine kat_lt_int ?_;unfold N2 at q;rw[e2,e4]at q;simpa[uB]using q
end
noncomputable def ID(h:C_)(a:o_)(b:b_ jB):C_:=((h.update a (vV λz=>(#[]:p_ jB))).push (A! "tuple" b.toArray 0)).push (A! "list" #[] 0)
def AZ(e:h.get? b=a_ o)(ne:b≠a):(ID h a c).get? b=a_ o:=by refine iE _ (iE _ ?_);rwa[O? _ _ _ _ ne]
def OutOf(R:p_ g_->Prop)(a b:b_ jB):Prop:=(_7 a<2/\b=a)\/(2<=_7 a/\∃p:p_ g_,R p/\p.size=_7 a/\b=p.toList.map λi=>a.getD i nB)
def OutOf.len(h:OutOf R b a):_7 a=_7 b:=by
 obtain ⟨_,rfl⟩|⟨_,p,_,c,rfl⟩:=h
 .rfl
 .rw[iD,iP,c]
section
def Qe(o:s.1.get? a=a_ (A! "list" b.toArray n))(H:_7 b<=100000)(C:2<=_7 b->Hx f w A b b R {s with heap:=ID s.1 a b})
  (h:∀j,OutOf R b j->P (.done (.ret .none)) {s with heap:=sortedHeap s.1 a b j.toArray}):jK (jG f w) A (K_.«list.sort» ⟨[.ref a],[]⟩) P E s:=by
 have q:_7 b<=iN:=by rw[kP];lia
 obtain⟨v,l⟩:∃v,(s.1.update a _).get? a=a_ (A! "list" #[] v):=⟨_,get?_update_seq o λY=>#[]⟩;have c:(ID s.1 a b).get? a=a_ _:=iE _ (iE _ l);rw[list_sort_plain];refine iA (listItems_at o _6 (iA (P? o _6 (iA (W! l _6 (iA (C? (iA (wpAny_newList (kY ?_) (jW _))) q)))) (by simpa using q) (jW _))));dsimp only
 by_cases e:b.toArray.size<2
 .have d:_7 b<2:=by simpa using e
  rw[iH e,iH e];refine iA (iB (iA (iB ?_)));have em:Array.map (λx:nG=>x.2) (b.toArray.zip b.toArray)=b.toArray:=by apply w!.mp;rw[Array.toList_map,Array.toList_zip];exact List.map_snd_zip (iF _)
  rw[em];refine iA (W! c _6 (iA (P? c _6 ?_ (jW _) (kC (oJ (jS ..)) (by lia)))));simp only[_F];exact iB (h b (.inl ⟨d,_6⟩))
 .have d:2<=_7 b:=by simpa using e
  rw[iG e,iG e];refine iA (kN (C d _) (λκ y g=>?_) λY Y x=>x);obtain⟨rfl,g⟩:=g;refine iA (kN (g _) (λr y g=>?_) λY Y x=>x);obtain⟨rfl,B,p,z,u,m⟩:=g;rw[m,B];have G:(p.toList.map λi=>b.getD i nB).length<=iN:=by rwa[iD,iP,u]
  refine iA (W! c _6 (iA (P? c _6 ?_ (jW _) (kC (oJ (jS ..)) (by lia)))));simp only[_F];exact iB (h _ (.inr ⟨d,p,z,u,_6⟩))
end
noncomputable def XR:D->f_ j_
 |.int i=>a_ i
 |_=>d_
noncomputable def D6:b_ D->f_ (b_ j_)
 |[]=>a_ []
 |d::a=>match XR d,D6 a with
  |some i,a_ r=>a_ (i::r)
  |_,_=>d_
def Vc:D->f_ (b_ j_)
 |.ci a=>D6 a
 |_=>d_
def mf:b_ D->f_ (b_ (b_ j_))
 |[]=>a_ []
 |d::a=>match Vc d,mf a with
  |some k,a_ r=>a_ (k::r)
  |_,_=>d_
def Y9:∀{c}{b},D6 c=a_ b->c=b.map D.int:=by
 intro e;induction e with
 |nil=>rintro b h;cases h;rfl
 |cons d c f=>
  rintro b h
  unfold D6 at h;cases a:XR d with
  |none=>rw[a]at h;cases h
  |some i=>
   cases g:D6 c with
   |none=>rw[a,g]at h;cases h
   |some r=>rw[a,g]at h;cases h;cases d<;>first|(cases a;rw[f g];rfl)|cases a
def HH(h:Vc d=a_ k):d=.ci (k.map D.int):=by
 cases d with
 |ci a=>rw[Y9 h]
 |_=>cases h
def pb(h:mf (d::c)=a_ e):∃k r,Vc d=a_ k/\mf c=a_ r/\e=k::r:=by
 unfold mf at h;cases a:Vc d with
 |none=>rw[a]at h;cases h
 |some k=>
  cases b:mf c with
  |none=>rw[a,b]at h;cases h
  |some r=>rw[a,b]at h;cases h;exact⟨k,r,_6,_6,_6⟩
def Wu:∀c:b_ j_,fu (c.map D.int)=a_ (c.map lK):=by
 intro a;induction a with
 |nil=>exact _6
 |cons i r b=>rw[iJ,fu,b];rfl
section
def Zp(I:c5 X i Z H s)(j:ca G H):∀{g}{c}{a}{b},mf g=a_ c->cr (kx X) G g a->dL a b->hW s c_ b c:=by
 intro e;induction e with
 |nil=>
  rintro c a b h dl r
  cases h;cases (dl);cases r;trivial
 |cons d g f=>
  rintro c a b h dl r
  obtain⟨k,y,p,o,rfl⟩:=pb h;obtain⟨v,x,rfl,q,u⟩:=dl;obtain rfl:=HH p;cases r with
  |cons l m=>refine⟨?_,f o u m⟩;obtain⟨w,n⟩:=E6 I j q l (show e9 _=a_ _ by rw[e9,Wu]);exact⟨w,n⟩
end
noncomputable def Jb(x:b_ j_×D):b_ (b_ j_×D)->b_ (b_ j_×D)
 |[]=>[x]
 |y::r=>if x.1<y.1 then x::y::r else y::Jb x r
def xh(l:b_ (b_ j_×D)):b_ (b_ j_×D):=l.foldr Jb []
def Gs(x:b_ j_×D):∀l,(Jb x l).Perm (x::l):=by
 intro a;induction a with
 |nil=>exact .refl _
 |cons y r b=>
  unfold Jb;split
  .exact .refl _
  .exact((b).cons y).trans (qS x y r)
def va:∀l,(xh l).Perm l:=by
 intro a;induction a with
 |nil=>exact .refl _
 |cons x r b=>exact(Gs x _).trans ((b).cons x)
set_option tactic.hygienic true in
def HS:∀{l},l.Pairwise (λa b=>a.1<b.1)->(∀y∈l,y.1≠x.1)->(Jb x l).Pairwise (λa b=>a.1<b.1):=by
 intro e;induction e with
 |nil=>rintro _ _;exact tD _ _
 |cons y r f=>
  rintro h g
  unfold Jb;obtain⟨i,j⟩:=y_.mp h;split
  .rename_i c;refine y_.mpr ⟨λz d=>?_,h⟩;rcases l_.mp d with rfl|d
   .exact c
   .exact sM c (i z d)
  .rename_i c;refine y_.mpr ⟨λz d=>?_,f j λz d=>g z (.tail _ d)⟩;rcases l_.mp ((Gs x r).mem_iff.mp d)with rfl|d
   .exact(z! c (g y (.head _)))
   .exact i z d
def Ap:∀{l},(l.map (·.1)).Nodup->(xh l).Pairwise (λa b=>a.1<b.1):=by
 intro c;induction c with
 |nil=>rintro _;exact qB
 |cons x r d=>
  rintro h
  obtain⟨i,g⟩:=B_.mp (show(x.1::r.map _).Nodup from h);refine HS (d g) λy f e=>i ?_;rw[<-e];exact vJ ((va r).mem_iff.mp f)
def mr(r:_7 d=_7 c)(u:d.Nodup)(l:eU c.length p)(q:So (N2 d) p c.length):p.toList.map (λi=>c.getD i D.fD)=(xh (d.zip c)).map (·.2):=by
 have e:p.toList.map (λi=>(d.getD i [],c.getD i D.fD))=xh (d.zip c):=by
  have n:(p.toList.map λi=>(d.getD i [],c.getD i D.fD)).Perm (d.zip c):=by
   have:(jD c.length).map (λi=>(d.getD i [],c.getD i D.fD))=d.zip c:=by
    refine qQ (by simp[r]) λi h m=>?_;have:i<_7 c:=by simpa using h
    simp[*]
   rw[<-this];exact List.Perm.map _ l
  have o:((d.zip c).map (·.1)).Nodup:=by rwa[xC (by omega)]
  refine sN (λa b z z h m=>t_ (sM h m) (rX _)) ?_ (Ap o) (n.trans (va _).symm);rw[qD,F_];intro i j v s g;have f:j<_7 c:=by rw[<-l.size];simpa using s
  have:=q i j g f;rw[k8 ‹_›,k8 ‹_›]at this;simpa[N2]using this
 rw[<-e,jV];rfl
end Pu
section
namespace PySem
section
variable{K:Type}[P_ K]{knd:HeapKind prog w K}
def uu(u:knd.room A)(c:knd.is s.1 k a)(G:s.1.DictOfH knd d xs)
  (J:∀v,(xT xs k).map (·.2)=a_ v->Q v {s with toks:=s.toks+knd.draws k})
  (I:xT xs k=d_->∀q,q.DictOfH knd d (wD xs k a l)->kZ d s.1 q->Q l {s with heap:=q,toks:=s.toks+knd.draws k})
  (B:_7 xs<=iN):jK (jG prog w) A (dictSetDefault d (.ref a) l) Q E s:=by
 obtain⟨o,M,L,h,H,g,m,i,n⟩:=G;unfold dictSetDefault
 try with_reducible refine kY ?_
 refine iA (knd.pyHash u c (iA (wpAny_dictFind_heap u c h g m i n ?_ ?_)))
 .intro b;refine iA (nJ (iA (wpAny_updateDictKeys (hz:=by have e:=size_of_entries m;lia) (s:={s with toks:=s.toks+knd.draws k}) h g (iB (I (tQ b) _ ⟨_,_,L+1,kM _ h (Obj.isFreed_of_dict (Q? g _)),
   H.mapDictKeys _,Q? g _,?_,?_,?_⟩ (kK ..))))))
  .rw[X! (tQ b)];simp[m,s?]
  .rw[X! (tQ b)];intro x f;rcases s_.mp f with f|f
   .exact knd.keeps (i x f) h g (kK ..)
   .simp only[pN]at f;subst f;exact knd.keeps c h g (kK ..)
  .rw[X! (tQ b)];rw[kQ,rL];refine⟨n,by simp,?_⟩;intro x f y r;simp only[iJ,nI,pN]at r;subst r;exact λe=>(not_mem_keys_of_get b) (e▸f)
 .intro j p z;have C:(xT xs k).map (·.2)=a_ p.2:=by rw[atKey_of_get n z];rfl
  refine iA (oT h g ?_);rw[entry_at m j,z];exact iA (nJ (iB (J _ C)))
def xb(knd:HeapKind prog w K)(d a:o_)(n:(d==oV)=e_)(b:jB):
  MeetsIn prog w (K_.«dict.setdefault» ⟨[.ref d,.ref a,b],[]⟩) (λA R s=>knd.room A.in1/\∃k xs,knd.is s.1 k a/\s.1.DictOfH knd d xs/\_7 xs<=iN/\
   (∀v,(xT xs k).map (·.2)=a_ v->R (.ok (.ret v)) {s with toks:=s.toks+knd.draws k})/\
   (xT xs k=d_->∀e,e.DictOfH knd d (wD xs k a b)->kZ d s.1 e->R (.ok (.ret b)) {s with heap:=e,toks:=s.toks+knd.draws k})):=
 .of_wp<|by
  rintro A R s ⟨l,k,xs,c,h,i,p,o⟩
  refine iA (iA (rG h.typeIs (iB ?_)));show jK _ _ (if _=c_ then _ else _) _ _ s;rw[iG (by rw[n];exact D_)];exact iA (uu l c h (λv j=>iB ⟨v,_6,p v j⟩) (λm e g f=>iB ⟨b,_6,o m e g f⟩) i)
end
end PySem
namespace Pu
open L2
noncomputable def sv:b_ D->f_ (b_ vz)
 |[]=>a_ []
 |d::r=>match me d,sv r with
  |some k,a_ a=>a_ (k::a)
  |_,_=>d_
def Zo:∀a,sv (a.map kD)=a_ a:=by
 intro b;induction b with
 |nil=>exact _6
 |cons k a c=>
  show(match me _,sv _ with
   |some k,a_ a=>a_ _
   |_,_=>d_)=_
  rw[Ag,c]
def Ji:D->f_ NK
 |.ci a=>(sv a).map .inr
 |d=>(me d).map .inl
noncomputable def y9:b_ D->f_ fm
 |[]=>a_ []
 |d::r=>match Ji d,y9 r with
  |some k,a_ a=>a_ (k::a)
  |_,_=>d_
def bx:D->f_ fm
 |.ci a=>y9 a
 |_=>d_
def AR:∀k,Ji (Vu k)=a_ k
 |.inl (.inl _)=>rfl
 |.inl (.inr _)=>rfl
 |.inr a=>by show(sv _).map vK=_;rw[Zo];rfl
def JY:∀a,y9 (a.map Vu)=a_ a:=by
 intro b;induction b with
 |nil=>exact _6
 |cons k a c=>
  show(match Ji _,y9 _ with
   |some k,a_ a=>a_ _
   |_,_=>d_)=_
  rw[AR,c]
def oh(a:fm):bx (kT a)=a_ a:=JY a
def Ip{K:KA}:∀{j}{i}{c},cr K G j i->sv j=a_ c->i=c.map kV:=by
 intro b;induction b with
 |nil=>rintro _ _ h e;cases e;exact h
 |cons d r f=>
  rintro _ c ⟨v,t,o,n,m⟩ e
  unfold sv at e;cases a:me d with
  |none=>rw[a]at e;cases e
  |some k=>
   cases g:sv r with
   |none=>rw[a,g]at e;cases e
   |some l=>rw[a,g]at e;cases e;rw[o,f m g,C1 (H:=G) (.inl n) a];rfl
def PR{K:KA}(h:gr K G d v)(e:Ji d=a_ k):re G k v:=by
 have pv:∀{d},gr K G d v->(me d).map uN=a_ k->re G k v:=λ{d} h e=>by
  cases b:me d with
  |none=>rw[b]at e;cases e
  |some j=>rw[b]at e;cases e;exact C1 (H:=G) (.inl h) b
 cases d with
 |ci c=>
  obtain⟨a,g,rfl,l,f⟩:=h;have e:(sv c).map vK=a_ k:=e;cases b:sv c with
  |none=>rw[b]at e;cases e
  |some i=>rw[b]at e;cases e;exact⟨a,_6,by rwa[<-Ip f b]⟩
 |_=>exact pv h e
def Kp{K:KA}:∀{j}{i}{c},cr K G j i->y9 j=a_ c->NkL G c i:=by
 intro b;induction b with
 |nil=>rintro _ _ h e;cases e;exact h
 |cons d r f=>
  rintro _ c ⟨v,t,o,n,m⟩ e
  unfold y9 at e;cases a:Ji d with
  |none=>rw[a]at e;cases e
  |some k=>
   cases g:y9 r with
   |none=>rw[a,g]at e;cases e
   |some l=>rw[a,g]at e;cases e;exact⟨v,t,o,PR n a,f m g⟩
noncomputable def dj:b_ (D×D)->fm->f_ D
 |[],_=>d_
 |(k,d)::r,j=>if bx k=a_ j then a_ d else dj r j
def yx(a:b_ (D×D))(j:fm):r_:=a.any λp=>decide (bx p.1=a_ j)
def Cy(a:b_ (D×D))(j:fm)(v:D):b_ (D×D):=if yx a j=c_ then a.map (λp=>if bx p.1=a_ j then(p.1,v)else p)else a++[(kT j,v)]
section
variable{K:KA}
def hV.length:∀{a}{es},hV K G a es->_7 a=_7 es:=by
 intro b;induction b with
 |nil=>rintro _ h;rw[h];rfl
 |cons _ _ c=>rintro _ ⟨k,v,r,e,_,_,d⟩;rw[e,iC,iC,c d]
def hV.kH:∀{b}{es},hV K G b es->∀j,(∀d,dj b j=a_ d->∃v,mw es j=a_ v/\gr K G d v)/\(dj b j=d_->mw es j=d_):=by
 intro a;induction a with
 |nil=>
  rintro es h j
  rw[h];exact⟨λd e=>(by cases e),λq=>Ni⟩
 |cons a r c=>
  obtain⟨k,d⟩:=a
  rintro es h j
  obtain⟨f,v,t,rfl,rfl,o,p⟩:=h;obtain⟨n,m⟩:=c p j;unfold dj;rw[oh f]
  by_cases e:f=j
  .subst e;rw[iH _6];exact⟨λg z=>⟨v,qq _6,by cases z;exact o⟩,λz=>by cases z⟩
  .rw[iG (λz=>e (jM z))];refine⟨λg z=>?_,λz=>?_⟩
   .obtain⟨u,l,i⟩:=n g z;exact⟨u,(ma e).trans l,i⟩
   .exact(ma e).trans (m z)
def hV.has:∀{b}{es},hV K G b es->∀j,yx b j=es.any λg=>decide (g.1=j):=by
 intro a;induction a with
 |nil=>rintro es h j;rw[h];rfl
 |cons a r c=>
  obtain⟨k,m⟩:=a
  rintro es h j
  obtain⟨d,u,t,rfl,rfl,l,i⟩:=h;have f:=c i j;unfold yx at f⊢;rw[mZ,mZ,f]
  congr 1
  rw[oh d]
  by_cases e:d=j
  .simp
  .rw[i_ e,i_ λz=>e (jM z)]
def hV.repl(l:gr K G d v):∀{b}{es},hV K G b es->∀j,hV K G (b.map λp=>if bx p.1=a_ j then(p.1,d)else p) (es.map λf=>if f.1=j then(f.1,v)else f):=by
 intro a;induction a with
 |nil=>rintro es h j;rw[h];rfl
 |cons a r g=>
  obtain⟨k,o⟩:=a
  rintro es h j
  obtain⟨c,u,t,rfl,rfl,m,n⟩:=h;have i:=g n j;rw[iJ,iJ];rw[oh c]
  by_cases e:c=j
  .rw[iH e,iH (by rw[e])];exact⟨c,v,_,_6,_6,l,i⟩
  .rw[iG e,iG λz=>e (jM z)];exact⟨c,u,_,_6,_6,m,i⟩
def hV.snoc(f:gr K G d v):∀{b}{es},hV K G b es->∀j,hV K G (b++[(kT j,d)]) (es++[(j,v)]):=by
 intro a;induction a with
 |nil=>rintro es h j;rw[h];exact⟨j,v,[],_6,_6,f,_6⟩
 |cons a r c=>
  obtain⟨k,l⟩:=a
  rintro es h j
  obtain⟨e,u,t,rfl,rfl,g,i⟩:=h;exact⟨e,u,_,_6,_6,g,c i j⟩
def hV.put(b:gr K G d v)(h:hV K G a es)(j:fm):hV K G (Cy a j d) (ku es j v):=by
 unfold Cy ku;rw[h.has j]
 by_cases e:(es.any λc=>decide (c.1=j))=c_
 .rw[iH e,iH e];exact h.repl b j
 .rw[iG e,iG e];exact h.snoc b j
end
section
noncomputable def sf(i:g_):En->fc:=λδ=>.nx (δ.set i (.od c_ []))
def dg.setDT{K:KA}{a:o_}(R:dg K B G H Z δ)(b:H a=d_):dg K B G (eT H a (.dT [])) (Z.set i (a_ (.ref a))) (δ.set i (.od c_ [])):=R.newO (c8.own R.gh _ b) b (ff R.gh b) ⟨a,[],_6,aj,_6⟩
def LO(f:PS X (.Assign [.Name x b] (.Dict [] [] p) c) (Ws EZ (vp i))):yd X g B E (.Assign [.Name x b] (.Dict [] [] p) c) (sf i):=
 PS.imp f (by rintro D Z H ⟨G,δ,R,e,q⟩;exact λa d=>q _ G _ (ca.refl G) (R.setDT d) (e.trans (c8.own R.gh _ d)))
def dg.odAtT{K:KA}{i:g_}(R:dg K B G H Z δ)(h:δ[i]?=a_ (.od c_ c)):OA B G H .dT (hV K G c) Z[i]?:=by obtain⟨o,d,a,e,l,j,f⟩:=R.sl i _ h;subst l;obtain⟨g,b⟩:=R.own i _ a h _6 d;exact⟨a,e,d,j,f,g,b⟩
def dg.wrDT{K:KA}{a:o_}{es:b_ (fm×V)}(R:dg K B G H Z δ)(f:δ[i]?=a_ (.od c_ d))(e:Z[i]?=a_ (a_ (V.ref a)))(g:H a=a_ (.dT es))(dl:hV K G b c):
  dg K B G (eT H a (.dT c)) Z (δ.set i (.od c_ b)):=R.wrO f _6 e ⟨a,c,_6,aj,dl⟩
def Gf{g:b_ (o_×_d)}{Z:St}{H:Hp}{s:jP}{a b:o_}{f:b_ (fm×V)}{k:fm}{v:V}{r:jB}{A:oN}{E:jB->jP->Prop}{Q:jB->jP->Prop}(B:A.units+5<lN)(I:c5 X g Z H s)(e:H a=a_ (.dT f))(p:mo H k b)(hl:_7 f<iN)(x:ez v r)
  (L:∀i w j,mw f k=a_ i->ez i w->c5 X g Z H j->Q w j)(J:∀j,mw f k=d_->c5 X g Z (eT H a (.dT (ku f k v))) j->Q r j):
  jK (jG X.prog X.w) A (call (.builtin "dict.setdefault") [.ref a,.ref b,r]) Q E s:=by
 obtain⟨z,o,xs,rel,u⟩:=Yc I.fg e;have d:=rel.val k;refine xK rC u.typeIs PySem.F.entry_dict_setdefault (PySem.F.args_dict_setdefault_3 _ _ _) (xb _ a b o r)
  ⟨lx B,k,xs,A9 I.fg p,u,(by rwa[<-sH rel]),λw y=>?_,λG h' m C=>?_⟩
 .rw[y]at d;cases h:mw f k with
  |none=>rw[h]at d;cases d
  |some i=>rw[h]at d;exact L i w _ h d (I.qd _)
 .rw[G]at d;have h:mw f k=d_:=by
   cases h:mw f k with
   |none=>rfl
   |some i=>rw[h]at d;cases d
  refine J _ h ?_;have l:(ku f k v).length<=iN:=by have:=Lq f k v;lia
  obtain⟨q,T,U,n,g2,O,N,_,M⟩:=m;refine Ri I (by rw[e];exact qG) C ⟨q,n⟩ ⟨l,o,_,(rel.put k p x).keeps λc ys Y=>?_,q,T,U,n,g2,O,N,M⟩;rwa[ai (NS Y e (λz=>nomatch z))]
def gi(i:g_)(f e:En->ce):En->ResE:=λδ=>match δ[i]? with
 | a_ (.od c_ a) => (match f δ with
  | .ok g => (match e δ with
   | .ok b => (match bx g with
    | a_ j => if a.length < iN then (match dj a j with
     |some d=>.ok d δ
     |none=>.ok b (δ.set i (.od c_ (Cy a j b))))else .st
    |none=>.st)
   |.er c=>.er c
   |.st=>.st)
  |.er c=>.er c
  |.st=>.st)
 |_=>.st
def Arg.r8{K:KA}(s:ca G H)(h:Arg K G H d v)(e:bx d=a_ c):∃b,v=.ref b/\mo H c b:=by
 cases d with
 |ci j=>obtain⟨b,a,i,g,f⟩:=h.tup0 s;exact⟨b,i,a,g,(Kp f e).be λz z q=>s _ _ q⟩
 |_=>cases e
def Wh{K:KA}{es:b_ (fm×V)}(dl:hV K G a es)(h:mw es j=d_):dj a j=d_:=by
 cases e:dj a j with
 |none=>rfl
 |some d=>obtain⟨v,q,_⟩:=(dl.kH j).1 d e;rw[h]at q;cases q
def N8(hu:X.A.units+5<lN)(hv:PE X (.Name x p) (ya i))(hk:k6 X B E ke g)(β:f7 X B E ve h)(hn:jd ke=c_)(γ:jd ve=c_)(N:(ap.endLine==cp.line)=c_):
  aK X G0 B E (.Call (.Attribute (.Name x p) "setdefault" ap) [ke,ve] [] cp) (gi i g h):=by
 intro m s Z H Q I ⟨G,δ,R,ex,q⟩;unfold gi at q;cases ed:δ[i]? with
 |none=>rw[ed]at q;exact q.elim
 |some sl=>
  rw[ed]at q;cases sl with
  |od t f=>
   cases t with
   |false=>exact q.elim
   |true=>
    obtain⟨l,es,q1,q2,q3,q4,q5⟩:=R.odAtT ed;have σ:((nU cp (jI [ke,ve] X.bi)).all (λx=> !x.1)&&(uR cp (qU [] X.bi)).all (λx=>x.1.isSome)
    &&decide (([ke,ve]).length+([]:b_ pS).length+(if([]:b_ pS).isEmpty then 0 else 1)<30))=c_:=by rw[qp (by rw[kJ,kJ,hn,γ];rfl)];rfl
    refine wpAny_Call_method _6 σ N qP rC vE (jf (hv m s Z H (λv M=>v=.ref l/\M=H) I ⟨_,q1,_6,_6⟩) λu s1 ⟨v,M,I1,r1,e1,L⟩=>?_);subst e1 L;cases r1;obtain⟨t1,t2,_⟩:=Za I1 (.inr ⟨es,.inl q2⟩);refine⟨t1,t2,?_⟩;rw[M4 hn γ];have qk:eu (E) G M (g δ) λo=>eu E G M (h δ) λr=>∃j,bx o=a_ j/\_7 f<iN/\Q3 (kx X) G0 B E G Z (match dj f j with
     |some d=>.ok d δ
     |none=>.ok r (δ.set i (.od c_ (Cy f j r)))) λd J C W=>∀v,gr (kx X) J d v->Q v C:=by
     cases eg:g δ with
     |er c=>rw[eg]at q;exact λJ C e=>q J C (ex.trans e)
     |st=>rw[eg]at q;exact q
     |ok o=>
      rw[eg]at q;dsimp only at q;show eu E G M (h δ) _;cases eh:h δ with
      |er c=>rw[eh]at q;exact λJ C e=>q J C (ex.trans e)
      |st=>rw[eh]at q;exact q
      |ok r=>
       rw[eh]at q;cases Y:bx o with
       |none=>rw[Y]at q;exact q.elim
       |some j=>
        rw[Y]at q;dsimp only at q
        by_cases N:_7 f<iN
        .rw[iH N]at q;exact⟨j,_6,N,q⟩
        .rw[iG N]at q;exact q.elim
    refine qY _6 (uS (qX (jf (hk m s1 Z M (λy H2=>∃T o,c8 G M T H2/\Arg _ T H2 o y/\eu E G M _ λr=>∃j,bx o=a_ j/\_7 f<iN/\Q3 _ G0 B E G Z _ λd J C W=>∀v,gr _ J d v->Q v C) I1 ⟨G,δ,R,qk.be λo W qk y T H2 L ay=>⟨T,o,L,ay,qk⟩⟩) λyv s2 ⟨y,H2,I2,ry,T,o,L,ay,qv⟩=>(qX (jf (β m s2 Z H2 (λz H3=>∃O r j,c8 T H2 O H3/\gr _ O r z/\bx o=a_ j/\_7 f<iN/\Q3 _ G0 B E G Z _ λd J C W=>∀v,gr _ J d v->Q v C) I2 ⟨T,δ,R.ext L,(qv.ext L).be λr W ⟨j,Y,N,q⟩ z O H3 e3 dz=>⟨O,r,j,e3,dz,Y,N,q⟩⟩) λzv s3 ⟨z,H3,I3,rz,O,r,j,e3,dz,Y,hsz,q⟩=>wC ?_)))));have a:=L.trans e3;have h3:=a.hh _ _ q2;have n:=q3.be a.gg;have R3:=R.ext a;obtain⟨b,rfl,hb⟩:=Arg.r8 L.gh ay Y;cases (ry);refine Gf hu I3 h3 (hb.be λW W q=>e3.hh _ _ q) (by rwa[<-n.length]) rz (λv' w s' U ν I'=>?_) λs' U I'=>?_
    .cases el:dj f j with
     |none=>rw[(n.kH j).2 el]at U;cases U
     |some d=>rw[el]at q;obtain⟨v2,z1,z2⟩:=(n.kH j).1 d el;rw[z1]at U;cases U;exact⟨v',H3,I',ν,q O H3 a.gg R3 (ex.trans a) v' z2⟩
    .rw[(Wh n U)]at q;exact⟨z,_,I',rz,q O _ a.gg (dg.wrDT R3 ed q1 h3 (n.put dz j)) (c8.wr (ex.trans a) (a.fr _ _ q2 q4 _6) q5) z dz⟩
  |no=>exact q.elim
  |pu _=>exact q.elim
  |bo _=>exact q.elim
  |ow _=>exact q.elim
end
noncomputable def ET:Expr->r_
 |.Call (.Name x _) _ _ _=>decide (x≠"len")&&decide (x≠"int")&&decide (x≠"str")
 |.Tuple _ _ _=>c_
 |_=>e_
noncomputable def Qn:g_->Expr->b_ x_
 |0,_=>[]
 |n+1,e=>match e with
  |.Call (.Attribute (.Name x _) m _) (k::r) _ _=>(if(m="setdefault"||m="get")&&ET k then[x]else[])++(r.flatMap (Qn n))
  |.Call (.Attribute o _ _) _ _ _=>Qn n o
  |.Compare l _ a _=>Qn n l++a.flatMap (Qn n)
  |.BoolOp _ b _=>b.flatMap (Qn n)
  |.UnaryOp _ e _=>Qn n e
  |.BinOp l _ r _=>Qn n l++Qn n r
  |_=>[]
def Qo:g_->b_ S_->b_ x_
 |0,_=>[]
 |n+1,a=>a.flatMap λs=>match s with
  |.For _ it b o _=>Qn n it++Qo n b++Qo n o
  |.While c b o _=>Qn n c++Qo n b++Qo n o
  |.If c b o _=>Qn n c++Qo n b++Qo n o
  |.Assign [.Subscript (.Name x _) k _] v _=>(if ET k then[x]else[])++Qn n v
  |.Assign _ v _=>Qn n v
  |.Expr e _=>Qn n e
  |.Return (a_ e) _=>Qn n e
  |_=>[]
end Pu
end
namespace Pu
open L2
noncomputable def az:D->D->f_ D
 |.au xs,.int i=>atI xs i
 |.ci xs,.int i=>atI xs i
 | .str z, .int i => if z.length <= iN then (match atI z.cps.toList i with
  |some c=>a_ (.str ⟨#[c]⟩)
  |none=>d_)else d_
 |.js e_ a,k=>(me k).bind (Aj a)
 |.js c_ a,k=>(bx k).bind (dj a)
 |_,_=>d_
inductive rIxD(x:V)(y:V)(H:Hp)(Q:VK):Prop
 |mk (a v) (_:x=.ref a) (_:DGet H a y (a_ v)) (_:Q v H):rIxD x y H Q
section
def HL(g:X.A.units+5<lN):IxR X rIxD:=by intro value a c s Z H x y v u Q I f e q h;obtain⟨l,w,rfl,d,q⟩:=q;cases f;exact tail_any (Ks I d) PySem.F.slot_dict_getitem.lookup (Ui g I d e λj m i b=>⟨w,H,i,b,q⟩) h
def Arg.dctT{K:KA}(s:ca G H)(h:Arg K G H (.js c_ b) v):∃a es,v=.ref a/\Rd H a (.dT es)/\hV K G b es:=by
 obtain ⟨a,d,c⟩|⟨_,_,_,z,_⟩|⟨f,e,a,z,d,c⟩:=h
 .obtain ⟨z,_⟩|⟨_,o,es,q,r⟩:=c
  .cases z
  .exact⟨a,es,d,.inr ⟨o,s _ _ q⟩,r⟩
 .cases z
 .cases z;obtain ⟨z,_⟩|⟨_,es,q,r⟩:=c
  .cases z
  .exact⟨a,es,d,.inl q,r⟩
set_option tactic.hygienic true in
def KS{K:KA}:jk K az (λx y H Q=>fG K x y H Q\/rIxD x y H Q):=λG H x y z r d e i h a Q q=>by
 unfold az at a;split at a
 .obtain⟨l,m,rfl,n,dl⟩:=i.au e;obtain⟨v,f,g⟩:=dl.atI a;exact .inl (.inl ⟨l,m,_,v,_6,h.int,n,f,q _ G H (c8.refl e) g⟩)
 .obtain⟨l,m,rfl,n,dl⟩:=i.ci e;obtain⟨v,f,g⟩:=dl.atI a;exact .inl (.inr (.inl ⟨l,m,_,v,_6,h.int,n,f,q _ G H (c8.refl e) g⟩))
 .split at a
  .rename_i s;split at a
   .rename_i c w;cases a;exact .inl (.inr (.inr ⟨_,_,c,i.str,h.int,s,w,q _ G H (c8.refl e) _6⟩))
   .cases a
  .cases a
 .cases ek:me r with
  |none=>rw[ek]at a;cases a
  |some j=>rw[ek]at a;obtain⟨l,p,rfl,o,dl⟩:=Arg.dctK e i;obtain⟨v,f,g⟩:=(dl.kH j).1 d a;rw[C1 h ek];refine .inr ⟨l,v,_6,?_,q _ G H (c8.refl e) g⟩;rw[<-f];exact DGet.k o
 .cases ek:bx r with
  |none=>rw[ek]at a;cases a
  |some j=>rw[ek]at a;obtain⟨l,p,rfl,o,dl⟩:=Arg.dctT e i;obtain⟨v,f,g⟩:=(dl.kH j).1 d a;obtain⟨b,rfl,u⟩:=Arg.r8 e h ek;refine .inr ⟨l,v,_6,?_,q _ G H (c8.refl e) g⟩;rw[<-f];exact .inr ⟨p,j,b,o,_6,u,_6⟩
 .cases a
def YF(d:X.A.units+5<lN)(i:k6 X B E a g)(f:k6 X B E b h)(e:Hw b:=by intro _ _;rfl):f7 X B E (.Subscript a b c) (g2 az g h):=PE.imp (YN (QP.or (HL d)) i f e) λZ H Q q=>bT KS q
end
end Pu
namespace L2
def c5.drew(I:c5 X a Z H s)(c:Drawn):c5 X a Z H {s with drawn:=c}:=by have:=I.step (d':=c) (t':=s.toks) (ch:=[]) (λq z=>nomatch z) (λb o q q q e q=>e) (λb o q q q e q=>⟨o.slots,e⟩) (λb o q q n=>n) (λb o q e=>⟨o,e⟩) (λq q z=>z) (λq q q z=>z) (λq q z=>z) (λq z=>z) I.fg I.lU;exact this
end L2
namespace Pu
open L2 PySem.SeqAt PySem.W
def GR{K:KA}(dl:cr K G a b):∀{e:b_ g_},(∀i∈e,i<_7 a)->cr K G (e.map λi=>a.getD i D.fD) (e.map λi=>b.getD i V.fD):=by
 intro c;induction c with
 |nil=>rintro _;exact _6
 |cons i r g=>
  rintro h
  refine⟨_,_,_6,?_,g λj m=>h j (.tail _ m)⟩;have f:∀{a}{b} i,cr K G a b->i<_7 a->gr K G (a.getD i D.fD) (b.getD i V.fD):=by
   intro a;induction a with
   |nil=>intro b i _ h;simp at h
   |cons d a l=>
    intro b i dl h;obtain⟨v,p,rfl,n,o⟩:=dl;cases i with
    |zero=>exact n
    |succ i=>simpa using l i o (by simpa using h)
  exact f i dl (h i (.head _))
def MU(r:dL a b):∀{d:b_ g_},(∀i∈d,i<_7 a)->dL (d.map λi=>a.getD i V.fD) (d.map λi=>b.getD i nB):=by
 intro c;induction c with
 |nil=>rintro _;exact .nil
 |cons i q f=>
  rintro h
  refine .cons ?_ (f λj l=>h j (.tail _ l));have e:∀{a}{b} i,dL a b->i<_7 a->ez (a.getD i V.fD) (b.getD i nB):=by
   intro a b i r;induction r generalizing i with
   |nil=>intro h;simp at h
   |cons m t g=>
    intro h;cases i with
    |zero=>exact m
    |succ i=>simpa using g i (by simpa using h)
  exact e i r (h i (.head _))
noncomputable def Zn:D->f_ (b_ j_)
 |.int i=>a_ [i]
 |_=>d_
def mh:b_ D->f_ (b_ (b_ j_))
 |[]=>a_ []
 |d::a=>match Zn d,mh a with
  |some k,a_ r=>a_ (k::r)
  |_,_=>d_
def HG(h:Zn d=a_ k):∃i,k=[i]/\d=.int i:=by
 cases d with
 |int i=>cases h;exact⟨i,_6,_6⟩
 |_=>cases h
def pf(h:mh (d::c)=a_ e):∃k r,Zn d=a_ k/\mh c=a_ r/\e=k::r:=by
 unfold mh at h;cases a:Zn d with
 |none=>rw[a]at h;cases h
 |some k=>
  cases b:mh c with
  |none=>rw[a,b]at h;cases h
  |some r=>rw[a,b]at h;cases h;exact⟨k,r,_6,_6,_6⟩
def lh(b:b_ D):f_ (r_×b_ (b_ j_)):=match mf b with
 |some a=>a_ (c_,a)
 |none=>(mh b).map λa=>(e_,a)
def Vf:∀{e}{a},mf e=a_ a->_7 a=_7 e:=by
 intro b;induction b with
 |nil=>rintro a h;cases h;rfl
 |cons d e c=>
  rintro a h
  obtain⟨k,r,_,f,rfl⟩:=pb h;rw[iC,iC,c f]
def Vg:∀{e}{a},mh e=a_ a->_7 a=_7 e:=by
 intro b;induction b with
 |nil=>rintro a h;cases h;rfl
 |cons d e c=>
  rintro a h
  obtain⟨k,r,_,f,rfl⟩:=pf h;rw[iC,iC,c f]
set_option tactic.hygienic true in
def y0(h:lh a=a_ (b,c)):_7 c=_7 a:=by
 unfold lh at h;split at h
 .rename_i e;cases h;exact Vf e
 .cases e:mh a with
  |none=>rw[e]at h;cases h
  |some k=>rw[e]at h;cases h;exact Vg e
noncomputable def jn(a:b_ D):f_ (b_ D):=if _7 a<2 then a_ a else if _7 a<100000 then(match lh a with
  |some (_,b)=>if b.Nodup then a_ ((xh (b.zip a)).map (·.2))else d_
  |none=>d_)else d_
noncomputable def j8:D->f_ D
 |.au a=>(jn a).map .au
 |_=>d_
def M3(h:jn a=a_ e):_7 a<100000/\((_7 a<2/\e=a)\/(2<=_7 a/\∃b d,lh a=a_ (b,d)/\d.Nodup/\e=(xh (d.zip a)).map (·.2))):=by
 unfold jn at h
 by_cases g:_7 a<2
 .rw[iH g]at h;cases h;exact⟨by lia,.inl ⟨g,_6⟩⟩
 .rw[iG g]at h
  by_cases c:_7 a<100000
  .rw[iH c]at h;cases i:lh a with
   |none=>rw[i]at h;cases h
   |some p=>
    obtain⟨b,d⟩:=p;rw[i]at h;dsimp only at h
    by_cases f:d.Nodup
    .rw[iH f]at h;cases h;exact⟨c,.inr ⟨by lia,b,d,_6,f,_6⟩⟩
    .rw[iG f]at h;cases h
  .rw[iG c]at h;cases h
section
def Vi(I:c5 X j Z H s)(w:ca G H):∀{g}{c}{a}{b},mh g=a_ c->cr (kx X) G g a->dL a b->hW s e_ b c:=by
 intro e;induction e with
 |nil=>
  rintro c a b h dl r
  cases h;cases (dl);cases r;trivial
 |cons d g f=>
  rintro c a b h dl r
  obtain⟨k,x,o,n,rfl⟩:=pf h;obtain⟨v,u,rfl,p,q⟩:=dl;obtain⟨i,rfl,rfl⟩:=HG o;cases p;cases r with
  |cons l m=>obtain⟨t,rfl⟩:=l;exact⟨⟨i,t,_6,_6⟩,f n q m⟩
set_option tactic.hygienic true in
def O0(I:c5 X c Z H s)(a:ca G H)(h:lh d=a_ (b,i))(dl:cr (kx X) G d f)(r:dL f g):hW s b g i:=by
 unfold lh at h;split at h
 .rename_i e;cases h;exact Zp I a e dl r
 .cases e:mh d with
  |none=>rw[e]at h;cases h
  |some k=>rw[e]at h;cases h;exact Vi I a e dl r
end
section
def Ce(hu:X.A.units+5<lN)(I:c5 X f Z H s)(sg:ca G H)
  (β:∀Q' E',(∀d' h' u c B n,(∀b o,s.1.get? b=a_ o->h'.get? b=a_ o)->dL B c->cr (kx X) G n B->jn n=a_ m->Q' c {s with heap:=h',toks:=u,drawn:=d'})->jK (jG X.prog X.w) X.A.in1 (collect (.ref a)) Q' E' s)
  (q:∀p d,H p=d_->cr (kx X) G m d->Q (.ref p) (eT H p (.au d))):jK (jG X.prog X.w) X.A (call (.builtin "sorted") [.ref a]) (EP X f Z Q) X.xe s:=by
 refine Calls.call_function_entry kind_sorted plain_sorted entry_sorted (args_sorted1 _) (iA (iB (iA (β _ _ λY h u c B n k1 C dl e=>?_))));obtain⟨υ,hh⟩:=M3 e;have n1:=C.length.symm;have M:=dl.length.symm;have zl:_7 c<=iN:=by rw[kP];lia
 refine iA (wpAny_newList ?_ zl);have I1:c5 X f Z H {s with heap:=h,toks:=u,drawn:=Y}:=(I.drew Y).h7 k1;have l:(h.push _).get? h.objs.size=a_ (A! "list" c.toArray 0):=iS _ _6;have J:∀b o,h.get? b=a_ o->(h.push (A! "list" c.toArray 0)).get? b=a_ o/\b≠h.objs.size:=λb o e=>⟨iE _ e,jJ (jA e)⟩;have hR:2<=_7 c->Hx X.prog X.w X.A.in1.in1 c c (λp=>eU c.length p/\∃b j,lh n=a_ (b,j)/\j.Nodup/\So (N2 j) p c.length/\m=(xh (j.zip n)).map _) {s with heap:=ID _ h.objs.size c,toks:=u,drawn:=Y}:=λh2=>by
  obtain ⟨z,_⟩|⟨_,b,j,L,E,T⟩:=hh
  .lia
  .intro E';refine kN (UQ (vs:=c) (O0 (I1.h7 λb o e=>AZ (J b o e).1 (J b o e).2) sg L dl C) h2 E (by show X.A.units+1+1+1<lN;lia) E') (λκ s' g=>⟨g.1,λE2=>kN (g.2 E2) (λr s2 g2=>?_) λW W x=>x⟩) λW W x=>x;obtain⟨g1,g2,p,⟨g3,g4⟩,g5,g6⟩:=g2;exact⟨g1,g2,p,⟨g3,b,j,L,E,g4,T⟩,g5,g6⟩
 refine iA (kY (kL slot_list_sort ⟨_,l,_6⟩ entry_list_sort (Qe l (by lia) hR λv ho=>⟨_,_6,iB ⟨_,_6,?_⟩⟩) (args_list_sort _)));obtain⟨ep,U⟩:=sortedHeap_at l;have N:∃d,cr (kx X) G m d/\dL d v:=by
  obtain ⟨z,rfl⟩|⟨z,p,⟨hp,b,j,L,E,hs,T⟩,σ,rfl⟩:=ho
  .obtain ⟨_,rfl⟩|⟨z2,_⟩:=hh
   .exact⟨B,dl,C⟩
   .lia
  .have y:eU n.length p:=by rwa[<-M,<-n1]
   have lt:∀i∈p.toList,i<_7 n:=λi O=>v_.mp (y.mem_iff.mp O);rw[T,<-mr (y0 L) E y (by rwa[<-M,<-n1])];exact⟨_,GR dl lt,MU C λi O=>by rw[M];exact lt i O⟩
 obtain⟨d,d',v'⟩:=N;refine⟨.ref h.objs.size,_,I1.laid (o:=.au d) (t':=u) (λb o e=>?_) (iF _) ⟨(by rwa[v'.length,ho.len]),v,ep,v',U⟩,_6,q _ d (I1.fg.fresh (iF _)) d'⟩;rw[sortedHeap_old (J b o e).2 (by rw[mM];exact oU (jA e))];exact(J b o e).1
def Qf(x:X.A.units+5<lN)(I:c5 X d Z H s)(u:ca G H)(v:dL n f)(dl:cr (kx X) G r n)(e:jn r=a_ j)
  (l:∀h m,(∀g i,(∀b o,s.1.get? b=a_ o->g.get? b=a_ o)->h f {s with heap:=g,toks:=i})->jK (jG X.prog X.w) X.A.in1 (collect (.ref a)) h m s)
  (q:∀p c,H p=d_->cr (kx X) G j c->Q (.ref p) (eT H p (.au c))):jK (jG X.prog X.w) X.A (call (.builtin "sorted") [.ref a]) (EP X d Z Q) X.xe s:=
 Ce x I u (λh m y=>l h m λg i k=>y s.drawn g i f n r k v dl e) q
def RawD(h:C_)(d:o_)(es:p_ DictEntry)(a:g_):Prop:=∃o,h.get? d=a_ o/\o.ExactDict/\o.data=.dict es a
section
variable{E:jB->jP->Prop}{s:jP}
def RawD.ty(h:RawD s.1 d es c):s.TypeIs (.ref d) "dict":=let ⟨o,b,a,_⟩:=h;⟨o,b,a.1⟩
def CH(g:(d==oV)=e_)(f:RawD s.1 d es i)
  (h:Q (.ref s.1.1.size) {s with heap:=s.1.push {cls:=.type "dict_keyiterator",data:=.fields #[.ref d,.int 0 0,.int es.size 0,.int i 0]}}):
  jK (jG c w) A (xZ (.ref d)) Q E s:=by
 have b:=f.ty;obtain⟨o,e,j,a⟩:=id f;refine qE b F.slot_dict_iter (kL F.slot_dict_iter b F.entry_dict_iter (iA (iA (rG b (iB ?_)))) (F.args_dict_iter_1 _));show jK _ _ (uC d>>=_) _ _ s;unfold uC;rw[iG (by rw[g];exact D_)];refine iA (iB (iA (oT e a (iA (rD e a (iA (kX (iB ⟨_,_6,"dict_keyiterator",_,⟨_,iS _ _6,_6⟩,F.slot_dict_keyiterator_next.lookup,?_⟩))))))));simpa[mK]using h
def CI(a:s.1.IsKeyIter it d i es.size l)(n:RawD s.1 d es l)(e:i<es.size)
  (r:∀j,j.IsKeyIter it d (i+1) es.size l->kZ it s.1 j->Q (a_ es[i].key) {s with heap:=j}):jK (jG m w) A (vR (.ref it)) Q E s:=by
 obtain⟨o,h,q,g⟩:=id a;obtain⟨od,c,p,f⟩:=id n;refine iA (pI (lE a.typeIs oZ
  (kL oZ a.typeIs uU ?_ (uH _))))
 refine iA (iB (iA (iA ?_)))
 first|refine iA (oP a.typeIs (iB ?_))|refine iA _
 refine iA (pO h g (iA (iB (iA (oT c f ?_)))));rw[iG (by simp)];refine iA (iB (iA (rD c f ?_)));rw[iG (by simp)];refine iB ?_;simp only[_l,mE,jU e];refine iA ?_
 first|refine iA (oP a.typeIs (iB ?_))|refine iA _
 refine iA (I! a.typeIs ?_);show jK _ _ (Y! _ 1 _>>=_) _ _ s;refine iA (oQ h g (by simp) ?_);have b:(s.1.update it (Obj.mapFields (·.setIfInBounds 1 (mK (i+1))))).IsKeyIter it d (i+1) es.size l:=
  ⟨_,kM _ h (Obj.isFreed_of_fields (B! g _)),(Obj.cls_mapFields ..).trans q,by rw[B! g];simp[mK]⟩
 exact iA (kY (iA (I! b.typeIs (iB (iB ⟨_,_6,iB (r _ b (kK ..))⟩)))))
def LW(j:A.handled=d_)(a:s.1.IsKeyIter it d es.size es.size p)(i:RawD s.1 d es p)
  (n:∀h,wJ it s.1 h->Q d_ {s with heap:=h}):jK (jG e w) A (vR (.ref it)) Q E s:=by
 obtain⟨o,f,q,g⟩:=id a;obtain⟨od,b,l,c⟩:=id i;refine iA (pI (lE a.typeIs oZ
  (kL oZ a.typeIs uU ?_ (uH _))))
 refine iA (iB (iA (iA ?_)))
 first|refine iA (oP a.typeIs (iB ?_))|refine iA _
 refine iA (pO f g (iA (iB (iA (oT b c ?_)))));rw[iG (by simp)];refine iA (iB (iA (rD b c ?_)));rw[iG (by simp)];refine iB ?_;simp only[_l,mE,i? (iF es.size)];refine iA ?_
 first|refine iA (oP a.typeIs (iB ?_))|refine iA _
 show jK _ _ (Y! _ 0 .none>>=_) _ _ s;refine iA (oQ f g (by simp) (iA (iA (m:=pQ _ _) (rU (by first|rfl|(simp only[pQ];rfl)) (kX (iA (wQ ?_)) (by size_fits))))));rw[j];refine iA (iB (yA ?_));refine iA (oE ⟨_,iS _ _6,_6⟩ vY ?_);exact iB (n _ (((kK ..).extBut.push _).push _))
end
noncomputable def gT(G H:Hp):Hp:=λb=>match H b with
 |some (.ci a)=>a_ (.ci a)
 |_=>G b
def A8(h:H b=a_ (.ci a)):gT G H b=a_ (.ci a):=by unfold gT;rw[h]
set_option tactic.hygienic true in
def I0(h:∀a,H b≠a_ (.ci a)):gT G H b=G b:=by
 unfold gT;split
 .rename_i a e;exact t_ e (h a)
 .rfl
def A7(d:ca G H):c8 G H (gT G H) H:=by
 refine⟨λb u q=>?_,ca.refl H,λb u q=>?_,λb u q g z=>?_⟩
 .have:=d b u q
  by_cases c:∃a,u=.ci a
  .obtain⟨a,rfl⟩:=c;exact A8 this
  .rw[I0 λa e=>c ⟨a,by rw[this]at e;cases e;rfl⟩];exact q
 .by_cases c:∃a,H b=a_ (.ci a)
  .obtain⟨a,e⟩:=c;rw[A8 e]at q;rwa[e]
  .rw[I0 λa e=>c ⟨a,e⟩]at q;exact d b u q
 .rw[I0 λa e=>by rw[q]at e;cases e;cases z];exact g
def Ya{K:KA}(k:vz):gr K G (kD k) (kV k):=by cases k<;>exact _6
def GQ{K:KA}:∀c:b_ vz,cr K G (c.map kD) (c.map kV):=by
 intro a;induction a with
 |nil=>exact _6
 |cons k r b=>exact⟨_,_,_6,Ya k,b⟩
def Kq{K:KA}(h:re H k v):gr K (gT G H) (Vu k) v:=by
 cases k with
 |inl k=>rw[h];exact Ya k
 |inr a=>obtain⟨b,rfl,q⟩:=h;exact⟨b,_,_6,A8 q,GQ a⟩
def X8{K:KA}:∀{d}{c},NkL H d c->cr K (gT G H) (d.map Vu) c:=by
 intro a;induction a with
 |nil=>rintro _ h;exact h
 |cons _ _ b=>rintro _ ⟨v,t,e,g,f⟩;exact⟨v,t,e,Kq g,b f⟩
def Yb{K:KA}(h:mo H k b):gr K (gT G H) (kT k) (.ref b):=by obtain⟨a,d,c⟩:=h;exact⟨b,a,_6,A8 d,X8 c⟩
def Gg{K:KA}:∀{a}{es},hV K G a es->a.map (·.1)=es.map λp=>kT p.1:=by
 intro b;induction b with
 |nil=>rintro _ h;rw[h];rfl
 |cons _ _ c=>rintro _ ⟨k,v,r,f,e,_,d⟩;rw[f,iJ,iJ,c d,e]
def UT(X:Cx):b_ V->Hp->VK->Prop:=λxs H Q=>∃a d G e c,xs=[.ref a]/\gL X.K H a d/\ca G H/\cr (kx X) G e d/\jn e=a_ c/\∀p b,H p=d_->cr (kx X) G c b->Q (.ref p) (eT H p (.au b))
def N0(l:X.A.units+5<lN)(x:X.calm=c_):ie X (.builtin "sorted") (UT X):=by
 intro d s Z H xs v Q I r q;obtain ⟨a,p,G,y,n,rfl,f,g,dl,e,q⟩:=q
 .obtain⟨u,rfl,h⟩:=ny r;cases h;obtain⟨j,c,i,_⟩:=I.list f;have w:=c.length.symm;refine Qf l I g c dl e (λz B m=>collect_list i.isList (m _ _ λb o e=>?_) (by lia)) q;rw[O? _ _ _ _ (jJ (jA e))];exact iE _ e
set_option tactic.hygienic true in
def Wg(r:X.A.units+5<lN)(v:X.calm=c_)(u:Gl X "sorted")(s:X.mg "sorted"=d_)(w:k6 X B E e g)(h:jI [e] X.bi=(e_,I_ e X.bi)::jI [] X.bi):f7 X B E (.Call (.Name "sorted" p) [e] [] o) (g1 j8 g):=
 PE.imp (l7 (N0 r v) u s _o (g7 w jr h) (by decide) (by decide) h _6) λZ H Q q=>FD (λG H x C d b z a Q q=>by
  unfold j8 at a;split at a
  .rename_i i;cases e:jn i with
   |none=>rw[e]at a;cases a
   |some c=>rw[e]at a;cases a;obtain⟨l,m,rfl,n,dl⟩:=z.au b;exact⟨l,m,G,i,c,_6,n,b,dl,e,λp j f y=>q _ _ _ (c8.new b _ f) (zy b f y)⟩
  .cases a) q
end
end Pu
namespace Pu
open L2
def Ed(b:Vc d=a_ k)(a:mf c=a_ r):mf (d::c)=a_ (k::r):=by unfold mf;rw[b,a]
def Ef(b:Zn d=a_ k)(a:mh c=a_ r):mh (d::c)=a_ (k::r):=by unfold mh;rw[b,a]
def Ee(p:o.Perm c):∀{a},mf o=a_ a->∃b,mf c=a_ b/\(b.zip c).Perm (a.zip o):=by
 induction p with
 |nil=>intro a h;exact⟨a,h,pK _⟩
 |cons x p u=>intro a h;obtain⟨k,r,n,m,rfl⟩:=pb h;obtain⟨d,f,e⟩:=u m;exact⟨k::d,Ed n f,e.cons _⟩
 |swap x y l=>intro a h;obtain⟨k,r,n,m,rfl⟩:=pb h;obtain⟨g,d,w,v,rfl⟩:=pb m;exact⟨g::k::d,Ed w (Ed n v),qS _ _ _⟩
 |trans A z j i=>intro a h;obtain⟨B,f,e⟩:=j h;obtain⟨g,s,q⟩:=i f;exact⟨g,s,q.trans e⟩
def Ox(p:o.Perm c):∀{a},mh o=a_ a->∃b,mh c=a_ b/\(b.zip c).Perm (a.zip o):=by
 induction p with
 |nil=>intro a h;exact⟨a,h,pK _⟩
 |cons x p u=>intro a h;obtain⟨k,r,n,m,rfl⟩:=pf h;obtain⟨d,f,e⟩:=u m;exact⟨k::d,Ef n f,e.cons _⟩
 |swap x y l=>intro a h;obtain⟨k,r,n,m,rfl⟩:=pf h;obtain⟨g,d,w,v,rfl⟩:=pf m;exact⟨g::k::d,Ef w (Ef n v),qS _ _ _⟩
 |trans A z j i=>intro a h;obtain⟨B,f,e⟩:=j h;obtain⟨g,s,q⟩:=i f;exact⟨g,s,q.trans e⟩
def Qd(p:d.Perm l)(c:(l.map (·.1)).Nodup):xh d=xh l:=sN (λa b z z f e=>t_ (sM f e) (rX _)) (Ap ((p.map _).nodup_iff.mpr c)) (Ap c) ((va _).trans (p.trans (va _).symm))
def Lk(p:g.Perm a)(h:lh g=a_ (b,l)):∃n d,lh a=a_ (n,d)/\(d.zip a).Perm (l.zip g):=by
 unfold lh at h⊢;cases e:mf g with
 |some k=>rw[e]at h;cases h;obtain⟨f,c,i⟩:=Ee p e;exact⟨c_,f,by rw[c],i⟩
 |none=>
  rw[e]at h;cases m:mf a with
  |some f=>obtain⟨o,c,_⟩:=Ee p.symm m;rw[e]at c;cases c
  |none=>
   cases j:mh g with
   |none=>rw[j]at h;cases h
   |some k=>rw[j]at h;cases h;obtain⟨f,c,i⟩:=Ox p j;exact⟨e_,f,by rw[c];rfl,i⟩
def Qb(p:m.Perm a)(h:jn m=a_ c):jn a=a_ c:=by
 have u:=p.length_eq;obtain⟨s,r⟩:=M3 h;obtain ⟨j,rfl⟩|⟨j,b,q,i,v,rfl⟩:=r
 .have:a=c:=by
   match c,a,j,p with
   |[],l,_,p=>exact List.Perm.nil_eq p|>.symm
   |[x],l,_,p=>exact(List.singleton_perm.mp p).symm▸rfl
  rwa[this]
 .obtain⟨y,d,f,e⟩:=Lk p i;have w:=y0 i;have o:=y0 f;have g:((q.zip m).map (·.1)).Nodup:=by rwa[xC (by lia)]
  have n:d.Nodup:=by have:=(e.map (·.1)).nodup_iff.mpr g;rw[xC (by lia)]at this;exact this
  unfold jn;rw[iG (by lia),iH (by lia),f];dsimp only;rw[iH n,Qd e g]
end Pu
namespace ST
open PySem.SetTable
noncomputable def W5(mask:g_)(p:Probe):Probe:=if p.more>0 then{p with j:=p.j+1,more:=p.more-1}else
 {p with j:=(leap mask p.i p.perturb).1,more:=runEnd mask (leap mask p.i p.perturb).1-(leap mask p.i p.perturb).1,i:=(leap mask p.i p.perturb).1,perturb:=(leap mask p.i p.perturb).2}
def it(mask:g_):g_->Probe->Probe
 |0,p=>p
 |n+1,p=>it mask n (W5 mask p)
def Oq{mask:g_}:∀m n p,it mask (m+n) p=it mask n (it mask m p):=by
 intro a;induction a with
 |zero=>rintro n p;rw[nZ];rfl
 |succ m b=>
  rintro n p
  rw[show m+1+n=(m+n)+1 by lia];exact b n _
noncomputable def st0(mask:g_)(h:j_):Probe:={j:=bits h%(mask+1),more:=runEnd mask (bits h%(mask+1))-bits h%(mask+1),i:=bits h%(mask+1),perturb:=bits h,dummy:=d_}
structure Val(mask:g_)(p:Probe):Prop where
 more:p.more<=9
 i:p.i<=mask
 pt:p.perturb<2^64
 dum:p.dummy=d_
 j:p.j+p.more<=mask
def Bi{mask:g_}(h:i<=mask):i<=runEnd mask i/\runEnd mask i<=mask/\runEnd mask i-i<=9:=by unfold runEnd;split<;>lia
def FG(h:j_):bits h<2^64:=by
 unfold bits
 lia
def Dj(mask:g_)(h:j_):Val mask (st0 mask h):=by have e:bits h%(mask+1)<=mask:=J! (_R _ (Nat.succ_pos _));obtain⟨c,b,a⟩:=Bi e;exact⟨a,e,FG h,_6,by show bits h%_+(runEnd mask _-bits h%_)<=mask;lia⟩
noncomputable def Eh(mask:g_)(p:Probe):g_:=(p.i*5+1+p.perturb / 32)%(mask+1)
def Ln(mask:g_)(p:Probe):Probe:={p with j:=Eh mask p,more:=runEnd mask (Eh mask p)-Eh mask p,i:=Eh mask p,perturb:=p.perturb / 32}
def Ay{mask:g_}(v:Val mask p):Val mask (Ln mask p):=by have e:Eh mask p<=mask:=J! (_R _ (Nat.succ_pos _));obtain⟨c,b,a⟩:=Bi e;exact⟨a,e,sR (Nat.div_le_self _ _) v.pt,v.dum,by show Eh mask p+(runEnd mask _-Eh mask p)<=mask;lia⟩
def MV{mask:g_}(v:Val mask p):Val mask (W5 mask p):=by
 unfold W5;split
 .exact⟨by have:=v.more;show p.more-1<=9;lia,v.i,v.pt,v.dum,by have:=v.j;show p.j+1+(p.more-1)<=mask;lia⟩
 .exact Ay v
def FZ{mask:g_}:∀n {p},Val mask p->Val mask (it mask n p):=by
 intro a;induction a with
 |zero=>rintro _ v;exact v
 |succ n b=>rintro _ v;exact b (MV v)
def R8{mask:g_}:∀k p,p.more=k->it mask (k+1) p=Ln mask p:=by
 intro a;induction a with
 |zero=>
  rintro p h
  show W5 mask p=_;unfold W5;rw[iG (by lia)];rfl
 |succ k b=>
  rintro p h
  show it mask (k+1) _=_;have e:W5 mask p={p with j:=p.j+1,more:=p.more-1}:=by unfold W5;rw[iH (by lia)]
  rw[b _ (by rw[e];show p.more-1=k;lia),e];rfl
def Lu(mask:g_):g_->Probe->Probe
 |0,p=>p
 |n+1,p=>Lu mask n (Ln mask p)
def QT{mask:g_}:∀k {p},Val mask p->∃m,m<=10*k/\it mask m p=Lu mask k p:=by
 intro a;induction a with
 |zero=>rintro p v;exact⟨0,by lia,_6⟩
 |succ k b=>
  rintro p v
  obtain⟨m,d,c⟩:=b (Ay v);have:=v.more;exact⟨p.more+1+m,by lia,by rw[Oq,R8 _ p _6,c];rfl⟩
def Sj{mask:g_}:∀m n p,Lu mask (m+n) p=Lu mask n (Lu mask m p):=by
 intro a;induction a with
 |zero=>rintro n p;rw[nZ];rfl
 |succ m b=>
  rintro n p
  rw[show m+1+n=(m+n)+1 by lia];exact b n _
def Tq{mask:g_}:∀n {p},Val mask p->Val mask (Lu mask n p):=by
 intro a;induction a with
 |zero=>rintro _ v;exact v
 |succ n b=>rintro _ v;exact b (Ay v)
def Z2{mask:g_}:∀k p,(Lu mask k p).perturb=p.perturb / 32^k:=by
 intro a;induction a with
 |zero=>rintro p;rw[Nat.pow_zero,Nat.div_one];rfl
 |succ k b=>
  rintro p
  show(Lu mask k _).perturb=_;rw[b,xP,xM,<-Nat.div_div_eq_div_mul];rfl
noncomputable def lc(mask:g_):g_->g_->g_
 |0,i=>i
 |n+1,i=>lc mask n ((i*5+1)%(mask+1))
def O4{mask:g_}:∀m n i,lc mask (m+n) i=lc mask n (lc mask m i):=by
 intro a;induction a with
 |zero=>rintro n p;rw[nZ];rfl
 |succ m b=>
  rintro n p
  rw[show m+1+n=(m+n)+1 by lia];exact b n _
theorem O7{mask:g_}:∀k {p},p.perturb=0->p.j=p.i->(Lu mask k p).i=lc mask k p.i/\(Lu mask k p).j=lc mask k p.i
 |0,p,h,e=>⟨_6,e⟩
 |k+1,p,h,e=>by
  have:=O7 (mask:=mask) k (p:=Ln mask p) (by show p.perturb / 32=0;rw[h]) _6;have a:(Ln mask p).i=(p.i*5+1)%(mask+1):=by show _%_=_;rw[h]
  rw[a]at this;exact this
noncomputable def AK(mask:g_):g_->g_->b_ g_
 |0,_=>[]
 |n+1,i=>i::AK mask n ((i*5+1)%(mask+1))
def Su{mask:g_}:∀{n i},j∈AK mask n i->∃k,k<n/\lc mask k i=j:=by
 intro a;induction a with
 |zero=>rintro i h;cases h
 |succ n b=>
  rintro i h
  rcases l_.mp h with h|h
  .exact⟨0,by lia,h.symm⟩
  .obtain⟨k,d,c⟩:=b h;exact⟨k+1,by lia,c⟩
def Mk(mask:g_):Prop:=mask=7\/mask=31\/mask=127
def JO{mask:g_}(a:Mk mask):(∀j,j<=mask->j∈AK mask (mask+1) 0)/\lc mask (mask+1) 0=0:=by
 have g:∀m,((jD (m+1)).all λj=>(AK m _ 0).contains j)=c_->∀j,j<=m->j∈AK m (m+1) 0:=λm h j b=>by have:=w_.mp h j (v_.mpr (by lia));simpa using this
 obtain rfl|rfl|rfl:=a
 .exact⟨g _ (by decide+kernel),by decide+kernel⟩
 .exact⟨g _ (by decide+kernel),by decide+kernel⟩
 .exact⟨g _ (by decide+kernel),by decide+kernel⟩
def Lm{mask i:g_}(f:Mk mask)(l:i<=mask)(g:j<=mask):∃k,k<=mask/\lc mask k i=j:=by
 obtain⟨c,m⟩:=JO f;obtain⟨a,o,e⟩:=Su (c i l);obtain⟨b,n,d⟩:=Su (c j g)
 by_cases h:a<=b
 .exact⟨b-a,by lia,by rw[<-e,<-O4,show a+_=b by lia,d]⟩
 .exact⟨mask+1-a+b,by lia,by rw[<-e,<-O4,show a+_=(mask+1)+b by lia,O4,m,d]⟩
def WE{mask j:g_}{p:Probe}(e:Mk mask)(v:Val mask p)(f:j<=mask):∃m,m<10*turns mask/\(it mask m p).j=j:=by
 have b:(Lu mask 13 p).perturb=0:=by rw[Z2];exact _0 (jR v.pt (by decide))
 have a:(Lu mask 13 p).j=(Lu mask 13 p).i:=by rfl
 obtain⟨k,h,d⟩:=Lm e (Tq 13 v).i f;obtain⟨m,g,c⟩:=QT (13+k) v;refine⟨m,by unfold turns;lia,?_⟩;rw[c,Sj,(O7 k b a).2,d]
abbrev Ris(xs:p_ g_):Prop:=xs.toList.Pairwise (· <·)
def Ris.lt(h:Ris xs){a b x:g_}(c:a<b)(e:xs[a]?=a_ x)(d:xs[b]?=a_ y):x<y:=by rw[<-jO]at e d;obtain⟨g,rfl⟩:=h_.mp e;obtain⟨f,rfl⟩:=h_.mp d;exact F_.mp h a b g f c
def Ris.inj(h:Ris xs){a b:g_}(d:xs[a]?=a_ x)(c:xs[b]?=a_ x):a=b:=by
 rcases rM a b with z|z|z
 .exact t_ (h.lt z d c) (kU _)
 .exact z
 .exact t_ (h.lt z c d) (kU _)
def Xo(h:Ris xs):∀d lo c,c<=xs.size->lo<=c->c-lo<=d->(∀k x,k<lo->xs[k]?=a_ x->x<j)->(∀k x,c<=k->xs[k]?=a_ x->j<=x)->
  below.go xs j d lo c<=xs.size/\(∀k x,k<below.go xs j d lo c->xs[k]?=a_ x->x<j)/\(∀k x,below.go xs j d lo c<=k->xs[k]?=a_ x->j<=x):=by
 intro n;induction n with
 |zero=>
  rintro lo c i s r a b
  have:lo=c:=by lia
  subst this;exact⟨i,a,b⟩
 |succ d f=>
  rintro lo c i s r a b
  unfold below.go
  by_cases o:lo<c
  .rw[iH o];have g1:lo<=(lo+c) / 2:=by lia
   have g2:(lo+c) / 2<c:=by lia
   generalize (lo+c) / 2=m at *;have p:m<xs.size:=by lia
   have l:xs[m]?=a_ (xs.getD (m) j):=by simp[p]
   by_cases g:xs.getD (m) j<j
   .rw[iH g];refine f _ c i (by lia) (by lia) (λk x q e=>?_) b;rcases nY k _ with z|z
    .exact tJ (h.lt z e l) g
    .have:k=m:=by lia
     subst this;rw[l]at e;cases e;exact g
   .rw[iG g];refine f lo _ (by lia) (by lia) (by lia) a (λk x q e=>?_);rcases nY _ k with z|z
    .have:=h.lt z l e;lia
    .have:k=m:=by lia
     subst this;rw[l]at e;cases e;lia
  .rw[iG o];have:lo=c:=by lia
   subst this;exact⟨i,a,b⟩
def zt(h:Ris xs):below xs j<=xs.size/\(∀k x,k<below xs j->xs[k]?=a_ x->x<j)/\(∀k x,below xs j<=k->xs[k]?=a_ x->j<=x):=
 Xo h xs.size 0 xs.size (iF _) (jW _) (iF _) (λk x b=>by lia) λk x b a=>by
  obtain⟨z,_⟩:=L_.mp a
  lia
def Xn(h:Ris xs)(e:xs[i]?=a_ j):below xs j=i:=by
 obtain⟨_,d,c⟩:=zt h;rcases rM i _ with z|z|z
 .exact t_ (d i j z e) (kU _)
 .exact z.symm
 .have b:below xs j<xs.size:=by
   obtain⟨q,_⟩:=L_.mp e
   lia
  have a:=jU b;have:=c _ _ (iF _) a;have:=h.lt z a e
  lia
def Hi{t:qT}(h:Ris t.place)(e:t.place[i]?=a_ j):t.slot j=.live i:=by unfold slot;rw[Xn h e];rw[iH (by rw[e];exact W_ _)]
def P8{t:qT}(a:t.dummies=#[])(e:j∉t.place.toList):t.slot j=.empty:=by
 unfold slot;rw[iG (λz=>e (by
  have z:t.place[below t.place j]?=a_ j:=by simpa using z
  rw[<-jO]at z;exact jT z)),a]
 rfl
def P7{t:qT}(h:Ris t.place)(b:t.dummies=#[])(j:g_):(∃i,t.place[i]?=a_ j/\t.slot j=.live i)\/(j∉t.place.toList/\t.slot j=.empty):=by
 by_cases e:j∈t.place.toList
 .obtain⟨i,a⟩:=mV e;rw[jO]at a;exact .inl ⟨i,a,Hi h a⟩
 .exact .inr ⟨e,P8 b e⟩
def BO:∀n (l:b_ g_),_7 l<n->∃j,j<n/\j∉l:=by
 intro a;induction a with
 |zero=>rintro l h;lia
 |succ n b=>
  rintro l h
  by_cases e:n∈l
  .obtain⟨j,d,c⟩:=b _ (by rw[List.length_erase_of_mem e];have:=p? e;lia);exact⟨j,by lia,λz=>c ((List.mem_erase_of_ne (by lia)).mpr z)⟩
  .exact⟨n,by lia,e⟩
theorem Rq(n:Ris t.place)(q:t.dummies=#[]):∀fuel p,p.dummy=d_->(∃m,m<fuel/\(it t.mask m p).j∉t.place.toList)->
  ∃m,m<fuel/\(∀a,a<m->∃i,t.place[i]?=a_ (it t.mask a p).j/\hashAt i≠h)/\
   (((it t.mask m p).j∉t.place.toList/\probe.go t hashAt h fuel p=a_ (.empty (it t.mask m p).j d_))\/
    ∃i,t.place[i]?=a_ (it t.mask m p).j/\hashAt i=h/\probe.go t hashAt h fuel p=a_ (.candidate (it t.mask m p).j i (it t.mask (m+1) p)))
 |0,p,_,f=>by obtain⟨m,v,_⟩:=f;lia
 |fuel+1,p,o,e=>by
  obtain⟨g,v,r⟩:=e;rcases P7 n q p.j with⟨i,b,d⟩|⟨b,d⟩
  .by_cases c:hashAt i=h
   .refine⟨0,by lia,λa z=>by lia,.inr ⟨i,b,c,?_⟩⟩;unfold probe.go;rw[d];dsimp only;rw[iH (by rw[c];exact W_ _)];rfl
   .have u:g≠0:=λz=>by subst z;rw[<-jO]at b;exact r (jT b)
    obtain⟨k,rfl⟩:∃k,g=k+1:=⟨g-1,by lia⟩;have l:(W5 t.mask p).dummy=d_:=by unfold W5;split<;>exact o
    obtain⟨m,y,s,x⟩:=Rq (h:=h) n q fuel _ l ⟨k,by lia,r⟩;have w:probe.go t hashAt h (fuel+1) p=probe.go t hashAt h fuel (W5 t.mask p):=by rw[probe.go,d];dsimp only;rw[iG (by simpa using c)];rfl
    refine⟨m+1,by lia,λa z=>?_,?_⟩
    .cases a with
     |zero=>exact⟨i,b,c⟩
     |succ a=>exact s a (by lia)
    .rwa[w]
  .refine⟨0,by lia,λa z=>by lia,.inl ⟨b,?_⟩⟩;unfold probe.go;rw[d];rw[o];rfl
def gq(mask:g_)(h:j_)(m:g_):g_:=(it mask m (st0 mask h)).j
def Sy{mask:g_}:gq mask h m<=mask:=by
 have:=(FZ m (Dj mask h)).j;unfold gq
 lia
structure t0(t:qT)(hs:b_ j_):Prop where
 mask:Mk t.mask
 dum:t.dummies=#[]
 len:t.place.size=_7 hs
 rd:Ris t.place
 le:∀j∈t.place.toList,j<=t.mask
 room:t.place.size<=t.mask
 reach:∀q∈t.place.toList.zip hs,∃m,gq t.mask q.2 m=q.1/\∀m',m'<m->gq t.mask q.2 m'∈t.place.toList
def t0.fits(T:t0 t a):t.place.size=_7 a/\t.fill<=t.mask:=by refine⟨T.len,?_⟩;unfold C!;rw[T.dum];exact T.room
def t0.empty(T:t0 t c)(p:Probe)(v:Val t.mask p):∃m,m<10*turns t.mask/\(it t.mask m p).j∉t.place.toList:=by obtain⟨j,e,d⟩:=BO (t.mask+1) t.place.toList (by have:=T.room;rw[iP];lia);obtain⟨m,b,a⟩:=WE T.mask v (j:=j) (by lia);exact⟨m,b,by rwa[a]⟩
def t0.probe(T:t0 t l)(hashAt:g_->j_)(h:j_)(m:g_):∃c,m<=c/\(∀d,m<=d->d<c->∃i,t.place[i]?=a_ (gq t.mask h d)/\hashAt i≠h)/\
   ((gq t.mask h c∉t.place.toList/\t.probe hashAt h (it t.mask m (st0 t.mask h))=a_ (.empty (gq t.mask h c) d_))\/
   ∃i,t.place[i]?=a_ (gq t.mask h c)/\hashAt i=h/\t.probe hashAt h (it t.mask m (st0 t.mask h))=a_ (.candidate (gq t.mask h c) i (it t.mask (c+1) (st0 t.mask h)))):=by
 have v:=FZ m (Dj t.mask h);obtain⟨k,j,g,f⟩:=Rq (h:=h) T.rd T.dum _ _ v.dum (T.empty _ v);have e:∀n,_=it t.mask _ (st0 t.mask h):=λn=>(Oq m n _).symm;refine⟨m+k,by lia,λd a b=>?_,?_⟩
 .have:=g (d-m) (by lia);rw[e,show m+_=d by lia]at this;exact this
 .rw[e,e]at f;exact f
def t0.first(T:t0 t a)(h:j_):∃M,M<10*turns t.mask/\gq t.mask h M∉t.place.toList:=T.empty _ (Dj t.mask h)
def EJ{mask:g_}(h:Mk mask):10*turns mask<=1420:=by rcases h with rfl|rfl|rfl<;>decide
def gz(xs:p_ α)(p:g_)(x:α):(insertAt xs p x).toList=xs.toList.take p++x::xs.toList.drop p:=by unfold insertAt;simp;exact lJ (by simp)
def C7{l:b_ α}:y∈l.take p++x::l.drop p↔y=x\/y∈l:=by
 rw[vF,mF];constructor
 .rintro (h|h|h)
  .exact .inr (rW h)
  .exact .inl h
  .exact .inr (rV h)
 .rintro (h|h)
  .exact .inr (.inl h)
  .rw[<-lA p l,vF]at h;obtain h|h:=h
   .exact .inl h
   .exact .inr (.inr h)
def MS{l:b_ α}(a:_7 l=_7 r):(l.take p++x::l.drop p).zip (r.take p++y::r.drop p)=(l.zip r).take p++(x,y)::(l.zip r).drop p:=by rw[_1 (by rw[lX,lX,a]),Z?];unfold List.zip;rw[List.take_zipWith,List.drop_zipWith]
set_option tactic.hygienic true in
def t0.put(T:t0 t d)(A:gq t.mask h m∉t.place.toList)(C:∀c,c<m->gq t.mask h c∈t.place.toList)(o:t.place.size+1<=t.mask):
  ∃p,p<=_7 d/\(t.put (gq t.mask h m)).2=p/\t0 (t.put (gq t.mask h m)).1 (d.take p++h::d.drop p)/\(t.put (gq t.mask h m)).1={t with place:=insertAt t.place p (gq t.mask h m),dummies:=#[]}:=by
 obtain⟨I,G,E⟩:=zt T.rd;have B:has t.dummies (gq t.mask h m)=e_:=by rw[T.dum];rfl
 have w:(t.put (gq t.mask h m)).1={t with place:=insertAt t.place (below t.place (gq t.mask h m)) (gq t.mask h m),dummies:=#[]}:=by unfold SetTable.put;rw[B,T.dum];rfl
 refine⟨below t.place _,by rwa[<-T.len],_6,?_,w⟩;rw[w];generalize H:below t.place _=p at *;have r:_7 t.place.toList=_7 d:=by exact T.len
 have lt:∀x∈t.place.toList.take p,x<gq t.mask h m:=λx b=>by
  obtain⟨i,a⟩:=mV b;rw[a!]at a;split at a
  .rename_i z;rw[jO]at a;exact G i x z a
  .cases a
 have v:∀x∈t.place.toList.drop p,gq t.mask h m<x:=λx b=>by
  obtain⟨i,a⟩:=mV b;rw[List.getElem?_drop,jO]at a;have u:=E _ x (mO p i) a;have s:x≠gq t.mask h m:=λz=>by subst z;rw[<-jO]at a;exact A (jT a)
  lia
 have n:(t.place.toList.take p).Pairwise (· <·)/\(t.place.toList.drop p).Pairwise (· <·):=by have:=T.rd;unfold Ris at this;rw[<-lA p t.place.toList,J?]at this;exact⟨this.1,this.2.1⟩
 refine⟨T.mask,_6,?_,?_,?_,?_,?_⟩
 .rw[<-iP,gz];simp only[iO,lX,iC,lD,r]
 .show((insertAt t.place p _).toList).Pairwise _;rw[gz,J?];refine⟨n.1,y_.mpr ⟨v,n.2⟩,λx b y e=>?_⟩;rcases l_.mp e with rfl|e
  .exact lt x b
  .exact tJ (lt x b) (v y e)
 .rw[gz];intro j l;rcases C7.mp l with rfl|l
  .exact Sy
  .exact T.le j l
 .rw[<-iP,gz];simp only[iO,lX,iC,lD,iP]
  lia
 .rw[gz,MS r];intro q f;rcases C7.mp f with rfl|f
  .exact⟨m,_6,λk g=>C7.mpr (.inr (C k g))⟩
  .obtain⟨c,u,s⟩:=T.reach q f;exact⟨c,u,λk g=>C7.mpr (.inr (s k g))⟩
def Wv(d a:g_)(led:r_):t0 (.fresh d a led) []:=⟨.inl _6,_6,_6,qB,(λj c=>t_ (show j∈([]:b_ g_)from c) (by simp)),jW _,(λq b=>t_ (b) (by simp))⟩
structure Own(mask:g_)(owner:p_ (f_ g_))(L:b_ g_):Prop where
 size:owner.size=mask+1
 nd:L.Nodup
 le:∀j∈L,j<=mask
 nw:∀(j i:g_),owner[j]?=a_ (a_ i)↔L[i]?=a_ j
def Own.none{mask:g_}(O:Own mask a L)(f:j<=mask):(a.getD j (a_ 0)).isNone=c_↔j∉L:=by
 have b:j<a.size:=by rw[O.size];lia
 have d:a.getD j (a_ 0)=a[j]:=by simp[b]
 rw[d];cases e:a[j]with
 |none=>refine⟨λq z=>?_,λq=>rfl⟩;obtain⟨i,c⟩:=mV z;have:=(O.nw j i).mpr c;rw[jU b,e]at this;cases this
 |some i=>refine⟨λz=>(by cases z),λz=>t_ (jT ((O.nw j i).mp ?_)) z⟩;rw[jU b,e]
def Zb{mask:g_}:∀k p,k<=p.more->(it mask k p).j=p.j+k:=by
 intro a;induction a with
 |zero=>rintro p _;exact _6
 |succ k b=>
  rintro p h
  show(it mask k _).j=_;have e:W5 mask p={p with j:=p.j+1,more:=p.more-1}:=by unfold W5;rw[iH (by lia)]
  rw[e,b _ (by show k<=p.more-1;lia)];show p.j+1+k=p.j+_
  lia
def Ob:(∀k,(jD n).find? f=a_ k->k<n/\f k=c_/\∀a,a<k->f a=e_)/\((jD n).find? f=d_->∀k,k<n->f k=e_):=by
 refine⟨λk h=>?_,λh k g=>?_⟩
 .have i:=v_.mp (_V h);refine⟨i,(_2 h),λa e=>?_⟩;obtain⟨_,d,bs,c,j⟩:=List.find?_eq_some_iff_append.mp h;have l:_7 d=k:=by
   have b:(jD n)[d.length]?=a_ k:=by rw[c];simp
   rw[qN (by
    have:=u_ mD c;simp at this
    lia)]at b
   exact jM b
  have:a∈d:=by have b:(jD n)[a]?=a_ a:=qN (by lia);rw[c,kI (by lia)]at b;exact jT b
  simpa using j a this
 .have:=List.find?_eq_none.mp h k (v_.mpr g);simpa using this
def GE{mask:g_}(O:Own mask c L):∀g p,Val mask p->p.j=p.i->p.more=runEnd mask p.i-p.i->(∃k,k<g/\(Lu mask k p).j∉L)->
  ∃m,layClean.free mask c g p.i p.perturb=a_ (it mask m p).j/\(it mask m p).j∉L/\∀d,d<m->(it mask d p).j∈L:=by
 intro l;induction l with
 |zero=>rintro p _ _ _ ⟨k,h,_⟩;lia
 |succ g o=>
  rintro p v u em ⟨k,hk,A⟩
  obtain⟨N,M,J⟩:=Bi v.i;obtain⟨I,H⟩:=Ob (f:=λk=>(c.getD _ _).isNone);unfold layClean.free;cases e:(jD _).find? λk=>(c.getD _ _).isNone with
  |some q=>
   obtain⟨Q,E,C⟩:=I q e;have r:∀x,x<=q->(it mask x p).j=p.i+x:=λx Y=>by rw[Zb x p (by lia),u]
   refine⟨q,by rw[r q (iF _)],?_,λd w=>?_⟩
   .rw[r q (iF _)];exact(O.none (by lia)).mp E
   .rw[r d (by lia)];refine pV λz=>?_;have:=(O.none (by lia)).mpr z;have:=C d w
    simp_all
  |none=>
   have all:=H e;have ne:k≠0:=λz=>by
    subst z;refine A (pV λz=>?_);have B:p.i+0∉L:=by rwa[Nat.add_zero,<-u]
    have a:=all 0 (by lia);have b:=(O.none (by lia)).mpr B
    simp_all
   obtain⟨n,rfl⟩:∃n,k=n+1:=⟨k-1,by lia⟩;obtain⟨m,U,T,G⟩:=o _ (Ay v) _6 _6 ⟨n,by lia,A⟩;have s:∀x,it mask _ p=it mask x _:=λx=>by rw[Oq,R8 _ p _6]
   refine⟨p.more+1+m,?_,?_,λd w=>?_⟩
   .rwa[s]
   .rwa[s]
   .rcases nY d (p.more+1)with z|z
    .rw[Zb d p (by lia),u];refine pV λy=>?_;have a:=all d (by lia);have b:=(O.none (by lia)).mpr y
     simp_all
    .have:=G (d-(p.more+1)) (by lia);rw[<-s,show p.more+1+_=d by lia]at this;exact this
def GF{mask:g_}(f:Mk mask)(O:Own mask a L)(o:_7 L<=mask)(h:j_):
  ∃m,layClean.free mask a (turns mask) (bits h%(mask+1)) (bits h)=a_ (gq mask h m)/\gq mask h m∉L/\∀c,c<m->gq mask h c∈L:=by
 obtain⟨j,n,l⟩:=BO (mask+1) L (by lia);have v:=Dj mask h;have d:(Lu mask 13 (st0 mask h)).perturb=0:=by rw[Z2];exact _0 (jR v.pt (by decide))
 have b:(Lu mask 13 (st0 mask h)).j=(Lu mask 13 (st0 mask h)).i:=by rfl
 obtain⟨k,g,e⟩:=Lm f (Tq 13 v).i (show j<=mask by lia);exact GE O _ _ v _6 _6 ⟨13+k,by unfold turns;lia,by rwa[Sj,(O7 k d b).2,e]⟩
def Own.snoc{mask:g_}(O:Own mask c L)(m:j<=mask)(f:j∉L):Own mask (c.setIfInBounds j (a_ L.length)) (L++[j]):=by
 have g:j<c.size:=by rw[O.size];lia
 refine⟨by rw[Array.size_setIfInBounds];exact O.size,?_,?_,λx i=>?_⟩
 .rw[rL];exact⟨O.nd,by simp,λa l b h=>by rw[q_.mp h];exact λz=>f (z▸l)⟩
 .intro x d;rcases s_.mp d with d|d
  .exact O.le x d
  .rwa[q_.mp d]
 .rw[Array.getElem?_setIfInBounds]
  by_cases e:j=x
  .subst e;rw[iH _6,iH g];constructor
   .intro z;cases z;simp
   .intro z;rcases rM i L.length with y|y|y
    .rw[kI y]at z;exact t_ (jT z) f
    .rw[y]
    .have:=(h_.mp z).1;simp at this
     lia
  .rw[iG e,O.nw];rcases nY i L.length with y|y
   .rw[kI y]
   .rw[kW y,mQ y];constructor
    .intro z;cases z
    .intro z;have:=q_.mp (jT z);exact t_ this.symm e
theorem Ll{mask:g_}(n:Mk mask):∀f a L c,Own mask a L->_7 L=_7 c->_7 L+_7 f<=mask->
  (∀q∈L.zip c,∃m,gq mask q.2 m=q.1/\∀d,d<m->gq mask q.2 d∈L)->
  ∃b e,f.foldl (init:=a_ (a,L.length)) (λl h=>do
    let (a,k) <-l;let j <-layClean.free mask a (turns mask) (bits h%(mask+1)) (bits h)
    Q_ (a.setIfInBounds j (a_ k),k+1))=a_ (b,e.length)/\Own mask b e/\_7 e=(c++f).length/\
   ∀q∈e.zip (c++f),∃m,gq mask q.2 m=q.1/\∀d,d<m->gq mask q.2 d∈e
 |[],a,L,c,O,i,_,r=>⟨a,L,_6,O,by rwa[jX],by rwa[jX]⟩
 |h::f,a,L,c,O,i,A,r=>by
  rw[iC]at A;obtain⟨m,v,u,s⟩:=GF n O (by lia) h;have w:(L++[gq mask h m]).length=_7 L+1:=by simp
  obtain⟨b,e,p,C,B,o⟩:=Ll n f _ _ (c++[h]) (O.snoc Sy u) (by simp[i]) (by lia) (λq g=>by
   rw[_1 i,Z?,List.zip_nil_left]at g;rcases s_.mp g with g|g
   .obtain⟨k,y,x⟩:=r q g;exact⟨k,y,λd z=>kE _ (x d z)⟩
   .rw[q_.mp g];exact⟨m,_6,λd z=>kE _ (s d z)⟩)
  refine⟨b,e,?_,C,by rw[B];simp,by
   rw[kF]at o;exact o⟩
  rw[uZ];rw[w]at p;rw[<-p]
  congr 1
  show(layClean.free mask a _ _ _).bind _=_;rw[v];rfl
def eR(mask:g_):Own mask (Array.replicate (mask+1) d_) []:=by
 refine⟨by simp,nE,λj a=>(by cases a),λj i=>?_⟩;constructor
 .intro h;rw[Array.getElem?_replicate]at h;split at h<;>cases h
 .intro h;cases h
def Vm{mask:g_}(e:Mk mask)(b:p_ j_)(f:b.size<=mask):∃a L,layClean mask b=a_ a/\Own mask a L/\_7 L=b.size/\
  ∀q∈L.zip b.toList,∃m,gq mask q.2 m=q.1/\∀c,c<m->gq mask q.2 c∈L:=by
 obtain⟨a,L,j,i,h,g⟩:=Ll e b.toList _ [] [] (eR mask) _6 (by simpa using f) (λq d=>by cases d);refine⟨a,L,?_,i,by simpa using h,by simpa using g⟩;unfold layClean;rw[<-Array.foldl_toList];exact u_ _ j
def B4(mask:g_)(a:p_ (f_ g_)):b_ (g_×g_):=(jD (mask+1)).filterMap λj=>(a.getD j d_).map (j,·)
def ph{mask:g_}(O:Own mask a L):q∈B4 mask a↔L[q.2]?=a_ q.1:=by
 have e:∀j,j<mask+1->a[j]?=a_ (a.getD j d_):=λj b=>by
  have d:j<a.size:=by rwa[O.size]
  simp[d]
 unfold B4;rw[U_];constructor
 .rintro⟨j,b,h⟩
  have b:=v_.mp b;cases c:a.getD j d_ with
  |none=>rw[c]at h;cases h
  |some i=>rw[c]at h;cases h;exact(O.nw j i).mp (by rw[e j b,c])
 .intro h;have b:=Nat.lt_succ_of_le (O.le _ (jT h));refine⟨q.1,v_.mpr b,?_⟩;have:=(O.nw q.1 q.2).mpr h;rw[e _ b]at this;rw[jM this];rfl
def Sh(mask:g_)(c:p_ (f_ g_)):(B4 mask c).Pairwise λa b=>a.1<b.1:=by
 unfold B4;rw[List.pairwise_filterMap];refine tR ?_ tS;intro a b f x e y d;cases h:c.getD a d_ with
 |none=>rw[h]at e;cases e
 |some i=>
  cases g:c.getD b d_ with
  |none=>rw[g]at d;cases d
  |some k=>rw[h]at e;rw[g]at d;cases e;cases d;exact f
def IW{mask:g_}(r:Mk mask)(e:p_ j_)(A:e.size<=mask)(M u:g_)(led plain:r_):∃g d,laid mask M u led plain e=a_ (g,d)/\g.mask=mask/\g.led=led/\g.plain=plain/\
  d.toList.Perm (jD e.size)/\t0 g (d.toList.map λi=>e.toList.getD i 0):=by
 obtain⟨c,L,J,O,Q,I⟩:=Vm r e A;refine⟨_,_,by unfold laid;rw[J];rfl,_6,_6,_6,?_,?_⟩
 .refine(rY ?_ xA).mpr λi=>?_
  .rw[List.Nodup,qD];refine List.Pairwise.imp_of_mem ?_ (Sh mask c);intro a b H E G z;have o:=(ph O).mp H;rw[z,((ph O).mp E)]at o;have:=jM o
   lia
  .rw[oA,v_];constructor
   .rintro⟨q,f,rfl⟩
    have:=(h_.mp ((ph O).mp f)).1
    lia
   .intro s;have p:i<L.length:=by lia
    exact⟨(L[i],i),(ph O).mpr (iR p),_6⟩
 .have n:∀j,j∈(B4 mask c).map (·.1)↔j∈L:=λj=>by
   rw[oA];constructor
   .rintro⟨q,f,rfl⟩;exact jT ((ph O).mp f)
   .intro h;obtain⟨i,s⟩:=mV h;exact⟨(j,i),(ph O).mpr s,_6⟩
  have pw:((B4 mask c).map (·.1)).Pairwise (· <·):=by rw[qD];exact Sh mask c
  have N:(B4 mask c).length=e.size:=by have:=((rY (tR (λh=>jJ h) pw) O.nd).mpr n).length_eq;rw[iD]at this;lia
  refine⟨r,_6,?_,pw,λj B=>O.le j ((n j).mp B),?_,?_⟩
  .simp
  .show((B4 mask c).map _).toArray.size<=mask;simp
   lia
  .intro q f;rw[jV,List.zip_map',oA]at f;obtain⟨x,l,rfl⟩:=f;have l:=(ph O).mp l;have p:=(h_.mp l).1;have C:e.toList[x.2]?=a_ (e.toList.getD x.2 0):=by rw[iK,iR (by rw[iP];lia)];rfl
   obtain⟨m,w,v⟩:=I _ (by
    have:(L.zip e.toList)[x.2]?=a_ (x.1,e.toList.getD x.2 0):=by rw[_W];exact⟨l,C⟩
    exact jT this)
   exact⟨m,w,λy z=>(n _).mpr (v y z)⟩
structure sK(t:qT)(hs:b_ j_):Prop extends t0 t hs where
 loose:t.place.size*5<t.mask*3
def Wq(b a:g_)(led:r_):sK (.fresh b a led) []:=⟨Wv b a led,by show 0*5<7*3;decide⟩
def sK.room1(S:sK t a):t.place.size+1<=t.mask:=by have:=S.loose;rcases S.mask with e|e|e<;>rw[e]at this⊢<;>lia
def xi{t:qT}(a:t.dummies=#[]):t.tooFull=decide (t.place.size*5>=t.mask*3):=by unfold tooFull C!;rw[a];rfl
def sK.relay(T:t0 t c.toList)(h:(t.place.size-1)*5<t.mask*3)(f:t.tooFull=c_)(s:c.size<=76):
  sizeAbove (grown c.size)<=iN/\∃d a,t.relaid c (grown c.size)=a_ (d,a)/\d.led=t.led/\d.plain=t.plain/\a.toList.Perm (jD c.size)/\sK d (a.toList.map λi=>c.toList.getD i 0):=by
 rw[xi T.dum]at f;have f:=A_ f;have o:=T.len;rw[iP]at o;have g:∀n b,sizeAbove (grown n)-1=b->n=c.size->Mk b->n*5<b*3->n<=b->sizeAbove (grown n)<=iN->sizeAbove (grown c.size)<=iN/\∃d a,t.relaid c (grown c.size)=a_ (d,a)/\d.led=t.led/\d.plain=t.plain/\a.toList.Perm (jD c.size)/\sK d (a.toList.map λi=>c.toList.getD i 0):=by
  intro n b e u mk lo le m;subst u;refine⟨m,?_⟩;obtain⟨d,a,v,r,q,p,l,j⟩:=IW mk c le t.finger _ t.led t.plain;refine⟨d,a,?_,q,p,l,j,?_⟩
  .unfold relaid;rwa[e]
  .rw[j.len,r];rwa[iD,l.length_eq,kG]
 obtain e|e|e:=T.mask
 .exact g 5 31 (by decide) (by lia) (.inr (.inl _6)) (by decide) (by decide) (by decide)
 .exact g 19 127 (by decide) (by lia) (.inr (.inr _6)) (by decide) (by decide) (by decide)
 .lia
end ST
namespace L2
noncomputable def SO:vz->r_
 |.inl _=>c_
 |.inr _=>e_
def VD:NK->r_
 |.inl k=>SO k
 |.inr a=>a.all SO
section
def Rt(n:g_)(h:(bg a w).is k v=c_):yB n v=Q_ (SO k):=by
 rcases b8 h with⟨i,t,rfl,rfl⟩|⟨x,t,rfl,rfl⟩
 .rw[K! n _6];rfl
 .rw[K! n _6];rfl
def HZ(d:nS (bg b w) s.1 i a)(h:Q (i.all SO) s):jK (jG b w) A (yB (n+1) (.ref a)) Q E s:=by
 have z:=d.typeIs;obtain⟨o,j,H,u,_,y,x⟩:=d;refine iA (rA z F.slot_tuple_hash.lookup (iA (nT u y (iA ?_))));rw[<-qV];refine oC _ (λcW r f=>r.1=d_/\f=s/\∃left,ItemsAre (bg b w) left cW/\left.all SO=i.all SO) _ ?_ ?_ _ _ ⟨_6,_6,i,x,_6⟩
 .rintro v cW r f ⟨m,rfl,left,l,c⟩
  cases l with
  |@cons k B g p d q=>
   rw[Rt n d];rw[kJ]at c;cases e:SO k with
   |true=>rw[e,Bool.true_and]at c;exact iB ⟨_6,_6,g,q,c⟩
   |false=>rw[e,Bool.false_and]at c;refine iB (iB ?_);rw[<-c]at h;exact h
 .rintro⟨G,C⟩ f ⟨m,rfl,left,l,c⟩
  subst m;cases l;refine iB ?_;rw[<-c]at h;exact h
def QY(c:Bg a w s.1 k v)(h:Q (VD k) s):jK (jG a w) A (yB 8 v) Q E s:=by
 cases k with
 |inl k=>rw[Rt _ c];exact iB h
 |inr d=>obtain⟨b,rfl,q⟩:=c;exact HZ q h
def JX(n:g_)(h:(bg a w).is k v=c_):wK n v=Q_ e_:=by rcases b8 h with⟨i,t,rfl,rfl⟩|⟨x,t,rfl,rfl⟩<;>(cases n<;>rfl)
def Sr(c:nS (bg b w) s.1 l a)(h:Q e_ s):jK (jG b w) A (wK (n+1) (.ref a)) Q E s:=by
 have x:=c.typeIs;obtain⟨o,f,C,p,_,u,q⟩:=c;unfold wK;refine iA (pF x (iA (iB (iA (nT p u (iA ?_))))));rw[<-qV];refine oC _ (λcW r d=>r.1=d_/\d=s/\∃left,ItemsAre (bg b w) left cW) _ ?_ ?_ _ _ ⟨_6,_6,l,q⟩
 .rintro v cW r d ⟨g,rfl,left,i⟩
  cases i with
  |@cons k y e j c m=>rw[JX n c];exact iB ⟨_6,_6,e,m⟩
 .rintro⟨B,z⟩ d ⟨g,rfl,left,i⟩
  subst g;exact iB h
abbrev Xd(a:kR)(w:mG)(h:C_)(y:jB):Prop:=∃c b,y=.ref c/\nS (bg a w) h b c
def VL(j:nS (bg a w) s.1 p b)(e:∀y∈m,Xd a w s.1 y)(h:Q e_ s):jK (jG a w) A (searchCouldBeSeen (.ref b) m) Q E s:=by
 refine iA (oC _ (λcW r d=>r.1=d_/\d=s/\∀y∈cW,Xd a w s.1 y) _ ?_ ?_ _ _ ⟨_6,_6,e⟩)
 .rintro v cW r d ⟨i,rfl,f⟩
  obtain⟨c,q,rfl,l⟩:=f v iM;have g:∀y∈cW,Xd a w d.1 y:=λy e=>f y (iI _ e);dsimp only;split
  .exact iB ⟨_6,_6,g⟩
  .exact iA (Bh j (iA (Bh l (iA (Sr j (iA (Sr l (iB ⟨_6,_6,g⟩))))))))
 .rintro⟨o,n⟩ d ⟨i,rfl,f⟩
  subst i;exact iB h
def mu(a:kR)(w:mG)(b:r_)(h:C_):NK->jB->Prop
 |.inl k,v=>b=e_/\(bg a w).is k v=c_
 |.inr d,v=>b=c_/\∃c,v=.ref c/\nS (bg a w) h d c
def mu.nk:∀{k}{v},mu a w b h k v->Bg a w h k v
 |.inl _,_,q=>q.2
 |.inr _,_,q=>q.2
def mu.ci:∀{k}{v},mu a w c_ h k v->Xd a w h v
 |.inl _,_,q=>t_ q.1 (by decide)
 |.inr d,_,b=>by obtain⟨_,c,e,q⟩:=b;exact⟨c,d,e,q⟩
inductive ElK(prog:kR)(w:mG)(b:r_)(h:C_)(e:j_×jB)(k:NK):Prop
 |mk (_:e.1=c9 w prog k) (_:mu prog w b h k e.2):ElK prog w b h e k
def gy(a:kR)(w:mG)(b:r_)(h:C_):b_ (j_×jB)->b_ NK->Prop
 |[],c=>c=[]
 |e::d,c=>Cn (ElK a w b h e) (gy a w b h d) c
theorem gy.len:∀{es}{a},gy c w b h es a->_7 es=_7 a
 |[],a,e=>by rw[e];rfl
 |_::_,_,⟨k,r,e,_,t⟩=>by rw[e,iC,iC,t.len]
theorem gy.get:∀{es}{g}{i:g_}{e},gy a w b h es g->es[i]?=a_ e->∃k,g[i]?=a_ k/\ElK a w b h e k
 |[],_,_,_,_,q=>by simp at q
 |_::_,_,0,e,d,q=>by obtain⟨k,r,f,j,t⟩:=d;subst f;simp at q;subst q;exact⟨k,_6,j⟩
 |_::_,_,i+1,e,c,q=>by obtain⟨k,r,f,j,t⟩:=c;subst f;obtain⟨n,m,l⟩:=gy.get t (by simpa using q);exact⟨n,by simpa using m,l⟩
structure ql(prog:kR)(w:mG)(b:r_)(h:C_)(a:o_)(ks:b_ NK)(es:p_ (j_×jB))(ep:g_)(t:qT):Prop where
 nw:h.get? a=a_ {cls:=.type "set",dict:=d_,data:=.set es ep t}
 tab:ST.sK t (es.toList.map (·.1))
 els:gy prog w b h es.toList ks
 nd:ks.Nodup
def C3{es:p_ (j_×jB)}(T:ST.t0 t (es.toList.map (·.1))):t.fits es.size=c_:=by obtain⟨b,a⟩:=T.fits;unfold _z;rw[iQ];exact⟨by rw[b];simp,m_ a⟩
def ql.fits(S:ql c w b h a d es e t):t.fits es.size=c_:=C3 S.tab.tot0
def BI{es:p_ (j_×jB)}{t:qT}(a:∀i,f i=(es[i]?.map (·.1)).getD 0):t.probe f h p=t.probe (λi=>(es[i]?.map (·.1)).getD 0) h p:=by rw[funext a]
def AO{t:qT}(h:ST.Mk t.mask):t.gaveWay=e_:=by unfold SetTable.gaveWay;rcases h with e|e|e<;>rw[e]<;>rfl
end
section
variable{s:jP}
def Nq(t:qT)(c:b_ NK)(k:NK)(h:j_)(m:g_):Prop:=∀a,a<m->∃(i:g_) (b:NK),t.place[i]?=a_ (ST.gq t.mask h a)/\c[i]?=a_ b/\b≠k
def ql.at_slot(S:ql b w c_ s.1 a g es n t){i:g_}(e:t.place[i]?=a_ j):∃v c,es[i]?=a_ v/\g[i]?=a_ c/\ElK b w c_ s.1 v c:=by
 have h:i<es.size:=by
  have:=(L_.mp e).1;have l:=S.tab.len;simp at l
  lia
 have m:es.toList[i]?=a_ es[i]:=by rw[jO];exact jU h
 obtain⟨c,f,d⟩:=S.els.get m;exact⟨es[i],c,by rwa[<-jO],f,d⟩
def dM{p q:Prop}(h:p->q)(k:p):q:=h k
def Wm(hr:A.units<lN)(S:ql g w c_ s.1 a I es ep t)(hk:mu g w c_ s.1 k u)(h1:k∈I->Q (.there d_) s)
  (h2:∀m,ST.gq t.mask (c9 w g k) m∉t.place.toList->Nq t I k (c9 w g k) m->Q (.free (ST.gq t.mask (c9 w g k) m) e_) s)
  (M:g_) (hM:ST.gq t.mask (c9 w g k) M∉t.place.toList):∀(d h m:g_)(l:f_ SetTable.Probe),M-m<d->m<=M->d<=h->l.getD (t.probeStart (c9 w g k))=ST.it t.mask m (ST.st0 t.mask (c9 w g k))->
   Nq t I k (c9 w g k) m->jK (jG g w) A (setSearchFrom a u (c9 w g k) c_ h l) Q E s:=by
 generalize hh:c9 w g k=o at *;intro d;induction d with
 |zero=>
  intro h m l e1
  lia
 |succ d ih=>
  intro h m l e1 e2 e3 e4 ps;obtain⟨h,rfl⟩:∃f,h=f+1:=⟨h-1,by lia⟩;refine iA (mT S.nw _6 S.fits ?_);dsimp only;rw[AO S.tab.mask];rw[e4,BI]
  .obtain⟨p,q1,U,q3⟩:=S.tab.tot0.probe (λi=>(es[i]?.map (·.1)).getD 0) o m;have mem:∀{i j:g_},t.place[i]?=a_ j->j∈t.place.toList:=λe=>by rw[<-jO]at e;exact jT e
   have le:p<=M:=by
    rcases nY M p with z|z
    .obtain⟨i,n,_⟩:=U M e2 z;exact t_ (mem n) hM
    .exact z
   have r:Nq t I k o p:=λq Y=>by
    rcases nY q m with z|z
    .exact ps q z
    .obtain⟨i,n,C⟩:=U q z Y;obtain⟨v,J,H,G,T,O⟩:=S.at_slot n;refine⟨i,J,n,G,λL=>C ?_⟩;subst L;rw[H];show v.1=o;rw[T,hh]
   obtain ⟨n,C⟩|⟨i,n,C,L⟩:=q3
   .rw[C];exact iB (h2 p n r)
   .rw[L];obtain⟨v,J,H,G,T,N⟩:=S.at_slot n;obtain⟨vh,vv⟩:=v;obtain⟨c,kc,O,_⟩:=N.ci;subst O;have lt:p<M:=by
     rcases nY p M with z|z
     .exact z
     .have:p=M:=by lia
      subst this;exact t_ (mem n) hM
    have sl:=ST.Hi S.tab.rd n;have sm:t.sameMemory t.moves t.mask=a_ c_:=by unfold SetTable.sameMemory;rw[iH (W_ _)]
    have ts:∀y∈(es.filter λx=>x.fst==o).toList.map (λx=>x.snd),Xd g w s.1 y:=λy hy=>by obtain⟨x,hx,rfl⟩:=k_.mp hy;obtain⟨i,hi⟩:=mV (show x∈es.toList by simpa using((show x∈es/\x.fst=o by simpa using hx).1));obtain⟨θ,_,_,e6⟩:=S.els.get hi;exact e6.ci
    obtain⟨b,kb,rfl,hb⟩:=hk.ci;apply dM
    .intro B;dsimp only;cases hl:t.led with
     |true=>exact B
     |false=>exact iA (VL hb ts B)
    .rw[H];refine iA (kY (Gi hr N.nk hk.nk ?_));refine iA (mT S.nw _6 S.fits ?_)
     by_cases ek:J=k
     .subst ek;simp only[decide_true];exact iB (h1 (jT G))
     .simp only[ek];rw[sm];simp only[_g];rw[sl];dsimp only;rw[H];refine iA (wpAny_isSame_ref_self ?_);refine ih h _ _ (by lia) ‹_› (by lia) _6 λq Y=>?_;rcases nY q p with z|z
      .exact r q z
      .have:q=p:=by lia
       subst this;exact⟨i,J,n,G,ek⟩
  .intro i;rfl
def Oj(S:ql b w c_ s.1 a l es p t){i:g_}(h:l[i]?=a_ k):∃j,t.place[i]?=a_ j/\(j,c9 w b k)∈t.place.toList.zip (es.toList.map (·.1)):=by
 have o:=(h_.mp h).1;have m:=S.els.len;have g:=S.tab.len;rw[iD]at g;have c:i<t.place.size:=by lia
 obtain⟨v,n,f,d,e,_⟩:=S.at_slot (jU c);rw[h]at d;cases d;refine⟨t.place[i],jU c,?_⟩;have:(t.place.toList.zip (es.toList.map (·.1)))[i]?=a_ (t.place[i],c9 w b k):=by rw[_W];refine⟨by rw[jO];exact jU c,?_⟩;rw[jF,jO,f];show a_ v.1=_;rw[e]
 exact jT this
def DU(G:A.units<lN)(S:ql b w c_ s.1 a o es N t)(H:mu b w c_ s.1 k u)(J:k∈o->Q (.there d_) s)
  (I:k∉o->∀m,ST.gq t.mask (c9 w b k) m∉t.place.toList->(∀c,c<m->ST.gq t.mask (c9 w b k) c∈t.place.toList)->Q (.free (ST.gq t.mask (c9 w b k) m) e_) s):
  jK (jG b w) A (setSearch a u (c9 w b k) c_) Q E s:=by
 obtain⟨M,O,M2⟩:=S.tab.tot0.first _
 have:=ST.EJ S.tab.mask;refine Wm G S H J (λm d h=>?_) M M2 100000 100000 0 d_ (by lia) (jW _) (iF _) _6 (λc q=>by lia);have mem:∀{i j},t.place[i]?=a_ j->j∈t.place.toList:=λe=>by rw[<-jO]at e;exact jT e
 refine I (λz=>?_) m d λc q=>?_
 .obtain⟨L,r⟩:=mV z;obtain⟨j,p,C⟩:=Oj S r;obtain⟨g,n,x⟩:=S.tab.reach _ C;have lt:g<m:=by
   rcases rM g m with y|y|y
   .exact y
   .subst y;rw[n]at d;exact t_ (mem p) d
   .exact t_ (x m y) d
  obtain⟨i,B,f,l,v⟩:=h g lt;rw[n]at f;have:=S.tab.rd.inj f p;subst this;rw[r]at l;cases l;exact v _6
 .obtain⟨i,B,f,_⟩:=h c q;exact mem f
end
section
variable{s:jP}{es:p_ (j_×jB)}
def Wx{es x i}(m:h.get? d=a_ o)(r:o.data=.set es x i)(l:kZ d h v){g:b_ vz}{b:o_}(q:nS (bg e w) h g b):nS (bg e w) v g b:=by
 obtain⟨j,a,n,f,u,c,p⟩:=q;refine⟨j,a,n,(l.2 _ ?_).trans f,u,c,p⟩
 rintro rfl
 obtain rfl:=jM (f.symm.trans m);rw[r]at c;exact nomatch c
def DO{es n g}(j:h.get? d=a_ o)(l:o.data=.set es n g)(i:kZ d h m):∀{k}{v},mu a w b h k v->mu a w b m k v
 |.inl k,v,e=>e
 |.inr p,v,f=>by obtain⟨z,c,e,q⟩:=f;exact⟨z,c,e,Wx j l i q⟩
def xn{es u i}(m:h.get? d=a_ o)(n:o.data=.set es u i)(j:kZ d h q):∀{l}{g},gy a w b h l g->gy a w b q l g:=by
 intro c;induction c with
 |nil=>rintro _ e;exact e
 |cons _ _ f=>rintro _ ⟨k,r,e,⟨x,v⟩,p⟩;exact⟨k,r,e,⟨x,DO m n j v⟩,f p⟩
theorem gy.app:∀{l f}{d c},gy a w b h l d->gy a w b h f c->gy a w b h (l++f) (d++c)
 |[],_,d,_,e,q=>by rwa[e]
 |_::_,_,_,_,⟨k,r,e,i,g⟩,q=>by subst e;exact⟨k,r++_,_6,i,g.app q⟩
theorem gy.take:∀{l}{d} n,gy a w b h l d->gy a w b h (l.take n) (d.take n)
 |_,_,0,_=>by simp[gy]
 |[],d,n+1,e=>by rw[e];simp[gy]
 |_::_,_,n+1,c=>by obtain⟨k,r,e,g,f⟩:=c;subst e;exact⟨k,r.take n,_6,g,f.take n⟩
theorem gy.drop:∀{l}{d} n,gy a w b h l d->gy a w b h (l.drop n) (d.drop n)
 |_,_,0,e=>e
 |[],d,n+1,e=>by rw[e];simp[gy]
 |_::_,_,n+1,c=>by obtain⟨k,r,e,g,f⟩:=c;subst e;exact f.drop n
theorem gy.pick(q:gy c w b h l d):∀(a:b_ g_),(∀i∈a,i<_7 l)->gy c w b h (a.map λi=>l.getD i (0,.none)) (a.map λi=>d.getD i (.inr []))
 |[],_=>rfl
 |i::r,f=>by have e:=iR (f i iM);obtain⟨k,g,n⟩:=q.get e;refine⟨d.getD i _,r.map _,_6,?_,q.pick r λj m=>f j (iI _ m)⟩;show ElK c w b h (l.getD i _) _;rwa[iK,iK,e,g]
def l8{l:b_ α}:(jD l.length).map (λi=>l.getD i d)=l:=by
 apply rN;intro i;rw[jF];rcases nY i l.length with h|h
 .simp[h]
 .rw[mQ (by simpa using h),mQ h];rfl
def za{l:b_ α}{order:b_ g_}(h:order.Perm (jD l.length)):(order.map λi=>l.getD i d).Perm l:=by have:=h.map λi=>l.getD i d;rw[l8]at this;exact this
theorem Yo{l:b_ α}:∀{a:b_ g_},(∀i∈a,i<_7 l)->a.filterMap (λi=>l[i]?)=a.map λi=>l.getD i d
 |[],_=>rfl
 |i::r,h=>by have b:=h i iM;rw[pB,iR b,iJ,Yo (d:=d) λj c=>h j (iI _ c)];simp[b]
def Mr{h0:C_}(T:ST.t0 t (es.toList.map (·.1)))(A:j.Nodup)(u:_7 es.toList=_7 j)(d:(t.place.size-1)*5<t.mask*3)(g:t.tooFull=c_)(B:es.size<=76):
  iN>=SetTable.sizeAbove (_s es.size)/\∃f a e c,t.relaid (es.map (·.1)) (_s es.size)=a_ (f,a)/\a.filterMap (es[·]?)=c/\c.size=es.size/\a.toList.Perm (jD es.size)/\ST.sK f (c.toList.map (·.1))/\e.Nodup/\e.Perm j/\(∀n,gy prog w b n es.toList j->gy prog w b n c.toList e)/\f.plain=t.plain/\f.led=t.led:=by
 have v:(es.map (·.1)).toList=es.toList.map (·.1):=by simp
 have p:(es.map (·.1)).size=es.size:=by simp
 obtain⟨r,f,a,q,y,x,h,C⟩:=ST.sK.relay (by rwa[v]) d g (by rwa[p]);rw[p]at r q h;have l:∀i∈a.toList,i<_7 es.toList:=λi m=>by have:=v_.mp (h.mem_iff.mp m);exact this
 have o:(a.filterMap (es[·]?)).toList=a.toList.map λi=>es.toList.getD i (0,.none):=by
  rw[Array.toList_filterMap];have:(λi=>es[i]?)=λ(i:g_)=>es.toList[i]?:=by funext i;rw[jO]
  rw[this];exact Yo l
 have sz:(a.filterMap (es[·]?)).size=es.size:=by rw[<-iP,o,iD,h.length_eq,kG]
 refine⟨r,f,a,a.toList.map λi=>j.getD i _,_,q,_6,sz,h,?_,?_,?_,λn z=>by rw[o];exact z.pick _ l,x,y⟩
 .have:(a.filterMap (es[·]?)).toList.map (·.1)=a.toList.map λi=>(es.map (·.1)).toList.getD i 0:=by rw[o,jV];refine jY λi m=>?_;have:=l i m;rw[v];show(es.toList.getD i _).1=(es.toList.map _).getD i 0;rw[iK,iK,jF,iR this];rfl
  rwa[this]
 .exact(za (order:=a.toList) (by rwa[<-u,iP])).nodup_iff.mpr A
 .exact za (by rwa[<-u,iP])
def LV(S:y.get? a=a_ {cls:=.type "set",dict:=d_,data:=.set es O t})(n:s.1=y)(T:ST.t0 t (es.toList.map (·.1)))(z:gy c w b y es.toList m)(L:m.Nodup)(g:(t.place.size-1)*5<t.mask*3)(j:t.tooFull=c_)(p:es.size<=76)
  (h:∀o e d q i,kZ a s.1 o->ql c w b o a e d q i->e.Perm m->(∀x,gy c w b x es.toList m->gy c w b x d.toList e)->i.plain=t.plain->i.led=t.led->Q () {s with heap:=o}):jK (jG c w) A (setRelay a (_s es.size)) Q E s:=by
 subst n;obtain⟨J,i,f,e,d,I,v,sz,N,H,G,C,u,B,l⟩:=Mr (h0:=s.1) (prog:=c) (w:=w) (b:=b) T L z.len g j p;refine iA (mT S _6 (C3 T) ?_);dsimp only;rw[iG (Nat.not_lt.mpr J),I];refine iA (rU (a:=(f.filterMap (es[·]?),i)) ?_ ?_)
 .show(if _=c_ then _ else _)=_;rw[iG (by rw[v,sz];simp)]
 .rw[v];have M:d.size<=iN:=by rw[sz,kP];lia
  refine tT S _6 ?_ M;have r:=kK s.1 a (uI d i);exact h _ _ _ _ _ r ⟨(kM _ S _6),H,xn S _6 r (u _ z),G⟩ C u B l
def qg:(l.take p++x::l.drop p).Perm (x::l):=by have:=List.perm_middle (a:=x) (l₁:=l.take p) (l₂:=l.drop p);rw[lA]at this;exact this
def NO(S:ql c w b s.1 a i es z t)(x:ST.gq t.mask (c9 w c k) m∉t.place.toList)(v:∀n,n<m->ST.gq t.mask (c9 w c k) n∈t.place.toList):
  ∃p e d,t.put (ST.gq t.mask (c9 w c k) m)=(e,p)/\rO es p (c9 w c k,u)=d/\ST.t0 e (d.toList.map (·.1))/\e.plain=t.plain/\e.led=t.led/\e.mask=t.mask/\d.size=es.size+1/\e.place.size=t.place.size+1/\
   (∀f,gy c w b f es.toList i->mu c w b f k u->gy c w b f d.toList (i.take p++k::i.drop p)):=by
 obtain⟨p,y,r,h,g⟩:=S.tab.tot0.put x v S.tab.room1;have o:=S.tab.len;rw[iD]at o;have j:(rO es p _).toList=es.toList.take p++(c9 w c k,u)::es.toList.drop p:=ST.gz _ _ _;have sz:(rO es p (c9 w c k,u)).size=es.size+1:=by rw[<-iP,j,qg.length_eq,iC,iP]
 have f:(rO es p (c9 w c k,u)).toList.map (·.1)=(es.toList.map (·.1)).take p++c9 w c k::(es.toList.map (·.1)).drop p:=by rw[j,kQ,iJ,List.map_take,List.map_drop]
 rw[<-f]at h;refine⟨p,(t.put _).1,_,by rw[<-r],_6,h,by rw[g],by rw[g],by rw[g],sz,?_,λf l q=>?_⟩
 .have:=h.len;rw[iD,iP,sz]at this;rw[iP]at o
  lia
 .rw[j];exact(l.take p).app ⟨k,_,_6,⟨_6,q⟩,l.drop p⟩
def Ms(g:t.relaid (es.map (·.1)) n=a_ (c,a))(f:a.filterMap (es[·]?)=b)(e:a.toList.Perm (jD es.size))(d:c.fits b.size=c_):relayAll t es n=(b,c,e_):=by unfold relayAll;rw[g];dsimp only;rw[f,d];have:coversAll a es.size=c_:=List.isPerm_iff.mpr e;rw[this];rfl
def Vl(f:t.freeSlot h=a_ (j,e_))(e:t.put j=(b,p))(d:rO es p (h,x)=a)(c:b.fits a.size=c_):
  layNew t es h x=(a,b,e_,e_):=by
 unfold layNew;rw[f];dsimp only;rw[e];rw[d,c];unfold SetTable.orStandIn;rw[c];rfl
def Yi(p:gy a w e_ s.1 es.toList c):ElemsOf (bg a w) es.toList/\∀k,(∃e∈es.toList,(bg a w).is k e.2=c_)↔(uN k:NK)∈c:=by
 have f:∀l c,gy a w e_ s.1 l c->ElemsOf (bg a w) l/\∀k,(∃e∈l,(bg a w).is k e.2=c_)↔(uN k:NK)∈c:=by
  intro l;induction l with
  |nil=>intro c e;rw[e];exact⟨λe h=>(by cases h),λk=>⟨by rintro⟨e,h,_⟩;exact(by cases h),λh=>(by cases h)⟩⟩
  |cons e l m=>
   rintro _ ⟨g,r,rfl,⟨u,d⟩,o⟩
   obtain⟨n,j⟩:=m r o;cases g with
   |inr v=>exact t_ d.1 (by decide)
   |inl g=>
    refine⟨λx b=>?_,λk=>⟨?_,λh=>?_⟩⟩
    .rcases l_.mp b with rfl|b
     .refine⟨⟨g,d.2,u⟩,?_⟩;rcases b8 d.2 with⟨i,t,_,e⟩|⟨y,t,_,e⟩<;>rw[e]<;>rfl
     .exact n x b
    .rintro⟨x,b,q⟩
     rcases l_.mp b with rfl|b
     .rw[(bg a w).inj _ _ _ q d.2];exact .head _
     .exact .tail _ ((j k).mp ⟨x,b,q⟩)
    .rcases l_.mp h with h|h
     .cases h;exact⟨e,.head _,d.2⟩
     .obtain⟨x,b,q⟩:=(j k).mpr h;exact⟨x,.tail _ b,q⟩
 exact f _ _ p
def Oc(T:ST.t0 t n)(h:j_):∃m,t.freeSlot h=a_ (ST.gq t.mask h m,e_)/\ST.gq t.mask h m∉t.place.toList/\∀a,a<m->ST.gq t.mask h a∈t.place.toList:=by
 obtain⟨m,l,g,f⟩:=T.probe _ h 0;obtain ⟨d,c⟩|⟨i,_,z,_⟩:=f
 .refine⟨m,?_,d,λa j=>?_⟩
  .unfold SetTable.freeSlot;have e:t.probe _ h (t.probeStart h)=_:=c;rw[e];rfl
  .obtain⟨i,b,_⟩:=g a (jW _) j;rw[<-jO]at b;exact jT b
 .lia
set_option tactic.hygienic true in
def MR(hr:A.units<lN)(S:ql d w b s.1 a B es ep t)(J:k∉B->_7 B<76)(few':_7 B<=76)(H:mu d w b s.1 k u)
  (h1:k∈B->Q e_ s)
  (h2:k∉B->∀h' o q γ M,kZ a s.1 h'->ql d w b h' a o q γ M->o.Perm (k::B)->(∀I,gy d w b I es.toList B->mu d w b I k u->gy d w b I q.toList o)->M.plain=(t.plain&&VD k)->M.led=t.led->Q c_ {s with heap:=h'}):
  jK (jG d w) A (setAddHashed a u (c9 w d k)) Q E s:=by
 refine kY (iA (mT S.nw _6 S.fits ?_));dsimp only;have l1:=S.els.len;have fl:∀{β}{n:qT}(N:n.plain=t.plain)(F:r_->Sem β){Q'},(∀L,(n.plain&&L)=(t.plain&&VD k)->jK _ A (F L) Q' E s)->jK _ A (if n.plain=c_ then yB 8 u>>=F else Q_ c_>>=F) Q' E s:=λ{β n} N F {Q'} hR=>by
  split
  .rename_i c;exact iA (QY H.nk (hR _ (by rw[N])))
  .rename_i c;have c:n.plain=e_:=by simpa using c
   refine iA (iB (hR c_ ?_));rw[N]at c;rw[N,c];rfl
 have κ:∀{n}{h:p_ (j_×jB)}{L},(n.plain&&L)=(t.plain&&VD k)->ST.t0 n _->n.led=t.led->n.mask=t.mask->∃l,(if L=c_ then n else{n with plain:=e_})=l/\ST.t0 l (h.toList.map (·.1))/\l.plain=(t.plain&&VD k)/\l.led=t.led/\l.mask=t.mask/\l.place=n.place:=λ{n h L} x r q2 q3=>by
  cases L with
  |true=>exact⟨n,iH _6,r,by rw[<-x,Bool.and_true],q2,q3,_6⟩
  |false=>exact⟨{n with plain:=e_},iG (by decide),⟨r.mask,r.dum,r.len,r.rd,r.le,r.room,r.reach⟩,by rw[<-x,Bool.and_false],q2,q3,_6⟩
 cases b with
 |true=>
  have bs:byScan u es=e_:=by obtain⟨c,kc,rfl,_⟩:=H.ci;rfl
  rw[bs];refine iA (DU hr S H (λz=>?_) λz m m1 m2=>?_)
  .exact iB (h1 z)
  refine iA (mT S.nw _6 S.fits ?_);have J:=J z;obtain⟨p,n,h,p1,p2,r,N,q2,q3,sz,ps,el⟩:=NO S m1 m2;rw[p1];rw[p2];have hz:h.size<=iN:=by rw[sz,kP];rw[iP]at l1;lia
  refine fl N _ λL x=>?_;obtain⟨l,α,U,r2,r3,r4,r5⟩:=κ x r q2 q3;rw[α];refine iA (tT S.nw _6 ?_ hz);have g1:=kM (uI h l) S.nw _6;have T:=kK s.1 a (uI h l);have v:=xn S.nw _6 T (el _ S.els H);have C:(B.take p++k::B.drop p).Nodup:=qg.nodup_iff.mpr (B_.mpr ⟨z,S.nd⟩)
  by_cases g:l.tooFull=c_
  .rw[g];rw[<-sz];refine iA (LV g1 _6 U v C (by rw[r5,ps,r4];exact S.tab.loose) g (by rw[iP]at l1;lia) λh' o q γ M Γ S' pp ee e1 e2=>?_);refine iB (h2 z h' o q γ M (T.trans Γ) S' (pp.trans qg) (λI z1 z2=>ee I (el I z1 z2)) (e1.trans r2) (e2.trans r3))
  .have f:l.tooFull=e_:=by simpa using g
   rw[f];have Y:l.place.size*5<l.mask*3:=by
    rw[ST.xi U.dum]at f;have:=_x f
    lia
   exact iB (h2 z _ _ _ _ _ T ⟨g1,⟨U,Y⟩,v,C⟩ qg el r2 r3)
 |false=>
  cases G:k with
  |inr ys=>rw[G]at H;exact t_ H.1 (by decide)
  |inl k0=>
   obtain⟨τ,O⟩:=Yi S.els;have ξ:(bg d w).is k0 u=c_:=by rw[G]at H;exact H.2
   have hsc:u.scannable=c_:=by rcases b8 ξ with⟨i,t,_,e⟩|⟨y,t,_,e⟩<;>rw[e]<;>rfl
   rw[byScan_of hsc (by unfold scanBound;rw[iP]at l1;lia) τ];refine iA (iA (nJ (iA (wpAny_setScan_of (k:=k0) ξ S.nw _6 S.fits τ ?_))));cases ρ:es.toList.findIdx? _ with
   |some j=>obtain⟨hj,hpj,_⟩:=_n.mp ρ;refine iB (iB (h1 ?_));rw[G];exact(O k0).mp ⟨_,oG hj,hpj⟩
   |none=>
    have z:k∉B:=λz=>by rw[G]at z;obtain⟨e,he,hp⟩:=(O k0).mpr z;have:=_X.mp ρ e he;rw[hp]at this;cases this
    have J:=J z;obtain⟨m,f1,m1,m2⟩:=Oc S.tab.tot0 (c9 w d k);obtain⟨p,n,h,p1,p2,r,N,q2,q3,sz,ps,el⟩:=NO S m1 m2;have μ:=Vl f1 p1 p2 (C3 r);rw[G]at μ;rw[μ];dsimp only;have hz:h.size<=iN:=by rw[sz,kP];rw[iP]at l1;lia
    refine fl N _ λL x=>?_;obtain⟨l,α,U,r2,r3,r4,r5⟩:=κ x r q2 q3;rw[α];refine iA (tT S.nw _6 ?_ hz);have g1:=kM (uI h l) S.nw _6;have T:=kK s.1 a (uI h l);have v:=xn S.nw _6 T (el _ S.els H);have C:(B.take p++k::B.drop p).Nodup:=qg.nodup_iff.mpr (B_.mpr ⟨z,S.nd⟩)
    by_cases g:l.tooFull=c_
    .rw[g];obtain⟨_,M,order,o,q,s2,s3,ω,s4,s5,s6,s7,s8,s9,Δ⟩:=Mr (h0:=s.1) (prog:=d) (w:=w) (b:=e_) U C (v.len) (by rw[r5,ps,r4];exact S.tab.loose) g (by rw[iP]at l1;lia);rw[Ms s2 s3 s4 (C3 s5.tot0)];refine iA (iB (iA (tT g1 _6 ?_ (by rwa[ω]))));have η:=kK (s.1.update a (uI h l)) a (uI q M);refine iB (iB (h2 z _ o q _ M (T.trans η) ⟨kM _ g1 _6,s5,xn g1 _6 η (s8 _ v),s6⟩ (s7.trans qg) (λI z1 z2=>s8 I (el I z1 z2)) (s9.trans r2) (Δ.trans r3)))
    .have f:l.tooFull=e_:=by simpa using g
     rw[f];have Y:l.place.size*5<l.mask*3:=by
      rw[ST.xi U.dum]at f;have:=_x f
      lia
     exact iB (iB (h2 z _ _ _ _ _ T ⟨g1,⟨U,Y⟩,v,C⟩ qg el r2 r3))
end
def yx(T:b_ NK)(k:NK):r_:=T.any λx=>decide (x=k)
def Ab:yx T k=c_↔k∈T:=by
 unfold yx;rw[uJ];constructor
 .rintro⟨x,a,e⟩;rwa[<-A_ e]
 .intro h;exact⟨k,h,m_ _6⟩
def Ad(T:b_ NK)(k:NK):b_ NK:=if yx T k then T else T++[k]
def zd(a:b_ NK):b_ NK:=a.foldl Ad []
def HR(T:b_ NK)(k:NK):_7 T<=(Ad T k).length:=by
 unfold Ad;split
 .exact iF _
 .simp
def GG:∀(c:b_ NK) T,_7 T<=(c.foldl Ad T).length:=by
 intro a;induction a with
 |nil=>rintro T;exact iF _
 |cons k r b=>rintro T;exact kC (HR T k) (b _)
section
def ER(m:∀c o,h.get? c=a_ o->p.get? c=a_ o)(q:nS (bg d w) h i b):nS (bg d w) p i b:=by obtain⟨g,a,n,e,l,f,j⟩:=q;exact⟨g,a,n,m _ _ e,l,f,j⟩
def De(m:∀c o,h.get? c=a_ o->f.get? c=a_ o):∀{k}{v},mu a w b h k v->mu a w b f k v
 |.inl k,v,e=>e
 |.inr g,v,d=>by obtain⟨z,c,e,q⟩:=d;exact⟨z,c,e,ER m q⟩
inductive SetB(prog:kR)(w:mG)(b:r_)(h0 h:C_)(a:o_)(T:b_ NK):Prop
 |mk (ks es ep t) (_:h.get? a=a_ {cls:=.type "set",dict:=d_,data:=.set es ep t}) (_:ST.sK t (es.toList.map (·.1))) (_:gy prog w b h0 es.toList ks) (_:ks.Nodup) (_:ks.Perm T) (_:t.led=Pu.Lo w) (_:t.plain=T.all VD):SetB prog w b h0 h a T
def Yg(m:∀c o,h.get? c=a_ o->j.get? c=a_ o):∀{l}{g},gy a w b h l g->gy a w b j l g:=by
 intro d;induction d with
 |nil=>rintro _ e;exact e
 |cons _ _ f=>rintro _ ⟨k,r,e,⟨p,n⟩,i⟩;exact⟨k,r,e,⟨p,De m n⟩,f i⟩
end
section
variable{St:g_->C_->Prop}{kz:b_ NK}
def W1(W:Walks f w A.in1 I fp wr kz.length P St)(hu:A.in1.units<lN)(a:o_)(ha:a∉fp)(Q:∀c o,h0.get? c=a_ o->c≠a/\c∉wr)(hP:∀i v,P i v->∃k,kz[i]?=a_ k/\mu f w b h0 k v):
  ∀cW i s T,kz.drop i=cW->i<=_7 kz->St i s.1->(∀c o,h0.get? c=a_ o->s.1.get? c=a_ o)->SetB f w b h0 s.1 a T->(cW.foldl Ad T).length<=76->
   (∀j l,(∀b o,b≠a->b∉wr->s.1.get? b=a_ o->j.get? b=a_ o)->SetB f w b h0 j a (cW.foldl Ad T)->R (.ok (.ret .none)) {s with heap:=j,toks:=l})->
   pR (jG f w) A (.builtin "set.update.loop" ⟨[.ref a,.ref I],[]⟩) R s:=by
 have M:a∉wr:=λz=>ha (W.sub _ z);intro cW;induction cW with
 |nil=>
  intro i s T L hi st N hT O U;have ζ:i=_7 kz:=by
   have:=u_ mD L;rw[lD,lB]at this
   lia
  subst ζ;refine mN sF (iA (W.done s _ _ st λj l r=>?_));obtain⟨y,Y,ep,t,g,q,q2,q3,q4,q5,q6⟩:=hT;exact iB (U j l (λb o S Q e=>r b o Q e) ⟨y,Y,ep,t,r a _ M g,q,q2,q3,q4,q5,q6⟩)
 |cons n cW ih=>
  intro i s T L hi st N hT O U;have m:i<_7 kz:=by
   have:=u_ mD L;rw[lD,iC]at this
   lia
  have ε:kz[i]?=a_ n:=by
   have:(kz.drop i)[0]?=a_ n:=by rw[L];rfl
   simpa using this
  have J:kz.drop (i+1)=cW:=by
   have:(kz.drop i).drop 1=cW:=by rw[L];rfl
   rw[vW]at this;exact this
  refine mN sF (iA (W.item i s _ _ m st λv h1 Ξ hv E h=>?_));obtain⟨k,e1,r⟩:=hP i v hv;rw[ε]at e1;cases e1;have d:∀c o,h0.get? c=a_ o->h1.get? c=a_ o:=λc o e=>h c o (Q c o e).2 (N c o e);obtain⟨y,Y,ep,t,g,so,el,nd,x,le,pl⟩:=hT;have S1:ql f w b h1 a y Y ep t:=⟨h a _ M g,so,Yg d el,nd⟩;refine iA (kY (kY (iA (Hf hu (De d r).nk ?_))));have fl:=GG cW (Ad T n);have θ:(cW.foldl Ad _).length<=76:=O
  by_cases H:n∈y
  .have C:Ad T n=T:=by unfold Ad;rw[iH (Ab.mpr (x.mem_iff.mp H))]
   refine MR hu S1 (λz=>t_ H z) (by rw[x.length_eq,<-C];lia) (De d r) (λS=>(iB ⟨nR sG _,ih _ _ _ J m E d (by rw[C];exact⟨y,Y,ep,t,S1.nw,so,el,nd,x,le,pl⟩) O λj l p u=>?_⟩)) λz=>t_ H z;exact U j l (λc o B G e=>p c o B G (h c o G e)) u
  .have C:Ad T n=T++[n]:=by unfold Ad;rw[iG (λz=>(λz=>H (x.mem_iff.mpr z)) (Ab.mp z))]
   rw[C]at fl θ;have ι:_7 y<76:=by
    rw[x.length_eq];simp at fl
    lia
   refine MR hu S1 (λS=>ι) (by lia) (De d r) (λz=>t_ z H) λS h2 γ κ ξ t' sb S2 pp ee ν μ=>(iB ⟨nR sG _,ih _ _ _ J m (W.frame _ _ _ E λc B o e=>?_) (λc o e=>?_) ⟨γ,κ,ξ,t',S2.nw,S2.tab,ee h0 el r,S2.nd,?_,μ.trans le,?_⟩ O λj l p u=>?_⟩)
   .rwa[sb.2 c (λz:c=a=>ha (z▸B))]
   .rw[sb.2 c (Q c o e).1];exact d c o e
   .rw[C];exact(pp.trans (x.cons n)).trans (List.perm_append_singleton n T).symm
   .rw[ν,pl,C,List.all_append];simp
   .refine U j l (λc o B G e=>p c o B G ?_) u;rw[sb.2 c B];exact h c o G e
end
end L2
namespace Pu
open L2
def kt(a:kR)(w:mG)(b:r_)(h:C_):b_ jB->b_ NK->Prop
 |[],c=>c=[]
 |v::d,c=>∃k r,c=k::r/\mu a w b h k v/\kt a w b h d r
theorem kt.len:∀{c}{a},kt d w b h c a->_7 c=_7 a
 |[],a,e=>by rw[show a=[]from e];rfl
 |_::_,_,⟨k,r,e,_,t⟩=>by rw[e,iC,iC,t.len]
theorem kt.get:∀{f}{g}{i:g_}{v},kt a w b h f g->f[i]?=a_ v->∃k,g[i]?=a_ k/\mu a w b h k v
 |[],_,_,_,_,q=>by simp at q
 |_::_,_,0,v,d,q=>by obtain⟨k,r,e,j,t⟩:=d;subst e;simp at q;subst q;exact⟨k,_6,j⟩
 |_::_,_,i+1,v,c,q=>by obtain⟨k,r,e,j,t⟩:=c;subst e;obtain⟨n,m,l⟩:=kt.get (i:=i) t (by simpa using q);exact⟨n,by simpa using m,l⟩
section
def T9{N:C_}{a:p_ jB}(hu:A.units+12<lN)(hh:A.handled=d_)(hl:s.1.IsList l a)(hi:kt g w b N a.toList C)(hm:∀c o,N.get? c=a_ o->s.1.get? c=a_ o)(hs:(zd C).length<=76)
  (h:∀(f:C_)(m:g_),SetB g w b N f s.1.1.size (zd C)->(∀c o,c<s.1.1.size->s.1.get? c=a_ o->f.get? c=a_ o)->Q (.ref s.1.1.size) {s with heap:=f,toks:=m}):
  jK (jG g w) A (call (.type "set") [.ref l]) Q E s:=by
 obtain⟨c0,χ,σ⟩:=J_.mro;have γ:=J_.made;have ρ:=J_.sub;refine xF (xX ?_);show jK _ _ (callAny (.type "set") _) _ _ _;refine iB ⟨b! _ (by decide+kernel),mN PySem.F.entry_type_call ?_⟩;rw[K? (L! "set" [.ref l] []) _6];have Θ:=J_.notType;have Ω:=J_.canCreate;have Ψ:=PySem.F.typeCall_set_1 (.ref l)
 repeat (any_goals (first|assumption|wp_step))
 refine oK (IA (.ref l) (E:=E) (Q:=λobj q=>obj=.ref s.1.1.size/\q={s with heap:=s.1.push {cls:=.type "set",dict:=d_,data:=.set #[] 0 (.fresh 0 0 (Lo w))}}) ⟨_6,_6⟩) λr q hr=>?_;cases r with
 |error e=>exact hr
 |ok fl=>
  cases fl with
  |ret obj=>
   obtain⟨rfl,rfl⟩:=hr;generalize u:s.1.push {cls:=.type "set",dict:=d_,data:=.set #[] 0 (.fresh 0 0 (Lo w))}=j;have n:j.objs.size=s.1.1.size+1:=by rw[<-u,mM]
   have Y:∀c o,s.1.get? c=a_ o->j.get? c=a_ o:=λc o e=>by rw[<-u];exact iE _ e
   have hS:j.get? s.1.1.size=a_ {cls:=.type "set",dict:=d_,data:=.set #[] 0 (.fresh 0 0 (Lo w))}:=by rw[<-u];exact iS _ _6
   have hT:wR {s with heap:=j} (.ref s.1.1.size) "set":=⟨_,hS,_6⟩;have Ξ:=J_.init.lookup;have hbi:=J_.init.bind (.ref s.1.1.size)
   repeat (any_goals (first|assumption|wp_step))
   refine oK (uV (R:=wants (λr p=>r=.none/\∃f m,p={s with heap:=f,toks:=m}/\SetB g w b N f s.1.1.size (zd C)/\(∀c o,c<s.1.1.size->s.1.get? c=a_ o->f.get? c=a_ o)) E)
    J_.init.plain PySem.F.entry_set_init (check_set_init_1 hT ?_)) λB p d=>?_
   .have I:l<s.1.1.size:=by obtain⟨o,e,_⟩:=hl;exact jA e
    have η:A.in1.in1.in1.handled=d_:=by simp[hh]
    have H:l≠j.objs.size:=by rw[n];exact jJ (oU I)
    have θ:s.1.1.size∉[j.objs.size,l]:=by rw[n];simp only[mF,uK,_3,not_or];exact⟨jJ (mH _),nH I⟩
    have len:a.size=_7 C:=by rw[<-iP];exact hi.len
    have μ:∀{h2:C_}{oI:_d},h2=j.push oI->∀(f:C_)(m:g_),(∀c o,c≠s.1.1.size->c∉[j.objs.size]->h2.get? c=a_ o->f.get? c=a_ o)->∀c o,c<s.1.1.size->s.1.get? c=a_ o->f.get? c=a_ o:=λ{h2 oI} e2 f m hk c o hc e=>by refine hk c o (jJ hc) (by rw[n];simp;lia) ?_;rw[e2];exact iE _ (Y c o e)
    obtain⟨ol,β,M,nl,L⟩:=hl;obtain⟨ν,T,U,O⟩:=ol;simp only at M L;subst M;subst L;have G:=Y _ _ β;have q1:=PySem.F.sub_list_set;have q2:=PySem.F.sub_list_frozenset;have q3:(qW "list"==qW "dict")=e_:=by decide
    have J:j.IsList l a:=⟨_,G,_6,nl,_6⟩;unfold K_.«set.__init__» noKeywords _4;generalize ι:xZ=PI
    wp_walk
    subst ι;refine mS J (iA (wpAny_runValue ?_));have W:=xO (prog:=g) (w:=w) η j.objs.size l H a;rw[len]at W;refine W1 (h0:=N) W (show A.units+1+1+1<lN by lia) s.1.1.size θ (λc o e=>⟨jJ (jA (hm c o e)),λz=>jJ (oU (jA (hm c o e))) ((q_.mp z).trans n)⟩) (λi v hv=>hi.get (by rw[jO];exact hv)) C 0 _ [] _6 (jW _) ⟨⟨_,iS _ _6,_6,_6⟩,J.push _⟩ (λc o e=>iE _ (Y c o (hm c o e))) ⟨[],#[],0,_,iE _ hS,ST.Wq _ _ _,_6,nE,pK _,_6,_6⟩ hs λf m hk x=>?_;refine iB ?_;show jK _ _ (ret nB) _ _ _;exact iB ⟨_6,f,m,_6,x,μ _6 f m hk⟩
   .cases B with
    |error e=>exact d
    |ok y=>
     cases y with
     |ret r=>
      obtain⟨rfl,f,m,rfl,x,ε⟩:=d
      repeat (any_goals (first|assumption|wp_step))
      exact h _ _ x ε
     |_=>exact d.elim
  |_=>exact hr.elim
end
section
def aM(b:n≠0)(h:∀i e,i<n->Q i {s with drawn:=e}):jK (jG a w) A (choose c n) Q E s:=λΓ p d=>by unfold choose;exact⟨b,h _ _ (_R _ (x! b))⟩
theorem Ts:∀n (xs:b_ α) s {Q},_7 xs=n->(∀b e,b.Perm xs->Q b {s with drawn:=e})->jK (jG d w) A (drawOrder n xs) Q E s
 |0,xs,s,Q,a,h=>by have:=H_.mp a;subst this;exact iB (h [] s.drawn (pK _))
 |n+1,[],s,Q,a,h=>by cases a
 |n+1,x::r,s,Q,a,h=>by refine iA (aM (by simp) λi e c=>?_);rw[iR c];exact iA (Ts n _ _ (by rw[_M c,a];rfl) λb g f=>(iB (h _ g ((f.cons _).trans (mm c)))))
end
def Az(h:C_)(a:o_)(es:p_ (j_×jB))(b:g_)(t:qT):Prop:=h.get? a=a_ {cls:=.type "set",dict:=d_,data:=.set es b t}
def DrIt(h:C_)(I T a:o_)(i n b:g_):Prop:=h.get? I=a_ {cls:=.type "set_iterator",data:=.fields #[.ref T,mK i,.ref a,mK n,mK b]}
def J6(h:C_)(T:o_)(a:b_ g_):Prop:=h.get? T=a_ {cls:=.type "tuple",data:=.seq (a.map λ(i:g_)=>mK i).toArray}
section
variable{s:jP}
def DrIt.ty(h:DrIt s.1 I T a i n b):s.TypeIs (.ref I) "set_iterator":=⟨_,h,_6⟩
def GO(j:t.fits es.size=c_)(h:Az s.1 a es l t)(o:J6 s.1 T f)(b:DrIt s.1 I T a i es.size l)(m:f[i]?=a_ p)(n:es[p]?=a_ e)
  (q:∀d,DrIt d I T a (i+1) es.size l->kZ I s.1 d->Q (a_ e.2) {s with heap:=d}):jK (jG g w) A (vR (.ref I)) Q E s:=by
 refine iA (pI (lE b.ty je (kL je b.ty u9 ?_ (uz _))));refine iA (iB (iA (pO b _6 ?_)));dsimp only[mK];refine iA (pC h _6 j ?_);rw[iG (by simp)];refine iA (nT o _6 ?_);dsimp only;have r:((f.map λ(i:g_)=>mK i).toArray)[((i:g_):j_).toNat]?=a_ (yF p 0):=by rw[mE,D?,jF,m];rfl
 rw[r];refine iA (iA (mT h _6 j ?_));dsimp only;rw[iG (by simp),mE,n];refine iB ?_;have c:=b;refine iA (oQ c _6 (by simp) (iB ⟨e.2,_6,iB (q _ ?_ (kK ..))⟩));unfold DrIt;rw[(kM _ c _6)];rfl
def PQ(h:A.handled=d_)(j:t.fits es.size=c_)(g:Az s.1 a es o t)(l:J6 s.1 T d)(q:_7 d=es.size)(b:DrIt s.1 I T a es.size es.size o)
  (n:∀f,wJ I s.1 f->Q d_ {s with heap:=f}):jK (jG e w) A (vR (.ref I)) Q E s:=by
 refine iA (pI (lE b.ty je (kL je b.ty u9 ?_ (uz _))));refine iA (iB (iA (pO b _6 (iA (pC g _6 j ?_)))));rw[iG (by simp)];refine iA (nT l _6 ?_);dsimp only;have p:((d.map λ(i:g_)=>mK i).toArray)[((es.size:g_):j_).toNat]?=d_:=by rw[mE,D?,jF,mQ (by lia)];rfl
 rw[p];have c:=b;refine iA (oQ c _6 (by simp) (iA (oQ (kM _ c _6) _6 (by simp) ?_)));refine iA (iA (m:=pQ _ _) (rU (by first|rfl|(simp only[pQ];rfl)) (kX (iA (wQ ?_)) (by size_fits))));rw[h];refine iA (iB (yA ?_));refine iA (oE ⟨_,iS _ _6,_6⟩ vY ?_);exact iB (n _ ((((kK ..).trans (kK ..)).extBut.push _).push _))
def FW(C:A.handled=d_)(z:t.fits es.size=c_)(l:c.Perm (jD es.size))(m:a≠I)(n:T≠I):Walks x w A I [I,a,T] [I] es.size (λi v=>∃p e,c[i]?=a_ p/\es[p]?=a_ e/\v=e.2) (λi h=>DrIt h I T a i es.size ep/\Az h a es ep t/\J6 h T c) where
 sub:=λb d=>by simp at d;simp[d]
 frame:=λY Y Y st q=>⟨q I (by simp) _ st.1,q a (by simp) _ st.2.1,q T (by simp) _ st.2.2⟩
 item:=λi s Q E H st j=>by
  have G:_7 c=es.size:=by rw[l.length_eq,kG]
  have y:c[i]?=a_ (c[i]'(by lia)):=iR _;have d:c[i]'(by lia)<es.size:=v_.mp (l.mem_iff.mp (oG _));have B:es[c[i]'(by lia)]?=a_ (es[c[i]'(by lia)]'d):=jU _;exact GO z st.2.1 st.2.2 st.1 y B λu g f=>j _ u s.toks ⟨_,_,y,B,_6⟩ ⟨g,(f.2 a m).trans st.2.1,(f.2 T n).trans st.2.2⟩ λb o d e=>f.extBut b o (λh=>d (by simp[h])) e
 done:=λs Q E st j=>PQ C z st.2.1 st.2.2 (by rw[l.length_eq,kG]) st.1 λu r=>j u s.toks λb o d e=>r b o (λh=>d (by simp[h])) e
 self:=λi s Q E st j=>by exact qE st.1.ty Ao (kL Ao st.1.ty Fe (iB ⟨_,_6,"set_iterator",_,st.1.ty,je.lookup,j⟩) (Fd _))
end
structure mW(w:mG)(es:p_ (j_×jB))(t:qT):Prop where
 fits:t.fits es.size=c_
 rd:ST.Ris t.place
 led:t.led=Lo w
 pl:w.params.followText "set-order"=c_\/(!t.plain&&decide (es.size>1))=e_
def mW.size(N:mW w es t):t.place.size=es.size:=by have:=N.fits;unfold _z at this;rw[iQ]at this;simpa using this.1
def mW.walk(N:mW w es t):vZ t.place 0=0/\∀i,i<es.size->vZ t.place (t.place.getD i 0+1)=i+1:=by
 have a:∀i,i<t.place.size->t.place[i]?=a_ (t.place.getD i 0):=λi b=>by simp[b]
 refine⟨?_,λi b=>?_⟩
 .obtain⟨e,c,d⟩:=ST.zt (j:=0) N.rd;refine pV λz=>?_;have:=c 0 _ (by lia) (a 0 (by lia))
  lia
 .rw[<-N.size]at b;obtain⟨e,c,d⟩:=ST.zt (j:=t.place.getD i 0+1) N.rd;rcases rM (vZ t.place (t.place.getD i 0+1)) (i+1)with z|z|z
  .have:=d i _ (by lia) (a i b);lia
  .exact z
  .have g:=c _ _ z (a _ (by lia));have f:=N.rd.lt (mH i) (a i b) (a (i+1) (by lia))
   lia
noncomputable def qo(w:mG)(t:qT)(i:g_):g_:=if w.params.followText "set-order" then 0 else if i=0 then 0 else t.place.getD (i-1) 0+1
section
def S6(N:mW w es t)(o:Az s.1 a es f t)(v:i<=es.size)
  (h:Q (((t7 w a f es)[i]?).map λe=>(e.2,qo w t (i+1))) s):jK (jG b w) A (setNext a (qo w t i) i f) Q E s:=by
 have p:=N.fits;refine iA (mT o _6 p (iA (iA (qR (iB ?_)))));cases c:w.params.followText "set-order" with
 |true=>
  have m:t7 w a f es=X? (w.params.setOrder a f) es:=by unfold t7;rw[iH c]
  have g:∀i,qo w t i=0:=λi=>by unfold qo;rw[iH c]
  rw[m,g]at h;rw[g];have j:(⟨(jG b w).prog,(jG b w).w.params⟩:Setting).params.followText "set-order"=c_:=c;rw[j];simp only[_F];refine iA (iA (mT o _6 p (iA (iA (qR (iB ?_))))));rw[j];exact iA (qR (iB (iB h)))
 |false=>
  have m:t7 w a f es=es:=by unfold t7;rw[iG (by rw[c];decide)]
  have g:∀i,qo w t i=if i=0 then 0 else t.place.getD _ 0+1:=λi=>by unfold qo;rw[iG (by rw[c];decide)]
  have j:(⟨(jG b w).prog,(jG b w).w.params⟩:Setting).params.followText "set-order"=e_:=c;have r:Lo w=c_:=by unfold Lo;rw[c];rfl
  have bl:vZ t.place (qo w t i)=i:=by
   obtain⟨x,u⟩:=N.walk;rw[g]
   by_cases z:i=0
   .rwa[iH z,z]
   .rw[iG z,u _ (by lia)];lia
  rw[m]at h;rw[j];simp only[Bool.false_eq_true,_l];refine vD (λz=>?_) λY=>?_
  .have n:(!t.plain&&decide _)=c_:=z;obtain y|y:=N.pl
   .rw[c]at y;cases y
   .rw[y]at n;cases n
  .refine iA ?_;have q:(!t.led&&!es.isEmpty)=e_:=by have:=N.led.trans r;rw[this];rfl
   wp_delta
   rw[q];refine iB (iB ?_);rw[bl];cases l:es[i]? with
   |none=>rw[l]at h;exact h
   |some e=>
    rw[l]at h;have d:i<t.place.size:=by
     have:=(L_.mp l).1;have:=N.size
     lia
    rw[jU d];have:qo w t (i+1)=t.place[i]+1:=by rw[g,iG (by lia)];simp[d]
    rw[this]at h;exact h
def JC(N:mW w es t)(h:Az s.1 a es d t)(b:sB s.1 I a (qo w t i) i es.size d)(j:(t7 w a d es)[i]?=a_ e)
  (m:∀f,sB f I a (qo w t (i+1)) (i+1) es.size d->kZ I s.1 f->Q (a_ e.2) {s with heap:=f}):jK (jG g w) A (vR (.ref I)) Q E s:=by
 have l:i<=es.size:=by
  have o:=(L_.mp j).1;have n:=(qr w a d es).length_eq;rw[iP,iP]at n
  lia
 refine iA (pI (lE b.ty je (kL je b.ty u9 ?_ (uz _))));refine iA (iB (iA (pO b _6 ?_)));dsimp only[mK];refine iA (pC h _6 N.fits ?_);rw[iG (by simp)];refine iA (S6 N h l ?_);rw[mE d,j];have c:=b;refine iA (oQ c _6 (by simp) ?_);have g1:=kM (Obj.mapFields (·.setIfInBounds 0 (yF ((qo w t (i+1))) 0))) c _6;refine iA (oQ g1 _6 (by simp) (iB ⟨e.2,_6,iB (m _ ?_ ((kK ..).trans (kK ..)))⟩));unfold sB;rw[(kM _ g1 _6)];rfl
def SN(h:A.handled=d_)(N:mW w es t)(e:Az s.1 a es c t)(b:sB s.1 I a (qo w t es.size) es.size es.size c)
  (j:∀g,wJ I s.1 g->Q d_ {s with heap:=g}):jK (jG d w) A (vR (.ref I)) Q E s:=by
 have i:(t7 w a c es)[es.size]?=d_:=by have f:=(qr w a c es).length_eq;rw[iP,iP]at f;rw[<-f];simp
 refine iA (pI (lE b.ty je (kL je b.ty u9 ?_ (uz _))));refine iA (iB (iA (pO b _6 (iA (pC e _6 N.fits ?_)))));rw[iG (by simp)];refine iA (S6 N e (iF _) ?_);rw[mE c,i];refine iA (oQ b _6 (by simp) (iA (iA (m:=pQ _ _) (rU (by first|rfl|(simp only[pQ];rfl)) (kX (iA (wQ ?_)) (by size_fits))))));rw[h];refine iA (iB (yA ?_));refine iA (oE ⟨_,iS _ _6,_6⟩ vY ?_);exact iB (j _ (((kK ..).extBut.push _).push _))
def JB(N:mW w es t)(b:Az s.1 a es i t)
  (h:Q (.ref s.1.1.size) {s with heap:=s.1.push {cls:=.type "set_iterator",data:=.fields #[mK (0:g_),mK (0:g_),.ref a,mK (es.size:g_),mK (i:g_)]}}):jK (jG f w) A (xZ (.ref a)) Q E s:=by
 have g:s.TypeIs (.ref a) "set":=⟨_,b,_6⟩;have c:=N.fits;refine qE g rH (kL rH g Fc ?_ (_N _));unfold K_.«frozenset.__iter__» _i slotArgs;simp only[Bool.not_true,bind_assoc];refine iA (iB ?_)
 try dsimp only
 refine iA (iB (iA (iA (pC b _6 c (iB (iA (iA (mT b _6 c (iA (iA (qR (iB (iB (vD (λz=>?_) λq=>?_))))))))))))))
 .exfalso;rw[iQ]at z;have e:(!t.plain&&decide _)=c_:=z.2;have d:(!(w.params.followText "set-order"))=c_:=z.1;obtain y|y:=N.pl
  .rw[y]at d;cases d
  .rw[y]at e;cases e
 .refine iA (iB (iA (wpAny_setEpoch_of b _6 c (iA (kX (iB ⟨_,_6,"set_iterator",_,⟨_,iS _ _6,_6⟩,je.lookup,h⟩) (by size_fits))))))
def FV(u:A.handled=d_)(N:mW w es t)(l:a≠I):Walks p w A I [I,a] [I] es.size (λi v=>∃e,(t7 w a j es)[i]?=a_ e/\v=e.2) (λi h=>sB h I a (qo w t i) i es.size j/\Az h a es j t) where
 sub:=λb c=>by simp at c;simp[c]
 frame:=λz z z st q=>⟨q I (by simp) _ st.1,q a (by simp) _ st.2⟩
 item:=λi s Q E y st g=>by have x:=(qr w a j es).length_eq;rw[iP,iP]at x;have r:_[i]?=a_ ((t7 w a j es)[i]'(by lia)):=jU _;exact JC N st.2 st.1 r λn f d=>g _ n s.toks ⟨_,r,_6⟩ ⟨f,(d.2 a l).trans st.2⟩ λb o c e=>d.extBut b o (λh=>c (by simp[h])) e
 done:=λs Q E st g=>SN u N st.2 st.1 λn m=>g n s.toks λb o c e=>m b o (λh=>c (by simp[h])) e
 self:=λi s Q E st g=>by exact qE st.1.ty Ao (kL Ao st.1.ty Fe (iB ⟨_,_6,"set_iterator",_,st.1.ty,je.lookup,g⟩) (Fd _))
def GN(d:t.fits es.size=c_)(p:w.params.followText "set-order"=e_)(l:(!t.plain&&decide (es.size>1))=c_)(n:es.size<=76)(c:Az s.1 a es o t)
  (m:∀(b:b_ g_) e j,b.Perm (jD es.size)->j=(s.1.push {cls:=.type "tuple",data:=.seq (b.map λ(i:g_)=>mK i).toArray}).push {cls:=.type "set_iterator",data:=.fields #[.ref s.1.1.size,mK (0:g_),.ref a,mK (es.size:g_),mK (o:g_)]}->Q (.ref (s.1.1.size+1)) {s with heap:=j,drawn:=e}):jK (jG f w) A (xZ (.ref a)) Q E s:=by
 have h:s.TypeIs (.ref a) "set":=⟨_,c,_6⟩;refine qE h rH (kL rH h Fc ?_ (_N _));unfold K_.«frozenset.__iter__» _i slotArgs;simp only[Bool.not_true,bind_assoc];refine iA (iB ?_)
 try dsimp only
 refine iA (iB (iA (iA (pC c _6 d (iB (iA (iA (mT c _6 d (iA (iA (qR (iB (iB (vD (λY=>?_) λz=>?_))))))))))))))
 .refine iA (Ts es.size _ _ (kG) λb e g=>?_);have q:_7 b<=76:=by rwa[g.length_eq,kG]
  refine iA (C? (iA (wpAny_setEpoch_of (iE _ c) _6 d ?_)) (by rw[iD,kP];lia));refine iA (kX (iB ⟨_,_6,"set_iterator",_,⟨_,iS _ _6,_6⟩,je.lookup,?_⟩) (by size_fits));rw[mM];exact m b e _ g _6
 .exfalso;refine z ?_;rw[iQ];exact⟨by show(!(w.params.followText "set-order"))=c_;rw[p];rfl,l⟩
end
section
abbrev OV(a:b_ g_)(es:p_ (j_×jB)):g_->jB->Prop:=λi v=>∃p e,a[i]?=a_ p/\es[p]?=a_ e/\v=e.2
def Uo(hh:A.handled=d_)(hf:t.fits es.size=c_)(bt:w.params.followText "set-order"=e_)(hd:(!t.plain&&decide (es.size>1))=c_)(Q:es.size<=76)(E:Az s.1 a es y t)(m:L≠a)(c:jB)(c0:g_)
  (hL:s.1.get? L=a_ {cls:=.type "list",data:=.seq #[] c0})
  (hR:∀j G N B h c',yJ j (jD es.size)->(∀b o,b≠L->s.1.get? b=a_ o->N.get? b=a_ o)->N.get? L=a_ {cls:=.type "list",dict:=d_,data:=.seq h c',slots:=#[]}->ItemsOf (OV j es) h es.size->R (.ok (.ret c)) {s with heap:=N,toks:=B,drawn:=G}):
  jK (jG prog w) A.in1 (Builtin.List.listExtendWith (.ref L) (.ref a) c)
   (λO C=>match O with|.done f=>R (.ok f) C|.again p=>p.quiet=c_/\pR (jG prog w) A p R C) (λe C=>R (.error e) C) s:=by
 have q:=jA hL;have zn:es.size<=iN:=by rw[kP];lia
 refine iA (pF ⟨_,E,_6⟩ ?_);have n1:_p (.ref L) (.ref a)=e_:=by simp[_p,m]
 have n2:(qW "set"==qW "list")=e_:=by decide
 have n3:(qW "set"==qW "tuple")=e_:=by decide
 simp only[n1];refine iA (GN hf bt hd Q E λj G x hp U=>?_);have up:∀b o,s.1.get? b=a_ o->x.get? b=a_ o:=λb o e=>by rw[U];exact iE _ (iE _ e)
 have J:J6 x s.1.1.size j:=by rw[U];exact iE _ (iS _ _6)
 have M:DrIt x (s.1.1.size+1) s.1.1.size a 0 es.size y:=by rw[U];have:((s.1.push {cls:=.type "tuple",data:=.seq (j.map λ(i:g_)=>mK i).toArray}).push {cls:=.type "set_iterator",data:=.fields #[.ref s.1.1.size,mK 0,.ref a,mK _,mK _]}).get? (s.1.push {cls:=.type "tuple",data:=.seq (j.map λ(i:g_)=>mK i).toArray}).objs.size=a_ {cls:=.type "set_iterator",data:=.fields #[.ref s.1.1.size,mK 0,.ref a,mK es.size,mK y]}:=iS _ _6;rw[mM]at this;exact this
 have r:=up _ _ E;have v:=up _ _ hL;have H:L∉[s.1.1.size+1,a,s.1.1.size]:=by simp only[mF,uK,_3,not_or];exact⟨jJ (oU q),m,jJ q⟩
 have run:∀n p B,(DrIt n (s.1.1.size+1) s.1.1.size a 0 es.size y/\Az n a es y t/\J6 n s.1.1.size j)->(∀b o,b≠L->s.1.get? b=a_ o->n.get? b=a_ o)->n.get? L=a_ {cls:=.type "list",data:=.seq #[] p}->
   pR (jG prog w) A (.builtin "list.extend.loop" ⟨[.ref L,.ref (s.1.1.size+1),c],[]⟩) R {s with heap:=n,toks:=B,drawn:=G}:=by
  intro n p B st kp g;refine codeAny_extend_loopS (FW (w:=w) (A:=A.in1) (ep:=y) (t:=t) (a:=a) (I:=s.1.1.size+1) (T:=s.1.1.size) (by simpa using hh) hf hp (jJ (oU (jA (E)))) (jJ (mH _))).toS zn L H c es.size 0 _ #[] p _6 (jW _) st g (ItemsOf.nil _) λY h c3 mv g3 ia=>?_;rw[Moved.eq_with mv];refine hR j G Y.1 Y.toks h c3 hp (λb o l e=>mv.1 b o (λz=>?_) (kp b o l e)) g3 ia;rcases l_.mp z with z|z
  .exact l z
  .have:=jA e;rw[q_.mp z]at this;exact kU _ (Nat.lt_of_succ_lt this)
 refine iA (kY (Mw ⟨_,(r),_6⟩ (iA (nJ (iA (iA (pY v _6 ?_)))))));have u:=kM (vV (·.push nB)) v _6;refine pY u _6 ?_;have d:∀b o,b≠L->x.get? b=a_ o->((x.update L (vV (·.push nB))).update L (vV (·.pop))).get? b=a_ o:=λb o l e=>by rwa[mJ _ _ (pE l),mJ _ _ (pE l)]
 refine iB ⟨nR PySem.F.plain_extend_loop _,run _ _ _ ⟨d _ _ (λz=>H (by simp[z])) M,d _ _ (pE m) r,d _ _ (λz=>H (by simp[z])) J⟩ (λb o l e=>d b o l (up b o e)) (kM _ u _6)⟩
end
section
def N6(M:A.handled=d_)(N:t.fits es.size=c_)(T:w.params.followText "set-order"=e_)(O:(!t.plain&&decide (es.size>1))=c_)(G:es.size<=76)(H:Az s.1 a es Y t)
  (I:∀h j d i c,yJ h (jD es.size)->(∀b o,s.1.get? b=a_ o->d.get? b=a_ o)->ItemsOf (OV h es) c es.size->R c.toList {s with heap:=d,toks:=i,drawn:=j}):jK (jG m w) A (collect (.ref a)) R E s:=by
 have v:=jA (H);refine iA (wpAny_runValue (mN PyProof.Rows.entry_proto_collect' (iA (kX (iB ⟨nR PySem.F.plain_list_iadd _,mN PyProof.Rows.entry_list_iadd' ?_⟩)))));generalize J:s.1.push {cls:=.type "list",data:=.seq ([]).toArray}=B;have Q:B.get? s.1.1.size=a_ {cls:=.type "list",data:=.seq #[]}:=by rw[<-J];exact iS _ _6
 have up:∀b o,s.1.get? b=a_ o->B.get? b=a_ o:=λb o e=>by rw[<-J];exact iE _ e
 have z:=Uo (prog:=m) (w:=w) (A:=A) (s:={s with heap:=B}) (L:=s.1.1.size) (a:=a)
  (R:=λq u=>∃h j d i c l,q=.ok _/\u={s with heap:=d,toks:=i,drawn:=j}/\yJ h _/\(∀b o,s.1.get? b=a_ o->d.get? b=a_ o)/\d.get? s.1.1.size=a_ {cls:=.type "list",dict:=d_,data:=.seq c l,slots:=#[]}/\ItemsOf (OV h es) c es.size)
  M N T O G (up _ _ H) (nH v) (.ref s.1.1.size) 0 Q λh j d i c l p r g n=>⟨h,j,d,i,c,l,_6,_6,p,λb o e=>r b o (jJ (jA e)) (up b o e),g,n⟩
 refine kN z (λC u x=>?_) λe u x=>?_
 .cases C with
  |done f=>obtain⟨h,j,d,i,c,l,e,rfl,p,r,g,n⟩:=x;cases e;exact iA (wpAny_load g (iB (I h j d i c p r n)))
  |again c1=>refine⟨x.1,oK x.2 λq U y=>?_⟩;obtain⟨h,j,d,i,c,l,rfl,rfl,p,r,g,n⟩:=y;exact iA (wpAny_load g (iB (I h j d i c p r n)))
 .obtain⟨h,j,d,i,c,l,e,_⟩:=x;cases e
def UD(N:mW w es t):PySem.W.KdlSrc d w "set" a a es.size (λi v=>∃e,(t7 w a j es)[i]?=a_ e/\v=e.2) (λh=>Az h a es j t) where
 type:=λz b=>⟨_,b,_6⟩
 there:=λz b=>⟨jA (b),jA (b)⟩
 keep:=λz z b f=>f a (.inl _6) _ b
 notList:=by decide
 notTuple:=by decide
 hint:=λz z z z b c=>Mw ⟨_,b,_6⟩ c
 iter:=λA s g b=>⟨_,_,(λz z c=>JB N b c),FV g N (jJ (jA (b))),⟨by
  have:qo w t 0=0:=by unfold qo;split<;>rfl
  rw[this];exact iS _ _6,iE _ b⟩⟩
end
section
def Yh(p:l.Perm A):∀{a},gy c w b h l a->∃d,d.Perm a/\gy c w b h A d:=by
 induction p with
 |nil=>intro a q;exact⟨a,pK _,q⟩
 |cons x p B=>
  rintro a ⟨k,r,e,s,o⟩
  subst e;obtain⟨u,j,i⟩:=B o;exact⟨k::u,j.cons k,k,u,_6,s,i⟩
 |swap x y l=>
  rintro a ⟨k,r,e,s,f,g,E,o,C⟩
  subst e;subst E;exact⟨f::k::g,qS _ _ _,f,k::g,_6,o,k,g,_6,s,C⟩
 |trans H G n m=>intro a q;obtain⟨I,j,i⟩:=n q;obtain⟨f,z,v⟩:=m i;exact⟨f,z.trans j,v⟩
def Yf:∀{l}{d},gy a w b h l d->kt a w b h (l.map (·.2)) d:=by
 intro c;induction c with
 |nil=>rintro d e;exact e
 |cons _ _ f=>rintro _ ⟨k,r,e,⟨_,i⟩,g⟩;exact⟨k,r,e,i,f g⟩
def Mv(hh:A.handled=d_)(S:SetB h w b h0 s.1 a T)(μ:_7 T<=76)
  (hR:∀M q r Q j,(∀b o,s.1.get? b=a_ o->q.get? b=a_ o)->yJ j T->kt h w b h0 Q j->R Q {s with heap:=q,toks:=r,drawn:=M}):jK (jG h w) A (collect (.ref a)) R E s:=by
 obtain⟨ks,f,I,t,g,U,el,nd,Y,le,pl⟩:=S;have ln:f.size=_7 T:=by rw[<-Y.length_eq,<-el.len,iP]
 have hf:t.fits f.size=c_:=by obtain⟨h1,h2⟩:=U.tot0.fits;unfold _z;rw[iQ];exact⟨by rw[h1];simp,m_ h2⟩
 have zn:f.size<=iN:=by rw[kP];lia
 have y:∀(l:b_ _),l.Perm f.toList->∃j,yJ j T/\kt h w b h0 _ j:=λl z=>by obtain⟨C,v,u⟩:=Yh z.symm el;exact⟨C,v.trans Y,Yf u⟩
 by_cases L:w.params.followText "set-order"=e_/\(!t.plain&&decide (f.size>1))=c_
 .refine N6 hh hf L.1 L.2 (by lia) g λO M q r c z G ia=>?_;have yl:_7 O=f.size:=by rw[z.length_eq,kG]
  have H:c.toList=(O.map λi=>f.toList.getD i (0,.none)).map (·.2):=by
   refine rN λi=>?_
   by_cases x:i<c.size
   .have n:c.toList[i]?=a_ c[i]:=by rw[jO];exact jU x
    obtain⟨p,e,J,B,e3⟩:=ia.2 i c[i] (jU x);rw[n,jF,jF,J,e3];rw[<-jO]at B;simp only[xV,iK,B,d!]
   .rw[mQ (by rw[iP];lia),mQ (by rw[iD,iD,yl,<-ia.1];lia)]
  obtain⟨j,v,u⟩:=y _ (za (d:=_) z);rw[H];exact hR M q r _ j G v u
 .have N:mW w f t:=⟨hf,U.rd,le,by
   cases bt:w.params.followText "set-order" with
   |true=>exact .inl _6
   |false=>
    cases e:(!t.plain&&decide (f.size>1))with
    |false=>exact .inr _6
    |true=>exact t_ ⟨bt,e⟩ L⟩
  refine PySem.W.kdu_collect (UD N) hh g zn λq r c G m=>?_;have H:c.toList=(t7 w a I f).toList.map (·.2):=by
   refine rN λi=>?_
   by_cases x:i<c.size
   .have n:c.toList[i]?=a_ c[i]:=by rw[jO];exact jU x
    obtain⟨e,J,B⟩:=m.2 i c[i] (jU x);rw[n,jF,jO,J,B];rfl
   .rw[mQ (by rw[iP];lia),mQ (by rw[iD,((qr w a I f).length_eq),iP,<-m.1];lia)]
  obtain⟨j,v,u⟩:=y _ (qr w a I f);rw[H];exact hR s.drawn q r _ j G v u
end
noncomputable def G9(x:f_ HO)(o:_d):_d:=match x with
 |some (.ci _)=>o
 |_=>{o with data:=.freed}
set_option tactic.hygienic true in
def Wa(h:∀a,x≠a_ (.ci a)):(G9 x o).data=.freed:=by
 unfold G9;split
 .rename_i a;exact t_ _6 (h a)
 .rfl
def X5(H:Hp)(h:C_):C_:={h with objs:=h.objs.mapIdx λi o=>G9 (H i) o}
def Yx{h:C_}(e:h.objs[b]?=a_ o)(a:o.data≠.freed):h.get? b=a_ o:=by unfold Heap.get?;rw[e];obtain⟨c,d,f,g⟩:=o;cases f<;>first|rfl|exact t_ _6 a
def Yy{h:C_}(e:h.get? b=a_ o):h.objs[b]?=a_ o/\o.data≠.freed:=by
 unfold Heap.get? at e;cases a:h.objs[b]? with
 |none=>rw[a]at e;cases e
 |some f=>rw[a]at e;obtain⟨c,d,g,i⟩:=f;cases g<;>first|(cases e;exact⟨_6,λz=>nomatch z⟩)|cases e
def GU(e:h.get? b=a_ o)(a:H b=a_ (.ci f)):(X5 H h).get? b=a_ o:=by obtain⟨d,c⟩:=Yy e;refine Yx ?_ c;show(h.objs.mapIdx λi o=>G9 (H i) o)[b]?=a_ o;rw[q?,d];rw[a];rfl
def Kn(e:(X5 H h).get? b=a_ o):h.get? b=a_ o/\∃d,H b=a_ (.ci d):=by
 obtain⟨n,m⟩:=Yy e;have a:(h.objs.mapIdx λi o=>G9 (H i) o)[b]?=a_ o:=n;rw[q?]at a;cases f:h.objs[b]? with
 |none=>rw[f]at a;cases a
 |some j=>
  rw[f]at a;have g:G9 (H b) j=o:=jM a
  by_cases c:∃d,H b=a_ (.ci d)
  .obtain⟨d,l⟩:=c;rw[l]at g;subst g;exact⟨Yx f m,d,l⟩
  .have:=Wa (o:=j) λd z=>c ⟨d,z⟩;rw[g]at this;exact t_ this m
section
variable{K:KA}
def Qs(H:Hp):Hp:=gT (λz=>d_) H
def HY(ok:l0 P w H h):l0 P w (Qs H) (X5 H h):=by
 intro a o e
 by_cases c:∃b,H a=a_ (.ci b)
 .obtain⟨b,f⟩:=c;rw[show Qs H a=a_ _ from A8 f]at e;cases e;obtain⟨z,d,r,g,j,i⟩:=ok a _ f;exact⟨z,d,r,g,GU j f,i⟩
 .rw[show Qs H a=d_ from I0 λb z=>c ⟨b,z⟩]at e;cases e
def HJ(e:(bg P w).is k v=c_)(r:ez x v):x=kV k:=by
 rcases b8 e with⟨i,t,rfl,rfl⟩|⟨y,t,rfl,rfl⟩
 .cases x<;>first|(obtain⟨_,z⟩:=r;cases z;rfl)|(obtain⟨_,z⟩:=r;cases z)|cases r
 .cases x<;>first|(obtain⟨_,z⟩:=r;cases z;rfl)|(obtain⟨_,z⟩:=r;cases z)|cases r
theorem Eb:∀{b}{a}{xs},ItemsAre (bg P w) b a->dL xs a->xs=b.map kV
 |_,_,_,.nil,r=>by cases r;rfl
 |_,_,_,.cons f d,r=>by
  cases r with
  |cons e c=>rw[HJ f e,Eb d c,iJ]
def ES(ok:l0 P w H h)(q:nS (bg P w) (X5 H h) g b):H b=a_ (.ci (g.map kV)):=by obtain⟨o,c,n,e,x,l,j⟩:=q;obtain⟨p,s,d⟩:=Kn e;obtain⟨_,i,r,u,f,m,v,a⟩:=ok b _ d;rw[p]at f;cases f;rw[l]at a;cases a;rw[d,Eb (by simpa using j) r]
def JZ(ok:l0 P w H h)(q:Bg P w (X5 H h) k v):∃x,ez x v/\re H k x:=by
 cases k with
 |inl k=>
  refine⟨kV k,?_,_6⟩;rcases b8 q with⟨i,t,rfl,rfl⟩|⟨y,t,rfl,rfl⟩
  .exact⟨t,_6⟩
  .exact⟨t,_6⟩
 |inr a=>obtain⟨b,rfl,q⟩:=q;exact⟨.ref b,_6,b,_6,ES ok q⟩
def Oy(j:∀k v,Bg P w n k v->∃x,ez x v/\re H k x):∀{g}{d},kt P w b n g d->∃a,dL a g/\cr K (gT G H) (d.map Vu) a:=by
 intro c;induction c with
 |nil=>rintro d e;rw[e];exact⟨[],.nil,_6⟩
 |cons _ _ f=>
  rintro _ ⟨k,r,o,q,t⟩
  subst o;obtain⟨a,m,l⟩:=f t;obtain⟨x,i,h⟩:=j k _ q.nk;exact⟨x::a,.cons i m,⟨_,_,_6,Kq h,l⟩⟩
noncomputable def My:NK->r_
 |.inl _=>e_
 |.inr _=>c_
def F6(a:b_ NK):r_:=a.all My||a.all λk=> !My k
def HX(h:F6 c=c_):∃b,∀k∈c,My k=b:=by
 rcases Bool.or_eq_true_iff.mp h with h|h
 .exact⟨c_,λk a=>w_.mp h k a⟩
 .exact⟨e_,λk a=>by simpa using w_.mp h k a⟩
def Vh:∀{a}{c},hG P w h a c->(∀k∈a,My k=b)->kt P w b h c a:=by
 intro a;induction a with
 |nil=>rintro c e _;rw[e];exact _6
 |cons k r g=>
  rintro c ⟨v,t,rfl,q,f⟩ d
  refine⟨k,r,_6,?_,g f λk i=>d k (.tail _ i)⟩;have:=d k (.head _);cases k with
  |inl k=>exact⟨this.symm,q⟩
  |inr j=>exact⟨this.symm,q⟩
noncomputable def zb(d:D):f_ D:=match d with
 |.au b=>(y9 b).bind λa=>if F6 a=c_/\(zd a).length<=76 then(jn ((zd a).map Vu)).map .au else d_
 |_=>d_
def dh(d:D):f_ D:=zb d
end
section
inductive SetTk(X:Cx)(H0:Hp)(p:o_)(T:b_ NK)(h:C_):Prop
 |mk (b h0) (_:SetB X.prog X.w b h0 h p T) (_:∀k v,Bg X.prog X.w h0 k v->∃x,ez x v/\re H0 k x):SetTk X H0 p T h
noncomputable def PK(X:Cx)(a:Hp)(p:o_)(T:b_ NK):HO:=.ext (SetTk X a p T)
inductive rSetK(X:Cx)(xs:b_ V)(H:Hp)(Q:VK):Prop
 |mk (a vs kz) (_:xs=[.ref a]) (_:gL X.K H a vs) (_:NkL H kz vs) (_:F6 kz=c_) (_:(zd kz).length<=76) (_:∀p,H p=d_->Q (.ref p) (eT H p (PK X H p (zd kz)))):rSetK X xs H Q
def Nz(U:X.calm=c_)(O:X.A.units+12<lN):ie X (.type "set") (rSetK X):=by
 intro f s Z H xs us Q I r q;obtain⟨a,vs,kz,rfl,n,M,d,p,q⟩:=q;obtain⟨u,rfl,w⟩:=ny r;cases w;obtain⟨N,v,L,_⟩:=I.list n;obtain⟨b,Y⟩:=HX d;refine T9 O (I.ok.hd U) L.isList (by simpa using Vh (uj (HY I.fg) (M.be λb xs e=>A8 e) v) Y) (λc o e=>(Kn e).1) p λh' m i T=>⟨.ref s.1.1.size,_,I.laid (t':=m) (λb o e=>T b o (jA e) e) (iF _) ?_,_6,q _ (I.fg.fresh (iF _))⟩;refine⟨⟨b,_,i,λk b z=>JZ I.fg z⟩,?_,λh1 h2 ⟨b,h0,x,y⟩ k=>⟨b,h0,?_,y⟩⟩
 .obtain⟨h,j,l,t,g,_⟩:=i;exact⟨_,g⟩
 .obtain⟨h,j,l,t,g,q,J,G,E,C,B⟩:=x;exact⟨h,j,l,t,k _ g,q,J,G,E,C,B⟩
inductive rSortK(X:Cx)(xs:b_ V)(H:Hp)(Q:VK):Prop
 |mk (p T H0 G ds') (_:xs=[.ref p]) (_:H p=a_ (PK X H0 p T)) (_:(∀b ys,H0 b=a_ (.ci ys)->H b=a_ (.ci ys))) (_:ca G H) (_:_7 T<=76) (_:jn (T.map Vu)=a_ ds') (_:∀q vs',H q=d_->cr (kx X) (gT G H) ds' vs'->Q (.ref q) (eT H q (.au vs'))):rSortK X xs H Q
def Kg(y:X.A.units+5<lN)(J:X.calm=c_):ie X (.builtin "sorted") (rSortK X):=by intro d s Z H xs Y Q I r q;obtain⟨p,T,H0,G,O,rfl,E,B,h,c,N,q⟩:=q;obtain⟨u,rfl,j⟩:=ny r;cases j;obtain⟨⟨b,h0,L,a⟩,_,_⟩:=I.fg p _ E;refine Ce y I (A7 h).gh (λQ' E' C=>(Mv (I.ok.hd J) L c λU M g f kz w n o=>?_)) q;obtain⟨e,i,dl⟩:=Oy (H:=H) (λk v z=>by obtain⟨x,m,l⟩:=a k v z;exact⟨x,m,l.be B⟩) o;exact C U M g f e _ w i dl (Qb ((n.map Vu).symm) N)
end
section
def Qc(m:ca G H)(L:Arg (kx X) G H w x)(u:zb w=a_ d)(q:∀v B A,c8 G H B A->gr (kx X) B d v->Q v A):
  rSetK X [x] H λx M=>rSortK X [x] M Q:=by
 cases w with
 |au y=>
  have h:((y9 y).bind λg=>if F6 g=c_/\(zd g).length<=76 then(jn _).map D.au else d_)=a_ d:=u;cases n:y9 y with
  |none=>rw[n]at h;cases h
  |some g=>
   rw[n]at h;have c:(if F6 g=c_/\(zd g).length<=76 then(jn _).map D.au else d_)=a_ d:=h
   by_cases f:F6 g=c_/\(zd g).length<=76
   .rw[iH f]at c;cases o:jn _ with
    |none=>rw[o]at c;cases c
    |some r=>
     rw[o]at c;cases c;obtain⟨a,E,rfl,I,dl⟩:=L.au m;refine⟨a,E,g,_6,I,(Kp dl n).be λb xs z=>m b _ z,f.1,f.2,λp s=>?_⟩;have l:=c8.own m (PK X H p (zd g)) s;refine⟨p,zd g,H,G,r,_6,aj,λb N e=>?_,l.gh,f.2,o,λO C i J=>?_⟩
     .rwa[ai (a8 e s)]
     .have j:=A7 l.gh;exact q _ _ _ (l.trans (j.trans (c8.new j.gh _ i))) (zy j.gh i J)
   .rw[iG f]at c;cases c
 |_=>cases u
def Wf(l:X.A.units+12<lN)(h:X.calm=c_)(n:Gl X "sorted")(m:X.mg "sorted"=d_)(b:Gl X "set")(a:X.mg "set"=d_)(o:k6 X B E e g)(f:jI [e] X.bi=(e_,I_ e X.bi)::jI [] X.bi):
  f7 X B E (.Call (.Name "sorted" p) [.Call (.Name "set" v) [e] [] c] [] j) (g1 zb g):=
 PE.imp (l7 (Kg (by lia) h) n m _o (jy (tf (Nz h l) b a PyProof.Rows.boot_set (g7 o jr f) (by decide) (by decide) f _6) qc _6) (by decide) (by decide) _6 _6) λZ H Q q=>
  FD (rr:=λxs H Q=>rSetK X xs H λx u=>rSortK X [x] u Q) (λG H x w d i s r Q q=>Qc i s r q) q
end
end Pu
namespace L2
section
variable{fs:b_ o_}
def c5.turnedT(I:c5 X a Z H s)(g:∀b∈fs,pk X a H b)(k:∀b o,b∉fs->s.1.get? b=a_ o->i.get? b=a_ o)(p:i.get? s.1.1.size=a_ {cls:=.type "tuple",data:=.seq #[u,v]})(A:ez x u)(w:ez y v):
  c5 X a Z (eT H s.1.1.size (.ci [x,y])) {s with heap:=i,toks:=Q}:=by
 have lP:∀{b}{o},H b=a_ o->b∉fs:=λ{b o} q c=>by rw[(g b c).1]at q;cases q
 have up:∀{b}{o},H b=a_ o->eT H s.1.1.size (.ci [x,y]) b=a_ o:=λq=>(ai (a8 q (I.fg.fresh (iF _)))).trans q;refine I.step (ch:=fs) (λb c=>?_) (λb o W W d q W=>k b o d q) (λb o W W d q W=>⟨o.slots,k b o d q⟩) (λb o W q n=>?_) (λb o d q=>⟨o,k b o d q⟩)
  (λb j q=>up q) (λb o v q=>up q) (λb y q=>up q) (λm C=>?_) (λb l q=>?_) I.lU
 .obtain⟨Y,L,U,J,G,E⟩:=g b c;exact⟨J,L,G,E⟩
 .rwa[ai (jJ (jA q))]
 .obtain⟨o,M,N,B,r⟩:=C;exact⟨o,M,N,k _ o (λc=>(g _ c).2 _6) B,r⟩
 .by_cases c:b=s.1.1.size
  .subst c;rw[aj]at q;cases q;exact⟨by rw[kP];simp,[u,v],.cons A (.cons w .nil),_,p,_6,0,_6⟩
  .rw[ai c]at q;refine(I.fg b l q).t3 (λe f h r=>k e f ?_ r) (λe z=>up z) (λe j z=>up z) λe T O z=>up z;obtain z|z:=h
   .rw[z];exact lP q
   .exact lP z
end
end L2
namespace Pu
open L2
def dX(K:iL)(a:o_):It:=
 ⟨λi H=>∃xs x,gL K H a xs/\xs[i]?=a_ x,λi H v b=>∃p x,H p=d_/\v=.ref p/\b=eT H p (.ci [.int (i:j_),x])/\∀xs,gL K H a xs->xs[i]?=a_ x,λi H=>∃xs,gL K H a xs/\_7 xs<=i⟩
def gI(e it a:o_)(i:g_)(h:C_):Prop:=(∃lP,IsEnum h e it (i:j_) lP)/\h.IsListIter it a i
def Wz{K:iL}{k1}(a e it:o_)(m:e≠it):qh P w K (.Tuple θ k1 tp) (dX K a) [e,it] e (gI e it a) where
 mem:=by simp
 obj:=λi h st b c=>by
  obtain⟨⟨lP,d⟩,o,L,T,hd⟩:=st;rcases l_.mp c with rfl|c
  .exact⟨_,d,λv z=>by
    cases z⟩
  .have e:b=it:=by simpa using c
   subst e;exact⟨o,L,λv z=>by rw[hd]at z;cases z⟩
 keep:=λi h h' st k=>⟨let ⟨lP,d⟩:=st.1;⟨lP,k e (by simp) _ d⟩,st.2.at λo q=>k it (by simp) o q⟩
 item:=by
  intro X U G Y T i g s Z H E I l st N;subst U G Y;obtain⟨xs,x,A,hx⟩:=N;obtain⟨C,B,p,hz⟩:=I.list A;obtain⟨u,hu,ru⟩:=B.get hx;obtain⟨⟨lP,d⟩,f⟩:=st;obtain⟨f0,f1,f2,f3,f4,f5⟩:=l e (by simp);obtain⟨g0,g1,g2,g3,g4,g5⟩:=l it (by simp);have y:=jA d;refine wpAny_pyNext_enum_item d f p.isList (by simpa using hu) m λh1 Q n J ν M=>⟨_,_6,E? Q λh2 O sb=>?_⟩;have j:=sb;have ch:∀b,b∉[e,it]->b≠e/\b≠it:=λb c=>by simpa using c
  have I2:c5 X g Z (eT H s.1.1.size (.ci [.int _,x])) {s with heap:=h2,toks:=s.toks+1}:=I.turnedT l (λb o c q=>(λb o r α q=>j.extBut b o r (M b o r α q)) b o (ch b c).1 (ch b c).2 q) (j.extBut _ _ (nH y) J) ⟨_,_6⟩ ru;refine⟨.ref s.1.1.size,_,I2,_6,⟨_,x,(I.fg.fresh (iF _)),_6,_6,λys hy=>by rwa[I.rm hy A]⟩,⟨⟨u,?_⟩,?_⟩,λb c=>?_⟩
  .have:((i+1:g_):j_)=(i:j_)+1:=by push_cast;rfl
   exact O
  .exact n.at λo q=>j.extBut it o (pE m) q
  .have z:=(l b c).1;have:b<s.1.1.size:=by
    rcases l_.mp c with rfl|c
    .exact y
    .have z:b=it:=by simpa using c
     subst z;obtain⟨o,L,_⟩:=f;exact jA L
   rwa[ai (jJ this)]
 done:=by intro X U G Y T i g s Z H E I l st N;subst U G Y;obtain⟨xs,A,hx⟩:=N;obtain⟨C,B,p,hz⟩:=I.list A;obtain⟨⟨lP,d⟩,f⟩:=st;obtain⟨g0,g1,g2,g3,g4,g5⟩:=l it (by simp);have hl:=B.length;exact wpAny_pyNext_enum_end (I.ok.hd T) d f p.isList (by simp;lia) λh' eb=>⟨_6,I.hZ (λb o c e=>eb b o c e) g0 g1 g3 g4 g5⟩
 self:=λW W W W W st h=>let ⟨_,d⟩:=st.1;tU d h
def lg:g_->b_ D->b_ D
 |_,[]=>[]
 |i,d::r=>.ci [.int (i:j_),d]::lg (i+1) r
theorem A6:∀i a,(lg i a).length=_7 a
 |_,[]=>rfl
 |i,d::r=>by rw[lg,iC,iC,A6]
theorem A5:∀(i j:g_) a,(lg i a)[j]?=(a[j]?).map λd=>.ci [.int ((i+j:g_):j_),d]
 |_,_,[]=>by simp[lg]
 |i,0,d::r=>by simp[lg]
 |i,j+1,d::r=>by rw[lg,kB,kB,A5 _ j r];rw[show i+1+j=i+(j+1) by lia]
section
def Zc{K:KA}(h:∀G H,S G H->ca G H->gL K H a c/\ca A G)(dl:cr K A m c):zg K (dX K a) (lg 0 m) S:=λi G H o e=>by
 obtain⟨q,g⟩:=h G H o e;refine⟨λd b=>?_,λn=>⟨c,q,by rw[A6]at n;rwa[<-dl.length]⟩⟩;rw[A5,nZ]at b;cases f:m[i]? with
 |none=>rw[f]at b;cases b
 |some B=>rw[f]at b;cases b;obtain⟨v,l,w⟩:=dl.get f;refine⟨⟨c,v,q,l⟩,λx C ⟨p,y,j,u,s,r⟩=>?_⟩;subst u s;have z:=r c q;rw[l]at z;cases z;exact⟨_,c8.new e _ j,o9 e j (cr.append (cr.pv (d:=.int _) _6) (cr.pv (w.be g)))⟩
end
section
noncomputable def fS(b a:jB)(TI TO:o_):_d:={cls:=.type "zip",dict:=d_,data:=.fields #[b,a,.bool e_,.ref TI,.ref TO],slots:=#[]}
structure ZG(It:C_->g_->g_->g_->Prop)(h:C_)(z TI TO i1 i2 l1 l2 k:g_)(f0 f1:jB):Prop where
 hz:h.get? z=a_ (fS f0 f1 TI TO)
 hI:IsPair h TI (.ref i1) (.ref i2)
 hO:∃a b,IsPair h TO a b
 h1:It h i1 l1 k
 h2:IsTupIter h i2 l2 k
abbrev dP(h:C_)(z TI TO d c b a k:g_)(e:jB):Prop:=ZG IsTupIter h z TI TO d c b a k e (.bool e_)
end
section
noncomputable def fM(l:o_):_d:={cls:=.type "tuple_iterator",data:=.fields #[.ref l,.int 0 0]}
noncomputable def iW(h:C_):_d:={cls:=.type "tuple",data:=.seq #[.ref h.objs.size,.ref (h.objs.size+1)]}
noncomputable def iV:_d:={cls:=.type "tuple",data:=.seq #[.none,.none]}
noncomputable def iU(h:C_):_d:={cls:=.type "zip",data:=.fields #[.none,.bool e_,.bool e_,.ref (h.objs.size+2),.ref (h.objs.size+3)]}
def zH(h:C_)(b a:o_):C_:=((((h.push (fM b)).push (fM a)).push (iW h)).push iV).push (iU h)
end
def ZG.at{z TI TO d c f k:g_}(Z:dP h z TI TO d c f g k j)(e:∀b∈[z,TI,TO,d,c],∀o,h.get? b=a_ o->i.get? b=a_ o):dP i z TI TO d c f g k j:=
 ⟨e z (by simp) _ Z.hz,e TI (by simp) _ Z.hI,let ⟨a,b,q⟩:=Z.hO;⟨a,b,e TO (by simp) _ q⟩,let ⟨o,q,r⟩:=Z.h1;⟨o,e d (by simp) o q,r⟩,let ⟨o,q,r⟩:=Z.h2;⟨o,e c (by simp) o q,r⟩⟩
def ZG.there{z TI TO e d j k:g_}(Z:dP h z TI TO e d j w k x):∀b∈[z,TI,TO,e,d],∃o,h.get? b=a_ o/\∀v,o.data≠.cell v:=λb m=>by
 obtain⟨l,p,⟨a,c,n⟩,⟨u,i,_,r⟩,⟨s,g,_,q⟩⟩:=Z;have:b=z\/b=TI\/b=TO\/b=e\/b=d:=by simpa using m
 obtain rfl|rfl|rfl|rfl|rfl:=this
 .exact⟨_,l,λv z=>by have f:=z;cases f⟩
 .exact⟨_,p,λv z=>by cases z⟩
 .exact⟨_,n,λv z=>by cases z⟩
 .exact⟨_,i,λv z=>by rw[r]at z;cases z⟩
 .exact⟨_,g,λv z=>by rw[q]at z;cases z⟩
section
def Jh(d:o_)(e:(d==oV)=e_):
  MeetsIn a w (K_.«dict.items» ⟨[.ref d],[]⟩) (λz R s=>(∃es b,RawD s.1 d es b)/\
   R (.ok (.ret (.ref s.1.1.size))) {s with heap:=s.1.push {cls:=.type "dict_items",data:=.fields #[.ref d]}}):=
 .of_wp<|by
  rintro A R s ⟨⟨es,b,c⟩,h⟩
  refine iA (iA (rG c.ty (iB ?_)));unfold uC;rw[iG (by rw[e];exact D_)];exact iA (iB (iA (kX (iB ⟨_,_6,h⟩))))
def P2(c:s.1.IsItemsView v d)(i:RawD s.1 d es ep)
  (l:Q (.ref s.1.1.size) {s with heap:=s.1.push {cls:=.type "dict_itemiterator",data:=.fields #[.none,.bool e_,.ref d,.int 0 0,.int es.size 0,.int ep 0,.none,.none]}}):
  jK (jG g w) A (xZ (.ref v)) Q E s:=by
 obtain⟨m,e,j,f⟩:=id c;obtain⟨o,h,n,a⟩:=id i;refine qE c.typeIs F.slot_dict_items_iter (kL F.slot_dict_items_iter c.typeIs F.entry_dict_items_iter (iA (iB (iA (iA (sZ e f _6 (iB (iA (iA (oT h a (iA (rD h a ?_))))))))))) (F.args_dict_items_iter_1 _));have b:rE "dict_itemiterator"=c_:=by decide
 simp only[b,_g];refine kX (iB ⟨_,_6,"dict_itemiterator",_,⟨_,iS _ _6,_6⟩,F.slot_dict_itemiterator_next.lookup,?_⟩)
  (by simp only[sizeOk,sO,jS,iO,iC,lB,kP];lia)
 simpa[mK,sO]using l
def P3(I:sT s.1 it d i es.size M ok ov)(hm:RawD s.1 d es M)(α:i<es.size)
   (hQ:∀h',R? h' it d (i+1) es.size M es[i].key es[i].val s.1.1.size->
   h'.get? s.1.1.size=a_ {cls:=.type "tuple",data:=.seq #[es[i].key,es[i].val]}->h'.objs.size=s.1.1.size+1->
   (∀b o,b≠it->s.1.get? b=a_ o->h'.get? b=a_ o)->Q (a_ (.ref s.1.1.size)) {s with heap:=h'}):
  jK (jG θ w) A (vR (.ref it)) Q E s:=by
 obtain⟨L,g,dr,tk,os⟩:=s;obtain⟨od,Y,μ,β⟩:=id hm;have hT:wR ⟨L,g,dr,tk,os⟩ (.ref it) "dict_itemiterator":=⟨_,I,_6⟩;refine iA (pI (lE hT oR
  (kL oR hT uL ?_ (tY _))))
 refine iA (iB (iA (iA ?_)))
 first|refine iA (oH hT (iB ?_))|refine iA _
 refine iA (pO I _6 ?_);have ι:rE "dict_itemiterator"=c_:=by decide
 show jK _ _ _ _ _ _;refine iA (iB (iA (oT Y β ?_)));rw[iG (by simp)];refine iA (iB (iA (rD Y β ?_)));rw[iG (by simp)];refine iB ?_;simp only[_l,mE,jU α];refine iA ?_
 first|refine iA (oH hT (iB ?_))|refine iA _
 refine iA (tV hT ?_);show jK _ _ (Y! _ 3 (mK (_+1))>>=_) _ _ ⟨L,g,dr,tk,os⟩;refine iA (qZ I (by simp) λp m l=>?_);replace l:kZ it L p:=l;replace m:sT p it d (i+1) es.size M ok ov:=by
  have e:((i+1:g_):j_)=(i:j_)+1:=by lia
  unfold sT;simpa[mK]using m
 have H:wR ⟨p,g,dr,tk,os⟩ (.ref it) "dict_itemiterator":=⟨_,m,_6⟩;refine iA (kY (iA (tV H (iA (tV H (iA (C? ?_)))))));have j:sT (p.push {cls:=.type "tuple",data:=.seq #[es[i].key,es[i].val]}) it d _ es.size M ok ov:=iE _ m;generalize r:p.push {cls:=.type "tuple",data:=.seq #[es[i].key,es[i].val]}=n at j;have q:=l.1;have J:=jA I;have O:n.get? L.objs.size=a_ {cls:=.type "tuple",data:=.seq #[es[i].key,es[i].val]}:=by rw[<-r,<-q];exact iS _ _6
 have N:n.objs.size=L.objs.size+1:=by rw[<-r,mM,q]
 have T:∀b o,b≠it->L.get? b=a_ o->n.get? b=a_ o:=λb o U e=>by rw[<-r];exact iE _ (l.extBut b o U e)
 show jK _ _ _ _ _ ⟨n,g,dr,tk,os⟩;rw[q];refine iA (iA (sZ j _6 _6 (iB (iA (sZ j _6 _6 (iA (sZ j _6 _6 (iA (qZ j (by simp) λG y h=>?_)))))))));replace h:kZ it n G:=h;replace y:sT G it d _ es.size M es[i].key ov:=y;refine iA (qZ y (by simp) λC x f=>?_);replace f:kZ it G C:=f;replace x:sT C it d _ es.size M es[i].key es[i].val:=x;refine iA (qZ x (by simp) λB v c=>?_);replace c:kZ it C B:=c;replace v:R? B it d _ es.size M es[i].key es[i].val L.objs.size:=v;refine iA (qZ v (by simp) λz u a=>?_);replace a:kZ it B z:=a;replace u:R? z it d _ es.size M es[i].key es[i].val L.objs.size:=u;refine iA (wL (iB (iB ⟨_,_6,iB (hQ z u ?_ ?_ ?_)⟩)))
 .exact a.extBut _ _ (nH J) (c.extBut _ _ (nH J) (f.extBut _ _ (nH J) (h.extBut _ _ (nH J) O)))
 .rw[a.1,c.1,f.1,h.1,N]
 .exact λb o U e=>a.extBut b o U (c.extBut b o U (f.extBut b o U (h.extBut b o U (T b o U e))))
def P1(l:A.handled=d_)(a:sT s.1 it d es.size es.size p ok q)(j:RawD s.1 d es p)
  (o:∀i,wJ it s.1 i->Q d_ {s with heap:=i}):jK (jG g w) A (vR (.ref it)) Q E s:=by
 obtain⟨od,c,n,e⟩:=id j;have f:s.TypeIs (.ref it) "dict_itemiterator":=⟨_,a,_6⟩;refine iA (pI (lE f oR
  (kL oR f uL ?_ (tY _))))
 refine iA (iB (iA (iA ?_)))
 first|refine iA (oH f (iB ?_))|refine iA _
 refine iA (pO a _6 ?_);have h:rE "dict_itemiterator"=c_:=by decide
 show jK _ _ (if _=c_ then _ else _) _ _ s;refine iA (iB (iA (oT c e ?_)));rw[iG (by simp)];refine iA (iB (iA (rD c e ?_)));rw[iG (by simp)];refine iB ?_;simp only[_l,mE,i? (iF es.size)];refine iA ?_
 first|refine iA (oH f (iB ?_))|refine iA _
 show jK _ _ (Y! _ 2 .none>>=_) _ _ s;refine iA (oQ a _6 (by simp) (iA (iA (m:=pQ _ _) (rU (by first|rfl|(simp only[pQ];rfl)) (kX (iA (wQ ?_)) (by size_fits))))));rw[l];refine iA (iB (yA ?_));refine iA (oE (b:=c_) ⟨_,iS _ _6,_6⟩ vY ?_);exact iB (o _ (((kK ..).extBut.push _).push _))
end
inductive FzD(P:kR)(w:mG)(H:Hp)(h:C_)(a:o_)(o:_d)(es:b_ (fm×V)):Prop
 |mk (_:(a==oV)=e_) (_:_7 es<=iN) (_:h.get? a=a_ o) (_:o.ExactDict) (xs dt ep) (_:KT H es xs) (_:o.data=.dict dt ep) (_:dt.toList=xs.map (s? (gj P w))) (_:dt.size=_7 es):FzD P w H h a o es
def xp(ok:l0 P w H h)(e:H a=a_ (.il o (.dT es))):FzD P w H h a o es:=by obtain⟨d,z,f,xs,rel,m,l,j,c,i,g,b,_⟩:=ok a _ e;rw[d]at c;cases c;refine⟨f,z,d,i,xs,l,j,rel,g,b,?_⟩;have:=u_ mD b;rw[iD,iP]at this;rw[this,<-sH rel]
theorem O1:∀{es}{xs},KT H es xs->∀{i:g_}{p},es[i]?=a_ p->∃q,xs[i]?=a_ q/\mo H p.1 q.2.1/\ez p.2 q.2.2
 |_,_,.nil,i,p,e=>by simp at e
 |_,_,.cons r t,0,p,e=>by simp at e;subst e;exact⟨_,_6,r.2.1,r.2.2⟩
 |_,_,.cons r t,i+1,p,e=>by simp at e;simpa using O1 t e
def Rl{a:p_ DictEntry}{xs:b_ (fm×o_×jB)}(h:a.toList=xs.map (s? (gj P w)))(b:xs[i]?=a_ q)(c:i<a.size):a[i].key=.ref q.2.1/\a[i].val=q.2.2:=by
 have e:a.toList[i]?=a_ a[i]:=by rw[jO];exact jU c
 rw[h,jF,b]at e;rw[<-(jM e)];exact⟨_6,_6⟩
def dY(o:_d)(a:o_):It:=
 ⟨λi H=>∃c,H a=a_ (.il o (.dT c))/\i<_7 c,λi H x d=>d=H/\∃c p b,H a=a_ (.il o (.dT c))/\c[i]?=a_ p/\x=.ref b/\mo H p.1 b,λi H=>∃c,H a=a_ (.il o (.dT c))/\_7 c<=i⟩
def Wy{K:iL}(f:o.data=.dict U ep):qh P w K tg (dY o a) [it] it (λi h=>h.IsKeyIter it a i U.size ep/\i<=U.size) where
 mem:=by simp
 obj:=λi h st b l=>by
  have e:b=it:=by simpa using l
  subst e;obtain⟨⟨o,e,c,d⟩,_⟩:=st;exact⟨o,e,λv z=>by rw[d]at z;cases z⟩
 keep:=λi h h' st k=>⟨let ⟨o,ho,r⟩:=st.1;⟨o,k it (by simp) o ho,r⟩,st.2⟩
 item:=by
  intro X hP hw hK Y i m s Z H E I p st C;obtain⟨es,u,B⟩:=C;obtain⟨O,N,f2,M,L,J⟩:=p it (by simp);obtain⟨hd,z,G,y,xs,T,Q,rel,n,h4,x⟩:=xp I.fg u;rw[f]at n;cases n;have j:i<U.size:=by rwa[x]
  refine CI st.1 ⟨o,G,y,f⟩ j λh' g A=>?_;obtain⟨ob,e,c,dd⟩:=id g;obtain⟨q,hq,tk,_⟩:=O1 rel (iR B);obtain⟨ek,_⟩:=Rl h4 hq j;refine⟨_,_6,Gq e c dd (by decide) ⟨.ref q.2.1,H,(I.hZ (λb o l e=>(A.2 b l).trans e) O N M L J),by rw[ek];exact _6,⟨_6,es,_,_,u,iR B,_6,tk⟩,⟨g,j⟩,λb l=>(p b l).1⟩⟩
 done:=by intro X hP hw hK Y i m s Z H E I p st C;obtain⟨es,u,B⟩:=C;obtain⟨O,N,f2,M,L,J⟩:=p it (by simp);obtain⟨hd,z,G,y,xs,T,Q,rel,n,h4,x⟩:=xp I.fg u;rw[f]at n;cases n;have e:=xW st.2 (by rwa[x]);subst e;exact LW (I.ok.hd Y) st.1 ⟨o,G,y,f⟩ λh' eb=>⟨_6,I.hZ (λb o l e=>eb b o l e) O N M L J⟩
 self:=λW W W W W st h=>wpAny_pyIter_keyiter st.1 h
def QS{K:KA}(h:∀G H,S G H->ca G H->H a=a_ (.il o (.dT es))/\ca y G)(dl:hV K y j es):zg K (dY o a) (j.map (·.1)) S:=λi G H u l=>by
 obtain⟨q,g⟩:=h G H u l;rw[Gg dl];refine⟨λd c=>?_,λs=>⟨es,q,by rwa[iD]at s⟩⟩;rw[jF]at c;cases f:es[i]? with
 |none=>rw[f]at c;cases c
 |some p=>rw[f]at c;cases c;refine⟨⟨es,q,(h_.mp f).1⟩,λx A ⟨e,w,z,b,m,n,v,r⟩=>?_⟩;subst e v;rw[q]at m;cases m;rw[f]at n;cases n;exact⟨_,A7 l,Yb r⟩
def dW(o:_d)(a:o_):It:=
 ⟨λi H=>∃c,H a=a_ (.il o (.dT c))/\i<_7 c,λi H x d=>∃c p b y,H a=a_ (.il o (.dT c))/\c[i]?=a_ p/\mo H p.1 b/\H y=d_/\x=.ref y/\d=eT H y (.ci [.ref b,p.2]),λi H=>∃c,H a=a_ (.il o (.dT c))/\_7 c<=i⟩
def Qu{K:iL}{k1}(f:o.data=.dict O ep):
  qh P w K (.Tuple θ k1 tp) (dW o a) [it] it (λi h=>(∃ok l,sT h it a i O.size ep ok l)/\i<=O.size) where
 mem:=by simp
 obj:=λi h st b c=>by
  have e:b=it:=by simpa using c
  subst e;obtain⟨⟨ok,l,e⟩,_⟩:=st;exact⟨_,e,λv z=>by cases z⟩
 keep:=λi h h' st k=>⟨let ⟨ok,l,e⟩:=st.1;⟨ok,l,k it (by simp) _ e⟩,st.2⟩
 item:=by
  intro X hP hw hK T i g s Z H E I u st C;obtain⟨L,x,r⟩:=C;obtain⟨f0,f1,f2,f3,f4,f5⟩:=u it (by simp);obtain⟨hd,z,G,B,xs,N,M,rel,p,U,A⟩:=xp I.fg x;rw[f]at p;cases p;have j:i<O.size:=by rwa[A]
  obtain⟨⟨ok,l,d⟩,_⟩:=st;obtain⟨q,hq,tk,rv⟩:=O1 rel (iR r);obtain⟨ek,J⟩:=Rl U hq j;have n:=jA d;refine P3 d ⟨o,G,B,f⟩ j λh1 y t1 n1 e1=>⟨_,_6,wpAny_letOwnedTupleGo_items y λY z2 sb=>?_⟩;have m:=sb;have k2:∀b o,b∉[it]->s.1.get? b=a_ o->Y.get? b=a_ o:=λb o c q=>by
   have c:b≠it:=by simpa using c
   exact m.extBut b o c (e1 b o c q)
  have Q:=m.extBut _ _ (nH n) t1;rw[ek,J]at Q;have I2:c5 X g Z (eT H s.1.1.size (.ci [.ref q.2.1,(L[i]'r).2])) {s with heap:=Y}:=I.turnedT u k2 Q _6 rv;refine⟨.ref s.1.1.size,_,I2,_6,⟨L,_,_,_,x,iR r,tk,(I.fg.fresh (iF _)),_6,_6⟩,⟨⟨_,_,z2⟩,j⟩,λb c=>?_⟩;have e:b=it:=by simpa using c
  subst e;rwa[ai (jJ n)]
 done:=by intro X hP hw hK T i g s Z H E I u st C;obtain⟨L,x,r⟩:=C;obtain⟨f0,f1,f2,f3,f4,f5⟩:=u it (by simp);obtain⟨hd,z,G,B,xs,N,M,rel,p,U,A⟩:=xp I.fg x;rw[f]at p;cases p;have e:=xW st.2 (by rwa[A]);subst e;obtain⟨⟨ok,l,d⟩,_⟩:=st;exact P1 (I.ok.hd T) d ⟨o,G,B,f⟩ λh' eb=>⟨_6,I.hZ (λb o c e=>eb b o c e) f0 f1 f3 f4 f5⟩
 self:=λS S S S S st h=>let ⟨_,_,e⟩:=st.1;PySem.W.kcp_self e h
noncomputable def Ea(p:D×D):D:=.ci [p.1,p.2]
theorem hV.get{K:KA}:∀{a}{es},hV K G a es->∀{i:g_}{p},a[i]?=a_ p->∃k v,es[i]?=a_ (k,v)/\p.1=kT k/\gr K G p.2 v
 |[],_,_,i,p,e=>by simp at e
 |_::_,_,c,0,p,e=>by obtain⟨k,v,r,d,h,g,f⟩:=c;simp at e;subst e;subst d;exact⟨k,v,_6,h,g⟩
 |_::_,_,b,i+1,p,e=>by obtain⟨k,v,r,d,h,g,f⟩:=b;subst d;simpa using hV.get f e
def QR{K:KA}(h:∀G H,S G H->ca G H->H a=a_ (.il o (.dT es))/\ca J G)(dl:hV K J c es):zg K (dW o a) (c.map Ea) S:=λi G H A j=>by
 obtain⟨q,g⟩:=h G H A j;have z:_7 c=_7 es:=by have:=u_ mD (Gg dl);simpa using this
 refine⟨λd f=>?_,λw=>⟨es,q,by rw[iD]at w;rwa[<-z]⟩⟩;rw[jF]at f;cases l:c[i]? with
 |none=>rw[l]at f;cases f
 |some p=>rw[l]at f;cases f;obtain⟨k,v,r,ek,I⟩:=dl.get l;refine⟨⟨es,q,(h_.mp r).1⟩,λx M ⟨C,L,b,y,m,s,u,n,B,E⟩=>?_⟩;subst B E;rw[q]at m;cases m;rw[r]at s;cases s;have e:=(A7 j).gh;refine⟨_,(A7 j).trans (c8.new e _ n),(o9 e n ⟨_,_,_6,?_,_,_,_6,I.be (g.trans (A7 j).gg),_6⟩)⟩;rw[ek];exact Yb u
def jh(g:En->ce):En->f8:=λδ=>match g δ with
 |.ok (.js c_ a)=>.ok (a.map (·.1))
 |.er c=>.er c
 |r=>ak (λz=>r) δ
def oe(g:En->ce):En->f8:=λδ=>match g δ with
 |.ok (.js c_ a)=>.ok (a.map Ea)
 |.er c=>.er c
 |_=>.st
section
set_option tactic.hygienic true in
def HN(q:gc E G H (oe g δ) P):eu E G H (g δ) λd=>∃a,d=.js c_ a/\P (a.map Ea):=by
 unfold oe at q;cases e:g δ with
 |ok d=>
  rw[e]at q;split at q
  .rename_i b;cases b;exact⟨_,_6,q⟩
  .rename_i b;cases b
  .exact q.elim
 |er c=>rw[e]at q;exact q
 |st=>rw[e]at q;exact q
def BR(ha:f7 X B E o g)(p:mq o=c_)(Y:(ap.endLine==cp.line)=c_):Tu X B E (.Tuple O k1 tp) (.Call (.Attribute o "items" ap) [] [] cp) (oe g):=by
 intro i s Z H R I ⟨G,δ,Rr,q⟩;refine wpAny_Call_method0_late (rj p) Y (jf (ha i s Z H (λx f=>∃a c m,x=.ref a/\f a=a_ (.il c (.dT m))/\R (dW c a) f) I ⟨G,δ,Rr,(HN q).be λd W ⟨U,ed,q⟩ v G1 f L dn=>?_⟩) λv h ⟨x,f,N,T,a,c,m,ex,ea,q⟩=>?_)
 .subst ed;obtain⟨a,rfl,⟨z,_⟩|⟨_,c,m,C,dl⟩⟩:=dn
  .cases z
  .exact⟨a,c,m,_6,L.gh _ _ C,q _ G1 f L (QR (λG2 H2 x Q=>⟨Q _ _ (x.1 _ _ C),x.1⟩) dl)⟩
 .subst ex;cases T;obtain⟨hd,z,l,j,xs,M,J,rel,r,h4,hz⟩:=xp N.fg ea;have A:h.TypeIs (.ref a) "dict":=⟨c,l,j.1⟩;refine⟨"dict","dict.items",qP,_O,PySem.F.type_dict_items,A,λb e2=>by cases e2;exact⟨c,l,j.2.1⟩,qY _6 (PySem.evalArgs_none ?_)⟩;refine xK _O A PySem.F.entry_dict_items (PySem.F.args_dict_items_1 _) (Jh a hd) ⟨⟨M,J,c,l,j,r⟩,?_⟩;have y:∀u b n,h.1.get? b=a_ n->(h.1.push u).get? b=a_ n:=λu b n e=>iE _ e;have w:=N.h7 (t':=h.toks) (y {cls:=.type "dict_items",data:=.fields #[.ref a]});refine P2 (es:=M) (ep:=J) ⟨_,iS _ _6,_6,_6⟩ ⟨c,y _ _ _ l,j,r⟩ ?_;refine⟨_,[_],_,_,f,_6,w.h7 λb o e=>iE _ e,Qu r,⟨⟨.none,.none,iS _ _6⟩,jW _⟩,λb p=>?_,q⟩;have e:b=(h.1.push {cls:=.type "dict_items",data:=.fields #[.ref a]}).objs.size:=by simpa using p
  subst e;exact w.p9 (iF _) (w.fg.fresh (iF _))
set_option tactic.hygienic true in
def S3(O:f7 X B E e g)(L:Tu X B E tg e (ak g)):Tu X B E tg e (jh g):=by
 intro f s Z H R I ⟨G,δ,w,q⟩
 by_cases n:∃d,g δ=.ok (.js c_ d)
 .obtain⟨d,i⟩:=n;unfold jh at q;rw[i]at q;refine jf (O f s Z H (λx j=>∃a h l,x=.ref a/\j a=a_ (.il h (.dT l))/\R (dY h a) j) I ⟨G,δ,w,?_⟩) λv A ⟨x,j,m,C,a,h,l,T,U,q⟩=>?_
  .rw[i];intro v G1 j u Y;obtain⟨a,rfl,⟨z,_⟩|⟨_,h,l,r,dl⟩⟩:=Y
   .cases z
   .exact⟨a,h,l,_6,u.gh _ _ r,q _ G1 j u (QS (λG2 H2 x y=>⟨y _ _ (x.1 _ _ r),x.1⟩) dl)⟩
  .subst T;cases C;obtain⟨M,z,Q,J,xs,dt,ep,rel,p,h4,hz⟩:=xp m.fg U;refine CH M ⟨h,Q,J,p⟩ (⟨_,[_],_,_,j,_6,m.h7 λb o e=>iE _ e,Wy p,⟨⟨_,iS _ _6,_6,_6⟩,jW _⟩,λb N=>?_,q⟩);have e:b=A.1.1.size:=by simpa using N
   subst e;exact m.p9 (iF _) (m.fg.fresh (iF _))
 .refine L f s Z H R I ⟨G,δ,w,?_⟩;unfold jh at q;split at q
  .rename_i d i;exact t_ ⟨d,i⟩ n
  .rename_i c i;unfold ak;rwa[i]
  .exact q
end
def ir.vals{K:KA}:∀{b}{es},ir K G b es->cr K G (b.map (·.2)) (es.map (·.2)):=by
 intro a;induction a with
 |nil=>rintro _ h;rw[show _=[]from h];exact _6
 |cons a _ c=>obtain⟨_,_⟩:=a;rintro _ ⟨k,v,r,f,_,e,d⟩;subst f;exact⟨v,_,_6,e,c d⟩
end Pu
namespace Pu
open L2 PySem.SeqAt PySem.W
section
variable{St:g_->C_->Prop}
def WR(a:kR)(w:mG)(A:oN)(P:g_->jB->Prop)(St:g_->C_->Prop)(d:g_->g_->r_):Prop:=
 ∀k i j c b (s:jP) (Q:jB->jP->Prop) (E:jB->jP->Prop),St k s.1->P i c->P j b->Q (.bool (d i j)) s->jK (jG a w) A (T! .Lt c b) Q E s
def Vr(W:Walks q w A.in1 I fp wr n P St)(N:g_->g_->r_)(C:WR q w A.in1 P St N)(S:o_)(G:S∉fp):
  ∀k j s p c,n-(j+1)=k->j+1<=n->St (j+1) s.1->P (vM N j) p->
  s.1.get? S=a_ {cls:=.type "list",dict:=d_,data:=.seq #[p,p] c,slots:=#[]}->
  (∀v M J,P (vM N (n-1)) v->(∀b o,b∉wr->b≠S->s.1.get? b=a_ o->M.get? b=a_ o)->R (.ok (.ret v)) {s with heap:=M,toks:=J})->
  pR (jG q w) A (.builtin "min.loop" ⟨[.ref I,.none,.ref S],[]⟩) R s:=by
 have E:S∉wr:=λh=>G (W.sub _ h);have Q:(toString "min"++toString ".loop":Y_)="min.loop":=by decide
 intro k;induction k with
 |zero=>
  intro j s p c hk hj r x H L;have B:j+1=n:=by lia
  refine mN xD (iA (nT H _6 (iA (tW (W.done s _ _ (B▸r) λM J d=>?_)))));have m:=d S _ E H;refine iA (pY m _6 (iA (wL (iB (L p _ J (by rwa[<-B]) λb o a f e=>(mJ _ _ (pE f)).trans (d b o a e))))))
 |succ k T=>
  intro j s p c hk hj r x H L;have u:j+1<n:=by lia
  refine mN xD (iA (nT H _6 (iA (tW (W.item _ s _ _ u r λv M J Y i d=>?_)))));have m:=d S _ E H;show jK _ A.in1 (tryCatch _ _>>=_) _ _ _;refine iA (tW (kY (iA (C _ _ _ v p _ _ _ i Y x (iA (kY (lZ (iA (wL (iB ?_))))))))));cases U:N _ _ with
  |true=>
   refine iA (pY m _6 (iA (wL (iB ⟨nR uM _,T _ _ v _ (by lia) u (W.frame _ _ _ i λb γ o e=>?_) (by simp only[vM,U];exact Y) (kM _ m _6) λO z g y l=>?_⟩))))
   .exact(mJ _ _ (λh:S=b=>G (by rwa[h]))).trans e
   .exact L O z g y λb o a f e=>l b o a f ((mJ _ _ (pE f)).trans (d b o a e))
  |false=>refine iA (wL (iB ⟨nR uM _,T _ _ p c (by lia) u i (by simp only[vM,U];exact x) m λO z g y l=>?_⟩));exact L O z g y λb o a f e=>l b o a f (d b o a e)
end
section
def T7 
   (h:jK (jG c w) A.in1 (xZ x) (λit a=>∃I u wr n P St y,it=.ref I/\Walks c w A.in1 I u wr n P St/\St 0 a.1/\(∀b∈u,b<a.1.1.size)/\0<n/\WR c w A.in1 P St y/\
   ∀v H J,P (vM y (n-1)) v->(∀b o,b∉wr->a.1.get? b=a_ o->H.get? b=a_ o)->Q v {a with heap:=H,toks:=J}) E s):
  jK (jG c w) A (call (.builtin "min") [x]) Q E s:=by
 have d:(toString "min"++toString ".loop":Y_)="min.loop":=by decide
 refine call_function_tree F.kind_min F.plain_min F.entry_min (F.args_min1 _) (iA (rU (_6) (iA (iB (iA (kN h (λit a i=>?_) λY Y e=>e))))));obtain⟨I,u,wr,n,P,St,y,rfl,W,z,B,L,p,T⟩:=i;refine iA (kX ?_);have f:a.1.1.size∉u:=λN=>kU _ (B _ N);rw[d];refine iB ⟨nR uM _,(mN xD (iA (nT (iS _ _6) _6 ?_)))⟩;refine iA (tW (W.item 0 _ _ _ L (W.frame _ _ _ z λb Y o e=>iE _ e) λv H J U j m=>?_));have r:=m a.1.1.size _ (λh=>f (W.sub _ h)) (iS _ _6);show jK _ A.in1 (updateSeq a.1.1.size _>>=_) _ _ _;refine iA (pY r _6 (iB ⟨nR uM _,Vr W y p a.1.1.size f _ 0 _ v _ _6 L (W.frame _ _ _ j λb O o e=>?_) U (kM _ r _6) λM G g C l=>?_⟩))
 .exact(mJ _ _ (λh:a.1.1.size=b=>f (by rwa[h]))).trans e
 .exact T M G g C λb o q e=>l b o q (jJ (jA e)) ((mJ _ _ (nH (jA e))).trans (m b o q (iE _ e)))
def Walks.also{I:o_}{l wr:b_ o_}{n:g_}{P:g_->jB->Prop}{St:g_->C_->Prop}{ts:b_ o_}{OK:C_->Prop}(W:Walks d w A I l wr n P St)(q:∀b∈ts,b∉wr)
  (j:∀h c,OK h->(∀b∈ts,∀o,h.get? b=a_ o->c.get? b=a_ o)->OK c):Walks d w A I (l++ts) wr n P (λi h=>St i h/\OK h) where
 sub:=λb a=>kE _ (W.sub b a)
 frame:=λi h c st k=>⟨W.frame i h c st.1 λb a=>k b (kE _ a),j h c st.2 λb a=>k b (kS _ a)⟩
 item:=λi s Q E p st f=>W.item i s Q E p st.1 λv c m r g k=>f v c m r ⟨g,j _ _ st.2 λb a o e=>k b o (q b a) e⟩ k
 done:=λs Q E st f=>W.done s Q E st.1 f
 self:=λi s Q E st f=>W.self i s Q E st.1 f
end
noncomputable def fI(x y:r_×j_):g_->r_
 |0=>lC (.bool x.1) (.bool y.1)
 |_=>lC (.int x.2) (.int y.2)
noncomputable def fH(x y:r_×j_):g_->r_
 |0=>decide (b2i x.1<b2i y.1)
 |_=>decide (x.2<y.2)
def XH(x y:r_×j_):r_:=Ah (fI x y) (fH x y) e_ [0,1]
noncomputable def xa:b_ D->f_ (b_ (r_×j_))
 |[]=>a_ []
 |.ci [.bl b,.int i]::r=>(xa r).map ((b,i)::·)
 |_=>d_
def rq:D->f_ D
 | .au b => (match xa b with
  |some a=>if a=[]then d_ else b[vM (λi j=>XH (a.getD i (e_,0)) (a.getD j (e_,0))) (_7 a-1)]?
  |none=>d_)
 |_=>d_
inductive PairB(h:C_)(v:jB)(p:r_×j_):Prop
 |mk (a dd n sl t) (_:v=.ref a) (_:h.get? a=a_ {cls:=.type "tuple",dict:=dd,data:=.seq #[.bool p.1,.int p.2 t] n,slots:=sl}):PairB h v p
set_option tactic.hygienic true in
def Pn:∀{g}{a},xa g=a_ a->g=a.map λp=>.ci [.bl p.1,.int p.2]:=by
 intro c;induction c with
 |nil=>rintro a h;cases h;rfl
 |cons d r f=>
  rintro a h
  unfold xa at h;split at h
  .rename_i z;cases z
  .rename_i b i j z;cases z;cases e:xa r with
   |none=>rw[e]at h;cases h
   |some l=>rw[e]at h;cases h;rw[f e];rfl
  .cases h
def IG(I:A.units+5<lN)(pu:PairB s.1 u x)(C:PairB s.1 v y)(q:Q (.bool (XH x y)) s):
  jK (jG c w) A (T! .Lt u v) Q E s:=by
 obtain⟨a,H,n,z,t,rfl,o⟩:=pu;obtain⟨b,f,G,d,g,rfl,m⟩:=C;have l:∀B,wF s.1 _ _ []:=λB=>.bool B;have h:∀i k,wF s.1 _ _ []:=λi k=>.int i k;refine t! ⟨_,o,_6⟩ ⟨_,m,_6⟩ vB wZ (wI _ _) (Qr a b #[.bool x.1,.int x.2 t] #[.bool y.1,.int y.2 g] n G H f z d (fI x y) (fH x y)) ⟨o,m,λj p r=>⟨?_,λY=>?_⟩,?_⟩ (by lia)
 .have e:j=0\/j=1:=by have:j<2:=p;lia
  obtain rfl|rfl:=e
  .exact eqAt_reads _ _ _ _ _ _ _ _ (l x.1) (l y.1) _6 _6 (by simp only[oM];lia)
  .exact eqAt_reads _ _ _ _ _ _ _ _ (h x.2 t) (h y.2 g) _6 _6 (by simp only[oM];lia)
 .have e:j=0\/j=1:=by have:j<2:=p;lia
  obtain rfl|rfl:=e
  .exact λc w E Q q=>(PyProof.Rows.lt_bool q)
  .exact λc w E Q q=>(vI q)
 .exact⟨(λx=>nomatch x),q⟩
section
inductive rMinP(X:Cx)(xs:b_ V)(H:Hp)(Q:VK):Prop
 |mk (a vs G ds d) (_:xs=[.ref a]) (_:gL X.K H a vs) (_:ca G H) (_:cr (kx X) G ds vs) (_:rq (.au ds)=a_ d) (_:(∀v,gr (kx X) G d v->Q v H)):rMinP X xs H Q
def T8(B:X.A.units+20<lN)(hc:X.calm=c_):ie X (.builtin "min") (rMinP X):=by
 intro γ s Z H xs us Q I r q;obtain⟨a,vs,G,ds,d,rfl,sq,sg,dl,p,q⟩:=q;obtain⟨u,rfl,E⟩:=ny r;cases E;unfold rq at p;dsimp only at p;cases ep:xa ds with
 |none=>rw[ep]at p;cases p
 |some l=>
  rw[ep]at p;dsimp only at p
  by_cases m:l=[]
  .rw[iH m]at p;cases p
  rw[iG m]at p;have L:=Pn ep;obtain⟨f,N,O,hz⟩:=I.list sq;have al:=jA ((O.isList).choose_spec.1);have len:_7 f=_7 l:=by rw[<-N.length,<-dl.length,L,iD]
  have get:∀i v,f[i]?=a_ v->PairB s.1 v _:=λi v x=>by
   have M:i<_7 l:=by rw[<-len];exact(h_.mp x).1
   have hd:ds[i]?=a_ (.ci [.bl (l.getD i (e_,0)).1,.int (l.getD i (e_,0)).2]):=by rw[L,jF,iR M,iK,iR M];rfl
   obtain⟨w,U,b,ws,rfl,g,v1,r1,rfl,d1,v2,r2,rfl,d2,rfl⟩:=dl.get hd;obtain⟨u,B,E⟩:=N.get U;rw[x]at B;cases B;cases E;obtain⟨_,Γ,z1,⟨cl,C,dt,y⟩,z3,z4,n,z5⟩:=I.fg b _ (sg _ _ g);subst z4 z5;rw[d1,d2]at z1;cases z1 with
   |cons q1 t1=>
    cases t1 with
    |cons q2 t2=>cases t2;cases (q1);obtain⟨t,rfl⟩:=q2;exact⟨b,C,n,y,t,_6,z3⟩
  have J:∀b∈f.filterMap (λv=>match v with|.ref b=>a_ b|_=>d_),b<s.1.1.size:=λb g=>by obtain⟨v,x,e⟩:=U_.mp g;obtain⟨i,M⟩:=mV x;obtain⟨c,C,n,y,t,rfl,z⟩:=get i v M;cases e;exact jA z
  refine T7 (mS O.isList ⟨_,_,_,_,_,_,(λi j=>XH (l.getD i (e_,0)) (l.getD j (e_,0))),_6,Walks.also (ts:=f.filterMap (λv=>match v with|.ref b=>a_ b|_=>d_)) (OK:=λh=>∀i v,f[i]?=a_ v->PairB h v (l.getD i (e_,0))) (xO (A:=X.A.in1) (I.ok.hd hc) _ a (jJ al) f.toArray) (λb g z=>?_) (λh h' ok k i v x=>?_),⟨⟨⟨_,iS _ _6,_6,_6⟩,O.isList.push _⟩,λi v x=>?_⟩,λb g=>?_,by rw[jS,len];exact(R_.mpr m),λk i j vi vj s' Q' E' st pi pj q'=>?_,λv h' tk hP hk=>?_⟩)
  .have:b=s.1.1.size:=by simpa using z
   exact kU _ (this▸J b g)
  .obtain⟨c,C,n,y,t,rfl,z⟩:=ok i v x;exact⟨c,C,n,y,t,_6,k c (U_.mpr ⟨_,jT x,_6⟩) _ z⟩
  .obtain⟨c,C,n,y,t,rfl,z⟩:=get i v x;exact⟨c,C,n,y,t,_6,iE _ z⟩
  .rw[mM];rcases s_.mp g with g|g
   .rcases l_.mp g with rfl|g
    .exact mH _
    .rcases l_.mp g with rfl|g
     .exact oU al
     .cases g
   .exact oU (J b g)
  .exact IG (by show X.A.units+1+5<_;lia) (st.2 i vi (by simpa using pi)) (st.2 j vj (by simpa using pj)) q'
  .have T:∀b o,s.1.get? b=a_ o->h'.get? b=a_ o:=λb o e=>by
    refine hk b o (λhm=>?_) (iE _ e);rcases l_.mp hm with z|hm
    .exact t_ (z▸jA e) (kU _)
    .cases hm
   rw[jS,len]at hP;have Y:f[vM (λi j=>XH (l.getD i (e_,0)) (l.getD j (e_,0))) (_7 l-1)]?=a_ v:=by simpa using hP
   obtain⟨w,U,dw⟩:=dl.get p;obtain⟨u,B,E⟩:=N.get U;rw[Y]at B;cases B;exact⟨w,H,I.h7 T,E,q w dw⟩
def KD(j:X.A.units+20<lN)(o:X.calm=c_)(n:Gl X "min")(m:X.mg "min"=d_)(r:k6 X B E e g)(b:jI [e] X.bi=(e_,I_ e X.bi)::jI [] X.bi):f7 X B E (.Call (.Name "min" p) [e] [] i) (g1 rq g):=
 PE.imp (l7 (T8 j o) n m (by decide+kernel) (g7 r jr b) (by decide) (by decide) b _6) λZ H Q q=>FD (λG H x s d a y c Q q=>by
  cases s with
  |au w=>obtain⟨l,f,rfl,h,dl⟩:=y.au a;exact⟨l,f,G,w,d,_6,h,a,dl,c,λv u=>q v G H (c8.refl a) u⟩
  |_=>cases c) q
end
end Pu
namespace Pu
open L2
def _root_.L2.c5.p7(I:c5 X g Z H s)(e:H a=a_ (.dT es)):∃o,s.1.get? a=a_ o/\c5 X g Z (eT H a (.il o (.dT es))) s:=by
 obtain⟨z,M,xs,rel,o,Q,O,m,N⟩:=Yc I.fg e;have E:∀{b},H b=d_->b≠a:=λq z=>by rw[z,e]at q;cases q
 have no:∀{b}{u},H b=a_ u->u≠.dT es->b≠a:=λq z y=>by rw[y,e]at q;cases q;exact z _6
 have j:∀b f,H b=a_ (.ci f)->eT H a (.il o (.dT es)) b=a_ _:=λb f q=>by rwa[ai (no q λz=>nomatch z)]
 have i:∀b d u,H b=a_ (.il d u)->eT H a (.il o (.dT es)) b=a_ _:=λb d u q=>by rwa[ai (no q λz=>nomatch z)]
 have J:∀b y,H b=a_ (.own y)->eT H a (.il o (.dT es)) b=a_ _:=λb y q=>by rwa[ai (no q λz=>nomatch z)]
 have h:∀b,H b=d_->eT H a (.il o (.dT es)) b=d_:=λb q=>by rwa[ai (E q)]
 have st:∀b u,H b=a_ u->ka X.prog X.w _ s.1 b u:=λb u q=>(I.fg b u q).t3 (λY Y Y z=>z) (λc z=>J c _ z) j i;refine⟨o,m,I.ok,I.os,I.lU,⟨I.base.keep,I.base.slot,λb d q n G=>h b (I.base.free b d q n G),I.base.there,λb f q=>j b f (I.base.q7 b f q),λb d u q=>i b d u (I.base.kO b d u q),λb q z=>?_⟩,I.loc,I.cell,h _ I.free,λx c q=>(I.nm x c q).elim (λz=>.inl (h _ z)) (by rintro⟨v,d,r⟩;exact .inr ⟨v,d,i _ _ _ r⟩),λp L=>?_,λb u q=>?_,I.len⟩
 .have q:=I.base.qe b q z;rwa[ai (no q λz=>nomatch z)]
 .obtain⟨C,B,A⟩:=I.pin p L;exact⟨C,h _ B,A⟩
 .by_cases l:b=a
  .subst l;rw[aj]at q;cases q;exact⟨m,st b _ e⟩
  .rw[ai l]at q;exact st b u q
section
def c8.frzT(e:c8 f B G H)(c:B a=d_)(d:G a=d_):c8 f B (eT G a o) (eT H a o):=by
 refine⟨e.gg.trans (cq d _),λb u q=>?_,λb u q=>?_,λb u q g z=>?_⟩
 .rw[ai (a8 q c)];exact e.hh b u q
 .by_cases z:b=a
  .subst z;rw[aj]at q;rwa[aj]
  .rw[ai z]at q;rw[ai z];exact e.gh b u q
 .rw[ai (a8 q c)];exact e.fr b u q g z
end
def D3(b a:En->ce):En->ce:=λδ=>(b δ).bind λd=>(a δ).bind λc=>match bx d with
 |some j=>.ok (.js c_ [(kT j,c)])
 |none=>.st
section
def CZ(hu:X.A.units+5<lN)(hk:f7 X B E k g)(hv:f7 X B E v h):f7 X B E (.Dict [a_ k] [v] N) (D3 g h):=by
 intro a s Z H Q I ⟨G,δ,R,q⟩;rw[arm_eval_Dict,zip_pairTrees _ [v] X.bi N _6 _6,dictDisplay_pairs _ (by intro z;have:=u_ mD z;cases this) (by show 1<17;decide)];refine iA (wO (iA (iA (S! (iA (kY ?_))))));have O:=I.fg.fresh (iF s.1.1.size);have M:c8 G H G (eT H s.1.1.size (.dT [])):=c8.own R.gh _ O;refine iA (pairTrees_cons_walk (jf (hk a {s with heap:=s.1.push {cls:=.type "dict",data:=.dict #[]}} Z _ (λx p=>∃l i,c8 G (eT H s.1.1.size (.dT [])) l p/\gr (kx X) l i x/\eu E G H (h δ) λf=>∃j,bx i=a_ j/\∀v J r,c8 G H J r->gr (kx X) J (.js c_ [(kT j,f)]) v->Q v r) (I.laid (o:=.dT []) (h':=s.1.push {cls:=.type "dict",data:=.dict #[]}) (t':=s.toks) (λW W q=>iE _ q) (iF _) (Ku s.1 I.big)) ⟨G,δ,R.ext M,?_⟩) λu s2 ⟨x,p,I2,rx,l,i,n,Y,q⟩=>?_))
 .refine((eu.bind q).ext M).be λi W q x l p n Y=>⟨l,i,n,Y,(eu.bind q).be λf W q=>?_⟩;cases m:bx i with
  |none=>rw[m]at q;exact q.elim
  |some j=>rw[m]at q;exact⟨j,_6,q⟩
 have e:=M.trans n;refine jf (hv a s2 Z p (λy L=>∃C f j,c8 l p C L/\gr _ C f y/\bx i=a_ j/\∀v J r,c8 G H J r->gr _ J _ v->Q v r) I2 ⟨l,δ,R.ext e,(q.ext e).be λf W ⟨j,m,q⟩ y C L d U=>⟨C,f,j,d,U,m,q⟩⟩) λuv s3 ⟨y,L,I3,ry,C,f,j,d,U,m,q⟩=>(pairTrees_nil_walk ?_);have T:=(n.trans d).hh _ _ aj;have g2:=(n.trans d).fr _ _ aj (ff R.gh O) _6;obtain⟨b,rfl,hb⟩:=Arg.r8 d.gh (.inl (Y.be d.gg)) m;cases (rx);obtain⟨z,hd,xs,rel,dd⟩:=Yc I3.fg T;cases rel;refine kY (iA (iA (iA (wpAny_dictSet_heap (by show X.A.units+4<lN;lia) (A9 I3.fg hb) dd (λh' α hs=>(iB (iB (iB (iB (iB ?_)))))) (jW _)))));obtain⟨ob,es,ep,hq,g3,g4,g5,_,g6⟩:=α;have I4:c5 X a Z (eT L s.1.1.size (.dT [(j,y)])) {s3 with heap:=h',toks:=s3.toks+(gj X.prog X.w).draws j}:=by refine Ri I3 (by rw[T];exact qG) hs ⟨ob,hq⟩ ⟨by show 1<=16777216;decide,hd,[_],.cons ⟨_6,hb.be λc ys ec=>?_,ry⟩ .nil,ob,es,ep,hq,g3,g4,g5,by simp⟩;rwa[ai (NS ec T (λz=>nomatch z))]
 obtain⟨o5,_,I5⟩:=I4.p7 aj;rw[Di]at I5;refine⟨.ref s.1.1.size,_,I5,_6,q _ _ _ ((e.trans d).frzT O g2) ⟨_,_6,.inr ⟨_6,o5,_,aj,j,y,[],_6,_6,U.be (cq g2 _),_6⟩⟩⟩
def D4(d k x:En->ce):En->ce:=λδ=>(d δ).bind λe=>match e with
 |.js e_ a=>(k δ).bind λc=>(x δ).bind λb=>match me c with
  |some j=>.ok ((Aj a j).getD b)
  |none=>.st
 |.js c_ a=>(k δ).bind λc=>(x δ).bind λb=>match bx c with
  |some j=>.ok ((dj a j).getD b)
  |none=>.st
 |_=>.st
def KJ(hu:X.A.units+5<lN)(ho:k6 X B E o g)(hk:k6 X B E ke h)(hx:f7 X B E xe f)(m:M2 X o "get" u ke xe s):
  f7 X B E (.Call (.Attribute o "get" u) [ke,xe] [] s) (D4 g h f):=
 PE.imp (BZ hu ho hk hx m) λZ H Q ⟨G,δ,R,q⟩=>⟨G,δ,R,(eu.bind q).be λdd W q v G1 H1 c av=>by
  cases dd with
  |js t p=>
   cases t with
   |true=>
    obtain⟨l,J,rfl,r,dl⟩:=Arg.dctT c.gh av;refine⟨l,_6,.inr ⟨J,r⟩,G1,δ,R.ext c,((eu.bind q).ext c).be λU W q y G2 H2 a ay=>⟨G2,δ,R.ext (c.trans a),((eu.bind q).ext (c.trans a)).be λdx W q z C w i T=>?_⟩⟩;have d:=(c.trans a).trans i;cases n:bx U with
    |none=>rw[n]at q;exact q.elim
    |some j=>
     rw[n]at q;have q:∀v I x,c8 G H I x->gr _ I _ v->Q v x:=q;obtain⟨b,rfl,hb⟩:=Arg.r8 a.gh ay n;refine⟨_,.inr ⟨J,j,b,(r.elim (λz=>.inl ((a.trans i).hh _ _ z)) (by rintro⟨ob,z⟩;exact .inr ⟨ob,(a.trans i).hh _ _ z⟩)),_6,hb.be λW W q=>i.hh _ _ q,_6⟩,?_⟩;obtain⟨O,N⟩:=(dl.be (a.trans i).gg).kH j;cases e:dj p j with
     |none=>rw[N e];rw[e]at q;exact q _ C w d T
     |some Y=>obtain⟨v',M,L⟩:=O Y e;rw[M];rw[e]at q;exact q _ C w d L
   |false=>
    obtain⟨l,J,rfl,r,dl⟩:=Arg.dctK c.gh av;refine⟨l,_6,.inl ⟨J,.inl r⟩,G1,δ,R.ext c,((eu.bind q).ext c).be λU W q y G2 H2 a ay=>⟨G2,δ,R.ext (c.trans a),((eu.bind q).ext (c.trans a)).be λdx W q z C w i T=>?_⟩⟩;have d:=(c.trans a).trans i;cases n:me U with
    |none=>rw[n]at q;exact q.elim
    |some j=>
     rw[n]at q;have q:∀v I x,c8 G H I x->gr _ I _ v->Q v x:=q;rw[C1 ay n];refine⟨_,DGet.k ((a.trans i).hh _ _ r),?_⟩;obtain⟨O,N⟩:=(dl.be (a.trans i).gg).kH j;cases e:Aj p j with
     |none=>rw[N e];rw[e]at q;exact q _ C w d T
     |some Y=>obtain⟨v',M,L⟩:=O Y e;rw[M];rw[e]at q;exact q _ C w d L
  |fD=>exact q.elim
  |bl _=>exact q.elim
  |int _=>exact q.elim
  |str _=>exact q.elim
  |ci _=>exact q.elim
  |au _=>exact q.elim
  |obj _ _=>exact q.elim
  |fn _=>exact q.elim⟩
end
end Pu
section
namespace Pu
open L2
section
def VN(m:∀c o,h.get? c=a_ o->p.get? c=a_ o)(q:nS (bg d w) h i b):nS (bg d w) p i b:=by obtain⟨g,a,n,e,l,f,j⟩:=q;exact⟨g,a,n,m _ _ e,l,f,j⟩
def RV(m:∀c o,h.get? c=a_ o->l.get? c=a_ o):∀{d}{f},hG a w h d f->hG a w l d f:=by
 intro d;induction d with
 |nil=>rintro _ e;exact e
 |cons k d i=>
  rintro _ ⟨v,t,e,g,j⟩
  refine⟨v,t,e,?_,i j⟩;cases k with
  |inl k=>exact g
  |inr n=>obtain⟨b,e,q⟩:=g;exact⟨b,e,VN m q⟩
def Ou(m:∀c o,h.get? c=a_ o->p.get? c=a_ o)(q:kv d w h i b):kv d w p i b:=by obtain⟨g,a,n,e,l,f,j⟩:=q;exact⟨g,a,n,m _ _ e,l,f,RV m j⟩
inductive s0(prog:kR)(w:mG)(h:C_)(x:fm×o_×jB)(v:jB):Prop
 |mk (p o n) (_:v=.ref p) (_:h.get? p=a_ o) (_:o.cls=.type "tuple") (_:o.data=.seq #[.ref x.2.1,x.2.2] n) (_:kv prog w h x.1 x.2.1):s0 prog w h x v
def s0.up(m:∀c o,h.get? c=a_ o->b.get? c=a_ o)(q:s0 a w h x v):s0 a w b x v:=by obtain⟨p,o,n,e,g1,g2,f,d⟩:=q;exact⟨p,o,n,e,m _ _ g1,g2,f,Ou m d⟩
def C8(b a:b_ (fm×o_×jB)):b_ (fm×o_×jB):=a.foldl (λc x=>wD c x.1 x.2.1 x.2.2) b
def M9(xs:b_ (fm×o_×jB))(k:fm)(a:o_)(v:jB):(wD xs k a v).length<=_7 xs+1:=by unfold wD;split<;>simp
variable{St:g_->C_->Prop}{ps:b_ (fm×o_×jB)}{items:p_ jB}
def Mf(W:Walks a w A.in1 I fp wr ps.length (λi v=>items[i]?=a_ v) St)(hu:(gj a w).room A.in1)(d:o_)(hd:d∉fp)(hz:_7 ps<=iN)(H:∀c o,O.get? c=a_ o->c≠d/\c∉wr)(hP:∀(j:g_) x v,ps[j]?=a_ x->items[j]?=a_ v->s0 a w O x v):
  ∀cW i s f,ps.drop i=cW->i<=_7 ps->St i s.1->s.1.DictOfH (gj a w) d f->_7 f<=i->(∀c o,O.get? c=a_ o->s.1.get? c=a_ o)->(∀x∈f,kv a w O x.1 x.2.1)->
   (∀u C,(∀b o,b≠d->b∉wr->s.1.get? b=a_ o->u.get? b=a_ o)->u.DictOfH (gj a w) d (C8 f cW)->R (.ok (.ret .none)) {s with heap:=u,toks:=C})->
   pR (jG a w) A (.builtin "dict.update.loop" ⟨[.ref d,.ref I,mK i,.none],[]⟩) R s:=by
 have J:d∉wr:=λz=>hd (W.sub _ z);intro cW;induction cW with
 |nil=>
  intro i s f h hi st hT B r L hR;have α:i=_7 ps:=by
   have:=u_ mD h;rw[lD,lB]at this
   lia
  subst α;refine mN vn (iA (W.done s _ _ st λu C B=>(iA (iB (iB (hR u C (λb o S H e=>B b o H e) ?_))))));obtain⟨o,es,ep,N,h2,h3,h4,_,h6⟩:=hT;exact⟨o,es,ep,B d o J N,h2,h3,h4,λx g=>Ou (λc o e=>B c o (H c o e).2 (r c o e)) (L x g),h6⟩
 |cons n cW ih=>
  intro i s f h hi st hT Δ r L hR;have G:i<_7 ps:=by
   have:=u_ mD h;rw[lD,iC]at this
   lia
  have Y:ps[i]?=a_ n:=by
   have:(ps.drop i)[0]?=a_ n:=by rw[h];rfl
   simpa using this
  have β:ps.drop (i+1)=cW:=by
   have:(ps.drop i).drop 1=cW:=by rw[h];rfl
   rw[vW]at this;exact this
  refine mN vn (iA (W.item i s _ _ G st λv N φ hv Q l=>?_));have U:∀c o,O.get? c=a_ o->N.get? c=a_ o:=λc o e=>l c o (H c o e).2 (r c o e);have E:=hP i n v Y hv;obtain⟨p,o,m,rfl,g1,g2,g3,g4⟩:=E.up U;have δ:N.DictOfH (gj a w) d f:=by obtain⟨o,es,ep,z1,z2,z3,z4,_,z6⟩:=hT;exact⟨o,es,ep,l d o J z1,z2,z3,z4,λx g=>Ou U (L x g),z6⟩
  refine iA (kY (iA (tW (iA (pF (⟨o,g1,g2⟩) (iA (nT g1 g3 (iB (kY (wpAny_dictSet_heap hu g4 δ λh2 γ T=>(iB ⟨nR vt _,?_⟩)))))))))));have ei:mK ((i:j_)+1)=mK ((i+1:g_):j_):=by push_cast;rfl
  refine ih (i+1) _ _ β G (W.frame _ _ _ Q λc M o e=>?_) γ ?_ (λc o e=>?_) (λx g=>?_) λu C B ε=>?_
  .rwa[T.2 c (λz:c=d=>hd (z▸M))]
  .have:=M9 f n.1 n.2.1 n.2.2;lia
  .rw[T.2 c (H c o e).1];exact U c o e
  .obtain⟨_,_,_,_,_,_,_,q⟩:=E;unfold wD at g;split at g
   .obtain⟨y,hy,rfl⟩:=k_.mp g;have:=L y hy;unfold putAt;split<;>exact this
   .rcases s_.mp g with g|g
    .exact L x g
    .rwa[q_.mp g]
  .refine hR u C (λc o M hw e=>B c o M hw ?_) ε;rw[T.2 c M];exact l c o hw e
end
section
def Nx(hu:A.units+8<lN)(hh:A.handled=d_)(hl:s.1.get? l=a_ {cls:=.type "list",dict:=d_,data:=.seq d n,slots:=sl})(p:d.size=_7 y)(hz:_7 y<=iN)
  (hP:∀(j:g_) x v,y[j]?=a_ x->d[j]?=a_ v->s0 a w s.1 x v)
  (h:∀u Y,u.DictOfH (gj a w) s.1.1.size (C8 [] y)->(∀c o,s.1.get? c=a_ o->u.get? c=a_ o)->Q (.ref s.1.1.size) {s with heap:=u,toks:=Y}):
  jK (jG a w) A (call (.type "dict") [.ref l]) Q E s:=by
 refine callType_codes (Q₁:=λobj f=>obj=.ref s.1.1.size/\f={s with heap:=s.1.push {cls:=.type "dict",data:=.dict #[]}}) F.kt_called_dict (F.kt_typeCall_dict_1 _) F.entry_dict_init (kt_code_dict_new _ ⟨_6,_6⟩) ?_
 rintro obj f ⟨rfl,rfl⟩
 have b:(s.1.push {cls:=.type "dict",data:=.dict #[]}).DictOfH (gj a w) s.1.1.size []:=Heap.DictOfH.new s.1;generalize T:s.1.push {cls:=.type "dict",data:=.dict #[]}=h1 at b⊢;have H:∀c o,s.1.get? c=a_ o->h1.get? c=a_ o:=λc o e=>by rw[<-T];exact iE _ e
 have m:=H _ _ hl;refine⟨b.typeIs,F.args_dict_init_2 _ _,(iA (iA (rG b.typeIs (iB ?_))))⟩;show jK _ _ (Builtin.Dict.updateFrom "dict.__init__" s.1.1.size _ [] .none) _ _ _;refine iA (pF (⟨_,m,_6⟩) ?_);obtain⟨hp,g,dr,Y,os⟩:=s;refine iA (Jj m (by simpa using hh) λB γ z=>(iA (nJ ?_)));have r:=z _ _ m;refine iA (mS ⟨_,r,_6,n,_6⟩ (iB ⟨nR vt _,?_⟩));have q:B.IsList l d:=⟨_,r,_6,n,_6⟩;obtain⟨od,es,ep,O,N,M,L,ε,J⟩:=b;have i:=z _ _ O;have C:=jA i;have lt:=jA hl;have W:=xO (prog:=a) (w:=w) (A:=A.in1.in1) hh B.objs.size l (jJ (tJ lt C)) d;rw[p]at W;refine Mf W (show A.units+1+1+4<lN by lia) hp.objs.size ?_ hz (λc o e=>⟨jJ (jA e),λU=>?_⟩) hP y 0 _ [] _6 (jW _) ⟨⟨_,iS _ _6,_6,_6⟩,q.push _⟩ ⟨od,es,ep,iE _ i,N,M,L,λx I=>(by cases I),J⟩ (jW _) (λc o e=>iE _ (z _ _ (H _ _ e))) (λx I=>(by cases I)) λu G hk hD=>⟨_6,h u G hD λc o e=>?_⟩
 .simp only[mF,uK,_3,not_or];exact⟨jJ C,nH lt⟩
 .have:c=B.objs.size:=by simpa using U
  exact jJ (tJ (jA e) C) this
 .have lc:=jA e;refine hk c o (jJ lc) (λU=>?_) (iE _ (z _ _ (H _ _ e)));have:c=B.objs.size:=by simpa using U
  exact jJ (tJ lc C) this
end
def G8:D->f_ (fm×D)
 |.ci [k,v]=>(bx k).map λj=>(j,v)
 |_=>d_
def nr:b_ D->f_ (b_ (fm×D))
 |[]=>a_ []
 |d::r=>match G8 d,nr r with
  |some p,a_ l=>a_ (p::l)
  |_,_=>d_
def Be(b:b_ (D×D))(a:b_ (fm×D)):b_ (D×D):=a.foldl (λc p=>Cy c p.1 p.2) b
def xu:D->f_ D
 |.au a=>if _7 a<=iN then(nr a).map λl=>.js c_ (Be [] l)else d_
 |_=>d_
set_option tactic.hygienic true in
def AD(h:G8 d=a_ p):∃k,d=.ci [k,p.2]/\bx k=a_ p.1:=by
 unfold G8 at h;split at h
 .rename_i k v;cases e:bx k with
  |none=>rw[e]at h;cases h
  |some j=>rw[e]at h;cases h;exact⟨k,_6,e⟩
 .cases h
def Me(h:nr (d::r)=a_ l):∃p t,G8 d=a_ p/\nr r=a_ t/\l=p::t:=by
 unfold nr at h;cases a:G8 d with
 |none=>rw[a]at h;cases h
 |some p=>
  cases b:nr r with
  |none=>rw[a,b]at h;cases h
  |some t=>rw[a,b]at h;cases h;exact⟨p,t,_6,_6,_6⟩
def PDT(K:KA)(G:Hp):b_ (fm×D)->b_ (fm×V)->Prop
 |[],[]=>_u
 |(j,d)::r,(k,v)::q=>j=k/\gr K G d v/\PDT K G r q
 |_,_=>T_
def Bf(b a:b_ (fm×V)):b_ (fm×V):=a.foldl (λc d=>ku c d.1 d.2) b
def CS(a:b_ (fm×V))(k:fm)(v:V):(ku a k v).length<=_7 a+1:=by unfold ku;split<;>simp
def Pb:∀a b,(Bf b a).length<=_7 b+_7 a:=by
 intro a;induction a with
 |nil=>intro b;exact iF _
 |cons p a c=>
  intro b;have e:=c (ku b p.1 p.2);have d:=CS b p.1 p.2;show(Bf (ku b p.1 p.2) a).length<=_;rw[iC]
  lia
theorem PDT.merge{K:KA}:∀{l}{q}{a}{es},PDT K G l q->hV K G a es->hV K G (Be a l) (Bf es q)
 |[],[],_,_,_,h=>h
 |(j,d)::r,(k,v)::q,a,es,b,h=>by obtain⟨e,c,t⟩:=b;subst e;exact PDT.merge (l:=r) (q:=q) t (hV.put c h j)
def KT.merge(r:KT H b c):∀{a}{xs},KT H a xs->KT H (Bf a b) (C8 xs c):=by
 induction r with
 |nil=>intro a xs q;exact q
 |@cons p q j d h t f=>intro a xs r;obtain⟨e,i,g⟩:=h;have:=f (KT.put r p.1 i g);show KT H _ (C8 (wD xs q.1 q.2.1 q.2.2) d);rwa[<-e]
section
set_option tactic.hygienic true in
def Po(I:c5 X C Z H s)(B:ca G H):∀{m}{l}{q}{a},nr m=a_ l->cr (kx X) G m q->dL q a->
  ∃(f:b_ (fm×V)) (g:b_ (fm×o_×jB)),KT H f g/\PDT (kx X) G l f/\_7 g=_7 a/\∀(j:g_) x v,g[j]?=a_ x->a[j]?=a_ v->s0 X.prog X.w s.1 x v:=by
 intro m;induction m with
 |nil=>intro l q a h dl r;cases h;cases (dl);cases r;exact⟨[],[],.nil,qG,_6,λj E v e=>by simp at e⟩
 |cons d m ih=>
  intro l q a h dl r;obtain⟨p,t,ep,et,rfl⟩:=Me h;obtain⟨k,rfl,ek⟩:=AD ep;obtain⟨v0,vr,rfl,dv,dr⟩:=dl;cases r with
  |cons N O=>
   obtain⟨f,g,a1,a2,a3,a4⟩:=ih et dr O;obtain⟨b,us,rfl,hb,z⟩:=dv;obtain⟨uk,q1,rfl,dk,M,q2,rfl,du,e0⟩:=z;cases e0;obtain⟨c,rfl,A⟩:=Arg.r8 B (.inl dk) ek;obtain⟨_,J,r2,o,h1,h2,n,h3⟩:=I.fg b _ (B _ _ hb);cases r2 with
   |cons Y U=>
    cases U with
    |cons T Q=>
     cases Q;rename_i kk L;cases Y;refine⟨(p.1,M)::f,(p.1,c,L)::g,.cons ⟨_6,A,T⟩ a1,⟨_6,du,a2⟩,by rw[iC,iC,a3],λi E w y u=>?_⟩;cases i with
     |zero=>simp at y u;subst y u;exact⟨b,o,n,N,h1,h2,by simpa using h3,A9 I.fg A⟩
     |succ i=>exact a4 i E w (by simpa using y) (by simpa using u)
inductive rDictT(X:Cx)(xs:b_ V)(H:Hp)(Q:VK):Prop
 |mk (a vs G ds l) (_:xs=[.ref a]) (_:gL X.K H a vs) (_:ca G H) (_:cr (kx X) G ds vs) (_:_7 ds<=iN) (_:nr ds=a_ l) (_:∀p o kvs,H p=d_->PDT (kx X) G l kvs->Q (.ref p) (eT H p (.il o (.dT (Bf [] kvs))))):rDictT X xs H Q
def Ke(hu:X.A.units+8<lN)(hc:X.calm=c_):ie X (.type "dict") (rDictT X):=by
 intro p s Z H xs us Q I r q;obtain⟨a,vs,G,ds,l,rfl,N,O,dl,hz,e,q⟩:=q;obtain⟨u,rfl,T⟩:=ny r;cases T;obtain⟨β,m,⟨o,n,i,z,h3,h4⟩,_⟩:=I.list N;obtain⟨w,g,h,f⟩:=o;subst z h3 h4;obtain⟨d,U,C,a2,B,a4⟩:=Po I O e dl m;have J:_7 U<=iN:=by rwa[B,<-m.length,<-dl.length]
 have L:(Bf [] d).length<=iN:=by
  have i:=Pb d [];have z:=sH C;rw[lB]at i
  lia
 refine Nx hu (I.ok.hd hc) i (by rw[B];simp) J (λj x v e1 e2=>a4 j x v e1 (by simpa using e2)) λh' M hD hk=>?_;have y:=I.fg.fresh (iF s.1.1.size);obtain⟨Y,es,ep,g1,g2,g3,g4,_,g6⟩:=hD;have I4:=I.laid (o:=.dT _) (t':=M) (λb o e=>hk b o e) (iF _) ⟨L,G_.mpr (pE (jJ I.big)),_,(KT.merge C .nil).keeps λc ys ec=>(by rwa[ai (a8 ec y)]),Y,es,ep,g1,g2,g3,g4,g6⟩;obtain⟨o5,_,E⟩:=I4.p7 aj;rw[Di]at E;exact⟨.ref s.1.1.size,_,E,_6,q _ o5 d y a2⟩
set_option tactic.hygienic true in
def BA(v:X.A.units+8<lN)(z:X.calm=c_)(y:Gl X "dict")(w:X.mg "dict"=d_)(C:k6 X B E e g)(m:jI [e] X.bi=(e_,I_ e X.bi)::jI [] X.bi):f7 X B E (.Call (.Name "dict" p) [e] [] s) (g1 xu g):=
 PE.imp (tf (Ke v z) y w PyProof.Rows.boot_dict (g7 C jr m) (by decide) (by decide) m _6) λZ H Q q=>FD (λG H x J d c I a Q q=>by
  unfold xu at a;split at a
  .rename_i i
   by_cases f:_7 i<=iN
   .rw[iH f]at a;cases h:nr i with
    |none=>rw[h]at a;cases a
    |some l=>rw[h]at a;cases a;obtain⟨b,n,rfl,r,dl⟩:=I.au c;exact⟨b,n,G,i,l,_6,r,c,dl,f,h,λp o u j pd=>q _ _ _ (c8.new c _ j) ⟨p,_6,.inr ⟨_6,o,_,aj,(hV.be (cq (ff c j) _) (PDT.merge pd (es:=[]) _6))⟩⟩⟩
   .rw[iG f]at a;cases a
  .cases a) q
end
def E4:D->D->f_ D:=Nn λi j=>a_ (.int (if j<i then j else i))
def E3:D->D->f_ D:=Nn λi j=>a_ (.int (if j>i then j else i))
section
inductive rTwo(f:j_->j_->j_)(xs:b_ V)(H:Hp)(Q:VK):Prop
 |mk (i j) (_:xs=[.int i,.int j]) (_:Q (.int (f i j)) H):rTwo f xs H Q
def T5(d:X.calm=c_):ie X (.builtin "max") (rTwo λi j=>if j>i then j else i):=by
 intro a s Z H xs e Q I r q;obtain⟨i,j,rfl,q⟩:=q;obtain⟨u,v,rfl,⟨t,rfl⟩,⟨g,rfl⟩⟩:=FX r;refine max_two_ints (I.ok.hd d) λh f b=>⟨.int _,H,I.h7 b,?_,q⟩
 by_cases c:j>i
 .rw[iH c,iH c];exact⟨_,_6⟩
 .rw[iG c,iG c];exact⟨_,_6⟩
def T6(d:X.calm=c_):ie X (.builtin "min") (rTwo λi j=>if j<i then j else i):=by
 intro a s Z H xs e Q I r q;obtain⟨i,j,rfl,q⟩:=q;obtain⟨u,v,rfl,⟨t,rfl⟩,⟨g,rfl⟩⟩:=FX r;refine min_two_ints (I.ok.hd d) λh f b=>⟨.int _,H,I.h7 b,?_,q⟩
 by_cases c:j<i
 .rw[iH c,iH c];exact⟨_,_6⟩
 .rw[iG c,iG c];exact⟨_,_6⟩
def ZD{K:KA}(q:tPu K B E (g2 (Nn λi j=>a_ (.int (f i j))) g h) Z H Q):bR (rTwo f) (tAl K B E [c_,c_] (am g (am h af))) Z H Q:=by
 obtain⟨G,δ,R,q⟩:=q;refine⟨G,δ,R,?_⟩;unfold am af;cases a:g δ with
 |ok x=>
  cases m:h δ with
  |ok y=>
   have u:eu E G H (ce.of (Nn (λi j=>a_ (.int (f i j))) x y)) λd=>∀v l b,c8 G H l b->gr K l d v->Q v b:=by
    have e:g2 (Nn λi j=>a_ (.int (f i j))) g h δ=ce.of (Nn (λi j=>a_ (.int (f i j))) x y):=by unfold g2;rw[a,m];rfl
    rw[e]at q;exact q
   obtain⟨d,n,s⟩:=eu.of u;intro L l b w A;obtain⟨Y,T,O,M,p,rfl,I,U,z,N,r,o,rfl,C,J,rfl⟩:=A;cases p;cases o;cases x with
   |int i=>
    cases y with
    |int j=>cases n;exact⟨i,j,by rw[Arg.int I,Arg.int C],s _ l b w _6⟩
    |_=>cases n
   |_=>cases n
  |er c=>
   have e:g2 (Nn λi j=>a_ (.int (f i j))) g h δ=.er c:=by unfold g2;rw[a,m];rfl
   rw[e]at q;exact q
  |st=>
   have e:g2 (Nn λi j=>a_ (.int (f i j))) g h δ=.st:=by unfold g2;rw[a,m];rfl
   rw[e]at q;exact q
 |er c=>
  have e:g2 (Nn λi j=>a_ (.int (f i j))) g h δ=.er c:=by unfold g2;rw[a];rfl
  rw[e]at q;exact q
 |st=>
  have e:g2 (Nn λi j=>a_ (.int (f i j))) g h δ=.st:=by unfold g2;rw[a];rfl
  rw[e]at q;exact q
def KG(j:X.calm=c_)(i:Gl X "max")(f:X.mg "max"=d_)(m:k6 X B E a g)(l:k6 X B E b h)(d:jI [a,b] X.bi=(e_,I_ a X.bi)::jI [b] X.bi)(c:jI [b] X.bi=(e_,I_ b X.bi)::jI [] X.bi):
  f7 X B E (.Call (.Name "max" p) [a,b] [] e) (g2 E3 g h):=
 PE.imp (l7 (T5 j) i f _6 (g7 m (g7 l jr c) d) (by decide) (by decide) d (by rw[c];rfl)) λZ H Q q=>ZD q
def KF(j:X.calm=c_)(i:Gl X "min")(f:X.mg "min"=d_)(m:k6 X B E a g)(l:k6 X B E b h)(d:jI [a,b] X.bi=(e_,I_ a X.bi)::jI [b] X.bi)(c:jI [b] X.bi=(e_,I_ b X.bi)::jI [] X.bi):
  f7 X B E (.Call (.Name "min" p) [a,b] [] e) (g2 E4 g h):=
 PE.imp (l7 (T6 j) i f _6 (g7 m (g7 l jr c) d) (by decide) (by decide) d (by rw[c];rfl)) λZ H Q q=>ZD q
end
noncomputable def eO:D->f_ (b_ D)
 |.au a=>a_ a
 |_=>d_
def Gn(g:En->ce):En->f8:=λδ=>match g δ with
 | .ok d => (match eO d with
  |some a=>.ok (lg 0 a)
  |none=>.st)
 |.er c=>.er c
 |.st=>.st
section
def WB(q:gc E G H (Gn g δ) P):eu E G H (g δ) λd=>∃a,d=.au a/\P (lg 0 a):=by
 unfold Gn at q;cases e:g δ with
 |ok d=>
  rw[e]at q;cases d with
  |au a=>exact⟨a,_6,q⟩
  |_=>exact q.elim
 |er c=>rw[e]at q;exact q
 |st=>rw[e]at q;exact q
def JE(hg:Gl X "enumerate")(hm:X.mg "enumerate"=d_)(h:OX X B E e g)(M:jI [e] X.bi=(e_,I_ e X.bi)::jI [] X.bi):
  Tu X B E (.Tuple Q k1 tp) (.Call (.Name "enumerate" p) [e] [] r) (Gn g):=by
 intro c s Z H R I ⟨G,δ,N,q⟩;refine Call_ (Ba I hg hm (by decide+kernel:qA "enumerate"=a_ (.type "enumerate")) (rJ (jf ((jy h qc M) r c s Z H (λi f=>∃a,i=[.ref a]/\(∃xs,gL X.K f a xs)/\R (dX X.K a) f) I ⟨G,δ,N,(WB q).be λd W ⟨ds,ed,q⟩ v O f j ax=>?_⟩) λus o ⟨i,f,l,U,a,j,w,Y⟩=>?_) M _6))
 .subst ed;obtain ⟨a,i,rfl,s,dl⟩|⟨ι,a,i,z,rfl,s,dl⟩|⟨t,β,a,z,_⟩:=ax
  .exact⟨a,_6,⟨i,gL.be j.gh s⟩,q _ O f j (Zc (by rintro G2 H2 ⟨n,J⟩ L;exact⟨gL.be (n.trans L) s,n⟩) dl)⟩
  .cases z;exact⟨a,_6,⟨i,gL.be (N.bh.trans j.hh) s⟩,q _ O f j (Zc (by rintro G2 H2 ⟨n,J⟩ L;exact⟨gL.be J s,n⟩) dl)⟩
  .cases z
 .subst j;obtain⟨u,rfl,T⟩:=ny U;cases T;have C:∀b∈[o.1.1.size+1,o.1.1.size],pk X c f b:=λb A=>by
   rcases l_.mp A with rfl|A
   .exact l.p9 (oO _) (l.fg.fresh (oO _))
   .have z:b=o.1.1.size:=by simpa using A
    subst z;exact l.p9 (iF _) (l.fg.fresh (iF _))
  obtain⟨xs,w⟩:=w;obtain⟨γ,rv,pl,_⟩:=l.list w;exact call_enumerate_list pl.isList λh' m y ε x=>(tU m ⟨o.1.1.size+1,_,_,_,f,_6,l.h7 x,Wz a _ _ (_5 _),⟨⟨_,m⟩,y⟩,C,Y⟩)
end
noncomputable def Xp:Operator->f_ (D->D->f_ D)
 |.Add=>a_ bj
 |.Sub=>a_ Mp
 |.Mult=>a_ j7
 |.Mod=>a_ E5
 |_=>d_
def SE(j:Xp e=a_ f)(d:k6 X B E a g)(c:k6 X B E b h):f7 X B E (.BinOp a e b i) (g2 f g h):=by
 cases e<;>cases j
 .exact SI d c
 .exact TH d c
 .exact TM d c
 .exact TN d c
noncomputable def DT:b_ r_->b_ ((En->ce)×(En->ce))->En->f8
 |[],[]=>af
 |m::b,p::a=>am (if m then p.1 else p.2) (DT b a)
 |_,_=>PC
theorem Td:∀{a}{es},DT a (es.map λe=>(uf b C e,b C e))=PH b C a es
 |[],[]=>rfl
 |[],_::_=>rfl
 |_::_,[]=>rfl
 |m::a,e::es=>by show am _ _=am _ _;rw[Td]
def fK:ce->ce
 |.ok d=>.ok d
 |_=>.st
noncomputable def ME:Expr->r_
 |.Lambda _ _ _ _=>c_
 |_=>e_
noncomputable def Iz(T:GT)(i:g_)(a:b_ ((En->ce)×(En->ce))):En->ce:=λδ=>match aa i δ with
 |.ok (.obj e fs)=>if ME e then ah (λb=>fK (T.lam e fs b)) (DT (a.map λz=>e_) a) δ else .st
 |_=>.st
def Oe(T:GT)(b:Ev)(C:SC)(i:g_)(a:b_ Expr):En->ce:=Iz T i (a.map λe=>(uf b C e,b C e))
section
def Xu(h:k7 T ev)(O:ls X C T E)(hs:slot C x=a_ i)(hn:(e::es).all jd=c_):f7 X B (ek (kx X) E) (.Call (.Name x p) (e::es) [] β) (Oe T ev C i (e::es)):=by
 intro f s Z H Q I ⟨G,δ,R,q⟩;unfold Oe Iz at q;cases U:aa i δ with
 |er c=>rw[U]at q;exact q.elim
 |st=>rw[U]at q;exact q.elim
 |ok d=>
  rw[U]at q;cases d with
  |obj l fs=>
   dsimp only at q
   by_cases hl:ME l=c_
   case neg=>rw[iG hl]at q;exact q.elim
   rw[iH hl]at q;rw[jV,show(((λS=>e_) ∘ λe=>(uf ev C e,ev C e)):Expr->r_)=(λS=>e_)from rfl,Td]at q;obtain⟨v,q1,q2⟩:=R.arg U;obtain⟨a,γ,rfl,J,df⟩:gr (kx X) G (.obj l fs) v:=by
    obtain z|⟨_,_,_,z,_⟩|⟨_,_,_,z,_⟩:=q2
    .exact z
    .cases z
    .cases z
   have m:=hn;rw[kJ,iQ]at m;have g:∀{j}{h'},ca G j->l0 X.prog X.w j h'->PySem.W.FnAt a h':=λ{j h'} sg ε=>by
    unfold u7 at J;split at J
    .obtain⟨μ,pm,c',ctv,cl,oc,Ω,t,h1,_⟩:=J;obtain⟨z,_⟩:=ε a _ (sg _ _ h1);exact⟨_,_,_,_,z⟩
    .cases hl
    .exact J.elim
   refine oF (jf (O.var hs f s Z H (λv M=>v=.ref a/\M=H) I ⟨_,q1,_6,_6⟩) λu s1 ⟨v,M,I1,r1,b,e2⟩=>?_);subst b e2;cases r1;refine PySem.W.callWith_F (g R.gh I1.fg) (jf (Dk (B:=B) (E:=E) h O (ms:=(e::es).map λS=>e_) hn β f s1 Z M (λN Y=>∃y n d,c8 G M y Y/\cr (kx X) y n N/\T.lam l fs n=.ok d/\∀v G' j,c8 G M G' j->gr (kx X) G' d v->Q v j) I1 ⟨G,δ,R,(Xt q).be λn S q N y Y b al=>?_⟩)
    λus s2 ⟨N,Y,I2,r,y,n,d,b,dl,o,q⟩=>⟨g (b.gg.trans b.gh) I2.fg,?_⟩) (ar m.1) (Fi m.2)
   .cases o:T.lam l fs n with
    |ok d=>rw[o]at q;exact⟨y,n,d,b,al.den wb,o,q⟩
    |er c=>rw[o]at q;exact q.elim
    |st=>rw[o]at q;exact q.elim
   .obtain⟨k,hr,run⟩:=O.lams l fs n d o;refine xF (oK (run X.A X.stack s2 Y y a us N Q (qb.of hr) I2.env0 (R.gb.same (R.bh.trans b.hh)) b.gh ⟨a,γ,_6,J.be b.gg,df.be b.gg⟩ dl r λv G' j e2 dn=>q v G' j (b.trans e2) dn) λrr s' L=>?_);cases rr with
    |error x=>exact L.elim
    |ok fl=>
     cases fl with
     |ret u=>exact I2.after L
     |next=>exact lV L
     |brk=>exact lV L
     |cont=>exact lV L
  |_=>exact q.elim
end
noncomputable def bZ(x:x_):f_ (D->f_ D):=
 if x="len" then a_ i6 else if x="list" then a_ iu else if x="tuple" then a_ gm else if x="int" then a_ CO else if x="all" then a_ xf else if x="any" then a_ Ca else if x="dict" then a_ xu else if x="sorted" then a_ j8 else if x="min" then a_ rq else d_
section
def OJ(O:ls X C T j)(b:bZ x=a_ f)(d:Gl X x)(c:jd e=c_)(h:k6 X B E e g):f7 X B E (.Call (.Name x p) [e] [] i) (g1 f g):=by
 unfold bZ at b
 by_cases a:x="len"
 .rw[iH a]at b;cases b;subst a;exact TU d (O.bl _ (by decide)) h (ar c) _6
 rw[iG a]at b
 by_cases a:x="list"
 .rw[iH a]at b;cases b;subst a;exact Sw (Md O.calm d (O.bl _ (by decide)) h c) U9
 rw[iG a]at b
 by_cases a:x="tuple"
 .rw[iH a]at b;cases b;subst a;exact CV d (O.bl _ (by decide)) h (ar c) _6
 rw[iG a]at b
 by_cases a:x="int"
 .rw[iH a]at b;cases b;subst a;exact KH d (O.bl _ (by decide)) h (ar c) _6
 rw[iG a]at b
 by_cases a:x="all"
 .rw[iH a]at b;cases b;subst a;exact SH O.calm d (O.bl _ (by decide)) h (ar c)
 rw[iG a]at b
 by_cases a:x="any"
 .rw[iH a]at b;cases b;subst a;exact SF O.calm d (O.bl _ (by decide)) h (ar c)
 rw[iG a]at b
 by_cases a:x="dict"
 .rw[iH a]at b;cases b;subst a;exact BA (by have:=O.units;lia) O.calm d (O.bl _ (by decide)) h (ar c)
 rw[iG a]at b
 by_cases a:x="sorted"
 .rw[iH a]at b;cases b;subst a;exact Wg (by have:=O.units;lia) O.calm d (O.bl _ (by decide)) h (ar c)
 rw[iG a]at b
 by_cases a:x="min"
 .rw[iH a]at b;cases b;subst a;exact KD (by have:=O.units;lia) O.calm d (O.bl _ (by decide)) h (ar c)
 rw[iG a]at b;cases b
noncomputable def Se(x:x_):f_ Y_:=
 if x="int" then a_ "int" else if x="bool" then a_ "bool" else if x="str" then a_ "str" else if x="list" then a_ "list" else if x="tuple" then a_ "tuple" else d_
def HB(O:ls X C T n)(b:Se y=a_ c)(f:Gl X "isinstance")(d:Gl X y)(m:jd e=c_)(i:k6 X B E e g):f7 X B E (.Call (.Name "isinstance" p) [e,.Name y l] [] j) (g1 (cf c) g):=by
 have h:jI _ X.bi=_::jI [.Name y l] X.bi:=ar m;unfold Se at b
 by_cases a:y="int"
 .rw[iH a]at b;cases b;subst a;exact E1 HA f (O.bl _ (by decide)) d (O.bl _ (by decide)) _w i (by decide) (by decide) h _6 _6
 rw[iG a]at b
 by_cases a:y="bool"
 .rw[iH a]at b;cases b;subst a;exact E1 Zr f (O.bl _ (by decide)) d (O.bl _ (by decide)) PyProof.Rows.boot_bool i (by decide) (by decide) h _6 _6
 rw[iG a]at b
 by_cases a:y="str"
 .rw[iH a]at b;cases b;subst a;exact E1 IZ f (O.bl _ (by decide)) d (O.bl _ (by decide)) PyProof.Rows.boot_str i (by decide) (by decide) h _6 _6
 rw[iG a]at b
 by_cases a:y="list"
 .rw[iH a]at b;cases b;subst a;exact E1 Zs f (O.bl _ (by decide)) d (O.bl _ (by decide)) _r i (by decide) (by decide) h _6 _6
 rw[iG a]at b
 by_cases a:y="tuple"
 .rw[iH a]at b;cases b;subst a;exact E1 Vj f (O.bl _ (by decide)) d (O.bl _ (by decide)) _q i (by decide) (by decide) h _6 _6
 rw[iG a]at b;cases b
end
def Ym(C:SC)(n:x_)(a:Expr):f_ (b_ Expr):=match a with
 | .Call f b c _ => (match f with
  |.Name y _=>if decide (y=n)&&c.isEmpty&&decide (slot C y=d_)&&FO C y&&b.all jd then a_ b else d_
  |_=>d_)
 |_=>d_
noncomputable def qj(C:SC)(n:x_)(a:Expr):f_ Expr:=match Ym C n a with
 |some [e]=>a_ e
 |_=>d_
noncomputable def wy(e:Expr):f_ (Expr×x_×b_ Expr):=match e with
 | .Call f a b c => (match f with
  |.Attribute o m d=>if b.isEmpty&&(d.endLine==c.line)then a_ (o,m,a)else d_
  |_=>d_)
 |_=>d_
set_option tactic.hygienic true in
def kl(h:wy e=a_ (o,m,a)):∃d b,e=.Call (.Attribute o m d) a [] b/\(d.endLine==b.line)=c_:=by
 unfold wy at h;split at h
 .split at h
  .split at h
   .rename_i f b _ o m d c;simp only[iQ,sA]at c;cases h;exact⟨d,b,by rw[c.1],c.2⟩
   .cases h
  .cases h
 .cases h
def Z6(m:x_)(a:Expr):f_ Expr:=match wy a with
 |some (o,b,[])=>if decide (b=m)&&mq o then a_ o else d_
 |_=>d_
set_option tactic.hygienic true in
def Z7(h:Z6 m a=a_ o):∃d b,a=.Call (.Attribute o m d) [] [] b/\mq o=c_/\(d.endLine==b.line)=c_:=by
 unfold Z6 at h;split at h
 .rename_i e;split at h
  .rename_i c;cases h;simp only[iQ,n_]at c;obtain⟨rfl,c⟩:=c;obtain⟨d,b,e,l⟩:=kl e;exact⟨d,b,e,c,l⟩
  .cases h
 .cases h
def Qg(b:Ev)(C:SC)(x:x_)(a:Expr):En->ce:=(match bZ x with
   |some f=>if jd a then g1 f (uf b C a)else j4
   |none=>j4)
noncomputable def Qh(d:Ev)(C:SC)(x:x_)(f:b_ Expr):En->ce:=match f with
 | [a] => (match qj C "set" a with
  |some e=>if x="sorted" then g1 dh (uf d C e)else j4
  |none=>Qg d C x a)
 | [a, .Name y _] => if x = "isinstance" then (match Se y with
   |some c=>if jd a&&FO C y then g1 (cf c) (uf d C a)else j4
   |none=>j4)else j4
 |[a,b]=>if jd a&&jd b then(if x="min" then g2 E4 (uf d C a) (uf d C b)else if x="max" then g2 E3 (uf d C a) (uf d C b)else j4)else j4
 |_=>j4
noncomputable def As(T:GT)(g:Ev)(C:SC)(x:x_)(c:b_ Expr):En->ce:=match slot C x with
 | a_ i => (match c with
  |[]=>j4
  |e::d=>if(e::d).all jd then Oe T g C i (e::d)else j4)
 | d_ => if FO C x then (match T.fns x with
  | a_ s => (match c with
   |[]=>if s.ms=[]then(λz=>s.f [])else j4
   |e::d=>if(e::d).all jd then ah s.f (PH g C s.ms (e::d))else j4)
  | d_ => if decide (x ∈ t8) then Qh g C x c else (match T.cls x with
   | a_ p => (match c with
    |[a,b]=>if jd a&&jd b then ah (Cb x p.1 p.2) (PH g C [e_,e_] [a,b])else j4
    |_=>j4)
   |none=>j4))else j4
section
set_option tactic.hygienic true in
def Yn(O:ls X C T E)(h:Ym C n a=a_ b):∃p d,a=.Call (.Name n p) b [] d/\Gl X n/\b.all jd=c_:=by
 unfold Ym at h;split at h
 .split at h
  .split at h
   .rename_i c;cases h;simp only[iQ,n_,sA]at c;obtain⟨⟨⟨⟨rfl,rfl⟩,_⟩,f⟩,e⟩:=c;exact⟨_,_,_6,(O.gl f).1,e⟩
   .cases h
  .cases h
 .cases h
set_option tactic.hygienic true in
def tu(O:ls X C T E)(h:qj C n a=a_ e):∃p b,a=.Call (.Name n p) [e] [] b/\Gl X n/\jd e=c_:=by
 unfold qj at h;split at h
 .rename_i e;cases h;obtain⟨p,b,e,g,z⟩:=Yn O e;exact⟨p,b,e,g,by simpa using z⟩
 .cases h
def WL(h:k7 T g)(O:ls X C T E)(d:Gl X x):f7 X B (ek (kx X) E) (.Call (.Name x p) [a] [] c) (Qg g C x a):=by
 unfold Qg;cases e:bZ x with
 |none=>exact cu
 |some f=>
  dsimp only
  by_cases b:jd a=c_
  .rw[iH b];exact OJ O e d b (fk h O a)
  .rw[iG b];exact cu
set_option tactic.hygienic true in
def WJ(h:k7 T u)(O:ls X C T E)(f:Gl X x):f7 X B (ek (kx X) E) (.Call (.Name x p) i [] o) (Qh u C x i):=by
 unfold Qh;split
 .rename_i a;cases r:qj C "set" a with
  |some e=>
   dsimp only;obtain⟨q,l,rfl,j,d⟩:=tu O r
   by_cases g:x="sorted"
   .subst g;exact Wf (by have:=O.units;lia) O.calm f (O.bl _ (by decide)) j (O.bl _ (by decide)) (fk h O e) (ar d)
   .rw[iG g];exact cu
  |none=>exact WL h O f
 .rename_i a y q
  by_cases m:x="isinstance"
  .subst m;cases s:Se y with
   |none=>exact cu
   |some c=>
    dsimp only
    by_cases d:(jd a&&FO C y)=c_
    .rw[iH d];rw[iQ]at d;exact HB O s f (O.gl d.2).1 d.1 (fk h O a)
    .rw[iG d];exact cu
  .rw[iG m];exact cu
 .rename_i a b _
  by_cases d:(jd a&&jd b)=c_
  .rw[iH d];rw[iQ]at d
   by_cases g:x="min"
   .subst g;exact KF O.calm f (O.bl _ (by decide)) (fk h O a) (fk h O b) (ar d.1) (ar d.2)
   .rw[iG g]
    by_cases n:x="max"
    .subst n;exact KG O.calm f (O.bl _ (by decide)) (fk h O a) (fk h O b) (ar d.1) (ar d.2)
    .rw[iG n];exact cu
  .rw[iG d];exact cu
 .exact cu
set_option tactic.hygienic true in
def cw(h:k7 T H)(O:ls X C T E):f7 X B (ek (kx X) E) (.Call (.Name x p) d [] w) (As T H C x d):=by
 unfold As;cases A:slot C x with
 |some i=>
  cases d with
  |nil=>exact cu
  |cons e o=>
   dsimp only
   by_cases c:(e::o).all jd=c_
   .rw[iH c];exact Xu h O A c
   .rw[iG c];exact cu
 |none=>
  by_cases n:FO C x=c_
  .rw[iH n];obtain⟨g1,g2⟩:=O.gl n;cases ef:T.fns x with
   |none=>
    by_cases l:decide (x∈t8)=c_
    .rw[iH l];exact WJ h O g1
    rw[iG l];cases I:T.cls x with
    |none=>exact cu
    |some v=>
     obtain⟨z,y⟩:=v;obtain⟨m,G⟩:=O.cls x z y I;dsimp only;split
     .rename_i a b
      by_cases c:(jd a&&jd b)=c_
      .rw[iH c];rw[iQ]at c;exact TY G m g1 (Dk h O (by rw[kJ,kJ,c.1,c.2];rfl)) g2 (ar c.1) (Fi (by rw[kJ,c.2];rfl))
      .rw[iG c];exact cu
     .exact cu
   |some s=>
    obtain⟨k,f,L,J,m,q,r,u,F⟩:=O.fns x s ef;cases d with
    |nil=>
     dsimp only
     by_cases j:s.ms=[]
     .rw[iH j];rw[j]at F;exact BC F m g1 q r u O.goes g2
     .rw[iG j];exact cu
    |cons e o=>
     dsimp only
     by_cases c:(e::o).all jd=c_
     .rw[iH c];have g:=c;rw[kJ,iQ]at g;exact KL F m g1 q r u O.goes (Dk h O c) g2 (ar g.1) (Fi g.2)
     .rw[iG c];exact cu
  .rw[iG n];exact cu
end
noncomputable def Jz(b:Ev)(C:SC)(iter:Expr):En->f8:=match qj C "range" iter with
 |some a=>cy (PH b C [c_] [a])
 | d_ => (match iter with
  |.Attribute o m p=>jh (b C (.Attribute o m p))
  |_=>ak (uf b C iter))
def GC(a:Ev)(C:SC)(e:Expr):En->ce:=match e with
 | .Name x _ => (match slot C x with
  |some i=>vo i
  |none=>a C e)
 |_=>a C e
noncomputable def DC(b:Ev)(C:SC)(iter:Expr):En->f8:=match qj C "range" iter with
 |some a=>cy (PH b C [c_] [a])
 | d_ => (match iter with
  |.Attribute o m p=>jh (b C (.Attribute o m p))
  |_=>ak (GC b C iter))
section
def Xr(h:k7 T a)(O:ls X C T E)(e:Expr):OX X B (ek (kx X) E) e (GC a C e):=by
 have d:=Xs (h X C B E e O);cases e with
 |Name x p=>
  show OX X B _ _ (match slot C x with
   |some i=>vo i
   |none=>a C _)
  cases b:slot C x with
  |none=>exact d
  |some i=>exact OG i (O.var b)
 |_=>exact d
set_option tactic.hygienic true in
def dC(h:k7 T g)(O:ls X C T E)(e:Expr):Tu X B (ek (kx X) E) tg e (DC g C e):=by
 unfold DC;cases d:qj C "range" e with
 |some a=>obtain⟨p,q,rfl,f,c⟩:=tu O d;exact S4 f (O.bl _ (by decide)) (Dk h O (by rw[kJ,c];rfl)) (ar c)
 |none=>
  dsimp only;split
  .rename_i o m p;have b:=h X C B E (.Attribute o m p) O;exact S3 b (Pq (Xs b))
  .exact Pq (Xr h O _)
noncomputable def Lg:Expr->r_
 |.Tuple _ _ _=>c_
 |_=>e_
def D9(h:Lg tg=c_):∃es k p,tg=.Tuple es k p:=by
 unfold Lg at h;split at h
 .exact⟨_,_,_,_6⟩
 .cases h
noncomputable def Rm(C:SC)(tg iter:Expr):f_ Expr:=if Lg tg then qj C "enumerate" iter else d_
def Li(tg iter:Expr):f_ Expr:=if Lg tg then Z6 "items" iter else d_
def Lh{x:f_ α}{y:α}(h:(if c then x else d_)=a_ y):c=c_/\x=a_ y:=by
 cases c with
 |true=>exact⟨_6,h⟩
 |false=>cases h
def Qi(a:Ev)(C:SC)(tg iter:Expr):En->f8:=match Rm C tg iter with
 |some e=>Gn (GC a C e)
 | d_ => (match Li tg iter with
   |some o=>oe (a C o)
   |none=>DC a C iter)
def XN(h:k7 T l)(O:ls X C T E)(e:Expr):Tu X B (ek (kx X) E) tg e (Qi l C tg e):=by
 unfold Qi;cases c:Rm C tg e with
 |none=>
  cases b:Li tg e with
  |none=>exact dC h O e
  |some o=>obtain⟨t,b⟩:=Lh b;obtain⟨_,_,_,rfl⟩:=D9 t;obtain⟨n,m,rfl,j,i⟩:=Z7 b;exact BR (h X C B E o O) j i
 |some a=>obtain⟨t,c⟩:=Lh c;obtain⟨_,_,_,rfl⟩:=D9 t;obtain⟨p,d,rfl,g,f⟩:=tu O c;exact JE g (O.bl _ (by decide)) (Xr h O a) (ar f)
set_option tactic.hygienic true in
def MF(h:k7 T g)(O:ls X C T E)(e:Expr):Tv X B (ek (kx X) E) tg e (Jz g C e):=by
 unfold Jz;cases d:qj C "range" e with
 |some a=>obtain⟨p,q,rfl,f,c⟩:=tu O d;exact BQ (S4 f (O.bl _ (by decide)) (Dk h O (by rw[kJ,c];rfl)) (ar c))
 |none=>
  dsimp only;split
  .rename_i o m p;have b:=h X C B E (.Attribute o m p) O;exact BQ (S3 b (Pq (Xs b)))
  .exact JD (fk h O _)
end
noncomputable def Tf(c:Ev)(C:SC)(o:Expr)(m:x_)(d:b_ Expr):En->ce:=match d with
 |[a]=>if mq o&&jd a then(if m="index" then gM jm (uf c C o) (uf c C a)else j4)else j4
 |[a,b]=>if mq o&&jd a&&jd b then(if m="get" then D4 (uf c C o) (uf c C a) (c C b)else j4)else j4
 |_=>j4
set_option tactic.hygienic true in
def eV(h:k7 T n)(O:ls X C T E)(f:(q.endLine==p.line)=c_):f7 X B (ek (kx X) E) (.Call (.Attribute o m q) e [] p) (Tf n C o m e):=by
 unfold Tf;split
 .rename_i a
  by_cases c:(mq o&&jd a)=c_
  .rw[iH c];rw[iQ]at c
   by_cases d:m="index"
   .subst d;exact CY O.units (fk h O o) (fk h O a) c.1 c.2 f
   .rw[iG d];exact cu
  .rw[iG c];exact cu
 .rename_i a b
  by_cases c:(mq o&&jd a&&jd b)=c_
  .rw[iH c];rw[iQ,iQ]at c;obtain⟨⟨l,i⟩,g⟩:=c
   by_cases d:m="get"
   .subst d;have j:X.A.units+5<lN:=by have:=O.units;lia
    exact KJ j (fk h O o) (fk h O a) (h X C B E b O) ⟨rj l,by rw[qp (by rw[kJ,kJ,i,g];rfl)];rfl,f,M4 i g⟩
   .rw[iG d];exact cu
  .rw[iG c];exact cu
 .exact cu
noncomputable def t5(d g:Ev)(C:SC)(b:Expr)(gens:b_ Comprehension)(a:pA):En->ce:=match gens with
 | [⟨.Name x _, iter, e, 0⟩] => if A2 C a [x]&&vq iter then (match slots C (fb a.names) with
  | a_ f => (match e with
   |[]=>ao (Jz d C iter) f (gC (.bl c_)) (d (Im C a [x]) b)
   |[c]=>ao (Jz d C iter) f (g (Im C a [x]) c) (d (Im C a [x]) b)
   |_=>j4)
  |none=>j4)else j4
 |_=>j4
inductive CompV(X:Cx)(B:Hp)(E:EK)(elt:Expr)(gens:b_ Comprehension)(scope:pA)(G:En->ce):Prop
 |st (h:G=j4)
 |ok {tg iter:Expr} {ifs:b_ Expr} {own xs M:b_ x_} {ix:b_ g_} {td:D->f_ (b_ D)} {t g:En->ce} {r:En->f8} {F:En->D->TR} {E2:XK} (eg:gens=[⟨tg,iter,ifs,0⟩]) (eG:G=ug r F)
  (st:X.Ok->∃cl,io X scope cl own xs M ix/\qx X B E2 scope cl own xs M tg td elt ifs t g) (hA:Xe X E2) (hF:∀δ,F9 td (vg ix δ) t g (F δ)) (hE:FM E (ek (kx X) E2) F) (hi:Tv X B E tg iter r) (hs:∀x,oS iter X.bi x=Q_ x)
section
set_option tactic.hygienic true in
def MN(h:k7 T n)(v:Hy T q)(O:ls X C T E):CompV X B (ek (kx X) E) elt gens scope (t5 n q C elt gens scope):=by
 unfold t5;split
 .rename_i x w iter m
  by_cases d:(A2 C scope [x]&&vq iter)=c_
  .rw[iH d];rw[iQ]at d;obtain⟨d,e⟩:=d;cases u:slots C _ with
   |none=>exact .st _6
   |some s=>
    cases m with
    |nil=>refine .ok (ifs:=[]) (own:=Ew scope) (xs:=[x]) (M:=fb scope.names) (ix:=s) (t:=gC _) (g:=n _ elt) (E2:=E0) _6 (K7) (λok=>?_) _6 (λδ=>EN.tr) Yk (MF h O iter) (uo e);obtain⟨o,j⟩:=By O ok d u;exact⟨o,j,Ti j,.inl ⟨_6,_6⟩,λl a b i f p=>h _ _ B E0 elt (Dw O d l a b i f p)⟩
    |cons c r=>
     cases r with
     |nil=>refine .ok (ifs:=[c]) (own:=Ew scope) (xs:=[x]) (M:=fb scope.names) (ix:=s) (t:=q _ c) (g:=n _ elt) (E2:=E0) _6 (K7) (λok=>?_) _6 (λδ=>EN.tr) Yk (MF h O iter) (uo e);obtain⟨o,j⟩:=By O ok d u;exact⟨o,j,Ti j,.inr ⟨c,_6,λl a b i f=>v _ _ B E0 c (Dw O d l a b i f zh)⟩,λl a b i f p=>h _ _ B E0 elt (Dw O d l a b i f p)⟩
     |cons _ _=>exact .st _6
  .rw[iG d];exact .st _6
 .exact .st _6
def Dv(h:k7 T c)(f:Hy T b)(O:ls X C T E):Xb X B (ek (kx X) E) (.ListComp elt gens scope pos) (t5 c b C elt gens scope)/\IsL (t5 c b C elt gens scope):=by
 cases MN (gens:=gens) (scope:=scope) h f O with
 |st e=>rw[e];exact⟨YR,λδ d h=>by cases h⟩
 |ok n o st m j l i g=>rw[o];subst n;refine⟨λa s Z H Q I q=>?_,U8⟩;obtain⟨u,p,r⟩:=st I.ok;exact AE p O.calm m r j l i g a s Z H Q I q
end
end Pu
end
section
namespace Pu
open L2 HT
section
def F4{lo:f_ j_}(b:U? s.1 t a)(g:s.1.IsSliceOf l j i .none)(m:xI j lo)(pu:xI i n)
  (f:HT.l9 a.size 0 lo=0/\HT.l9 a.size a.size n=a.size)(h:Q (.ref t) s):jK (jG e w) A (xJ (.ref t) (.ref l)) Q E s:=by
 obtain⟨os,c,d,o⟩:=id g;unfold xJ
 try with_reducible refine kY ?_
 first|refine iA _|skip
 refine iA (wpAny_sequenceKey b.typeIs (by decide) (iA (lE b.typeIs oB (kL oB b.typeIs entry_tuple_getitem ?_ (args_tuple_getitem _ _)))));show jK _ _ (rP _>>=_) _ _ s;refine iA (tupleItemsOf_ b (iA (pF (⟨os,c,d⟩) (iA (HT.tw g m pu ?_)))));show jK _ _ (if _=c_ then _ else _) _ _ s;rw[iH (by rw[f.1,f.2];simp)];exact iA (iA (pF b.typeIs (iB (iA (nJ (iB ⟨_,_6,iB h⟩))))))
end
section
inductive rSlW(K:iL)(x:V)(lo:f_ j_)(hi:f_ j_)(H:Hp)(Q:VK):Prop
 |mk (a xs) (_:x=.ref a) (_:ng K H a xs) (_:(HT.l9 xs.length 0 lo=0/\HT.l9 xs.length xs.length hi=_7 xs)) (_:Q (.ref a) H):rSlW K x lo hi H Q
def DN:SlR X (rSlW X.K):=by
 intro d s Z H x v m l lo u n Q I f j g pu h;obtain⟨a,xs,rfl,i,p,q⟩:=h;cases f;obtain⟨c,r,e,o⟩:=I.tuple i;have b:c.toArray.size=_7 xs:=by exact r.length.symm
 exact⟨"tuple",_,_c.lookup,e.typeIs,F4 e j g pu (by rwa[b]) ⟨.ref a,H,I,_6,q⟩⟩
end
def Km(xs:b_ D)(lo a:f_ j_):b_ D:=(xs.drop (HT.l9 xs.length 0 lo)).take (HT.l9 xs.length xs.length a-HT.l9 xs.length 0 lo)
def xw(d:D)(lo a:f_ j_):f_ D:=match d with
 |.au xs=>a_ (.au (Km xs lo a))
 |.ci xs=>a_ (.ci (Km xs lo a))
 |_=>d_
noncomputable def K9(a:Ev)(C:SC)(o:f_ Expr)(δ:En):f_ (f_ j_):=match o with
 |none=>a_ d_
 | a_ e => (match a C e δ with
  |.ok (.int i)=>a_ (a_ i)
  |_=>d_)
noncomputable def dE(o:f_ (En->ce))(δ:En):f_ (f_ j_):=match o with
 |none=>a_ d_
 | a_ g => (match g δ with
  |.ok (.int i)=>a_ (a_ i)
  |_=>d_)
def Uu(g:En->ce)(lo a:f_ (En->ce)):En->ce:=λδ=>(g δ).bind λd=>match dE lo δ,dE a δ with
 |some l,a_ h=>ce.of (xw d l h)
 |_,_=>.st
def Oh(b:Ev)(C:SC)(a:Expr)(lo c:f_ Expr):En->ce:=Uu (uf b C a) (lo.map (b C)) (c.map (b C))
def Yw:dE (o.map (a C)) δ=K9 a C o δ:=by cases o<;>rfl
def cr.cut{K:KA}(dl:cr K G c b)(lo a:f_ j_):cr K G (Km c lo a) (Io b lo a):=by unfold Km Io;rw[dl.length];exact(dl.drop _).take _
section
def Sx(h:k7 T j)(O:ls X C T E):∃t,PO X o t/\∀G δ Z H l (Q:f_ j_->Hp->Prop),dg (kx X) B G H Z δ->K9 j C o δ=a_ l->(∀g f,c8 G H g f->Q l f)->t Z H Q:=by
 cases o with
 |none=>refine⟨_,JA,λG δ Z H l Q R e q=>?_⟩;cases e;exact q G H (c8.refl R.gh)
 |some e=>
  refine⟨_,KZ (h X C B E0 e O.none),λG δ Z H l Q R a q=>?_⟩;unfold K9 at a;dsimp only at a;cases b:j C e δ with
  |ok d=>
   rw[b]at a;cases d with
   |int i=>cases a;refine⟨G,δ,R,?_⟩;rw[b];exact λv g f x m=>⟨i,m,q g f x⟩
   |_=>cases a
  |er c=>rw[b]at a;cases a
  |st=>rw[b]at a;cases a
def DM(h:k7 T s)(O:ls X C T E){lo:f_ Expr}:f7 X B (ek (kx X) E) (.Subscript a (.Slice lo x d_ p2) M) (Oh s C a lo x):=by
 obtain⟨tl,N,J⟩:=Sx h O;obtain⟨th,e,L⟩:=Sx h O;refine PE.imp (BU (SlR.or LJ (SlR.or UG DN)) (fk h O a) N e) λZ H Q ⟨G,δ,R,q⟩=>⟨G,δ,R,(eu.bind q).be λd W q v G1 H1 m A=>?_⟩;rw[Yw,Yw]at q;cases r:K9 s C lo δ with
 |none=>rw[r]at q;exact q.elim
 |some l=>
  cases u:K9 s C x δ with
  |none=>rw[r,u]at q;exact q.elim
  |some e=>
   rw[r,u]at q;obtain⟨d',j,q⟩:=eu.of q;refine J G1 δ Z H1 l _ (R.ext m) r λG2 Y g=>L G2 δ Z Y e _ (R.ext (m.trans g)) u λG3 I c=>?_;unfold xw at j;split at j
   .cases j;obtain⟨f,b,rfl,n,dl⟩:=((A.ext g).ext c).au c.gh;exact .inl ⟨f,b,_6,n,λp i=>q _ _ _ (((m.trans g).trans c).trans (c8.new c.gh _ i)) (zy c.gh i (dl.cut l e))⟩
   .cases j;rcases(A.ext g).ext c with⟨f,b,rfl,w,dl⟩|⟨_,_,_,z,_⟩|⟨_,_,_,z,_⟩
    case inr.inl=>cases z
    case inr.inr=>cases z
    have n:ng (kx X) I f b:=.inl (.inl (c.gh _ _ w))
    by_cases o:HT.l9 b.length 0 l=0/\HT.l9 b.length b.length e=_7 b
    .have U:Io b l e=b:=by unfold Io;rw[o.1,o.2,vX,vL,List.take_length]
     have y:=dl.cut l e;rw[U]at y;exact .inr (.inr ⟨f,b,_6,n,o,q _ G3 I ((m.trans g).trans c) ⟨f,b,_6,w,y⟩⟩)
    .exact .inr (.inl ⟨f,b,_6,n,o,λp i=>q _ _ _ (((m.trans g).trans c).trans (c8.new c.gh _ i)) (o9 c.gh i (dl.cut l e))⟩)
   .cases j
end
def MD:Operator->r_
 |.Mult=>c_
 |_=>e_
def Jy(c:Ev)(C:SC)(a:Expr)(d:Operator)(b:Expr):En->ce:=match a with
 | .List e _ => if MD d&&e.all jd then Og (b9 (Gm c C e)) (uf c C b) else (match Xp d with
  |some f=>g2 f (uf c C a) (uf c C b)
  |none=>j4)
 | a => (match Xp d with
  |some f=>g2 f (uf c C a) (uf c C b)
  |none=>j4)
set_option tactic.hygienic true in
def OH(h:k7 T i)(O:ls X C T E):f7 X B (ek (kx X) E) (.BinOp a c b e) (Jy i C a c b):=by
 have g:f7 X B (ek (kx X) E) (.BinOp a c b e) (match Xp c with
  |some f=>g2 f (uf i C a) (uf i C b)
  |none=>j4):=by
  cases j:Xp c with
  |none=>exact cu
  |some f=>exact SE j (fk h O a) (fk h O b)
 unfold Jy;split
 .rename_i l _
  by_cases d:(MD c&&l.all jd)=c_
  .rw[iH d];rw[iQ]at d;have:c=.Mult:=by cases c<;>first|rfl|(cases d.1)
   subst this;exact Sw (RC (Pk wb (Cz h O d.2)) Rz (fk h O b)) HP
  .rwa[iG d]
 .exact g
noncomputable def NI(T:GT)(d z:Ev)(C:SC)(e:Expr):En->ce:=match e with
 | .Constant c _ _ => (match c with
  |.none=>gC .fD
  |.bool b=>gC (.bl b)
  |.int i=>gC (.int i)
  |.str x=>gC (.str x)
  |_=>j4)
 |.Name x _=>Fk T C x
 |.BinOp a p b _=>Jy d C a p b
 | .UnaryOp p a _ => (match p with
  |.Not=>jg (d C a)
  |_=>j4)
 | .BoolOp p r _ => (match p with
  |.And=>K6 (d C) r
  |.Or=>Yu (d C) r)
 |.IfExp c a b _=>Of (z C c) (d C a) (d C b)
 |.Compare l u E _=>Au d C l u E
 |.Tuple n _ _=>if n.all jd then h8 (Gm d C n)else j4
 |.List n _=>if n.all jd then b9 (Gm d C n)else j4
 | .Subscript a i _ => (match i with
  |.Slice lo H d_ _=>Oh d C a lo H
  |i=>if Jo i then g2 az (uf d C a) (uf d C i)else j4)
 |.ListComp y gens g _=>t5 d z C y gens g
 |.Lambda h q g s=>PF C h q g s
 | .Dict G r _ => (match G, r with
  |[a_ (.Tuple n B A)],[v]=>D3 (d C (.Tuple n B A)) (d C v)
  |_,_=>j4)
 |.Attribute o m _=>if mq o then gp T.cls m (uf d C o)else j4
 | .Call f j w I => (match f, w with
  |.Name x _,[]=>As T d C x j
  |.Attribute o m J,[]=>if J.endLine==I.line then Tf d C o m j else j4
  |_,_=>j4)
 |_=>j4
def jq(g:En->ce):En->ce:=g1 (λd=>bD (Nd d)) g
noncomputable def NG(T:GT)(g b:Ev)(C:SC)(e:Expr):En->ce:=match e with
 | .UnaryOp f a _ => (match f with
  |.Not=>jg (b C a)
  |_=>g1 (λd=>bD (Nd d)) (uf g C e))
 | .BoolOp f h _ => (match f with
  |.And=>K6 (b C) h
  |.Or=>Yu (b C) h)
 |.Compare l c i _=>Au g C l c i
 |e=>if Jp e then g1 (λd=>bD (Nd d)) (uf g C e)else j4
section
set_option tactic.hygienic true in
def DD(h:k7 T s)(w:Hy T I):k7 T (NI T s I):=by
 intro X C B E e O;cases e with
 |Constant c k p=>
  cases c with
  |none=>exact TL
  |bool b=>exact YH
  |int i=>exact TX
  |str x=>exact TJ
  |_=>exact cu
 |Name x p=>exact IC O
 |BinOp a r b p=>exact OH h O
 |UnaryOp r a p=>
  cases r with
  |Not=>exact TK (h X C B E a O)
  |_=>exact cu
 |BoolOp r G p=>
  cases r with
  |And=>exact Q7 λe=>h X C B E e O
  |Or=>exact AM λe=>h X C B E e O
 |IfExp c a b p=>exact YG (w X C B E c O) (h X C B E a O) (h X C B E b O)
 |Compare l J rs p=>exact(X1 h O).1
 |Tuple n k p=>
  show f7 X B _ _ (if n.all jd then h8 _ else j4)
  by_cases d:n.all jd=c_
  .rw[iH d];exact TF wb (Cz h O d)
  .rw[iG d];exact cu
 |List n p=>
  show f7 X B _ _ (if n.all jd then b9 _ else j4)
  by_cases d:n.all jd=c_
  .rw[iH d];exact TQ wb (Cz h O d)
  .rw[iG d];exact cu
 |Subscript a i p=>
  show f7 X B _ _ (match i with
   |.Slice lo Q d_ _=>Oh s C a lo Q
   |i=>if Jo i then g2 az _ _ else j4)
  split
  .exact DM h O
  .skip
   by_cases y:Jo i=c_
   .rw[iH y];exact YF (by have:=O.units;lia) (fk h O a) (fk h O i) (Wc y)
   .rw[iG y];exact cu
 |Dict N G p=>
  show f7 X B _ _ (match N,G with
   |[a_ (.Tuple n tc Y)],[v]=>D3 _ _
   |_,_=>j4)
  split
  .exact CZ (by have:=O.units;lia) (h X C B E _ O) (h X C B E _ O)
  .exact cu
 |Attribute o m p=>
  show f7 X B _ _ (if mq o then gp T.cls m _ else j4)
  by_cases d:mq o=c_
  .rw[iH d];exact SA (λc M L e=>(O.cls c M L e).2) (fk h O o) d
  .rw[iG d];exact cu
 |Lambda q H j p=>exact TV O
 |ListComp U gens j p=>exact Sw (Dv h w O).1 (Dv (B:=B) (E:=E) (pos:=p) h w O).2
 |Call f g u p=>
  show f7 X B _ _ (match f,u with
   |.Name x _,[]=>As T s C x g
   |.Attribute o m A,[]=>if A.endLine==p.line then Tf s C o m g else j4
   |_,_=>j4)
  split
  .exact cw h O
  .rename_i o m A
   by_cases z:(A.endLine==p.line)=c_
   .rw[iH z];exact eV h O z
   .rw[iG z];exact cu
  .exact cu
 |_=>exact cu
def DA(h:k7 T j)(c:Hy T f):Hy T (NG T j f):=by
 intro X C B E e O;have g:∀{e},Ft X B _ e (if Jp e then g1 _ _ else j4):=λ{e}=>by
  by_cases d:Jp e=c_
  .rw[iH d];exact BE (fk h O e) (Hc d)
  .rw[iG d];exact B9
 cases e with
 |UnaryOp b a p=>
  cases b with
  |Not=>exact KM (c X C B E a O)
  |_=>exact BE (fk h O _) (Hc _6)
 |BoolOp b m p=>
  cases b with
  |And=>exact YJ (Q8 λe=>c X C B E e O)
  |Or=>exact YJ (AL λe=>c X C B E e O)
 |Compare l i n p=>exact(X1 h O).2
 |_=>exact g
end
def gP(T:GT):g_->r_->Ev
 |0,_=>λz z=>j4
 |n+1,e_=>NI T (gP T n e_) (gP T n c_)
 |n+1,c_=>NG T (gP T n e_) (gP T n c_)
def Yv(T:GT):∀n,k7 T (gP T n e_)/\Hy T (gP T n c_):=by
 intro b;induction b with
 |zero=>exact⟨λz z z z z z=>cu,λz z z z z z=>B9⟩
 |succ n a=>exact⟨DD (a).1 (a).2,DA (a).1 (a).2⟩
noncomputable def il(i:g_)(δ:En):En:=match δ[i]? with
 |some (.ow b)=>δ.set i (.pu (.au b))
 |some (.od t a)=>δ.set i (.pu (.js t a))
 |_=>δ
def kO(is:b_ g_)(δ:En):En:=is.foldl (λδ i=>il i δ) δ
section
variable{K:KA}
def p'.gmono(e:ca G j)(h:p' K B G H s o):p' K B j H s o:=by
 cases s with
 |no=>trivial
 |pu d=>obtain⟨v,c,b⟩:=h;exact⟨v,c,b.be e⟩
 |bo d=>obtain⟨v,c,b⟩:=h;exact⟨v,c,ON e b⟩
 |ow l=>obtain⟨a,f,c,b,g⟩:=h;exact⟨a,f,c,b,g.be e⟩
 |od t i=>
  cases t with
  |false=>obtain⟨a,f,c,b,g⟩:=h;exact⟨a,f,c,b,g.be e⟩
  |true=>obtain⟨a,f,c,b,g⟩:=h;exact⟨a,f,c,b,g.be e⟩
def c8.frzO(e:c8 f B G H)(d:B a=d_)(c:G a=d_)(h:H a=a_ o):c8 f B (eT G a o) H:=by
 refine⟨e.gg.trans (cq c _),e.hh,λb u q=>?_,λb u q g z=>?_⟩
 .by_cases z:b=a
  .subst z;rw[aj]at q;rwa[h]
  .rw[ai z]at q;exact e.gh b u q
 .rw[ai (a8 q d)];exact e.fr b u q g z
def dg.frzAtT(R:dg K B G H Z δ)(C:δ[i]?=a_ s)(E:s.own=c_)(x:Z[i]?=a_ (a_ (V.ref a)))(Y:gr K (eT G a o) d (.ref a)):
  dg K B (eT G a o) (eT H a o) Z (δ.set i (.pu d)):=by
 obtain⟨gn,bn⟩:=R.own i s a C E x;have A:=(h_.mp C).1;have n:ca G (eT G a o):=cq gn _;refine⟨λb u q=>?_,λb u q=>?_,by rw[lO];exact R.len,λj t q=>?_,λj t b e f p=>?_,λj k t u b e f p J N M=>?_,R.gb⟩
 .rw[ai (a8 q bn)];exact R.bh b u q
 .by_cases z:b=a
  .subst z;rw[aj]at q;rwa[aj]
  .rw[ai z]at q;rw[ai z];exact R.gh b u q
 .by_cases z:i=j
  .subst z;rw[jQ A]at q;cases q;exact⟨_,x,_,_6,Y⟩
  .rw[jL z]at q;obtain⟨L,I,l⟩:=R.sl j t q;have r:∀b,t.own=c_->L=a_ _->b≠a:=λb Q eo y=>by subst y;exact z (R.dis i j _ _ b C q E Q x (by rw[I,eo]))
   refine⟨L,I,?_⟩;cases t with
   |no=>trivial
   |pu d=>obtain⟨v,c,h⟩:=l;exact⟨v,c,h.be n⟩
   |bo d=>obtain⟨v,c,h⟩:=l;exact⟨v,c,ON n h⟩
   |ow ds=>obtain⟨b,m,c,h,w⟩:=l;exact⟨b,m,c,by rwa[ai (r b _6 c)],w.be n⟩
   |od t O=>
    cases t with
    |false=>obtain⟨b,m,c,h,w⟩:=l;exact⟨b,m,c,by rwa[ai (r b _6 c)],w.be n⟩
    |true=>obtain⟨b,m,c,h,w⟩:=l;exact⟨b,m,c,by rwa[ai (r b _6 c)],w.be n⟩
 .by_cases z:i=j
  .subst z;rw[jQ A]at e;cases e;cases f
  .rw[jL z]at e;obtain⟨g,b'⟩:=R.own j t b e f p;refine⟨?_,b'⟩;have r:b≠a:=by
    rintro rfl
    exact z (R.dis i j _ _ b C e E f x p)
   rwa[ai r]
 .have U:i≠j:=by
   rintro rfl
   rw[jQ A]at e;cases e;cases p
  have T:i≠k:=by
   rintro rfl
   rw[jQ A]at f;cases f;cases J
  rw[jL U]at e;rw[jL T]at f;exact R.dis j k t u b e f p J N M
def dg.frzAt(R:dg K B G H Z δ)(g:δ[i]?=a_ s)(f:s.own=c_)(c:Z[i]?=a_ (a_ (V.ref a)))(j:H a=a_ o)(h:gr K (eT G a o) d (.ref a)):
  dg K B (eT G a o) H Z (δ.set i (.pu d)):=by
 have e:eT H a o=H:=funext λb=>by
  by_cases z:b=a
  .subst z;rw[aj,j]
  .exact ai z
 have:=R.frzAtT g f c h;rwa[e]at this
def dg.il{X:Cx}{c:b_ (o_×_d)}{s:jP}(R:dg K B G H Z δ)(e:c8 w B G H)(I:c5 X c Z H s)(i:g_):∃p n,ca G p/\dg K B p n Z (il i δ)/\c8 w B p n/\c5 X c Z n s:=by
 unfold Pu.il;cases d:δ[i]? with
 |none=>exact⟨G,H,ca.refl G,R,e,I⟩
 |some s=>
  cases s with
  |ow x=>obtain⟨a,q,g,h,f,b,j⟩:=R.owAt d;exact⟨_,H,cq b _,R.frzAt d _6 g h ⟨a,q,_6,gL.of aj,f.be (cq b _)⟩,e.frzO j b h,I⟩
  |od t u=>
   obtain⟨o,g,h⟩:=R.sl i _ d;cases t with
   |false=>obtain⟨a,m,rfl,f,l⟩:=h;obtain⟨b,j⟩:=R.own i _ a d _6 g;exact⟨_,H,cq b _,R.frzAt d _6 g f ⟨a,_6,.inl ⟨_6,m,aj,l.be (cq b _)⟩⟩,e.frzO j b f,I⟩
   |true=>obtain⟨a,m,rfl,f,l⟩:=h;obtain⟨b,j⟩:=R.own i _ a d _6 g;obtain⟨r,_,v⟩:=I.p7 f;exact⟨_,_,cq b _,R.frzAtT d _6 g ⟨a,_6,.inr ⟨_6,r,m,aj,l.be (cq b _)⟩⟩,e.frzT j b,v⟩
  |no=>exact⟨G,H,ca.refl G,R,e,I⟩
  |pu _=>exact⟨G,H,ca.refl G,R,e,I⟩
  |bo _=>exact⟨G,H,ca.refl G,R,e,I⟩
def dg.kO{X:Cx}{a:b_ (o_×_d)}{s:jP}:∀(is:b_ g_){G H:Hp}{δ:En},dg K B G H Z δ->c8 r B G H->c5 X a Z H s->∃f d,ca G f/\dg K B f d Z (kO is δ)/\c8 r B f d/\c5 X a Z d s:=by
 intro b;induction b with
 |nil=>rintro G H δ R e I;exact⟨G,H,ca.refl G,R,e,I⟩
 |cons i is c=>
  rintro G H δ R e I
  obtain⟨v,u,h,m,l,o⟩:=R.il e I i;obtain⟨q,p,g,R2,j,n⟩:=c m l o;exact⟨q,p,h.trans g,R2,j,n⟩
end
section
variable{st:S_}
def ZV(is:b_ g_)(h:yd X i B E st F):yd X i B E st (λδ=>F (kO is δ)):=by
 rintro a s Z H D I ⟨G,δ,R,e,q⟩
 obtain⟨j,g,b,d,c,f⟩:=dg.kO is R e I;exact h a s Z g D f ⟨j,_,d,c,ki.same b q⟩
end
section
def UK(O:io X d cl own xs M ix)(hc:X.calm=c_)(hA:Xe X E')(Bk:qx X B E' d cl own xs M tg td Q C t g)(hF:∀δ,F9 td (vg ix δ) t g (F δ))(hE:FM E (ek (kx X) E') F)(hi:Tv X B E tg iter r)(hN:X.N.Nodup)(hy:X.N[i]?=a_ y)(hl:L2.Xa X.bi.scope y)(hf:X.fn y=c_)
  (hs:∀x,oS iter X.bi x=Q_ x)(β:rF (.ListComp Q [⟨tg,iter,C,0⟩] d A) (a_ (.Name y n)) Y.line X.bi=Q_ c_):
  yd X G0 B E (.Assign [.Name y n] (.ListComp Q [⟨tg,iter,C,0⟩] d A) Y) (de i (ug r F)):=by
 intro u s Z H D I ⟨G,δ,R,ex,q⟩;have q:=Aw ex q;rw[exec_Assign_Name_used _ _ _ _ β,arm_evalThenUse_ListComp];refine iA (wO (iA (iA (N? _6 hs (mz O.clos) O.kind O.names (kN (hi u s Z H (λJ H1=>∃U j,c8 G H U H1/\zg _ J j _/\_7 j<=iN/\gc E G H _ λys=>ki _ G0 B E G _ D) I
  ⟨G,δ,R,(MO q).be (by rintro j _ ⟨hl,q⟩ J U H1 f ok;exact⟨U,j,f,ok,hl,q⟩)⟩) (λv s1 h1=>kN h1 (λψ h h2=>?_) λW W e=>e) λW W e=>e)))))
 obtain⟨it,fp,tn,J,H1,rfl,l,T,st,θ,U,j,f,ok,ζ,q⟩:=h2;refine Kl O hc hA Bk l T st θ (R.ext f) ok ζ (hF δ) (λW W z=>z) (((q.ext f).er (hE δ j)).be λys W q=>?_);intro s3 H3 G3 vs m I3 hm hC e3 g3 h3 dl;have L:h.1.1.size<=h.1.1.size+1:=oO _;have α:=l.lt;have w:∀y c,X.bi.cells.lookup y=a_ c->c<h.1.1.size:=λy c e=>by obtain⟨v',q'⟩:=l.cell y c e;exact q'.lt
 refine wpAny_assign_Name (Hl (v:=.ref h.1.1.size) I3 hN hy hl _6 (λs4 I4 ⟨a,γ,ha⟩=>?_) (.inl hf));have la:a<h.1.1.size:=by
  obtain z|z:=ha
  .rwa[z]
  .exact w _ _ z
 refine⟨m,hm.sameBut γ ((xt la).symm),λh' ε=>iB (iB ⟨Z.set i (a_ (V.ref h.1.1.size)),H3,?_,?_⟩)⟩
 .refine I4.hZ (λb o hb e=>ε.extBut b o hb e) hC ?_ (.inr (kC l.sz L)) ?_ ?_
  .exact(xt α).symm
  .intro z c ι;exact xt (w z c ι)
  .intro p hp z;exact t_ (jR (jA (l.pin p hp).1) (kC L (oJ z.symm))) (kU _)
 .exact q _ G3 H3 (f.trans e3).gg (R.setO (f.trans e3) (ff f.hh (l.fg.fresh (iF _))) g3 h3 dl) (ex.trans (f.trans e3))
end
noncomputable def xj(c:En->ce)(F:En->fc):g_->En->fc
 |0,_=>.st
 |n+1,δ=>(c δ).then λd=>match d with
  | .bl c_ => (match F δ with
   |.nx a=>xj c F n a
   |.ct a=>xj c F n a
   |.bk a=>.nx a
   |o=>o)
  |.bl e_=>.nx δ
  |_=>.st
def Hs:g_:=1000000
def NJ(c:En->ce)(F:En->fc):En->fc:=xj c F Hs
section
def LN(x:vN (jG X.prog X.w) X.A X.bi X.xe)(y:Ft X B E c g)(C:Co X n B E r F):yd X n B E (.While c r [] u) (NJ g F):=
 PS.imp (BG x y C)<|by
  rintro D Z H ⟨G,δ,R,e,q⟩
  refine⟨λm Z H=>∃G δ,dg _ B G H Z δ/\c8 n B G H/\ki _ n B E G (xj g F m δ) D,⟨Hs,G,δ,R,e,q⟩,λm Z H ⟨G,δ,R,e,q⟩=>⟨G,δ,R,?_⟩⟩;cases m with
  |zero=>exact q.elim
  |succ m=>
   refine(Aw e q).be λd Y q=>?_;cases d with
   |bl b=>
    refine⟨b,_6,λp I h=>?_⟩;cases b with
    |false=>exact q Z p I h.gg (R.ext h) (e.trans h)
    |true=>
     refine⟨λa i=>∃v,v<m+1/\∃G δ,dg _ B G i a δ/\c8 n B G i/\ki _ n B E G _ D,λa i z=>z,p,δ,R.ext h,e.trans h,?_⟩;cases ef:F δ with
     |nx f=>rw[ef]at q;exact λa o i s l j=>⟨m,mH m,o,f,l,j,ki.same (h.gg.trans s) q⟩
     |ct f=>rw[ef]at q;exact λa o i s l j=>⟨m,mH m,o,f,l,j,ki.same (h.gg.trans s) q⟩
     |bk f=>rw[ef]at q;exact λa o i s l j=>q a o i (h.gg.trans s) l j
     |rt d=>rw[ef]at q;exact q
     |er c=>rw[ef]at q;exact q
     |st=>rw[ef]at q;exact q
   |_=>exact q.elim
end
structure sK(X:Cx)(C:SC)(T:GT)(E:XK):Prop extends ls X C T E where
 fn:∀x,x∉rf->X.fn x=c_
 pass:vN (jG X.prog X.w) X.A X.bi X.xe
 stk:X.stack=X.bi::X.cc
 frm:X.bi.frame=a_ X.bi.locals
 ex0:X.ex=[]
def rg(C:SC)(x:x_):f_ g_:=if Lf C.sc x&&ro x&&decide (x∉rf)then Zf x C.N 0 else d_
def El(h:rg C x=a_ i):C.N[i]?=a_ x/\Lf C.sc x=c_/\x∉rf:=by
 unfold rg at h
 by_cases e:(Lf C.sc x&&ro x&&decide (x∉rf))=c_
 .rw[iH e]at h;rw[iQ,iQ]at e;obtain⟨_,q⟩:=Sa h;exact⟨by simpa using q,e.1.1,A_ e.2⟩
 .rw[iG e]at h;cases h
section
def sK.tg(O:sK X C T E)(h:rg C x=a_ i):PG X (.Name x a) (vp i):=by obtain⟨d,c,b⟩:=El h;exact S0 (by rw[O.n];exact O.nd) (by rwa[O.n]) (by rw[O.s];exact D8 c) (.inl (O.fn x b))
def sK.st(O:sK X C T E)(h:rg C x=a_ i)(f:PE X e c)(d:rF e (a_ (.Name x a)) b.line X.bi=Q_ e_):PS X (.Assign [.Name x a] e b) (Ws c (vp i)):=by obtain⟨l,j,g⟩:=El h;exact SK (by rw[O.n];exact O.nd) (by rwa[O.n]) (by rw[O.s];exact D8 j) f d (.inl (O.fn x g))
end
noncomputable def Js:b_ g_->b_ D->En->f_ En
 |[],[],δ=>a_ δ
 |i::is,d::a,δ=>Js is a (δ.set i (.pu d))
 |_,_,_=>d_
noncomputable def vc(C:SC):b_ Expr->f_ (b_ g_)
 |[]=>a_ []
 |e::r=>match e with
  | .Name x _ => (match rg C x, vc C r with
   |some i,a_ is=>a_ (i::is)
   |_,_=>d_)
  |_=>d_
def nu(is:b_ g_):D->En->f_ En:=λd δ=>match d with
 |.ci a=>Js is a δ
 |_=>d_
theorem E9:∀{is}{ds}{δ a},Js is ds δ=a_ a->_7 ds=_7 is
 |[],[],_,_,_=>rfl
 |[],_::_,_,_,h=>by cases h
 |_::_,[],_,_,h=>by cases h
 |i::is,d::ds,δ,a,h=>by have:=E9 (ds:=ds) h;rw[iC,iC,this]
section
def AW(O:sK X C T E):∀{es}{is},vc C es=a_ is->(∃t,WN X es t/\∀{G H}{Z}{δ a}{b}{f}{Q},dg (kx X) B G H Z δ->cr (kx X) G b f->Js is b δ=a_ a->
  (∀c,dg (kx X) B G H c a->Q c H)->t f Z H Q)/\(rQ es X.bi).length=_7 is/\(rQ es X.bi).findIdx? (·.1)=d_:=by
 intro j;induction j with
 |nil=>
  rintro is h
  cases h;refine⟨⟨_,JF,λ{G H Z δ a b f Q} R dl e q=>?_⟩,_6,_6⟩;cases b with
  |nil=>cases e;exact⟨dl,q Z R⟩
  |cons _ _=>cases e
 |cons e r m=>
  rintro is h
  unfold vc at h;cases e with
  |Name x p=>
   dsimp only at h;cases g:rg C x with
   |none=>rw[g]at h;cases h
   |some i=>
    cases n:vc C r with
    |none=>rw[g,n]at h;cases h
    |some l=>
     rw[g,n]at h;cases h;obtain⟨⟨t,y,w⟩,u,s⟩:=m n;refine⟨⟨_,BS (O.tg g) y _6,λ{G H Z δ a b f Q} R dl e q=>?_⟩,?_,?_⟩
     .cases b with
      |nil=>cases e
      |cons d b=>obtain⟨v,o,rfl,z,A⟩:=dl;exact⟨v,o,_6,w (R.set z) A e q⟩
     .show(rQ r X.bi).length+1=_7 l+1;rw[u]
     .show List.findIdx? _ (_::rQ r X.bi)=d_;rw[e!];simp[s]
  |_=>cases h
def VS(O:sK X C T E)(h:vc C es=a_ is):∃gl,TgOk X B (.Tuple es k p) gl (nu is):=by
 obtain⟨⟨t,l,j⟩,i,g⟩:=AW O h;refine⟨_,SS O.calm l i g,λ{G H Z δ b d v Q} R n e q=>?_⟩;cases d with
 |ci o=>obtain⟨a,c,rfl,f,dl⟩:=n;have m:=E9 (e);exact⟨a,c,_6,ng.of (R.gh _ _ f),by rw[<-dl.length,m],j R dl e q⟩
 |_=>cases e
end
noncomputable def EW(C:SC)(tg:Expr):f_ (D->En->f_ En):=match tg with
 |.Name x _=>(rg C x).map aq
 |.Tuple a _ _=>(vc C a).map nu
 |_=>d_
set_option tactic.hygienic true in
def LB(O:sK X C T E)(h:EW C tg=a_ f):∃gl,TgOk X B tg gl f:=by
 unfold EW at h;split at h
 .rename_i x p;cases e:rg C x with
  |none=>rw[e]at h;cases h
  |some i=>rw[e]at h;cases h;exact⟨_,LA (O.tg e)⟩
 .rename_i a k p;cases e:vc C a with
  |none=>rw[e]at h;cases h
  |some is=>rw[e]at h;cases h;exact VS O e
 .cases h
section
variable{st:S_}
def Cd(g:En->ce):En->fc:=λδ=>(g δ).then λz=>.nx δ
def UM(h:f7 X B E e g)(f:rF e d_ a.line X.bi=Q_ e_):yd X m B E (.Expr e a) (Cd g):=PS.imp (uq h f) λD Z H ⟨G,δ,R,c,q⟩=>
 ⟨G,δ,R,(Aw c q).be λd z q v j i b l=>q Z j i b.gg (R.ext b) (c.trans b)⟩
def LQ(c:En->r_)(g:yd X e B E st F)(f:yd X e B E st h):yd X e B E st (λδ=>if c δ then F δ else h δ):=by
 rintro a s Z H D I ⟨G,δ,R,d,q⟩
 by_cases b:c δ=c_
 .simp only[iH b]at q;exact g a s Z H D I ⟨G,δ,R,d,q⟩
 .simp only[iG b]at q;exact f a s Z H D I ⟨G,δ,R,d,q⟩
end
end Pu
end
section
namespace Pu
open L2
open AutoSeq1 (wpAny_loadPart')
def Draws.later{St:g_->C_->Prop}(D:PySem.Draws a w A it l n P St):
  PySem.Draws a w A it l (n+1) (λi v=>∃j,i=j+1/\P j v) (λi h=>∃j,i=j+1/\St j h) where
 live:=by rintro _ h ⟨j,_,q⟩;exact D.live j h q
 frame:=by rintro _ h b ⟨j,e,q⟩ k;exact⟨j,e,D.frame j h b q k⟩
 item:=by rintro i s Q E m ⟨j,e,q⟩ f;exact D.item j s Q E (by lia) q λx b c p st d=>f x b c ⟨j,e,p⟩ ⟨j+1,by lia,st⟩ d
 done:=by rintro s Q E ⟨j,e,q⟩ g;exact D.done s Q E ((show j=n by lia)▸q) g
noncomputable def IX(t:Tok):b_ (x_×jB):=[(y? "start",.int 1 t)]
noncomputable def PP(n:o_):_d:={cls:=.type "enumerate",data:=.fields #[.none,.bool e_,.ref n,mK 1,.none,.none]}
noncomputable def FN(l:o_):_d:={cls:=.type "list_iterator",data:=.fields #[.ref l,.int 0 0]}
set_option tactic.hygienic true in
def IB(l:o_)(a:p_ jB)(n:g_)(js:f_ o_)(m:p_ (f_ jB))(t:Tok):
  Meets (K_.«enumerate.__new__» ⟨[.type "enumerate",.ref l],IX t⟩) (λ_ R s=>s.1.get? l=a_ {cls:=.type "list",dict:=js,data:=.seq a n,slots:=m}/\
   R (.ok (.ret (.ref (s.1.push (FN l)).objs.size))) {s with heap:=(s.1.push (FN l)).push (PP s.1.1.size)}):=
 .of_wp λf w A R s h=>by
  obtain⟨o,g,d,j,os⟩:=s;obtain⟨b,h⟩:=h;have i:=sub_enumerate;have p:=AutoSeq1.idx_int;have e:Heap.IsList (Shared.heap ⟨o,g,d,j,os⟩) l a:=⟨_,b,_6,n,_6⟩;unfold IX
  wp_walk using rB b
  refine wpAny_stack_any λst=>iB ?_;split
  .rename_i c _ _ _ _ _;cases (c==qW "enumerate")
   .wp_walk using rB b,mS e
    exact⟨_,_6,h⟩
   .wp_walk using rB b,mS e
    exact⟨_,_6,h⟩
  .wp_walk using rB b,mS e
   exact⟨_,_6,h⟩
def VT(a:jB)(t:Tok):checkTypeCall "enumerate" ⟨[a],IX t⟩=Q_ ():=by kernel_rfl
def RW(a:jB)(t:Tok):checkBuiltinCall "enumerate.__new__" ⟨[.type "enumerate",a],IX t⟩=Q_ ():=by kernel_rfl
def OP(a b:jB)(t:Tok):argsOk "object.__init__" ⟨[a,b],IX t⟩:=by
 unfold argsOk;rw[signature?_of (id:="object.__init__") (n:="__tini__".toList) (o:="tcejbo".toList) (by kernel_rfl) F.owner_object]
 kernel_rfl
section
def Y6:Meets (K_.«object.__init__» ⟨[o,x],IX t⟩) (λz R s=>s.TypeIs o "enumerate"/\R (.ok (.ret .none)) s):=
 .of_wp<|by
  rintro a w A R s ⟨f,b⟩
  have e:=F.called_enumerate.init.lookup;have d:=F.called_enumerate.made;have c:(a_ "enumerate.__new__" !=a_ "object.__new__")=c_:=by decide
  repeat (any_goals (first|assumption|wp_step))
  exact⟨_,_6,b⟩
def Xv(M:s.1.IsList l d)
  (h:∀i,IsEnum i (s.1.1.size+1) s.1.1.size 1 .none->i.IsListIter s.1.1.size l 0->(∀b o,s.1.get? b=a_ o->i.get? b=a_ o)->Q (.ref (s.1.1.size+1)) {s with heap:=i}):
  jK (jG a w) A (call (.type "enumerate") [.ref l] (IX t)) Q E s:=by
 obtain⟨⟨c,js,N,G⟩,I,v,n,q⟩:=M;replace v:c=.type "list":=v;replace q:N=.seq d n:=q;subst v q;obtain⟨c,O,B⟩:=F.called_enumerate.mro;have p:=F.called_enumerate.made;have z:=F.called_enumerate.sub;have J:=VT (.ref l) t;have u:=RW (.ref l) t;refine xF (xX ?_);show jK _ _ (callAny (.type "enumerate") _) _ _ _;refine iB ⟨b! _ (by decide+kernel),mN F.entry_type_call ?_⟩;rw[K? (L! _ _ _) (units_type_call_type _ _ _)];have U:=F.called_enumerate.notType;have T:=F.called_enumerate.canCreate
 repeat (any_goals (first|assumption|wp_step))
 have step:pR (jG a w) A.in1 (.call (.builtin "enumerate.__new__") ⟨_,IX t⟩) (λr e=>r=.ok (.ret (.ref (s.1.1.size+1)))/\e={s with heap:=(s.1.push (FN l)).push (PP s.1.1.size)}) s:=
  uV F.called_enumerate.plain F.entry_enumerate_new (rU u (IB l d n js G t a w A.in1 (λr e=>r=.ok (.ret (.ref (s.1.1.size+1)))/\e={s with heap:=(s.1.push (FN l)).push (PP s.1.1.size)}) s ⟨I,by rw[show(s.1.push (FN l)).objs.size=s.1.1.size+1 from mM ..],_6⟩))
 refine oK step λr e m=>?_;obtain⟨rfl,rfl⟩:=m;have C:IsEnum ((s.1.push (FN l)).push (PP s.1.1.size)) (s.1.1.size+1) s.1.1.size 1 .none:=by have:=iS (s.1.push (FN l)) (o:=PP s.1.1.size) _6;rw[show(s.1.push (FN l)).objs.size=s.1.1.size+1 from mM ..]at this;exact this
 have j:=h _ C ⟨_,iE _ (iS _ _6),_6,_6⟩ λb o x=>iE _ (iE _ x);have y:wR {s with heap:=(s.1.push (FN l)).push (PP s.1.1.size)} (.ref (s.1.1.size+1)) "enumerate":=⟨_,C,_6⟩;generalize ({s with heap:=(s.1.push (FN l)).push (PP s.1.1.size)}:jP)=e at j y⊢;have H:=F.called_enumerate.init.lookup;have L:=F.called_enumerate.init.bind (.ref (s.1.1.size+1))
 repeat (any_goals (first|assumption|wp_step))
 have f:pR (jG a w) A.in1 (.call (.builtin "object.__init__") ⟨[.ref (s.1.1.size+1),.ref l],IX t⟩) (λr g=>r=.ok (.ret .none)/\g=e) e:=
  uV F.called_enumerate.init.plain F.entry_object_init (F.called_enumerate.init.check _ _ _ _ _ _ _ _ y (OP _ _ t) (Y6 a w A.in1 (λr g=>r=.ok (.ret .none)/\g=e) e ⟨y,_6,_6⟩))
 refine oK f λr g m=>?_;obtain⟨rfl,rfl⟩:=m
 repeat (any_goals (first|assumption|wp_step))
end
def GL(v:A.handled=d_)
  (y:IsEnum s.1 e it n lP)(f:s.1.IsListIter it l i)(r:s.1.IsList l c)(p:c[i]?=d_)
  (z:∀d,wJ it s.1 d->Q d_ {s with heap:=d}):jK (jG g w) A (vR (.ref e)) Q E s:=
 wpAny_pyNext_enum_endD (D:=⟨λj h (st:j=0/\h.IsListIter it l i/\h.IsList l c)=>let ⟨o,q,_⟩:=st.2.1;⟨o,q⟩,λj h d st m=>⟨st.1,st.2.1.at λo e=>m it (by simp) o e,st.2.2.at λo e=>m l (by simp) o e⟩,λj s Q E u=>t_ u (vC _),λs Q E st B=>wpAny_nextOf_list_end v st.2.1 st.2.2 p λd x a b=>B d x a b⟩) (P:=λY Y=>_u) (fp:=[it,l]) (n:=0) y ⟨_6,f,r⟩ z
def OU(K:iL)(a:o_):It:=
 ⟨λi H=>∃xs x,gL K H a xs/\xs[i]?=a_ x,λi H v b=>∃p x,H p=d_/\v=.ref p/\b=eT H p (.ci [.int ((i+1:g_):j_),x])/\∀xs,gL K H a xs->xs[i]?=a_ x,λi H=>∃xs,gL K H a xs/\_7 xs<=i⟩
def gH(e it a:o_)(i:g_)(h:C_):Prop:=(∃lP,IsEnum h e it ((i+1:g_):j_) lP)/\h.IsListIter it a i
def EL{K:iL}{k1}(a e it:o_)(O:e≠it):qh P w K (.Tuple tes k1 tp) (OU K a) [e,it] e (gH e it a) where
 mem:=by simp
 obj:=λi h st b d=>by
  obtain⟨⟨lP,G⟩,o,g,B,hd⟩:=st;rcases l_.mp d with rfl|d
  .exact⟨_,G,λv z=>by
    cases z⟩
  .have e:b=it:=by simpa using d
   subst e;exact⟨o,g,λv z=>by rw[hd]at z;cases z⟩
 keep:=λi h h' st k=>⟨let ⟨lP,G⟩:=st.1;⟨lP,k e (by simp) _ G⟩,st.2.at λo q=>k it (by simp) o q⟩
 item:=by
  intro X hP hw hK B i L s Z H E I hf st hg;subst hP hw hK;obtain⟨xs,x,hq,hx⟩:=hg;obtain⟨C,rv,p,hz⟩:=I.list hq;obtain⟨u,hu,ru⟩:=rv.get hx;obtain⟨⟨lP,G⟩,l⟩:=st;obtain⟨f0,f1,f2,f3,f4,f5⟩:=hf e (by simp);obtain⟨g0,g1,g2,g3,g4,g5⟩:=hf it (by simp);have fresh:=I.fg.fresh (iF _);have ζ:=jA G;have τ:e≠a:=λz=>by obtain⟨o,g,f,_⟩:=p.isList;rw[<-z,G]at g;cases g;exact t_ (show qW "enumerate"=qW "list" from f) (by decide)
  have β:a≠it:=λz=>by obtain⟨o,g,f,_⟩:=p.isList;obtain⟨o',N,T,_⟩:=l;rw[z,N]at g;cases g;rw[T]at f;exact t_ f (by decide)
  have Q:i<C.toArray.size:=by have:=(h_.mp hu).1;simpa using this
  refine wpAny_pyNext_enum_itemD (Draws.later (PySem.Draws.list (A:=X.A.in1) (I.ok.hd B) it a β C.toArray)) (i:=i+1) G ⟨i,_6,l,p.isList⟩ (Nat.succ_lt_succ Q) O (by simpa using⟨O,τ⟩) λu' h1 tk J φ ι ξ hz1 ρ=>?_;obtain⟨j,ej,J⟩:=J;obtain rfl:i=j:=by lia
  obtain rfl:u=u':=by
   have ν:C.toArray[i]?=a_ u:=by simpa using hu
   rw[ν]at J;cases J;rfl
  obtain⟨j,ej,α,_⟩:=ι;obtain rfl:j=i+1:=by lia
  refine⟨_,_6,E? φ λh2 υ sb=>?_⟩;have M:=sb;have Y:∀b o,b≠e->b≠it->s.1.get? b=a_ o->h2.get? b=a_ o:=λb o ε ω q=>M.extBut b o ε (ρ b o ε ω q);have c:∀{b}{o},H b=a_ o->b≠s.1.1.size/\b≠e/\b≠it:=λ{b o} q=>⟨a8 q fresh,a8 q f0,a8 q g0⟩;have U:∀b,b∉[e,it]->b≠e/\b≠it:=λb d=>by simpa using d
  have I2:c5 X L Z (eT H s.1.1.size (.ci [.int ((i+1:g_):j_),x])) {s with heap:=h2,toks:=tk+1}:=by
   refine I.step (d':=s.drawn) (ch:=[e,it]) (λb d=>?_) (λb o W W B q W=>Y b o (U b B).1 (U b B).2 q) (λb o W W B q W=>⟨o.slots,Y b o (U b B).1 (U b B).2 q⟩) (λb o W q n=>?_) (λb o B q=>⟨o,Y b o (U b B).1 (U b B).2 q⟩)
    (λb ys q=>by rwa[ai (c q).1]) (λb o v q=>by rwa[ai (c q).1]) (λb y q=>by rwa[ai (c q).1]) (λm hm=>?_) (λb v q=>?_) I.lU
   .rcases l_.mp d with rfl|d
    .exact⟨f3,f1,f4,f5⟩
    .have z:b=it:=by simpa using d
     subst z;exact⟨g3,g1,g4,g5⟩
   .rwa[ai (jJ (jA q))]
   .obtain⟨o,es,ep,g,r⟩:=hm;exact⟨o,es,ep,Y _ o (pE f1) (pE g1) g,r⟩
   .by_cases d:b=s.1.1.size
    .subst d;rw[aj]at q;cases q;exact⟨by rw[kP];simp,_,.cons ⟨_,_6⟩ (.cons ru .nil),_,(M.extBut _ _ (nH ζ) ξ),_6,0,_6⟩
    .rw[ai d]at q;refine(I.fg b v q).t3 (λb' v' δ r=>Y b' v' ?_ ?_ r) (λb' z=>by rwa[ai (c z).1]) (λb' ys z=>by rwa[ai (c z).1]) λb' o' u' z=>by rwa[ai (c z).1]
     .obtain z|z:=δ
      .rw[z];exact(c q).2.1
      .exact(c z).2.1
     .obtain z|z:=δ
      .rw[z];exact(c q).2.2
      .exact(c z).2.2
  refine⟨.ref s.1.1.size,_,I2,_6,⟨_,x,fresh,_6,_6,λys hy=>by rwa[I.rm hy hq]⟩,⟨⟨u,?_⟩,?_⟩,λb d=>?_⟩
  .have:((i+1+1:g_):j_)=((i+1:g_):j_)+1:=by push_cast;rfl
   exact υ
  .exact α.at λo q=>M.extBut it o (pE O) q
  .have z:=(hf b d).1;have:b<s.1.1.size:=by
    rcases l_.mp d with rfl|d
    .exact ζ
    .have z:b=it:=by simpa using d
     subst z;obtain⟨o,g,_⟩:=l;exact jA g
   rwa[ai (jJ this)]
 done:=by
  intro X hP hw hK B i L s Z H E I hf st hg;subst hP hw hK;obtain⟨xs,hq,hx⟩:=hg;obtain⟨C,rv,p,hz⟩:=I.list hq;obtain⟨⟨lP,G⟩,l⟩:=st;obtain⟨g0,g1,g2,g3,g4,g5⟩:=hf it (by simp);have hl:=rv.length;have β:a≠it:=λz=>by obtain⟨o,g,f,_⟩:=p.isList;obtain⟨o',N,T,_⟩:=l;rw[z,N]at g;cases g;rw[T]at f;exact t_ f (by decide)
  have Q:C.toArray[i]?=d_:=by simp;lia
  exact GL (I.ok.hd B) G l p.isList Q λh' eb=>⟨_6,I.hZ (λb o d e=>eb b o d e) g0 g1 g3 g4 g5⟩
 self:=λW W W W W st h=>let ⟨_,G⟩:=st.1;tU G h
def K8(g:En->ce):En->f8:=λδ=>match g δ with
 |.ok (.au a)=>.ok (lg 1 a)
 |.ok _=>.st
 |.er c=>.er c
 |.st=>.st
def R9{K:KA}(h:∀G H,S G H->ca G H->gL K H a c/\ca A G)(dl:cr K A m c):zg K (OU K a) (lg 1 m) S:=λi G H o e=>by
 obtain⟨q,g⟩:=h G H o e;refine⟨λd b=>?_,λn=>⟨c,q,by rw[A6]at n;rwa[<-dl.length]⟩⟩;rw[A5]at b;cases f:m[i]? with
 |none=>rw[f]at b;cases b
 |some B=>rw[f,Nat.add_comm 1 i]at b;cases b;obtain⟨v,l,w⟩:=dl.get f;refine⟨⟨c,v,q,l⟩,λx C ⟨p,y,j,u,s,r⟩=>?_⟩;subst u s;have z:=r c q;rw[l]at z;cases z;exact⟨_,c8.new e _ j,o9 e j (cr.append (cr.pv (d:=.int _) _6) (cr.pv (w.be g)))⟩
section
def dI(q:gc E G H (K8 g δ) P):eu E G H (g δ) λd=>∃a,d=.au a/\P (lg 1 a):=by
 unfold K8 at q;cases e:g δ with
 |ok d=>
  rw[e]at q;cases d with
  |au a=>exact⟨a,_6,q⟩
  |_=>exact q.elim
 |er c=>rw[e]at q;exact q
 |st=>rw[e]at q;exact q
def FU{E:jB->jP->Prop} 
  (h:jK M A (spliced [(e_,x)]) (λe b=>jK M A (evalAll [d]) (λg c=>jK M A (call (.type T) e ([k].zip g)) Q E c) E b) E s):jK M A (callWith f (.type T) [] [(e_,x)] [(a_ k,d)]) Q E s:=by
 have l:jK M A (evalArgs (.type T) c_ [_] [(a_ k,d)]) (λa b=>jK M A (call _ ([]++a.pos) a.kw) Q E b) E s:=evalArgs_kwB _6 h;exact iA (kY (kN l (λa b j=>iA (wO (iA (iB (iA (kN j (λr c i=>iA (kY (wpAny_point (iB i)))) λq q z=>z)))))) λq q z=>z))
def SR(hg:Gl X "enumerate")(hm:X.mg "enumerate"=d_)(h:OX X B E e g)(T:jI [e] X.bi=(e_,I_ e X.bi)::jI [] X.bi):
  Tu X B E (.Tuple γ k1 tp) (.Call (.Name "enumerate" p) [e] [⟨a_ "start",.Constant (.int 1) kd cp,kp⟩] A) (K8 g):=by
 intro c s Z H R I ⟨G,δ,U,q⟩;refine oF (Ba I hg hm (by decide+kernel:qA "enumerate"=a_ (.type "enumerate")) ?_ (by decide) (by decide));have r:=(jy h qc T) A c s Z H (λm l=>∃a,m=[.ref a]/\(∃xs,gL X.K l a xs)/\R (OU X.K a) l) I ⟨G,δ,U,(dI q).be λd W ⟨ds,ed,q⟩ v Y l y ax=>?_⟩
 .rw[T]at r⊢;refine FU (jf r λus s1 ⟨m,l,I1,r1,a,ev,C,q1⟩=>?_);subst ev;obtain⟨u,rfl,ru⟩:=ny r1;cases ru;refine kws_cons (kp:=kp) (name:="start") (jf (BW (i:=1) (j:=kd) (pos:=cp) c s1 Z l (λv w=>v=.int 1/\w=l) I1 ⟨_6,_6⟩) λf Q ⟨fv,w,n,r2,z1,z2⟩=>kws_nil ?_);subst z1 z2;obtain⟨ct,rfl⟩:=r2;obtain⟨xs,C⟩:=C;obtain⟨ρ,rv,pl,_⟩:=n.list C;refine Xv pl.isList λh' o L J=>(tU o ⟨Q.1.1.size+1,_,_,_,w,_6,n.h7 J,EL a _ _ (_5 _),⟨⟨_,o⟩,L⟩,λb M=>?_,q1⟩);rcases l_.mp M with rfl|M
  .exact n.p9 (oO _) (n.fg.fresh (oO _))
  .have z:b=Q.1.1.size:=by simpa using M
   subst z;exact n.p9 (iF _) (n.fg.fresh (iF _))
 .subst ed;obtain ⟨a,m,rfl,s,dl⟩|⟨χ,a,m,z,rfl,s,dl⟩|⟨t,μ,a,z,_⟩:=ax
  .exact⟨a,_6,⟨m,gL.be y.gh s⟩,q _ Y l y (R9 (λG2 w ⟨x,N⟩ O=>⟨gL.be (x.trans O) s,x⟩) dl)⟩
  .cases z;exact⟨a,_6,⟨m,gL.be (U.bh.trans y.hh) s⟩,q _ Y l y (R9 (λG2 w ⟨x,N⟩ O=>⟨gL.be N s,x⟩) dl)⟩
  .cases z
end
noncomputable def QV:Expr->f_ j_
 |.Constant (.int i) _ _=>a_ i
 |_=>d_
def HQ(h:QV e=a_ i):∃a b,e=.Constant (.int i) a b:=by
 unfold QV at h;split at h
 .cases h;exact⟨_,_,_6⟩
 .cases h
def eY(e:Expr):f_ (Expr×Expr×pS):=match e with
 |.Call f [e] [a] _=>a_ (f,e,a)
 |_=>d_
def Zt(h:eY e=a_ (f,a,c)):∃b,e=.Call f [a] [c] b:=by
 unfold eY at h;split at h<;>cases h
 exact⟨_,_6⟩
def M5(C:SC)(tg iter:Expr):f_ Expr:=(eY iter).bind λ(f,e,a)=>match f with
 |.Name y _=>if Lg tg&&decide (y="enumerate")&&FO C y&&jd e&&decide (a.arg=a_ (y? "start"))&&decide (QV a.value=a_ 1)then a_ e else d_
 |_=>d_
def Fj(a:Ev)(C:SC)(tg iter:Expr):En->f8:=match M5 C tg iter with
 |some e=>K8 (GC a C e)
 |none=>Qi a C tg iter
set_option tactic.hygienic true in
def MB(h:k7 T v)(O:ls X C T E)(e:Expr):Tu X B (ek (kx X) E) tg e (Fj v C tg e):=by
 unfold Fj;cases j:M5 C tg e with
 |none=>exact XN h O e
 |some a=>
  obtain⟨⟨f,b,m⟩,k,d⟩:=Option.bind_eq_some_iff.mp j;obtain⟨l,rfl⟩:=Zt k;clear j;dsimp only at d;split at d
  .split at d
   .rename_i c;cases d;simp only[iQ,n_]at c;obtain⟨⟨⟨⟨⟨u,rfl⟩,s⟩,r⟩,i⟩,q⟩:=c;obtain⟨z,A,x,rfl⟩:=D9 u;obtain⟨p,n,y⟩:=m;obtain⟨o,w,g⟩:=HQ q;replace i:p=a_ _:=i;replace g:n=.Constant _ o w:=g;subst i;subst g;exact SR (O.gl s).1 (O.bl _ (by decide)) (Xr h O a) (ar r)
   .cases d
  .cases d
inductive SdG{κ:Type}[P_ κ](mk:b_ (κ×V)->HO)(nw:Hp->κ->V->Prop)(x:V)(xs:b_ V)(H:Hp)(Q:VK):Prop
 |mk (a y l es k) (_:x=.ref a) (_:xs=[y,.ref l]) (_:H a=a_ (mk es)) (_:nw H k y) (_:_7 es<iN) (_:(∀v,mw es k=a_ v->Q v H)) (_:(mw es k=d_->Q (.ref l) (eT H a (mk (ku es k (.ref l)))))):SdG mk nw x xs H Q
structure KKd(X:Cx)(κ:Type)[P_ κ] where
 t:r_
 cn:κ->D
 of:D->f_ κ
 mkH:b_ (κ×V)->HO
 nw:Hp->κ->V->Prop
 DenX:Hp->b_ (D×D)->b_ (κ×V)->Prop
 of_cn:∀j,of (cn j)=a_ j
 nf:∀es,eS (mkH es)=c_
 neL:∀es vs,mkH es≠.au vs
 ty:∀{H:Hp}{a:o_}{es:b_ (κ×V)},H a=a_ (mkH es)->fX X.K "dict" (.ref a) H
 key:∀{G H:Hp}{d:D}{y:V}{j:κ},of d=a_ j->gr (kx X) G d y->ca G H->nw H j y
 be:∀{H H':Hp}{j:κ}{y:V},nw H j y->ca H H'->nw H' j y
 sd:X.A.units+5<lN->aF X "dict.setdefault" (SdG mkH nw)
 dmono:∀{G G':Hp}{kvs:b_ (D×D)}{es:b_ (κ×V)},ca G G'->DenX G kvs es->DenX G' kvs es
 st0:∀{B G H:Hp}{o:f_ V},p' (kx X) B G H (.od t []) o->∃a,o=a_ (.ref a)/\H a=a_ (mkH [])
 nil:∀G,DenX G [] []
 cons:∀{G:Hp}{j:κ}{d:D}{v:V}{kvs:b_ (D×D)}{es:b_ (κ×V)},gr (kx X) G d v->DenX G kvs es->DenX G ((cn j,d)::kvs) ((j,v)::es)
 fin:∀{c7:b_ (o_×_d)}{Z:St}{H:Hp}{s:jP}{a:o_}{es:b_ (κ×V)},c5 X c7 Z H s->H a=a_ (mkH es)->∃o,c5 X c7 Z (eT H a o) s/\∀(G:Hp)(kvs:b_ (D×D)),G a=a_ o->DenX G kvs es->gr (kx X) G (.js t kvs) (.ref a)
def gQ(X:Cx):KKd X fm where
 t:=c_
 cn:=kT
 of:=bx
 mkH:=.dT
 nw:=λH k y=>∃b,y=.ref b/\mo H k b
 DenX:=λG i c=>hV (kx X) G i c
 of_cn:=oh
 nf:=λW=>rfl
 neL:=λW W z=>nomatch z
 ty:=λ{H a c} h=>.inr (.inr (.inl ⟨_6,.inr ⟨c,h⟩⟩))
 key:=λe dn s=>Arg.r8 s (.inl dn) e
 be:=λ⟨b,e,q⟩ s=>⟨b,e,q.be λW W z=>s _ _ z⟩
 sd:=λU f s Z H x xs v J Q I M N q=>by
  obtain⟨a,y,l,c,k,rfl,rfl,n,⟨b,rfl,hb⟩,Y,T,O⟩:=q;cases M;obtain⟨u1,r1,rfl,E,C⟩:∃u r,J=u::r/\ez (.ref b) u/\dL [.ref l] r:=by
   cases N with
   |cons h t=>exact⟨_,_,_6,h,t⟩
  obtain⟨u2,rfl,B⟩:=ny C;cases E;cases B;exact Gf U I n hb Y (v:=.ref l) _6 (λA w L p m j=>⟨A,H,j,m,T A p⟩) λL p j=>⟨.ref l,_,j,_6,O p⟩
 dmono:=λs d=>d.be s
 st0:=λ⟨a,c,e,h,d⟩=>⟨a,e,by rw[h,show c=[]from d]⟩
 nil:=λW=>rfl
 cons:=λdv h=>⟨_,_,_,_6,_6,dv,h⟩
 fin:=λ{f Z H s a c} I n=>by obtain⟨o,_,j⟩:=I.p7 n;exact⟨_,j,λG i g d=>⟨a,_6,.inr ⟨_6,o,c,g,d⟩⟩⟩
section
variable[P_ κ]
noncomputable def Le(of:D->f_ κ)(b:κ->D)(j:κ)(v:D):b_ (D×b_ D)->b_ (D×b_ D)
 |[]=>[(b j,[v])]
 |(k,a)::r=>if of k=a_ j then(k,a++[v])::r else(k,a)::Le of b j v r
inductive qs(cn:κ->D)(K:KA)(G B H:Hp):b_ (κ×V)->b_ o_->b_ (D×b_ D)->Prop
 |nil:qs cn K G B H [] [] []
 |cons {j b vs ds es bs gs}:H b=a_ (.au vs)->cr K G ds vs->G b=d_->B b=d_->qs cn K G B H es bs gs->qs cn K G B H ((j,.ref b)::es) (b::bs) ((cn j,ds)::gs)
section
variable{K:KA}{j:κ}
def qs.ext(h:qs g K G B H es bs gs)(e:c8 G H l i):qs g K l B i es bs gs:=by
 induction h with
 |nil=>exact .nil
 |cons a f d c _ b=>exact .cons (e.hh _ _ a) (f.be e.gg) (e.fr _ _ a d _6) c b
def qs.keep(h:qs l K G B H es bs gs)(k:∀b∈bs,m b=H b):qs l K G B m es bs gs:=by
 induction h with
 |nil=>exact .nil
 |cons i g f e _ a=>exact .cons ((k _ iM).trans i) g f e (a λc d=>k c (iI _ d))
def qs.lP(h:qs n K G B H es bs gs):∀b∈bs,(∃d,H b=a_ (.au d))/\G b=d_/\B b=d_:=by
 induction h with
 |nil=>exact λb f=>nomatch f
 |cons l m i g _ e=>
  intro c a;rcases l_.mp a with rfl|a
  .exact⟨⟨_,l⟩,i,g⟩
  .exact e c a
def qs.len(h:qs b K G B H es bs gs):_7 gs=_7 es:=by
 induction h with
 |nil=>rfl
 |cons _ _ _ _ _ a=>rw[iC,iC,a]
def qs.at(J:∀j,of (l j)=a_ j)(h:qs l K G B H es bs gs):bs.Nodup->mw es j=a_ v->∃b a,v=.ref b/\b∈bs/\H b=a_ (.au a)/\_7 a<=(gs.map λp=>p.2.length).sum/\
  ∀{C A E z},qs l K C B A es bs gs->A b=a_ (.au a)->gr K C E z->qs l K C B (eT A b (.au (a++[z]))) es bs (Le of l j E gs):=by
 induction h with
 |nil=>intro _ e;cases e
 |@cons i b a ds er br gs T Q Y U _ N=>
  intro L e;obtain⟨d,u⟩:=B_.mp L;unfold Le;rw[J]
  by_cases w:i=j
  .subst w;rw[qq _6]at e;cases e;refine⟨b,a,_6,iM,T,by rw[<-Q.length];exact mO _ _,λg x y=>?_⟩;rw[iH _6];cases g with
   |cons s r o n m=>rw[x]at s;cases s;exact .cons aj (r.append (cr.pv y)) o n (m.keep λc f=>ai (by rintro rfl;exact d f))
  .rw[ma w]at e;obtain⟨c,I,rfl,f,O,M,q⟩:=N u e;refine⟨c,I,_6,iI _ f,O,kC M (Nat.le_add_left _ _),λg x y=>?_⟩;rw[iG λz=>w (jM z)];cases g with
   |cons s r o n m=>exact .cons (by rwa[ai (by rintro rfl;exact d f)]) r o n (q m x y)
def qs.put(d:∀j,of (c j)=a_ j)(h:qs c K G B H es bs gs)(e:mw es j=d_)(g:H l=a_ (.au [z]))(gl:G l=d_)(bl:B l=d_)(r:gr K G q z):qs c K G B H (es++[(j,.ref l)]) (bs++[l]) (Le of c j q gs):=by
 induction h with
 |nil=>exact .cons g (cr.pv r) gl bl .nil
 |@cons i b s u er v gs p o n m _ f=>
  by_cases a:i=j
  .rw[qq a]at e;cases e
  .rw[ma a]at e;unfold Le;rw[d,iG λz=>a (jM z)];exact .cons p o n m (f e)
end
def CU{j:κ}(h:mw es j=d_):ku es j v=es++[(j,v)]:=by unfold ku;rw[Nh,h];rfl
end
def dg.chg{K:KA}(R:dg K B G H Z δ)(r:G c=d_)(w:B c=d_)(no:∀(j:g_) s,δ[j]?=a_ s->s.own=c_->Z[j]?≠a_ (a_ (V.ref c)))(o:HO):dg K B G (eT H c o) Z δ:=by
 refine⟨λb u q=>by rw[ai (a8 q w)];exact R.bh b u q,λb u q=>by rw[ai (a8 q r)];exact R.gh b u q,R.len,λj t q=>?_,R.own,R.dis,R.gb⟩;obtain⟨l,i,e⟩:=R.sl j t q;have h:∀b,t.own=c_->l=a_ _->b≠c:=λb p v y=>by subst y;exact no j t q p (by rw[i,v])
 refine⟨l,i,?_⟩;cases t with
 |no=>trivial
 |pu d=>exact e
 |bo d=>exact e
 |ow x=>obtain⟨b,f,a,m,g⟩:=e;exact⟨b,f,a,by rwa[ai (h b _6 a)],g⟩
 |od t n=>
  cases t with
  |false=>obtain⟨b,f,a,m,g⟩:=e;exact⟨b,f,a,by rwa[ai (h b _6 a)],g⟩
  |true=>obtain⟨b,f,a,m,g⟩:=e;exact⟨b,f,a,by rwa[ai (h b _6 a)],g⟩
def dg.drop{K:KA}(R:dg K B G H Z δ)(i:g_):dg K B G H Z (δ.set i .no):=by
 have b:∀{j}{s},(δ.set i .no)[j]?=a_ s->s.own=c_->i≠j/\δ[j]?=a_ s:=λ{j s} q m=>by
  by_cases z:i=j
  .subst z;have f:i<_7 δ:=by have:=(h_.mp q).1;rwa[lO]at this
   rw[jQ f]at q;cases q;cases m
  .rw[jL z]at q;exact⟨z,q⟩
 refine⟨R.bh,R.gh,by rw[lO];exact R.len,λj s q=>?_,λj s a e d c=>R.own j s a (b e d).2 d c,λj k s t a e d c g l h=>R.dis j k s t a (b e c).2 (b d g).2 c g l h,R.gb⟩
 by_cases z:i=j
 .subst z;have f:i<_7 δ:=by have:=(h_.mp q).1;rwa[lO]at this
  rw[jQ f]at q;cases q;exact⟨Z[i]'(by rwa[R.len]),iR _,trivial⟩
 .rw[jL z]at q;exact R.sl j s q
def Bj(Z:St)(δ:En)(c:o_):Prop:=∀(j:g_) s,δ[j]?=a_ s->s.own=c_->Z[j]?≠a_ (a_ (V.ref c))
def dg.give{K:KA}(R:dg K B G H Z δ)(m:G c=d_)(l:H c=a_ o)(no:Bj Z δ c):dg K B (eT G c o) H Z δ:=by
 refine⟨R.bh,λb u q=>?_,R.len,λj t q=>?_,λj s b e d a=>?_,R.dis,R.gb⟩
 .by_cases z:b=c
  .subst z;rw[aj]at q;rwa[l]
  .rw[ai z]at q;exact R.gh b u q
 .obtain⟨i,h,f⟩:=R.sl j t q;exact⟨i,h,f.gmono (cq m _)⟩
 .obtain⟨g,n⟩:=R.own j s b e d a;refine⟨?_,n⟩;have:b≠c:=by rintro rfl;exact no j s e d a
  rwa[ai this]
def qs.give[P_ κ](d:KKd X κ){es:b_ (κ×V)}(h:qs d.cn (kx X) G B H es bs gs)(s:bs.Nodup)(R:dg (kx X) B G H Z δ)(e:c8 E B G H)(no:∀c∈bs,Bj Z δ c):
  ∃a,ca G a/\dg (kx X) B a H Z δ/\c8 E B a H/\d.DenX a (gs.map λp=>(p.1,.au p.2)) es/\∀c,c∉bs->a c=G c:=by
 induction h with
 |nil=>exact⟨G,ca.refl G,R,e,d.nil G,λY Y=>rfl⟩
 |@cons j b n I er J gs r x w v _ u=>obtain⟨l,i⟩:=B_.mp s;obtain⟨a,o,C,y,A,q⟩:=u i λc f=>no c (iI _ f);have m:=(q b l).trans w;have g:ca a (eT a b (.au n)):=cq m _;refine⟨eT a b _,o.trans g,C.give m r (no b iM),y.frzO v m r,d.cons ⟨b,n,_6,gL.of aj,x.be (o.trans g)⟩ (d.dmono g A),λc f=>?_⟩;rw[ai (by rintro rfl;exact f iM)];exact q c λz=>f (iI _ z)
noncomputable def MG{κ:Type}[P_ κ](of:D->f_ κ)(e:κ->D)(a:g_)(c b:En->ce):b_ D->En->b_ (D×b_ D)->f_ (En×b_ (D×b_ D))
 |[],δ,gs=>a_ (δ,gs)
 |d::f,δ,gs=>match c (δ.set a (.pu d)),b (δ.set a (.pu d))with
  | .ok k, .ok v => (match of k with
   |some j=>if _7 gs<iN/\(gs.map λp=>p.2.length).sum<iN then MG of e a c b f (δ.set a (.pu d)) (Le of e j v gs)else d_
   |none=>d_)
  |_,_=>d_
def Tc{κ:Type}[P_ κ](t:r_)(of:D->f_ κ)(h:κ->D)(f a:g_)(r:En->f8)(e d:En->ce):En->fc:=λδ=>match δ[f]? with
 | a_ (.od b []) => if b = t /\ a ≠ f then (match r (δ.set f .no) with
  | .ok g => (match MG of h a e d g (δ.set f .no) [] with
   |some p=>.nx (p.1.set f (.pu (.js t (p.2.map λq=>(q.1,.au q.2)))))
   |none=>.st)
  |.er c=>.er c
  |.st=>.st)else .st
 |_=>.st
section
variable[P_ κ]
def GI(f:jd a=c_)(d:jd b=c_):((nU c (jI [a,b] e)).all (λx=> !x.1)&&(uR c (qU [] e)).all (λx=>x.1.isSome)
  &&decide (([a,b]:b_ Expr).length+([]:b_ pS).length+(if([]:b_ pS).isEmpty then 0 else 1)<30))=c_:=by
 rw[qp (by rw[kJ,kJ,f,d];rfl)];rfl
def MJ(d:jd a=c_):((nU b (jI [a] c)).all (λx=> !x.1)&&(uR b (qU [] c)).all (λx=>x.1.isSome)
  &&decide (([a]:b_ Expr).length+([]:b_ pS).length+(if([]:b_ pS).isEmpty then 0 else 1)<30))=c_:=by
 rw[qp (by rw[kJ,d];rfl)];rfl
def DQ{Z:St}(h:Z[f]?=a_ o):Z.set f o=Z:=by
 refine rN λi=>?_
 by_cases e:f=i
 .subst e;rw[jQ (h_.mp h).1,h]
 .rw[jL e]
inductive GrS(kk:KKd X κ)(G0 B G1:Hp)(f:g_)(a:o_)(δ2:En)(gs:b_ (D×b_ D))(σ':St)(H':Hp):Prop
 |mk {G2 es bs} (_:ca G1 G2) (_:dg (kx X) B G2 H' σ' δ2) (_:c8 G0 B G2 H') (_:σ'[f]?=a_ (a_ (V.ref a))) (_:H' a=a_ (kk.mkH es)) (_:G2 a=d_) (_:qs kk.cn (kx X) G2 B H' es bs gs) (_:bs.Nodup) (_:Bj σ' δ2 a) (_:∀c∈bs,Bj σ' δ2 c):GrS kk G0 B G1 f a δ2 gs σ' H'
set_option tactic.hygienic true in
def ZU(d:KKd X κ)(hp:vN (jG X.prog X.w) X.A X.bi X.xe)(Q:X.calm=c_)(hu:X.A.units+5<lN)(hi:Tu X B E (.Name y py) iter r)(hg:PG X (.Name y py) (vp jt))(hv:PE X (.Name x p) (ya f))
  (hk:f7 X B E ke gk)(hval:f7 X B E ve gv)(n1:jd ke=c_)(n2:jd ve=c_)(l1:(ap.endLine==cp.line)=c_)(l2:(ap2.endLine==cp2.line)=c_)(hs:∀x,oS iter X.bi x=Q_ x):
  yd X G0 B E (.For (.Name y py) iter [.Expr (.Call (.Attribute (.Call (.Attribute (.Name x p) "setdefault" ap) [ke,.List [] lp] [] cp) "append" ap2) [ve] [] cp2) ep] [] pos) (Tc d.t d.of d.cn f jt r gk gv):=by
 rintro ξ s Z H D I ⟨G,δ,R,ex,q⟩
 unfold Tc at q;split at q
 case h_2=>exact q.elim
 rename_i t' ed;split at q
 case isFalse=>exact q.elim
 rename_i hc2;obtain⟨rfl,njf⟩:=hc2;obtain⟨o,q1,q2⟩:=R.sl f _ ed;obtain⟨a,rfl,ha⟩:=d.st0 q2;obtain⟨ga,ba⟩:=R.own f _ a ed _6 q1;have R0:=R.drop f;generalize hδ:δ.set f .no=T at q R0;have no0:Bj Z T a:=λj s' n e2 e3=>by
  rw[<-hδ]at n
  by_cases z:f=j
  .subst z;have hl:=(h_.mp ed).1;rw[jQ hl]at n;cases n;cases e2
  .rw[jL z]at n;exact z (R.dis f j _ _ a ed n _6 e2 q1 e3)
 have body:PSs X [.Expr (.Call (.Attribute (.Call _ [ke,.List [] lp] [] cp) "append" ap2) [ve] [] cp2) ep] _:=
  Dc (uq (B8 mU sJ sL xr (B8 qP rC vE (d.sd hu) hv (jy hk (jy (BV qc) qc _6) (ar n1)) _6 (GI n1 _6) l1 (ar n1) _6) (jy hval qc (ar n2)) _6 (MJ n2) l2 (ar n2) _6) _6)
 have ρ:=Px (pos:=pos) hp Q hi hg body hs;cases er:r T with
 |st=>rw[er]at q;exact q.elim
 |er c=>
  rw[er]at q;exact jf (ρ ξ s Z H {nx:=λ_ _=>T_,rt:=λ_ _=>T_} I ⟨G,T,R0,by rw[er];exact λG' H' e=>q G' H' (ex.trans e)⟩) λfl s' z=>by
   cases fl with
   |next=>obtain⟨_,_,_,z⟩:=z;exact z.elim
   |ret u=>obtain⟨_,_,_,_,_,z⟩:=z;exact z.elim
   |brk=>obtain⟨_,_,_,z⟩:=z;exact lV z
   |cont=>obtain⟨_,_,_,z⟩:=z;exact lV z
 |ok ds=>
  rw[er]at q;dsimp only at q;cases eg:MG d.of d.cn jt gk gv ds T []with
  |none=>rw[eg]at q;exact q.elim
  |some pr=>
   obtain⟨δe,ge⟩:=pr;rw[eg]at q;refine jf (ρ ξ s Z H {nx:=GrS d G0 B G f a δe ge,rt:=λ_ _=>T_} I ⟨G,T,R0,?_⟩) λfl s' z=>?_
   .rw[er];intro J G1 H1 n ok;refine⟨λi m M H'=>m=_7 ds-i/\i<=_7 ds/\∃C gs,GrS d G0 B G1 f a C gs M H'/\MG d.of d.cn jt gk gv (ds.drop i) C gs=a_ _,
     ⟨ds.length,by simp,jW _,T,[],⟨ca.refl G1,R0.ext n,ex.trans n,q1,n.hh _ _ ha,n.fr _ _ ha ga (d.nf _),.nil,nE,no0,λc Q=>nomatch Q⟩,by exact eg⟩,?_⟩
    rintro i m τ H2 ⟨rfl,hi2,C,gs,@⟨G2,es,bs,s2,R2,x2,f2,a2,g2,β,U,O,Y⟩,g⟩
    obtain⟨okg,oks⟩:=ok i G2 H2 ⟨s2,R2.bh⟩ R2.gh
    by_cases hl:i<_7 ds
    case neg=>
     have z:i=_7 ds:=by lia
     subst z;rw[uF]at g;cases g;exact .inl ⟨oks (iF _),n.gg.trans s2,R2,x2,f2,a2,g2,β,U,O,Y⟩
    obtain⟨go,yl⟩:=okg ds[i] (by simp);rw[lG hl]at g;refine .inr ⟨go,λM H'=>i+1<=_7 ds/\∃C gs,GrS d G0 B G1 f a C gs M H'/\MG d.of d.cn jt gk gv _ C gs=a_ _,
     by rintro M H' ⟨n1,n2⟩;exact⟨_,vH hl (mH _),_6,n1,n2⟩,λv H3 yy=>?_⟩
    obtain⟨G3,e3,dn⟩:=yl v H3 yy;have R3:=(R2.ext e3).set (i:=jt) dn;unfold MG at g;split at g
    case h_2=>cases g
    rename_i dk dv ek χ;split at g
    case h_2=>cases g
    rename_i j ej;split at g
    case isFalse=>cases g
    rename_i hsz;generalize hδ3:C.set jt _=N at R3 g ek χ;have h:∀c,Bj τ C c->Bj (τ.set jt (a_ v)) N c:=λc Q j' s' n e2 e3=>by
     rw[<-hδ3]at n
     by_cases z:jt=j'
     .subst z;have hl:jt<_7 C:=by have:=(h_.mp n).1;rwa[lO]at this
      rw[jQ hl]at n;cases n;cases e2
     .rw[jL z]at n e3;exact Q j' s' n e2 e3
    have f3:(τ.set jt (a_ v))[f]?=a_ (a_ (V.ref a)):=by rwa[jL njf]
    have a3:=e3.hh _ _ a2;have gr3:=β.ext e3;refine⟨.ref a,f3,d.ty a3,G3,N,R3,?_⟩;rw[ek];intro yv G4 H4 e4 dy;refine⟨jW _,λl η=>?_⟩;have e5:c8 G4 H4 G4 (eT H4 l (.au [])):=c8.own e4.gh _ η;have γ:=e4.trans e5;have a5:=γ.hh _ _ a3;have g5:=γ.fr _ _ a3 (e3.fr _ _ a2 g2 (d.nf _)) (d.nf _);have ι:=gr3.ext γ;have R5:=R3.ext γ;have x5:=(x2.trans e3).trans γ;have s5:=(s2.trans e3.gg).trans γ.gg;have hla:l≠a:=by rintro rfl;rw[aj]at a5;exact d.neL _ _ (jM a5).symm
    have hlb:∀b∈bs,l≠b:=λb hb z=>by obtain⟨⟨ws,hw⟩,_⟩:=(gr3.ext e4).lP b hb;rw[<-z,η]at hw;cases hw
    have bl:=ff (R3.ext e4).bh η;refine⟨a,yv,l,es,j,_6,_6,a5,d.be (d.key ej dy e4.gh) e5.hh,by rw[<-β.len];exact hsz.1,λw ew=>?_,λen=>?_⟩
    .obtain⟨b,vs,rfl,hb,hw,lw,nx⟩:=ι.at d.of_cn U ew;refine⟨.inl ⟨_6,vs,gL.of hw⟩,G4,N,R5,?_⟩;rw[χ];intro zv G7 H7 L dz;have gr7:=ι.ext L;have hw7:=L.hh _ _ hw;obtain⟨_,gb7,bb⟩:=gr7.lP b hb;have hba:a≠b:=by rintro rfl;rw[a5]at hw;exact d.neL _ _ (jM hw)
     refine⟨b,vs,zv,_6,_6,hw7,sR lw hsz.2,hl,N,_,⟨s5.trans L.gg,(R5.ext L).chg gb7 bb (h b (Y b hb)) _,(x5.trans L).wr gb7 bb,f3,?_,L.fr _ _ a5 g5 (d.nf _),nx gr7 hw7 dz,U,h a O,λc Q=>h c (Y c Q)⟩,g⟩;rw[ai hba];exact L.hh _ _ a5
    .have R6:=R5.chg g5 ba (h a O) (d.mkH (ku es j (.ref l)));have υ:eT (eT H4 l (.au [])) a (d.mkH (ku es j (.ref l))) l=a_ (.au []):=by rw[ai hla,aj]
     refine⟨.inl ⟨_6,[],gL.of υ⟩,G4,N,R6,?_⟩;rw[χ];intro zv G7 H7 L dz;have φ:=L.fr _ _ υ (ff e4.gh η) _6;have gr6:qs d.cn _ G4 B (eT _ a (d.mkH (ku es j (.ref l)))) es bs gs:=ι.keep λb hb=>by obtain⟨⟨ws,hw⟩,_⟩:=ι.lP b hb;rw[ai (by rintro rfl;rw[a5]at hw;exact d.neL _ _ (jM hw))]
     have nl:Bj _ N l:=λj' s' n e2 e3=>by obtain⟨o',z1,z2⟩:=(R3.ext e4).sl j' s' n;rw[e3]at z1;cases z1;obtain⟨a',z,u,z3,_⟩:=z2.ref e2;cases z;rw[η]at z3;cases z3
     refine⟨l,[],zv,_6,_6,(L.hh _ _ υ),by decide,hl,N,_,.mk (es:=ku es j (.ref l)) (bs:=bs++[l]) (s5.trans L.gg) ((R6.ext L).chg φ bl nl _) (((x5.wr g5 ba).trans L).wr φ bl) f3 ?_ (L.fr _ _ aj g5 (d.nf _)) ?_ ?_ (h a O) λc Q=>?_,g⟩
     .rw[ai hla.symm];exact(L.hh _ _ aj)
     .rw[CU en];exact((gr6.ext L).keep λb hb=>by rw[ai (hlb b hb).symm]).put d.of_cn en aj φ bl dz
     .rw[rL];refine⟨U,by simp,λb hb c Q=>?_⟩;have:c=l:=by simpa using Q
      subst this;exact(hlb b hb).symm
     .rcases s_.mp Q with Q|Q
      .exact h c (Y c Q)
      .have:c=l:=by simpa using Q
       subst this;exact nl
   .cases fl with
    |next=>
     obtain⟨M,H',I',@⟨G2,es,bs,s2,R2,x2,f2,a2,g2,β,U,O,Y⟩⟩:=z;obtain⟨o,I'',dn⟩:=d.fin I' a2;obtain⟨G3,s3,R3,x3,d3,k3⟩:=qs.give d β U R2 x2 Y;have μ:=(k3 a λhb=>by
      obtain⟨⟨ws,hw⟩,_⟩:=β.lP a hb;rw[a2]at hw;exact d.neL _ _ (jM hw)).trans g2
     have sm:ca G3 (eT G3 a o):=cq μ _;have R5:=((R3.chg μ ba O o).give μ aj O).set (i:=f) (dn _ _ aj (d.dmono sm d3));rw[DQ f2]at R5;exact⟨M,_,I'',q M _ _ ((s2.trans s3).trans sm) R5 (x3.frzT ba μ)⟩
    |ret u=>obtain⟨_,_,_,_,_,z⟩:=z;exact z.elim
    |brk=>obtain⟨_,_,_,z⟩:=z;exact lV z
    |cont=>obtain⟨_,_,_,z⟩:=z;exact lV z
end
noncomputable def K4(a b:g_)(g:En->ce):b_ D->En->f_ En
 |[],δ=>a_ δ
 |d::f,δ=>match (δ.set a (.pu d))[b]?,g (δ.set a (.pu d))with
  | a_ (.ow xs), .ok e => (match yz e with
   |some c=>if _7 xs+_7 c<=iN then K4 a b g f ((δ.set a (.pu d)).set b (.ow (xs++c)))else d_
   |none=>d_)
  |_,_=>d_
def Hh(b c d:g_)(g:En->ce):En->fc:=λδ=>match δ[b]? with
 | a_ (.ow e) => if c ≠ b /\ d ≠ b then (match K4 c d g e δ with
  |some a=>.nx a
  |none=>.st)else .st
 |_=>.st
section
inductive FxS(X:Cx)(G0 B G:Hp)(iw jt iy:g_)(g:En->ce)(a:o_)(vs:b_ V)(ws:b_ D)(δe:En)(i:g_)(σ':St)(H':Hp):Prop
 |mk {G2 δ2} (_:ca G G2) (_:dg (kx X) B G2 H' σ' δ2) (_:c8 G0 B G2 H') (_:σ'[iw]?=a_ (a_ (V.ref a))) (_:H' a=a_ (.au vs)) (_:δ2[iw]?=a_ (.ow ws)) (_:K4 jt iy g (ws.drop i) δ2=a_ δe):FxS X G0 B G iw jt iy g a vs ws δe i σ' H'
set_option tactic.hygienic true in
def UL(hp:vN (jG X.prog X.w) X.A X.bi X.xe)(hc:X.calm=c_)(hw:PE X (.Name x px) (ya I))(hg:PG X (.Name z pz) (vp o))(hv:PE X (.Name y py) (ya O))
  (ha:k6 X B E e g)(N:jd e=c_)(l1:(ap.endLine==cp.line)=c_):
  yd X G0 B E (.For (.Name z pz) (.Name x px) [.Expr (.Call (.Attribute (.Name y py) "extend" ap) [e] [] cp) ep] [] pos) (Hh I o O g):=by
 refine PS.imp (Px hp hc (SQ hw) hg (Dc (uq (B8 mU _B _C Sn hv (jy ha qc (ar N)) _6 (MJ N) l1 (ar N) _6) _6)) (λ_=>rfl)) λD Z H ⟨G,δ,R,ex,q⟩=>?_;unfold Hh at q;split at q
 case h_2=>exact q.elim
 rename_i f ed;split at q
 case isFalse=>exact q.elim
 rename_i hn;obtain⟨a,C,q1,q2,q3,q4,q5⟩:=R.owAt ed;cases eg:K4 o O g f δ with
 |none=>rw[eg]at q;exact q.elim
 |some L=>
  rw[eg]at q;refine⟨.ref a,q1,a,_6,.inl ⟨⟨C,gL.of q2⟩,(⟨λi m h H'=>m=_7 f-i/\i<=_7 f/\FxS X G0 B G I o O g a C f L i h H',
   ⟨f.length,by simp,jW _,ca.refl G,R,ex,q1,q2,ed,eg⟩,?_⟩)⟩⟩
  rintro i m J H2 ⟨rfl,hi2,@⟨G2,M,s2,R2,x2,f2,U,d2,c⟩⟩
  have lw:=q3.length
  by_cases hl:i<_7 f
  case neg=>
   have z:i=_7 f:=by lia
   subst z;rw[uF]at c;cases c;exact .inl ⟨⟨C,gL.of U,by lia⟩,q J G2 H2 s2 R2 x2⟩
  obtain⟨b,ws',e1,e2,μ,gb,bb⟩:=R2.owAt d2;rw[f2]at e1;cases e1;rw[U]at e2;cases e2;obtain⟨v,ev,dv⟩:=μ.get (iR hl);refine .inr ⟨⟨C,v,gL.of U,ev⟩,λh H'=>i+1<=_7 f/\FxS X G0 B G I o O g a C f L _ h H',
   by rintro h H' ⟨N,n2⟩;exact⟨_,vH hl (mH _),_6,N,n2⟩,λw H3 ⟨eH,yy⟩=>?_⟩
  cases eH;have Q:=yy C (gL.of U);rw[ev]at Q;cases Q;rw[lG hl]at c;have Y:=R2.set (i:=o) dv;unfold K4 at c;split at c
  case h_2=>cases c
  rename_i xs d ek T;split at c
  case h_2=>cases c
  rename_i es ei;split at c
  case isFalse=>cases c
  have d3:(M.set o (.pu f[i]))[I]?=a_ (.ow f):=by rwa[jL hn.1]
  generalize φ:M.set o _=ε at Y c ek T d3;have f3:(J.set o (a_ v))[I]?=a_ (a_ (V.ref a)):=by rwa[jL hn.1]
  obtain⟨l,us,r,p,s,z4,z5⟩:=Y.owAt ek;have η:l≠a:=by
   rintro rfl
   exact hn.2 (Y.dis O I _ _ l ek d3 _6 _6 r f3)
  refine⟨.ref l,r,.inl ⟨_6,us,gL.of p⟩,G2,ε,Y,?_⟩;rw[T];intro u G4 H4 n av;have ζ:∃b j,u=.ref b/\(gL (kx X) H4 b j\/ng (kx X) H4 b j)/\cr (kx X) G4 es j:=by
   cases d with
   |au κ=>cases ei;obtain⟨b,j,r,p,s⟩:=av.au n.gh;exact⟨b,j,r,.inl p,s⟩
   |ci κ=>cases ei;obtain⟨b,j,r,p,s⟩:=av.ci n.gh;exact⟨b,j,r,.inr p,s⟩
   |_=>cases ei
  obtain⟨b,j,rfl,sq,dl⟩:=ζ;have l1:=s.length;have l2:=dl.length;have h4:=n.hh _ _ p;refine⟨l,b,us,j,_6,_6,h4,sq,by lia,hl,s2.trans n.gg,dg.wr (Y.ext n) ek r h4 ((s.be n.gg).append dl),c8.wr (x2.trans n) (n.fr _ _ p z4 _6) z5,f3,?_,?_,c⟩
  .rw[ai η.symm];exact n.hh _ _ U
  .rwa[jL hn.2]
end
section
noncomputable def ux(c b:g_)(g:En->ce):En->fc:=λδ=>match δ[c]?,δ[b]?,g δ with
 | a_ (.ow xs), a_ (.ow a), .ok (.int i) => (match wX i a.length with
  | a_ n => (match a[n]? with
   |some d=>if c≠b/\_7 xs<iN/\-(2^63)<=i/\i<2^63 then .nx ((δ.set b (.ow (a.eraseIdx n))).set c (.ow (xs++[d])))else .st
   |none=>.st)
  |none=>.st)
 |_,_,_=>.st
set_option tactic.hygienic true in
def DZ(hx:PE X (.Name x U) (ya M))(hy:PE X (.Name y T) (ya L))(he:f7 X B E e g)(o:jd e=c_)(l1:(ap.endLine==cp.line)=c_)(l2:(z.endLine==r.line)=c_):
  yd X G0 B E (.Expr (.Call (.Attribute (.Name x U) "append" ap) [.Call (.Attribute (.Name y T) "pop" z) [e] [] r] [] cp) Y) (ux M L g):=by
 have h:∀{a}{j}{f},jd a=c_->((nU f (jI [a] j)).all _&&(uR f (qU [] j)).all (λx=>x.1.isSome)
  &&decide (([a]).length+([]:b_ pS).length+(if([]:b_ pS).isEmpty then 0 else 1)<30))=c_:=λ{a j f} hn=>by
  rw[qp (by rw[kJ,hn];rfl)];rfl
 refine PS.imp (uq (B8 mU sJ sL xr hx (jy (B8 mU PySem.F.slot_list_pop PySem.F.type_list_pop AY hy (jy he qc (ar o)) _6 (h o) l2 (ar o) _6) qc _6) _6 (h _6) l1 _6 _6) _6) λD Z H ⟨G,δ,R,ex,q⟩=>?_;unfold ux at q;split at q
 case h_2=>exact q.elim
 rename_i xs ys i O p eg;split at q
 case h_2=>exact q.elim
 rename_i n en;split at q
 case h_2=>exact q.elim
 rename_i d ed;split at q
 case isFalse=>exact q.elim
 rename_i hc;obtain⟨N,h2,h3,h4⟩:=hc;obtain⟨a,J,C,A,Q,a4,a5⟩:=R.owAt O;obtain⟨b,I,u,m,s,b4,b5⟩:=R.owAt p;have l:a≠b:=by rintro rfl;exact N (R.dis M L _ _ a O p _6 _6 C u)
 refine⟨.ref a,C,.inl ⟨_6,J,gL.of A⟩,.ref b,u,.inl ⟨_6,I,gL.of m⟩,G,δ,R,?_⟩;rw[eg];intro w G1 H1 c dw;obtain⟨v,ev,dv⟩:=s.get ed;refine⟨b,I,i,n,v,_6,by rw[dw],c.hh _ _ m,h3,h4,by rwa[<-s.length],ev,?_⟩;have ι:=c.hh _ _ A;refine⟨a,J,v,_6,_6,by rwa[ai l],by rwa[<-Q.length],?_⟩;have R2:=dg.wr (dg.wr (R.ext c) p u (c.hh _ _ m) ((s.be c.gg).eraseIdx n)) (by rwa[jL (pE N)]) C (by rwa[ai l]) ((Q.be c.gg).append (cr.pv (dv.be c.gg)));exact q Z G1 _ c.gg R2 (((ex.trans c).wr (c.fr _ _ m b4 _6) b5).wr (c.fr _ _ A a4 _6) a5)
end
mutual
def Nm:g_->GT->Expr->b_ x_
 |0,_,_=>[]
 |n+1,T,e=>match e with
  |.Name x _=>[x]
  |.IfExp c a b _=>Dz n T c++Nm n T a++Nm n T b
  |.BoolOp _ vs _=>vs.flatMap (Nm n T)
  |e=>Dz n T e
def Dz:g_->GT->Expr->b_ x_
 |0,_,_=>[]
 |n+1,T,e=>match e with
  |.BinOp a _ b _=>Dz n T a++Dz n T b
  |.UnaryOp _ a _=>Dz n T a
  |.BoolOp _ vs _=>vs.flatMap (Dz n T)
  |.IfExp c a b _=>Dz n T c++Nm n T a++Nm n T b
  |.Compare l _ rs _=>Dz n T l++rs.flatMap (Dz n T)
  |.Tuple es _ _=>es.flatMap (Nm n T)
  |.List es _=>es.flatMap (Nm n T)
  |.Subscript a i _=>Dz n T a++Dz n T i
  |.ListComp elt gens _ _=>Nm n T elt++gens.flatMap λg=>Dz n T g.iter++g.ifs.flatMap (Dz n T)
  | .Call (.Name f _) args _ _ => (match T.fns f with
   |some s=>(s.ms.zip args).flatMap λp=>if p.1 then Dz n T p.2 else Nm n T p.2
   |none=>if(T.cls f).isSome then args.flatMap (Nm n T)else args.flatMap (Dz n T))
  |.Call (.Attribute o _ _) args _ _=>Dz n T o++args.flatMap (Nm n T)
  |_=>[]
end
noncomputable def gR(T:GT)(st:S_):b_ x_:=match st with
 |.Return (a_ e) _=>Nm 30 T e
 |.Assign [.Name _ _] e _=>Nm 30 T e
 |.Assign [.Subscript _ k _] e _=>Nm 30 T e++Dz 30 T k
 |.AugAssign _ _ e _=>Dz 30 T e
 |.Expr (.Call (.Attribute (.Name _ _) m _) a _ _) _=>if m="extend" then a.flatMap (Dz 30 T)else a.flatMap (Nm 30 T)
 |.Expr e _=>Dz 30 T e
 |.If c _ _ _=>Dz 30 T c
 |.For _ (.Name x p) [.Expr (.Call (.Attribute (.Name _ _) m _) [_] _ _) _] _ _=>if m="extend" then[]else[x]
 |.For _ iter _ _ _=>Nm 30 T iter
 |.Try [.Expr e _] _ _ _ _=>Dz 30 T e
 |.Try [.Assign [.Name _ _] e _] _ _ _ _=>Dz 30 T e
 |_=>[]
def LI(C:SC)(xs:b_ x_):b_ g_:=xs.filterMap (slot C)
noncomputable def lu:Expr->f_ x_
 |.Name x _=>a_ x
 |_=>d_
def ij(h:lu e=a_ x):∃p,e=.Name x p:=by
 unfold lu at h;split at h
 .cases h;exact⟨_,_6⟩
 .cases h
noncomputable def M6(T:GT)(b:Ev)(C:SC)(e:Expr):f_ (En->ce):=match qj C "list" e with
 |some a=>a_ (g1 iu (uf b C a))
 | d_ => (match e with
  |.List c _=>if c.all jd then a_ (b9 (Gm b C c))else d_
  |_=>d_)
noncomputable def EI:b_ Expr->f_ (Expr×Expr)
 |[k,v]=>a_ (k,v)
 |_=>d_
def Qw(h:EI es=a_ (k,v)):es=[k,v]:=by
 cases es with
 |nil=>cases h
 |cons a r=>
  cases r with
  |nil=>cases h
  |cons b r=>
   cases r with
   |nil=>cases h;rfl
   |cons c r=>cases h
noncomputable def zf(b:Ev)(C:SC)(e:Expr):f_ (En->ResE):=match wy e with
 | a_ (o, m, a) => (match lu o, EI a with
  |some x,a_ (k,v)=>if decide (m="setdefault")&&jd k&&jd v then(slot C x).map λi=>gi i (uf b C k) (b C v)else d_
  |_,_=>d_)
 |none=>d_
section
def MK(h:k7 T u)(O:ls X C T E)(a:zf u C e=a_ f):aK X z B (ek (kx X) E) e f:=by
 unfold zf at a;cases l:wy e with
 |none=>rw[l]at a;cases a
 |some q=>
  obtain⟨o,m,b⟩:=q;obtain⟨y,w,rfl,n⟩:=kl l;rw[l]at a;dsimp only at a;cases j:lu o with
  |none=>rw[j]at a;cases a
  |some x=>
   obtain⟨p,rfl⟩:=ij j;rw[j]at a;cases d:EI b with
   |none=>rw[d]at a;cases a
   |some q=>
    obtain⟨k,v⟩:=q;cases Qw d;rw[d]at a;dsimp only at a
    by_cases c:(decide (m="setdefault")&&jd k&&jd v)=c_
    .rw[iH c]at a;simp only[iQ,n_]at c;obtain⟨⟨rfl,s⟩,r⟩:=c;cases g:slot C x with
     |none=>rw[g]at a;cases a
     |some i=>rw[g]at a;cases a;dsimp only;exact N8 (by have:=O.units;lia) (O.var g) (fk h O k) (h X C B E v O) s r n
    .rw[iG c]at a;cases a
end
noncomputable def Jx(T:GT)(b h:Ev)(C:SC)(x:x_)(e:Expr):En->fc:=match rg C x with
 |none=>zc
 | a_ i => (match e with
  | .Dict j d _ => (match j, d with
   |[],[]=>sf i
   |_,_=>zc)
  |.ListComp c gens a _=>de i (t5 b h C c gens a)
  | e => (match M6 T b C e with
   |some g=>if um e then de i g else zc
   | d_ => if um e then (match zf b C e with
    |some f=>ym i f
    |none=>dq i (b C e))else zc))
noncomputable def Qj(c:Ev)(C:SC)(x m:x_)(b:b_ Expr):En->fc:=match slot C x,b with
 |some i,[a]=>if m="append" then(if jd a then qi i (c C a)else zc)
  else if m="extend" then(if jd a then An i (uf c C a)else zc)
  else zc
 |_,_=>zc
def fz(is:b_ g_)(F:En->fc):En->fc:=λδ=>F (kO is δ)
noncomputable def XQ(i:g_)(δ:En):r_:=match δ[i]? with
 |some (.ow _)=>c_
 |_=>e_
abbrev Bv:=SC->b_ S_->En->fc
structure GrpQ where
 t:r_
 f:g_
 j:g_
 k:Expr
 v:Expr
noncomputable def Iw:b_ S_->f_ Expr
 |[.Expr e _]=>a_ e
 |_=>d_
def B0(h:Iw a=a_ e):∃p,a=[.Expr e p]:=by
 unfold Iw at h;split at h
 .cases h;exact⟨_,_6⟩
 .cases h
noncomputable def Ot:b_ Expr->f_ Expr
 |[k,.List [] _]=>a_ k
 |_=>d_
def Lj(h:Ot es=a_ k):∃p,es=[k,.List [] p]:=by
 unfold Ot at h;split at h
 .cases h;exact⟨_,_6⟩
 .cases h
noncomputable def B7:b_ Expr->f_ Expr
 |[k]=>a_ k
 |_=>d_
def qa(h:B7 es=a_ k):es=[k]:=by
 unfold B7 at h;split at h
 .cases h;rfl
 .cases h
def Aa(C:SC)(tg:Expr)(a:b_ S_):f_ GrpQ:=do
 let y <-lu tg;let (o,e,h) <-wy (<-Iw a);let b <-B7 h;let (d,g,i) <-wy o;let x <-lu d;let c <-Ot i;let f <-slot C x;let j <-rg C y
 if decide (g="setdefault")&&decide (e="append")&&jd c&&jd b then a_ ⟨C.td.contains x,f,j,c,b⟩else d_
inductive GrpS(C:SC)(tg:Expr)(body:b_ S_)(q:GrpQ):Prop
 |mk (y x:x_) (py px ap cp lp ap2 cp2 ep:h!) (_:tg=.Name y py) (_:body=[.Expr (.Call (.Attribute (.Call (.Attribute (.Name x px) "setdefault" ap) [q.k,.List [] lp] [] cp) "append" ap2) [q.v] [] cp2) ep]) (_:slot C x=a_ q.f) (_:rg C y=a_ q.j) (_:jd q.k=c_) (_:jd q.v=c_) (_:(ap.endLine==cp.line)=c_) (_:(ap2.endLine==cp2.line)=c_):GrpS C tg body q
set_option tactic.hygienic true in
def F5(a:Aa C tg b=a_ q):GrpS C tg b q:=by
 simp only[Aa,bind,tE]at a;obtain⟨y,u,Q,s,⟨o,L,T⟩,r,J,p,⟨I,M,U⟩,n,x,m,N,l,O,w,j,v,a⟩:=a;obtain⟨f,rfl⟩:=ij u;obtain⟨h,rfl⟩:=B0 s;obtain⟨e,d,rfl,A⟩:=kl r;obtain⟨H,z,rfl,B⟩:=kl n;cases qa p;obtain⟨g,rfl⟩:=ij m;obtain⟨i,rfl⟩:=Lj l;split at a
 .rename_i c;simp only[iQ,n_]at c;obtain⟨⟨⟨rfl,rfl⟩,G⟩,E⟩:=c;cases a;exact⟨y,x,f,g,H,z,i,e,d,h,_6,_6,w,v,G,E,B,A⟩
 .cases a
def LR(t:r_)(f j:g_)(r:En->f8)(b a:En->ce):En->fc:=if t then Tc c_ bx kT f j r b a else zc
structure ExtQ where
 w:g_
 j:g_
 y:g_
 e:Expr
def z0(C:SC)(tg iter:Expr)(b:b_ S_):f_ ExtQ:=do
 let z <-lu tg;let x <-lu iter;let (c,m,a) <-wy (<-Iw b);let y <-lu c;let e <-B7 a;let w <-slot C x;let j <-rg C z;let y <-slot C y
 if decide (m="extend")&&jd e then a_ ⟨w,j,y,e⟩else d_
inductive ExtS(C:SC)(tg iter:Expr)(body:b_ S_)(q:ExtQ):Prop
 |mk (z x y:x_) (pz px py ap cp ep:h!) (_:tg=.Name z pz) (_:iter=.Name x px) (_:body=[.Expr (.Call (.Attribute (.Name y py) "extend" ap) [q.e] [] cp) ep]) (_:slot C x=a_ q.w) (_:rg C z=a_ q.j) (_:slot C y=a_ q.y) (_:jd q.e=c_) (_:(ap.endLine==cp.line)=c_):ExtS C tg iter body q
set_option tactic.hygienic true in
def F3(b:z0 C tg iter d=a_ q):ExtS C tg iter d q:=by
 simp only[z0,bind,tE]at b;obtain⟨z,s,x,r,L,p,⟨I,m,a⟩,o,y,n,e,l,w,A,j,v,J,u,b⟩:=b;obtain⟨f,rfl⟩:=ij s;obtain⟨h,rfl⟩:=ij r;obtain⟨i,rfl⟩:=B0 p;obtain⟨H,B,rfl,E⟩:=kl o;obtain⟨g,rfl⟩:=ij n;cases qa l;split at b
 .rename_i c;simp only[iQ,n_]at c;obtain⟨rfl,G⟩:=c;cases b;exact⟨z,x,y,f,h,g,H,B,i,_6,_6,_6,A,v,u,G,E⟩
 .cases b
def E7(w j y:g_)(g:En->ce)(F:En->fc):En->fc:=λδ=>if XQ w δ then Hh w j y g δ else F δ
structure PopQ where
 x:g_
 y:g_
 e:Expr
def Ey(C:SC)(x m:x_)(b:b_ Expr):f_ PopQ:=do
 let (c,d,a) <-wy (<-B7 b);let y <-lu c;let e <-B7 a;let i <-slot C x;let j <-slot C y
 if decide (m="append")&&decide (d="pop")&&jd e then a_ ⟨i,j,e⟩else d_
noncomputable def J0(T:GT)(g n:Ev)(l:Bv)(C:SC)(st:S_):En->fc:=match st with
 | .Return o _ => (match o with
  |some e=>cj (g C e)
  |none=>zc)
 | .Assign p e _ => (match B7 p with
  | a_ t => (match lu t with
   |some x=>Jx T g n C x e
   |none=>zc)
  |none=>zc)
 | .Expr e _ => (match wy e with
  | a_ (o, m, h) => (match lu o with
   | a_ x => (match zf g C e with
    |some f=>uy f
    | d_ => (match Ey C x m h with
     |some q=>ux q.x q.y (g C q.e)
     |none=>Qj g C x m h))
   |none=>zc)
  |none=>if um e then Cd (g C e)else zc)
 |.If c a b _=>oj (n C c) (l C a) (l C b)
 | .For tg iter d i _ => (match i, EW C tg with
  | [], a_ f => if vq iter then (match Aa C tg d with
   |some q=>LR q.t q.f q.j (Fj g C tg iter) (g C q.k) (g C q.v)
   | d_ => (match z0 C tg iter d with
    |some q=>E7 q.w q.j q.y (uf g C q.e) (di f (Fj g C tg iter) (l C d))
    |none=>di f (Fj g C tg iter) (l C d)))else zc
  |_,_=>zc)
 | .While c d i _ => (match i with
  |[]=>NJ (n C c) (l C d)
  |_=>zc)
 |_=>zc
def NH(T:GT)(b a:Ev)(c:Bv)(C:SC)(st:S_):En->fc:=fz (LI C (gR T st)) (J0 T b a c C st)
def P4(f:S_->En->fc):b_ S_->En->fc
 |[]=>gw
 |[s]=>f s
 |s::r=>a9 (f s) (P4 f r)
def OW(T:GT)(b:Bv):Prop:=∀X C c B (E:XK) a,sK X C T E->Co X c B (ek (kx X) E) a (b C a)
section
set_option tactic.hygienic true in
def YS(h:k7 T i)(O:ls X C T E)(b:M6 T i C e=a_ g):Xb X B (ek (kx X) E) e g:=by
 unfold M6 at b;cases d:qj C "list" e with
 |some a=>rw[d]at b;cases b;obtain⟨p,q,rfl,f,c⟩:=tu O d;exact Md O.calm f (O.bl _ (by decide)) (fk h O a) c
 |none=>
  rw[d]at b;dsimp only at b;split at b
  .rename_i j _
   by_cases c:j.all jd=c_
   .rw[iH c]at b;cases b;exact Pk wb (Cz h O c)
   .rw[iG c]at b;cases b
  .cases b
def OM(h:k7 T r)(J:Hy T M)(O:sK X C T E):yd X y B (ek (kx X) E) (.Assign [.Name x c] e u) (Jx T r M C x e):=by
 unfold Jx;cases j:rg C x with
 |none=>exact tq
 |some i=>
  dsimp only;have w:yd X y B (ek (kx X) E) (.Assign [.Name x c] e u) (match M6 T r C e with
   |some g=>if um e then de i g else zc
   | d_ => if um e then (match zf r C e with
    |some f=>ym i f
    |none=>dq i (r C e))else zc):=by
   cases ho:M6 T r C e with
   |none=>
    by_cases l:um e=c_
    .rw[iH l];cases hf:zf r C e with
     |none=>have m:=h X C B E e O.tols;exact ZS m (O.st j m (l6 l))
     |some f=>have m:aK X y B _ e f:=MK h O.tols hf;exact UJ (O.st j m (l6 l))
    .rw[iG l];exact tq
   |some g=>
    dsimp only
    by_cases l:um e=c_
    .rw[iH l];have m:Xb X B _ e g:=YS h O.tols ho;exact DW m (O.st j m (l6 l))
    .rw[iG l];exact tq
  cases e with
  |Dict Y L p=>
   cases Y with
   |nil=>
    cases L with
    |nil=>exact LO (O.st j BY (l6 _6))
    |cons _ _=>exact tq
   |cons _ _=>exact tq
  |ListComp o gens a z=>
   have A:=Dv (B:=B) (E:=E) (pos:=z) (elt:=o) (gens:=gens) (scope:=a) h J O.tols;have v:∃b,rF (.ListComp o gens a z) (a_ (.Name x c)) u.line X.bi=Q_ b:=⟨_,_6⟩;obtain⟨b,v⟩:=v;cases b with
   |false=>exact DW A.1 (O.st j A.1 v)
   |true=>
    show yd X y B _ _ (de i _);obtain⟨l1,U,Q⟩:=El j;have hy:X.N[i]?=a_ x:=by rwa[O.n]
    have hl:L2.Xa X.bi.scope x:=by rw[O.s];exact D8 U
    have hN:X.N.Nodup:=by rw[O.n];exact O.nd
    cases MN (elt:=o) (gens:=gens) (scope:=a) h J O.tols with
    |st e=>rw[e];exact by rintro d s Z H D I ⟨G,δ,R,ex,q⟩;exact q.elim
    |ok eg eG st hA hF hE hi j=>rw[eG];subst eg;intro d s Z H D I q;obtain⟨cl,O2,Bk⟩:=st I.ok;exact UK O2 O.calm hA Bk hF hE hi hN hy hl (O.fn x Q) j v d s Z H D I q
  |_=>exact w
def Rn(d:jd a=c_):((nU b (jI [a] c)).all (λx=> !x.1)&&(uR b (qU [] c)).all (λx=>x.1.isSome)
  &&decide (([a]:b_ Expr).length+([]:b_ pS).length+(if([]:b_ pS).isEmpty then 0 else 1)<30))=c_:=by
 rw[qp (by rw[kJ,d];rfl)];rfl
set_option tactic.hygienic true in
def XC(h:k7 T j)(O:sK X C T E)(f:(n.endLine==l.line)=c_):yd X o B (ek (kx X) E) (.Expr (.Call (.Attribute (.Name x p) m n) d [] l) g) (Qj j C x m d):=by
 unfold Qj;split
 .rename_i i a e
  by_cases c:m="append"
  .subst c
   by_cases b:jd a=c_
   .rw[iH b];exact DY (O.var e) (h X C B E a O.tols) _6 (Rn b) f (ar b) _6 _6
   .rw[iG b];exact tq
  .rw[iG c]
   by_cases c:m="extend"
   .subst c
    by_cases b:jd a=c_
    .rw[iH b];exact DX (O.var e) (fk h O.tols a) _6 (Rn b) f (ar b) _6 _6
    .rw[iG b];exact tq
   .rw[iG c];exact tq
 .exact tq
set_option tactic.hygienic true in
def ZX(h:k7 T ev)(N:Hy T tv)(L:OW T bv)(O:sK X C T E){st:S_}:yd X J B (ek (kx X) E) st (J0 T ev tv bv C st):=by
 have hu:X.A.units+5<lN:=by have:=O.units;lia
 cases st with
 |Return o p=>
  cases o with
  |none=>exact tq
  |some e=>exact ZT (h X C B E e O.tols)
 |Assign M e p=>
  unfold J0;dsimp only;cases s:B7 M with
  |none=>exact tq
  |some t=>
   cases qa s;dsimp only;cases r:lu t with
   |some x=>obtain⟨_,rfl⟩:=ij r;exact OM h N O
   |none=>exact tq
 |Expr e p=>
  unfold J0;dsimp only;cases s:wy e with
  |none=>
   dsimp only
   by_cases n:um e=c_
   .rw[iH n];exact UM (h X C B E e O.tols) (l6 n)
   .rw[iG n];exact tq
  |some q=>
   obtain⟨o,m,I⟩:=q;obtain⟨ap,cp,rfl,hl⟩:=kl s;dsimp only;cases r:lu o with
   |none=>exact tq
   |some x=>
    obtain⟨_,rfl⟩:=ij r;dsimp only;cases Q:zf ev C _ with
    |some f=>exact LP (MK h O.tols Q) _6
    |none=>
     cases l:Ey C x m I with
     |none=>exact XC h O hl
     |some q=>
      simp only[Ey,bind,tE]at l;obtain⟨e0,s,⟨yo,m2,a⟩,r,y,h5,e,h6,i,H,j,w,l⟩:=l;cases qa s;obtain⟨β,U,rfl,h4⟩:=kl r;obtain⟨py,rfl⟩:=ij h5;cases qa h6;split at l
      .rename_i c;simp only[iQ,n_]at c;obtain⟨⟨rfl,rfl⟩,h3⟩:=c;cases l;exact DZ (O.var H) (O.var w) (h X C B E e O.tols) h3 hl h4
      .cases l
 |If c a b p=>exact eP (N X C B E c O.tols) (L X C J B E a O) (L X C J B E b O)
 |For tg iter d g p=>
  show yd X J B _ _ (match g,EW C tg with
   |[],a_ f=>if vq iter then _ else zc
   |_,_=>zc)
  cases g with
  |cons _ _=>exact tq
  |nil=>
   cases Q:EW C tg with
   |none=>exact tq
   |some f=>
    dsimp only
    by_cases n:vq iter=c_
    .rw[iH n];obtain⟨gl,G⟩:=LB O Q;have u:=ZW (pos:=p) O.pass O.calm (MB h O.tols iter) G (L X C J B E d O) (uo n);cases l:Aa C tg d with
     |some q=>
      dsimp only;obtain⟨y,x,py,px,ap,cp,lp,β,U,pe,rfl,rfl,H,w,c1,Y,c3,c4⟩:=F5 l;unfold LR;split
      .exact ZU (gQ X) O.pass O.calm hu (MB h O.tols iter) (O.tg w) (O.var H) (h X C B E q.k O.tols) (h X C B E q.v O.tols) c1 Y c3 c4 (uo n)
      .exact tq
     |none=>
      cases hx:z0 C tg iter d with
      |none=>exact u
      |some q=>obtain⟨z,x,y,pz,px,py,ap,cp,pe,rfl,rfl,rfl,H,w,e3,c1,Y⟩:=F3 hx;exact LQ _ (UL O.pass O.calm (O.var H) (O.tg w) (O.var e3) (fk h O.tols q.e) c1 Y) u
    .rw[iG n];exact tq
 |While c d g p=>
  cases g with
  |cons _ _=>exact tq
  |nil=>exact LN O.pass (N X C B E c O.tols) (L X C J B E d O)
 |_=>exact tq
def DB(h:k7 T d)(b:Hy T a)(c:OW T e)(O:sK X C T E){st:S_}:yd X f B (ek (kx X) E) st (NH T d a e C st):=ZV _ (ZX h b c O)
theorem DS{E:EK}(h:∀st,yd X b B E st (f st)):∀{a},Co X b B E a (P4 f a)
 |[]=>UC
 |[s]=>UB (h s)
 |s::t::r=>LD (h s) (DS h)
end
def Rk:g_:=40
def gB(T:GT):g_->Bv
 |0=>λz z=>zc
 |n+1=>λC a=>P4 (NH T (gP T Rk e_) (gP T Rk c_) (gB T n) C) a
def ZQ:Co X c B E b zc:=by rintro a s Z H D I ⟨G,δ,R,x,q⟩;exact q.elim
def MI(T:GT):∀n,OW T (gB T n):=by
 intro a;induction a with
 |zero=>exact λX C d B E c O=>ZQ
 |succ n b=>exact λX C d B E c O=>DS λst=>DB (Yv T Rk).1 (Yv T Rk).2 (b) O
end Pu
end
section
namespace Pu
open L2
noncomputable def Jk(p:wV):f_ x_:=if p.posonlyargs.isEmpty&&p.vararg.isNone&&p.kwonlyargs.isEmpty&&p.kw_defaults.isEmpty&&p.kwarg.isNone&&p.defaults.isEmpty then(match p.args with
 |[a]=>a_ a.arg
 |_=>d_)else d_
set_option tactic.hygienic true in
def Vz(h:Jk p=a_ x):∃a,a.arg=x/\p=⟨[],[a],d_,[],[],d_,[]⟩:=by
 obtain⟨l,j,i,g,f,d,b⟩:=p;unfold Jk at h;split at h
 .rename_i c;simp only[iQ,sA,Option.isNone_iff_eq_none]at c;obtain⟨⟨⟨⟨⟨rfl,rfl⟩,rfl⟩,rfl⟩,rfl⟩,rfl⟩:=c;split at h
  .rename_i a e;cases h;exact⟨a,_6,by cases e;rfl⟩
  .cases h
 .cases h
def Xq(d c:x_)(a:PySem.Arg)(f:Expr)(b:pA)(i:b_ (x_×o_))(h g ct u:jB):t? (PySem.W.kla_fn d c ⟨[],[a],d_,[],[],d_,[]⟩ f b i h g ct) ⟨[u],[]⟩=Q_ [(a.arg,u)]:=by unfold t?;have e:seqItems? nB=Q_ d_:=rfl;simp[e]
def NY(x:x_)(a:pA):SC:=⟨x::fb a.names,a,[],e_,c_⟩
def Eg(x:x_)(a:pA):r_:=decide (a.kind=.function)&&decide (a.isCoroutine=e_)&&decide (a.isGenerator=e_)&&(a.names.all λy=>decide (y.2≠.cell))&&decide (a.names.lookup x=a_ .local)&&decide ((x::fb a.names).Nodup)&&(fb a.names).all λy=>decide (a.names.lookup y=a_ .free)
def QI(T:GT)(n:g_)(x:x_)(a:pA)(b:Expr)(fs:b_ (x_×D))(d:D):ce:=gP T n e_ (NY x a) b (.pu d::fs.map λp=>.pu p.2)
def IU(T:GT)(n:g_)(e:Expr)(fs:b_ (x_×D))(c:b_ D):ce:=match e with
 | .Lambda p b a _ => (match Jk p with
  | a_ x => (match c with
   |[d]=>if Eg x a&&decide (fs.map (·.1)=fb a.names)then QI T n x a b fs d else .st
   |_=>.st)
  |none=>.st)
 |_=>.st
set_option tactic.hygienic true in
def IT(h:IU T n e fs j=.ok d):∃p b a f x g,e=.Lambda p b a f/\Jk p=a_ x/\j=[g]/\Eg x a=c_/\fs.map (·.1)=fb a.names/\QI T n x a b fs g=.ok d:=by
 unfold IU at h;split at h
 .rename_i p b a f;split at h
  .rename_i x i;split at h
   .rename_i g;split at h
    .rename_i c;rw[iQ,n_]at c;exact⟨p,b,a,f,x,g,_6,i,_6,c.1,c.2,h⟩
    .cases h
   .cases h
  .cases h
 .cases h
structure sw(P:kR)(w:mG)(K:iL)(mg:x_->f_ jB)(base:C_)(T:GT)(k:g_):Prop where
 fns:∀x s,T.fns x=a_ s->∃f fd ps,mg x=a_ (.ref f)/\mC K (.ref f)=c_/\lv K fd ps []/\ky P w K mg base (Tt P w) k f fd ps (spPu ⟨K,Nl mg⟩ s.ms s.f)
 r9:∀x y,T.r9 x=a_ y->∃t,mg x=a_ (.str y t)
 bl:∀x∈t8,mg x=d_
 lams:∀e fs ds d,T.lam e fs ds=.ok d->Np P w K mg base k e fs ds d
 cls:∀c n1 n2,T.cls c=a_ (n1,n2)->1<=k/\u8 P w K mg base c n1 n2
def h9.u65(r:h9 k A):A.units+65<lN:=by have:=r.un;lia
def sw.xok{X:Cx}(t:sw X.prog X.w X.K X.mg X.base T k)(b:h9 k X.A)(n:X.N=C.N)(s:X.bi.scope=C.sc)(m:C.N.Nodup)(calm:X.calm=c_)(g:Acc X E)(li:C.blk=e_->X.ex=[]/\X.stack=X.bi::X.cc/\X.bi.frame=a_ X.bi.locals)(a:C.lam=c_->LamCx X):ls X C T E:=
 ⟨n,s,m,calm,h9.u65 b,λx s h=>by
  obtain⟨f,u,l,r,q,p,o⟩:=t.fns x s h;exact⟨k,f,u,l,b,r,q,p,o⟩,t.r9,t.bl,g,li,a,λe fs v d h=>⟨k,b,t.lams e fs v d h⟩,λc j i h=>⟨b.be (t.cls c j i h).1,(t.cls c j i h).2⟩⟩
def X7(P:kR)(w:mG)(K:iL)(mg:x_->f_ jB)(base:C_)(x:x_)(b:x_)(a:pA)(f:o_)(d:jB)(c:b_ (x_×o_))(A:oN)(cc:b_ j?)(s:jP)(H:Hp):Cx where
 prog:=P
 w:=w
 K:=K
 mg:=mg
 base:=base
 A:=A.deeper (_Y b a s.1.1.size f d c)
 N:=x::fb a.names
 im:=s
 n7:=H
 bi:=_Y b a s.1.1.size f d c
 cc:=cc
 stack:=_Y b a s.1.1.size f d c::cc
 ex:=[]
 calm:=c_
 fn:=λy=>decide (y=x)
 pn:=[]
 xe:=λz z=>T_
def oD.len{K:KA}:∀{fs}{b},oD K G fs b->_7 fs=_7 b/\fs.map (·.1)=b.map (·.1):=by
 intro a;induction a with
 |nil=>rintro _ h;rw[h];exact⟨_6,_6⟩
 |cons a fs c=>
  obtain⟨n,d⟩:=a
  rintro _ ⟨v,r,i,_,g⟩
  subst i;obtain⟨f,e⟩:=c g;exact⟨by rw[iC,iC,f],by rw[iJ,iJ,e]⟩
theorem oD.get{K:KA}:∀{fs}{f}{i:g_}{p},oD K G fs f->fs[i]?=a_ p->∃v,f[i]?=a_ (p.1,v)/\gr K G p.2 v
 |[],_,_,_,_,e=>by simp at e
 |(n,d)::fs,_,0,p,b,e=>by obtain⟨v,r,c,m,_⟩:=b;subst c;simp at e;subst e;exact⟨v,_6,m⟩
 |(n,d)::fs,_,i+1,p,a,e=>by obtain⟨v,r,c,_,l⟩:=a;subst c;obtain⟨g,j,h⟩:=oD.get l (by simpa using e);exact⟨g,by simpa using j,h⟩
def Vw:∀{l:b_ (α×β)}{y}{u v},(l.map (·.1)).Nodup->(y,u)∈l->(y,v)∈l->u=v:=by
 intro c;induction c with
 |nil=>rintro _ _ _ _ h _;simp at h
 |cons c r g=>
  obtain⟨a,b⟩:=c
  rintro y u v e f d
  rw[iJ,B_]at e;rcases l_.mp f with j|f
  .cases j;rcases l_.mp d with i|d
   .cases i;rfl
   .exact t_ (k_.mpr ⟨_,d,_6⟩) e.1
  .rcases l_.mp d with i|d
   .cases i;exact t_ (k_.mpr ⟨_,f,_6⟩) e.1
   .exact g e.2 f d
section
variable{K:iL}{mg:x_->f_ jB}
def IS(t:sw P w K mg base T k)(h:IU T n e fs ds=.ok d):Np P w K mg base (k+1) e fs ds d:=by
 intro A cc s H G a us vs Q hr B gb sg dn dl rv q;obtain⟨Θ,χ,f,pos,x,d0,rfl,hx,rfl,θ,hfs,hg⟩:=IT h;obtain⟨ag,rfl,rfl⟩:=Vz hx;unfold Eg at θ;simp only[iQ,n_]at θ;obtain⟨⟨⟨⟨⟨⟨o1,o2⟩,o3⟩,o4⟩,o5⟩,o6⟩,o7⟩:=θ;have m:∀y∈f.names,y.2≠nQ:=λy N=>A_ (w_.mp o4 y N);obtain⟨a',g,ea,la,df⟩:=dn;cases ea;obtain⟨L,pm,c',ctv,cl,oc,τ,tk,h1,h2,h3,h4,inj,all,frm,cells,dm⟩:=la;obtain⟨v0,vr,rfl,dn0,rfl⟩:=dl;obtain⟨u0,ur,rfl,r0,rr⟩:∃u0 ur,us=u0::ur/\ez v0 u0/\dL [] ur:=by
  cases rv with
  |cons r t=>exact⟨_,_,_6,r,t⟩
 cases rr;obtain⟨ho,_⟩:=B.fg a _ (sg _ _ h1);obtain⟨hoc,_⟩:=B.fg c' _ (sg _ _ h2);refine PySem.W.kla_callFunE hr.depth ho _6 o2 o3 _6 ⟨c',oc,τ,tk,_6,hoc,h3,h4⟩ ?_;rw[Xq];refine iB (wpAny_newFunctionEnv m (λy N=>?_) (λε hns ξ=>⟨(B.tz.nolimit.keeps λb o e=>(B.bs b o e).1).fresh _ ξ,?_⟩) o1)
 .obtain rfl:y=_:=by simpa using N
  exact o5
 have l:∀b o,s.1.get? b=a_ o->ε.get? b=a_ o:=λb o e=>ξ.extBut b o (jJ (jA e)) (iE _ e);have ι:∀y c,cl.lookup y=a_ c->∃o v u,H c=a_ _/\s.1.get? c=a_ o/\o.data=.cell _/\(y,v)∈g/\ez v u:=λy c E=>by obtain⟨o,v,u,z1,z2,U,z4⟩:=cells y c E;obtain⟨z5,_⟩:=B.fg c _ (sg _ _ z1);exact⟨o,v,u,sg _ _ z1,z5,z2,U,z4⟩
 have η:∀b,b∉(X7 P w K mg base ag.arg L f a (.ref c') cl A cc s H).ex:=λb z=>t_ (show b∈([]:b_ o_)from z) (by simp);have M:∀y c,cl.lookup y=a_ c->y≠ag.arg:=λy c E z=>by have:=mn.mp (frm y c E);rw[z]at this;exact(B_.mp o6).1 this
 have I:c5 (X7 P w K mg base ag.arg L f a (.ref c') cl A cc s H) [] (a_ v0::g.map λp=>a_ p.2) H {s with heap:=ε,toks:=s.toks+1}:=by
  refine⟨⟨B.tz,o1,_6,_6,iF _,inj,λy N=>?_,λy c N E=>?_,λS=>hr.hd,k? B.frames,.inr ⟨_6,_6⟩,λb z=>t_ z (η b),B.bs,B.bsz,λb S S=>η b,λb z=>t_ z (η b),B.sh,B.frf⟩,
   rfl,B.lU,Un.h7 l,⟨_,hns,λi y v g1 g2 g3=>?_⟩,λy c E=>?_,(B.fg.fresh (iF _)),λy c E=>?_,λp hp=>t_ (show p∈([]:b_ _)from hp) (by simp),B.fg.h7 l,?_⟩
  .obtain N|N:=N
   .exact t_ _6 (m _ (mP N))
   .exact all y (mP N)
  .exact t_ (A_ N) (M y c E)
  .cases i with
   |zero=>
    simp at g2;subst g2;have:y=ag.arg:=by have z:(ag.arg::fb f.names)[0]?=a_ y:=g1;simp at z;exact z.symm
    subst this;exact⟨u0,r0,.inl ⟨o5,by simp⟩⟩
   |succ i=>
    have z1:(fb f.names)[i]?=a_ y:=by have z:(ag.arg::fb f.names)[i+1]?=a_ y:=g1;simpa using z
    have ν:=mn.mpr (jT z1);obtain⟨c,E⟩:=all y ν;obtain⟨o,v',u,y1,y2,y3,y4,y5⟩:=ι y c E;have z2:(g.map λp=>a_ p.2)[i]?=a_ (a_ v):=by simpa using g2
    rw[jF]at z2;cases U:g[i]? with
    |none=>rw[U]at z2;cases z2
    |some p=>
     rw[U]at z2;simp at z2;have z4:p.1=y:=by
      have:(g.map (·.1))[i]?=a_ y:=by rwa[dm]
      rw[jF,U]at this;simpa using this
     have z5:(y,v)∈g:=by have:=jT U;obtain⟨p1,p2⟩:=p;subst z2;subst z4;exact this
     have z6:=Vw (by rw[dm];exact(B_.mp o6).2) y4 z5;subst z6;refine⟨u,y5,?_⟩;obtain g3|g3|g3:=g3
     .have g3:f.names.lookup y=a_ .local:=g3;rw[(A_ (w_.mp o7 y (mn.mp ν)))]at g3;cases g3
     .exact t_ _6 (m _ (mP g3))
     .exact .inr ⟨.inr g3,c,E,o,l _ _ y2,y3⟩
  .obtain⟨o,v',u,y1,y2,y3,y4,y5⟩:=ι y c E;exact⟨a_ u,o,l _ _ y2,y3⟩
  .obtain⟨o,v',u,y1,y2,y3,y4,y5⟩:=ι y c E;exact .inr ⟨i_ (M y c E),o,y1⟩
  .show(a_ v0::g.map λp=>a_ p.2).length=(ag.arg::fb f.names).length;rw[iC,iC,iD,<-dm,iD]
 have O:ls (X7 P w K mg base ag.arg L f a (.ref c') cl A cc s H) (NY ag.arg f) T E0:=sw.xok t (hr.deeper _) _6 _6 o6 _6 zh (λz=>by cases z) λz=>by cases z
 have R:dg ⟨K,Nl mg⟩ H G H (a_ v0::g.map λp=>a_ p.2) (.pu d0::fs.map λp=>.pu p.2):=by
  have pu:∀(i:g_) Y,(Sl.pu d0::fs.map λp=>Sl.pu p.2)[i]?=a_ Y->∃dd v,Y=.pu dd/\(a_ v0::g.map λp=>a_ p.2)[i]?=a_ (a_ v)/\gr ⟨K,Nl mg⟩ G dd v:=λi Y hi=>by
   cases i with
   |zero=>simp at hi;subst hi;exact⟨d0,v0,_6,_6,dn0⟩
   |succ i=>
    have C:(fs.map λp=>Sl.pu p.2)[i]?=a_ Y:=by simpa using hi
    rw[jF]at C;cases U:fs[i]? with
    |none=>rw[U]at C;cases C
    |some p=>rw[U]at C;simp at C;subst C;obtain⟨v,y1,y2⟩:=df.get U;refine⟨p.2,v,_6,?_,y2⟩;show(g.map λp=>a_ p.2)[i]?=a_ _;rw[jF,y1];rfl
  refine⟨ca.refl H,sg,?_,λi Y hi=>?_,λi Y b hi ho=>?_,λi j Y sl' b hi hj ho=>?_,gb⟩
  .rw[iC,iC,iD,iD,df.len.1]
  .obtain⟨dd,v,rfl,y1,y2⟩:=pu i Y hi;exact⟨a_ v,y1,v,_6,y2⟩
  .obtain⟨dd,v,rfl,_⟩:=pu i Y hi;cases ho
  .obtain⟨dd,v,rfl,_⟩:=pu i Y hi;cases ho
 refine PySem.W.kla_codeExpr (kN ((Yv T n).1 _ _ H E0 χ O [] _ _ H Q I ⟨G,_,R,?_⟩) (λv s' hv=>?_) λS S z=>z.elim)
 .unfold QI at hg;rwa[hg]
 .obtain⟨v',H',J,rv',q'⟩:=hv;exact⟨v',H',J.os,J.lU,J.base,J.fg,rv',q'⟩
end
structure fo where
 x:x_
 st:S_
 ms:b_ r_
 lm:r_
def Cw(st:S_):b_ x_:=(ig st).args.map (·.arg)
noncomputable def Ek(a:b_ x_):b_ (x_×vU)->b_ x_
 |[]=>[]
 |(n,k)::r=>if(k=.local\/k=.cell)/\n∉a then n::Ek a r else Ek a r
def VE(st:S_):b_ x_:=Cw st++Ek (Cw st) (bp st).names
def bY(st:S_)(a:r_):SC:=⟨VE st,bp st,Qo 20 (d8 st),a,e_⟩
noncomputable def Eu(d:fo):r_:=
 decide ((bp d.st).kind=.function)&&decide ((bp d.st).isCoroutine=e_)&&decide ((bp d.st).isGenerator=e_)&&decide ((VE d.st).Nodup)&&decide ((VE d.st).take (Cw d.st).length=Cw d.st) &&
 ((Cw d.st).all λx=>decide ((bp d.st).names.lookup x=a_ .local)||decide ((bp d.st).names.lookup x=a_ .cell))&&((bp d.st).names.all λy=>decide (y.2≠.free))&&decide (_7 d.ms=(Cw d.st).length)
def w8{d:fo}(h:Eu d=c_):lW (VE d.st) (Cw d.st) (bp d.st)/\_7 d.ms=(Cw d.st).length:=by
 unfold Eu at h;simp only[iQ,n_]at h;obtain⟨⟨⟨⟨⟨⟨⟨m,l⟩,j⟩,i⟩,g⟩,f⟩,e⟩,c⟩:=h;refine⟨⟨m,l,j,i,g,λx b=>?_,λy a=>?_⟩,c⟩
 .have q:=w_.mp f x b;rw[pZ,n_,n_]at q;exact q
 .exact A_ (w_.mp e y a)
def Hv(st:S_)(x:x_):Prop:=∀(kV b d:jB)(e:f_ o_)(c ct:jB)(a:b_ jB),_7 a=(Cw st).length->t? (lI x x (ig st) (d8 st) (bp st) .none kV b d e c ct) ⟨a,[]⟩=Q_ ((Cw st).zip a)
structure DefIn(K:iL)(mg:x_->f_ jB)(d:fo):Prop where
 ok:Eu d=c_
 bd:Hv d.st d.x
 nw:∃f fd,mg d.x=a_ (.ref f)/\Fun K d.x d.x d.st f fd/\(d.lm=c_->∃c P,fd.code=.ref c/\(c,P,d.x++".<locals>."++"<lambda>")∈Na/\sC K c P=c_)
def PU{K:iL}{mg:x_->f_ jB}(X:K.In h)(G:h.Ns mB mg)(ok:Eu d=c_)(n:Hv d.st d.x){j kV e g ct:jB} 
  (a:sD K mB d.x=a_ (a_ (.ref f)))(l:K.lookup f=a_ ⟨j,od,.func (lI d.x d.x (ig d.st) (d8 d.st) (bp d.st) .none kV e g o b ct),i⟩)(c:nD K b d.x=c_)(k:mC K (.ref f)=c_)(m:d.lm=c_->∃c P,b=.ref c/\(c,P,d.x++".<locals>."++"<lambda>")∈Na/\sC K c P=c_):DefIn K mg d:=
 ⟨ok,n,f,_,_G X G a,Yr l c k,m⟩
noncomputable def kH(a:b_ fo)(x:x_):f_ fo:=match a with
 |[]=>d_
 |d::r=>if d.x=x then a_ d else kH r x
def Z0:∀{c},kH c x=a_ d->d∈c/\d.x=x:=by
 intro a;induction a with
 |nil=>rintro h;cases h
 |cons e r b=>
  rintro h
  unfold kH at h
  by_cases z:e.x=x
  .rw[iH z]at h;cases h;exact⟨iM,z⟩
  .rw[iG z]at h;obtain⟨g,f⟩:=b h;exact⟨iI _ g,f⟩
def Q9:g_:=20
def ae(T:GT)(d:fo):b_ D->ce:=dH d.ms (VE d.st).length (gB T Q9 (bY d.st d.lm) (d8 d.st))
noncomputable def Av(a:b_ fo)(gs:x_->f_ x_)(xs:XT):g_->GT
 |0=>⟨λz=>d_,gs,xs,λz z z=>.st,λz=>d_⟩
 |n+1=>⟨λx=>match kH a x with
  |some d=>a_ ⟨d.ms,ae (Av a gs xs n) d⟩
  |none=>d_,gs,xs,IU (Av a gs xs n) Q9,xs.cls⟩
structure XsIn(K:iL)(mg:x_->f_ jB)(xs:XT):Prop where
 cls:∀c n1 n2,xs.cls c=a_ (n1,n2)->∀P w base,u8 P w K mg base c n1 n2
section
variable{K:iL}{mg:x_->f_ jB}
def VV(n:g_)(h:kH a x=a_ d):(Av a gs xs (n+1)).fns x=a_ ⟨d.ms,ae (Av a gs xs n) d⟩:=by
 show(match kH a x with
  |some d=>a_ _
  |none=>d_)=_
 rw[h]
def Bm(mg:x_->f_ jB)(base:C_):Prop:=∃a o,mg "__builtins__"=a_ (.ref a)/\a≠sP/\a≠mB/\base.get? a=a_ o/\o.cls=.type "module"/\o.dict=a_ sP/\o.data=.plain
theorem t9{lo:g_}:∀b n a,lo<=n->(∀p∈a,lo<=p.2)->∀p∈rZ n b a,lo<=p.2
 |[],_,a,_,h,p,c=>h p c
 |_::r,n,a,e,h,p,c=>by
  unfold rZ at c;split at c
  .refine t9 r _ _ (Nat.le_succ_of_le e) (λq d=>?_) p c;rcases l_.mp d with rfl|d
   .exact e
   .exact h q d
  .exact t9 r n _ e h p c
def Sg{d:fo}{e:vT}(g:K.In base)(o:Bm mg base)(j:e.code=b)(i:d.lm=c_->∃c P,e.code=.ref c/\(c,P,d.x++".<locals>."++"<lambda>")∈Na/\sC K c P=c_):
  (bY d.st d.lm).lam=c_->LamCx (A3 (Tt P w) P w K mg base N d.x (bp d.st) f b A cc s H E):=λz=>by
 obtain⟨c,q,n,m,l⟩:=i z;exact⟨c,q,m,j.symm.trans n,PySem.W.codeHd_of_K g l,o,λy c a=>(t9 _ _ _ (oO _) (λp h=>by simp at h) _ (mP a)),λy a=>i_ λz=>z a⟩
def VU(r:K.In base)(N:Bm mg base)(C:∀d∈g,DefIn K mg d)(l:∀x y,gs x=a_ y->∃t,mg x=a_ (.str y t))(m:∀x∈t8,mg x=d_)(I:XsIn K mg xs):∀n,sw P w K mg base (Av g gs xs n) n:=by
 intro b;induction b with
 |zero=>exact⟨λx s h=>(by cases h),l,m,λe fs g d h=>(by cases h),λc j i h=>(by cases h)⟩
 |succ n a=>
  refine⟨λx s h=>?_,l,m,λe fs L d h=>IS a h,λc j i h=>⟨Nat.le_add_left 1 n,I.cls c j i h P w base⟩⟩;unfold Av at h;dsimp only at h;cases e:kH g x with
  |none=>rw[e]at h;cases h
  |some d=>rw[e]at h;cases h;obtain⟨q,p⟩:=Z0 e;subst p;obtain⟨ok,O,f,J,o,F,B⟩:=C d q;obtain⟨S,z⟩:=w8 ok;exact⟨f,J,Cw d.st,o,F.kp,F.sn O,Yp F S z λM A cc s H Q E G v=>(MI _ _ _ _ Q H E _ ⟨sw.xok a v _6 _6 S.nd _6 J7 (λY=>⟨_6,_6,_6⟩) (Sg r N G B),λy u=>m_ u,r?,_6,_6,_6⟩)⟩
def Te(K:iL):Sp:=λc H Q z=>GOk H/\∃(a:o_) (b:b_ j_),c=[.ref a]/\gL K H a (b.map V.int)/\_7 b<=63/\∀d,Q (.bl c_) d
def Uj{K:KA}:∀a:b_ j_,cr K G (a.map D.int) (a.map V.int):=by
 intro b;induction b with
 |nil=>exact _6
 |cons n a c=>exact⟨.int n,a.map V.int,_6,_6,c⟩
def QF{J kV h p ct:jB}(ok:Eu d=c_)(L:d.lm=e_)
  (a:sD K mB d.x=a_ (a_ (.ref f)))(l:K.lookup f=a_ ⟨J,od,.func (lI d.x d.x (ig d.st) (d8 d.st) (bp d.st) .none kV h p an i ct),I⟩)(c:nD K i d.x=c_)(k:mC K (.ref f)=c_)
  (r:K.In base) (C:Bm mg base) (hd:∀d∈u,DefIn K mg d) (O:∀x y,gs x=a_ y->∃t,mg x=a_ (.str y t)) (hb:∀x∈t8,mg x=d_) (hX:XsIn K mg xs) (g:(Av u gs xs n).fns "law"=a_ s) (j:s.ms=[e_])
  (m:∀b:b_ j_,b.length<=63->s.f [.au (b.map D.int)]=.ok (.bl c_)) (N:Q! (kH u "law"=a_ d) Q2!) (U:Q! (Cw d.st=[("_law_script":x_)]) Q2!):
  ky P w K mg base W8 n f (lI d.x d.x (ig d.st) (d8 d.st) (bp d.st) .none kV h p an i ct) ["_law_script"] (Te K):=by
 cases n with
 |zero=>cases g
 |succ n=>
  unfold Av at g;dsimp only at g;rw[N]at g;cases g;obtain⟨S,o⟩:=w8 ok;have F:=Yp (P:=P) (w:=w) (base:=base) (mg:=mg) (k:=n) (ms:=d.ms) (Fb:=gB _ Q9 _ _) (Yr l c k) S o λB A cc s H G0 E hc T=>by exact MI _ _ _ (bY d.st d.lm) G0 H E _ ⟨sw.xok (VU r C hd O hb hX n) T _6 _6 S.nd _6 J7 (λW=>⟨_6,_6,_6⟩) (Sg r C hc λz=>by rw[L]at z;cases z),λy M=>m_ M,r?,_6,_6,_6⟩
  rw[U]at F;refine F.calm.imp λvs H Q E ⟨gb,a,b,e,G,Y,q⟩=>?_;subst e;have j:d.ms=[e_]:=j;have e:ae _ d _=.ok _:=m b Y;show spPu _ d.ms (ae _ d) _ H Q E0;refine⟨by rw[j];rfl,gb,H,[.au _],ca.refl H,by rw[j];exact⟨_,[],_,[],_6,_6,⟨a,_,_6,G,Uj b⟩,_6,_6⟩,?_⟩;rw[e];intro v G' H' _ dn;rw[dn];exact q H'
end
def Fl(b:o_):f_ HO:=(Na.find? λp=>p.2.1==b).map λp=>.tbl p.2.2
def Qm(h:Fl b=a_ o):∃p∈Na,p.2.1=b/\o=.tbl p.2.2:=by
 unfold Fl at h;cases e:Na.find? λp=>p.2.1==b with
 |none=>rw[e]at h;cases h
 |some p=>rw[e]at h;cases h;exact⟨p,_V e,by simpa using _2 e,_6⟩
def GH{f:α->o_}:∀{l:b_ α}{p},(l.map f).Nodup->p∈l->l.find? (λq=>f q==f p)=a_ p:=by
 intro b;induction b with
 |nil=>rintro _ _ h;simp at h
 |cons a r d=>
  rintro p c h
  rw[iJ,B_]at c;rw[List.find?_cons]
  by_cases e:f a=f p
  .have g:(f a==f p)=c_:=by simpa using e
   rw[g];rcases l_.mp h with rfl|h
   .rfl
   .exact t_ (e▸vJ h) c.1
  .have g:(f a==f p)=e_:=by simpa using e
   rw[g];rcases l_.mp h with rfl|h
   .exact t_ _6 e
   .exact d c.2 h
def Wt(a:(Na.map (·.2.1)).Nodup)(b:p∈Na):Fl p.2.1=a_ (.tbl p.2.2):=by unfold Fl;rw[GH a b];rfl
def Xc(h:C_):Prop:=∀p∈Na,q! h p.1 p.2.1/\h.get? p.2.1=a_ (_y #[])
def Vk{K:iL}{mg:x_->f_ jB} 
  (KX:K.In c.1)(nK:E! K=c_)(nd:(Na.map (·.2.1)).Nodup)(tb:Xc c.1)(bm:Bm mg c.1)(M:c.1.Ns mB mg)(O:c.1.Ns sP mb)(γ:∀x:x_,x≠"__name__"->mb x=qA x)(N:c.1.NoLimit)(hg:c.gens=#[])
  (Q:c.1.get? a=a_ {cls:=.type "list",data:=.seq C.toArray}) (hi:p! C J) (hl:_7 J<=iN) (α:_7 J<=63) (hr:h9 k m?)
  (F:∀base,K.In base->base.Ns mB mg->Bm mg base->ky P w K mg base W8 k fa fd [x] (Te K)) (E:∀s u,i! s fd ⟨[u],[]⟩ [(x,u)]):
  pR (jG P w) m? (.call (.ref fa) ⟨[.ref a],[]⟩) (λr j=>r=.ok (.ret (.bool c_))/\OldK c.1 j.1/\j.os=c.os/\wA j.gens) c:=by
 have rv:=Hr hi;have B:∀S,(S=d_\/S=a_ (.il {cls:=.type "list",data:=.seq C.toArray} (.au (J.map V.int))))->(S≠d_->K.lookup a=d_)->gL K (λb=>if b=a then S else Fl b) a (J.map V.int)->
   pR (jG P w) m? (.call (.ref fa) ⟨[.ref a],[]⟩) (λr j=>r=.ok (.ret (.bool c_))/\OldK c.1 j.1/\j.os=c.os/\wA j.gens) c:=by
  intro S hS δ sq;generalize hH:(λb=>if b=a then S else Fl b)=H at sq;have Ha:H a=S:=by rw[<-hH];exact iH _6
  have Hb:∀b,b≠a->H b=Fl b:=λb O=>by rw[<-hH];exact iG O
  have g:∀{b}{u},H b=a_ u->(b=a/\u=.il {cls:=.type "list",data:=.seq C.toArray} _/\K.lookup a=d_)\/∃p∈Na,p.2.1=b/\u=.tbl p.2.2:=λ{b u} e=>by
   by_cases z:b=a
   .rw[z,Ha]at e;obtain y|y:=hS
    .rw[y]at e;cases e
    .rw[y]at e;cases e;exact .inl ⟨z,_6,δ (by rw[y];simp)⟩
   .rw[Hb b z]at e;exact .inr (Qm e)
  have L:l0 P w H c.1:=λb u e=>by
   rcases g e with⟨rfl,rfl,_⟩|⟨p,i,rfl,rfl⟩
   .exact⟨Q,by rwa[iD],C,_,rv,Q⟩
   .exact⟨#[],(tb p i).2,trivial⟩
  have f:∀{b}{o},c.1.get? b=a_ o->H b=d_->(Ol c.1 H).get? b=a_ o:=λe n=>Y1 e n;have free:∀{b}{o},c.1.get? b=a_ o->(∀n,o.data≠.seq C.toArray n)->o≠_y #[]->H b=d_:=λ{b o} e h1 U=>by
   cases q:H b with
   |none=>rfl
   |some u=>
    rcases g q with⟨rfl,_⟩|⟨p,i,rfl,_⟩
    .rw[Q]at e;cases e;exact t_ _6 (h1 _)
    .rw[(tb p i).2]at e;cases e;exact t_ _6 U
  have l:∀{b}{m},c.1.Ns b m->(Ol c.1 H).Ns b m:=λ{b m} ⟨o,es,ep,e,d,r⟩=>⟨o,es,ep,f e (free e (λn z=>by rw[d]at z;cases z) λz=>by rw[z]at d;cases d),d,r⟩;have T:K.In _:=λb o e=>f (KX b o e) (by
   cases q:H b with
   |none=>rfl
   |some u=>
    rcases g q with⟨rfl,_,z⟩|⟨p,i,rfl,_⟩
    .rw[z]at e;cases e
    .have I:=KX _ _ e;rw[(tb p i).2]at I;have U:=w_.mp nK _ (PySem.W.mem_of_lookupK e);cases I;exact t_ (U) D_)
  have ζ:Bm mg (Ol c.1 H):=by obtain⟨m,o,b1,b2,b3,b4,b5,b6,b7⟩:=bm;exact⟨m,o,b1,b2,b3,f b4 (free b4 (λn z=>by rw[b7]at z;cases z) λz=>by rw[z]at b5;cases b5),b5,b6,b7⟩
  have gb:GOk H:=λp i=>by
   have:p.2.1≠a:=λz=>by have:=(tb p i).2;rw[z,Q]at this;cases this
   rw[Hb _ this];exact Wt nd i
  refine oK ((F _ T (l M) ζ).run m? [] c H ⟨_,[]⟩ _ [.ref a] (λv R=>v=.bl c_) E0 hr (⟨_6,(⟨T,l M,⟨mb,l O,γ⟩,let ⟨mc,h1,U⟩:=N;⟨mc,l h1,U⟩⟩),λb o e=>JU e,oJ (Ux _ _),trivial,λb O=>t_ (show b∈([]:b_ o_)from O) (by simp),L,.of_eq hg⟩) (E c _) (.cons _6 .nil) ⟨gb,a,J,_6,sq,α,λR=>rfl⟩) λr j h=>?_;cases r with
  |error e=>exact lV h
  |ok fl=>
   cases fl with
   |next=>exact lV h
   |brk=>exact lV h
   |cont=>exact lV h
   |ret u=>
    obtain⟨v,H',os,Y,un,A,r',q⟩:=h;subst q;obtain rfl:u=vQ c_:=r';have keep:∀b o,c.1.get? b=a_ o->_\/∃p∈Na,p.2.1=b/\∃G,j.1.get? b=a_ (_y G):=λb o e=>by
     cases q:H b with
     |none=>exact .inl (un.keep b o e q (by intro z;exact t_ (show b∈([]:b_ o_)from z) (by simp)) (by simp))
     |some u=>
      rcases g q with⟨rfl,rfl,_⟩|⟨p,i,rfl,rfl⟩
      .obtain⟨e1,_⟩:=L b _ q;obtain⟨I,_⟩:=A b _ (un.kO b _ _ q);rw[e]at e1;cases e1;exact .inl I
      .obtain⟨G,I,_⟩:=A _ _ (un.qe _ _ q);exact .inr ⟨p,i,_6,G,I⟩
    refine⟨_6,⟨λb o e=>?_,λb o e=>?_⟩,os,Y⟩
    .rcases keep b o e with z|⟨p,i,rfl,G,z⟩
     .exact .inl z
     .obtain⟨c1,c2⟩:=tb p i;rw[c2]at e;cases e;exact .inr (.inl ⟨(c1.tab c2).isCodeTable,_6,#[],G,_6,by rwa[Array.empty_append]⟩)
    .rcases keep b o e with z|⟨p,i,rfl,G,z⟩
     .exact⟨_,z⟩
     .exact⟨_,z⟩
 cases hk:K.lookup a with
 |some o=>have e:=KX a o hk;rw[Q]at e;cases e;exact B d_ (.inl _6) (λz=>t_ _6 z) (.inr ⟨_,C.toArray,_,hk,_6,_6,_6,by rwa[jS,hi.length],by simpa using rv⟩)
 |none=>exact B _ (.inr _6) (λR=>hk) (.inl (.inr ⟨{cls:=.type "list",data:=.seq C.toArray},iH _6⟩))
def aO{l:_m}{K:Params->iL}(O:l.most=a_ 63)(r:d.params.defaults=[])(N:h9 k m?)(M:(Na.map (·.2.1)).Nodup)
  (hY:∀w h,I w h->(K w.params).In h)(nK:∀w:mG,E! (K w.params)=c_)
  (tb:∀w h,I w h->Xc h)
  (F:∀w mg m h,(K w.params).In h->h.Ns mB mg->mg d.name=a_ (.ref m)->
   ∃v,(∀s u,i! s v ⟨[u],[]⟩ [("_law_script",u)])/\∀base,(K w.params).In base->base.Ns mB mg->Bm mg base->ky l.prog w (K w.params) mg base W8 k m v ["_law_script"] (Te (K w.params))):
  PySem.W.WalkO q n XP I l.row.toRowW d [] (λf A=>PySem.call f A):=by
 refine Att.Ka O r λw C B mg mb m o pm cd δ a A ns G Y ho E U p j i c Q=>?_;have J:=hY w _ Y;obtain⟨v,hb,hF⟩:=F w mg m _ J G.T.g p;obtain⟨H,L,b1,b2,y,b4,b5,x⟩:=G.T.bmain;have bG:H≠mB:=λz=>by obtain⟨o,es,ep,e,E,_⟩:=G.T.g;rw[z,e]at y;cases y;rw[E]at x;cases x
 exact Vk J (nK w) M (tb w _ Y) ⟨H,L,b1,b2,bG,y,b4,b5,x⟩ G.T.g G.T.b G.T.builtins G.T.nolimit Q j i (kC c (by decide)) c N hF hb
end Pu
end
namespace LK
open L2 Pu
def li(i:g_):S_:=PySem.Challenge.pw_askbook_k16_whole_sound_parts.main.body.getD i (.Pass ⟨0,0,0,0⟩)
def nc:fo:=⟨"is_number",li 5,[c_],e_⟩
def m6:fo:=⟨"is_tuple_of",li 6,[c_,c_,c_,c_],e_⟩
def xm:fo:=⟨"is_pair",li 7,[c_],e_⟩
def n6:fo:=⟨"are_rising",li 8,[c_],e_⟩
def d7:fo:=⟨"picked",li 11,[c_,c_],e_⟩
def jv:fo:=⟨"places_of",li 12,[c_,c_],e_⟩
def ml:fo:=⟨"shared_columns",li 13,[c_,c_],e_⟩
def oz:fo:=⟨"narrowed",li 14,[e_,c_],e_⟩
def jl:fo:=⟨"rows_by_columns",li 15,[c_,c_],e_⟩
def ou:fo:=⟨"joined",li 16,[e_,e_,c_],e_⟩
def n5:fo:=⟨"all_joined",li 17,[c_,c_],e_⟩
def ft:fo:=⟨"joining_cost",li 18,[c_,c_],e_⟩
def kg:fo:=⟨"joining_order",li 19,[c_,c_],e_⟩
def kf:fo:=⟨"joined_freely",li 20,[c_,c_],e_⟩
def fy:fo:=⟨"is_columns",li 22,[c_,e_],c_⟩
def sr:fo:=⟨"is_bond",li 23,[c_,e_],e_⟩
def i8:fo:=⟨"checked_bonds",li 24,[e_,e_],e_⟩
def mj:fo:=⟨"lies_in",li 25,[c_,c_],e_⟩
def j6:fo:=⟨"all_columns",li 27,[c_],e_⟩
def o8:fo:=⟨"widest",li 28,[c_],e_⟩
def wu:fo:=⟨"part_fits",li 29,[c_,c_],e_⟩
def gd:fo:=⟨"put_together",li 30,[c_,c_],e_⟩
def i9:fo:=⟨"checked_parts",li 31,[e_,e_],e_⟩
def q8:fo:=⟨"clash",li 32,[c_,c_],e_⟩
def ic:fo:=⟨"with_one_number",li 33,[c_,e_,e_,c_],e_⟩
def n8:fo:=⟨"kept_table",li 34,[c_,c_],e_⟩
def zx:fo:=⟨"sound",li 35,[e_,e_,e_],e_⟩
def m9:fo:=⟨"_law_cell_at",li 37,[c_,c_],e_⟩
def cb:fo:=⟨"_law_mixed",li 38,[c_,c_,c_],e_⟩
def d5:fo:=⟨"_law_columns",li 39,[c_,c_,c_,c_],e_⟩
def nh:fo:=⟨"_law_bonds",li 40,[c_,c_,c_],e_⟩
def kq:fo:=⟨"_law_parts",li 41,[c_,c_,c_],e_⟩
def ox:fo:=⟨"_law_like",li 42,[c_,c_,c_],e_⟩
def ju:fo:=⟨"_law_together",li 43,[c_,c_,c_],e_⟩
def g9:fo:=⟨"_law_keeps",li 44,[c_,c_],e_⟩
def kr:fo:=⟨"_law_table",li 45,[c_,c_,c_,c_],e_⟩
def ni:fo:=⟨"_law_whole",li 46,[c_],e_⟩
def wt:fo:=⟨"law",li 47,[e_],e_⟩
def Ko:b_ fo:=[nc,m6,xm,n6,d7,jv,ml,oz,jl,ou,n5,ft,kg,kf,fy,sr,i8,mj,j6,o8,wu,gd,i9,q8,ic,n8,zx,m9,cb,d5,nh,kq,ox,ju,g9,kr,ni,wt]
def xs:XT:=⟨λc=>if c="Fits" then a_ ("columns","rows")else d_⟩
def gs(x:x_):f_ x_:=d_
def RS:Eu wt=c_:=by decide+kernel
noncomputable def On:S_:=match li 10 with
 |.ClassDef _ _ _ (st::_) _ _ _ _ _ _ _=>st
 |st=>st
def tab(n:g_):GT:=Av Ko gs xs n
end LK
namespace Pu
open L2
def jc{d:fo}(h:gB T Q9 (bY d.st d.lm) (d8 d.st)=F)(c:(VE d.st).length=k)(e:d.ms=b)(a:b_ D):ae T d a=fe (F (cz b a++iT (k-_7 a) .no)):=by unfold ae dH;rw[h,c,e]
def f6(h:r δ=.ok ds):di tg r F δ=turns tg F ds δ:=by unfold di;rw[h]
def bu(h:tg d δ=a_ δ1):turns tg F (d::r) δ=(match F δ1 with
  |.nx a=>turns tg F r a
  |.ct a=>turns tg F r a
  |.bk a=>.nx a
  |.rt d=>.rt d
  |.er c=>.er c
  |.st=>.st):=by
 show(match tg d δ with
  |none=>fc.st
  |some δ1=>match F δ1 with
   |.nx a=>turns tg F r a
   |.ct a=>turns tg F r a
   |.bk a=>.nx a
   |.rt d=>.rt d
   |.er c=>.er c
   |.st=>.st)=_
 rw[h]
def Ud:∀{c:b_ D},(∀d∈c,f d=a_ (g d))->vk f c=a_ (c.filterMap g):=by
 intro a;induction a with
 |nil=>rintro _;exact _6
 |cons d r b=>
  rintro h
  unfold vk;rw[h d iM];rw[b λd e=>h d (iI _ e),pB];cases g d<;>rfl
def Yt(c:r δ=.ok a)(e:_7 a<=iN)(f:∀d∈a,Ci b t g δ d=a_ (h d)):ao r b t g δ=.ok (.au (a.filterMap h)):=by unfold ao;rw[c];dsimp only;rw[iH e,Ud f]
def EM(h:g (fq a δ (.pu d))=.ok y):Ci a (gC (.bl c_)) g δ d=a_ (a_ y):=by unfold Ci gC;rw[h]
def MX(c:t (fq a δ (.pu d))=.ok (.bl b))(h:b=c_->g (fq a δ (.pu d))=.ok y):Ci a t g δ d=a_ (if b then a_ y else d_):=by
 unfold Ci;rw[c];cases b with
 |true=>rw[h _6];rfl
 |false=>rfl
section
variable(δ:En)(d e:D)(i j:g_)(g h k c:En->ce)(F F':En->fc)(r:En->f8)(f:D->f_ D)(f2 f3:D->D->f_ D)
@[simp] theorem Cj(a:b_ r_):cz a []=[]:=by cases a<;>rfl
@[simp] theorem Hq(a:b_ r_)(b:b_ D):cz (c_::a) (d::b)=.bo d::cz a b:=rfl
@[simp] theorem WZ(a:b_ r_)(b:b_ D):cz (e_::a) (d::b)=.pu d::cz a b:=rfl
@[simp] theorem b0:a9 F F' δ=match F δ with
 |.nx a=>F' a
 |o=>o:=rfl
@[simp] theorem gV:gw δ=.nx δ:=rfl
@[simp] theorem iX:zc δ=.st:=rfl
@[simp] theorem t6:cj g δ=(g δ).then .rt:=rfl
@[simp] theorem Fp:oj c F F' δ=(c δ).then λd=>match d with
 |.bl c_=>F δ
 |.bl e_=>F' δ
 |_=>.st:=rfl
@[simp] theorem vw:dq i g δ=(g δ).then λd=>.nx (δ.set i (.pu d)):=rfl
@[simp] theorem J4:de i g δ=(g δ).then λd=>match d with
 |.au a=>.nx (δ.set i (.ow a))
 |_=>.st:=rfl
@[simp] theorem cx(f:D->fc):(ce.ok d).then f=f d:=rfl
@[simp] theorem bz(f:D->ce):(ce.ok d).bind f=f d:=rfl
@[simp] theorem om:ce.of (a_ d)=.ok d:=rfl
@[simp] theorem Ng:fe (.rt d)=.ok d:=rfl
@[simp] theorem OZ:a0 i δ=match δ[i]? with
 |some (.pu d)=>.ok d
 |_=>.st:=rfl
@[simp] theorem aZ:aa i δ=match δ[i]? with
 |some (.pu d)=>.ok d
 |some (.bo d)=>.ok d
 |some (.ow b)=>.ok (.au b)
 |some (.od t a)=>.ok (.js t a)
 |_=>.st:=rfl
@[simp] theorem gE:vo i δ=match δ[i]? with
 |some (.pu d)=>.ok d
 |some (.bo d)=>.ok d
 |_=>.st:=rfl
@[simp] theorem gA:gC d δ=.ok d:=rfl
@[simp] theorem Fo:g1 f g δ=(g δ).bind λx=>ce.of (f x):=rfl
@[simp] theorem yb:g2 f2 g h δ=(g δ).bind λx=>(h δ).bind λy=>ce.of (f2 x y):=rfl
@[simp] theorem NB:Of c g h δ=(c δ).bind λd=>match d with
 |.bl c_=>g δ
 |.bl e_=>h δ
 |_=>.st:=rfl
@[simp] theorem ED:jg c δ=(c δ).bind λd=>match d with
 |.bl b=>.ok (.bl !b)
 |_=>.st:=rfl
@[simp] theorem ZA:vy g h δ=(g δ).bind λd=>match d with
 |.bl c_=>h δ
 |.bl e_=>.ok (.bl e_)
 |_=>.st:=rfl
@[simp] theorem W2:Fs g h δ=(g δ).bind λd=>match d with
 |.bl c_=>.ok (.bl c_)
 |.bl e_=>h δ
 |_=>.st:=rfl
@[simp] theorem EC:jq g δ=(g δ).bind λx=>ce.of (bD (Nd x)):=rfl
@[simp] theorem aS(b:r_):bD (Nd (.bl b))=a_ (.bl b):=rfl
@[simp] theorem bO:wx f2 f3 g h k δ=(g δ).bind λx=>(h δ).bind λy=>(ce.of (f2 x y)).bind λz=>match z with
 |.bl c_=>(k δ).bind λw=>ce.of (f3 y w)
 |.bl e_=>.ok (.bl e_)
 |_=>.st:=rfl
@[simp] theorem nt:Pu.am g r δ=match g δ with
 | .ok d => (match r δ with
  |.ok a=>.ok (d::a)
  |.er c=>.er c
  |.st=>.st)
 |.er c=>.er c
 |.st=>.st:=rfl
@[simp] theorem EE:af δ=.ok []:=rfl
@[simp] theorem EG(fn:b_ D->ce):ah fn r δ=match r δ with
 |.ok a=>fn a
 |.er c=>.er c
 |.st=>.st:=rfl
@[simp] theorem NA:b9 r δ=match r δ with
 |.ok a=>if _7 a<=16777216 then .ok (.au a)else .st
 |.er c=>.er c
 |.st=>.st:=rfl
@[simp] theorem EB:Pu.h8 r δ=match r δ with
 |.ok a=>if _7 a<=16777216 then .ok (.ci a)else .st
 |.er c=>.er c
 |.st=>.st:=rfl
@[simp] theorem EA:ak g δ=match g δ with
 | .ok d => (match Ht d with
  |some a=>.ok a
  |none=>.st)
 |.er c=>.er c
 |.st=>.st:=rfl
@[simp] theorem aR(a:b_ D):Ht (.au a)=a_ a:=rfl
@[simp] theorem aQ(a:b_ D):Ht (.ci a)=a_ a:=rfl
@[simp] theorem i7:fz [] F δ=F δ:=rfl
@[simp] theorem Ax(is:b_ g_):fz (i::is) F δ=fz is F (il i δ):=rfl
@[simp] theorem Ck:il i δ=match δ[i]? with
 |some (.ow b)=>δ.set i (.pu (.au b))
 |some (.od t a)=>δ.set i (.pu (.js t a))
 |_=>δ:=rfl
@[simp] theorem NC:qi i g δ=match δ[i]? with
 |some (.ow a)=>(g δ).then λd=>if _7 a<16777216 then .nx (δ.set i (.ow (a++[d])))else .st
 |_=>.st:=rfl
@[simp] theorem fA:An i g δ=match δ[i]? with
 |some (.ow b)=>(g δ).then λd=>match yz d with
  |some a=>if _7 b+_7 a<=16777216 then .nx (δ.set i (.ow (b++a)))else .st
  |none=>.st
 |_=>.st:=rfl
@[simp] theorem WY(a:b_ D):yz (.au a)=a_ a:=rfl
@[simp] theorem WX(a:b_ D):yz (.ci a)=a_ a:=rfl
@[simp] theorem cD(a:b_ D):i6 (.au a)=a_ (.int a.length):=rfl
@[simp] theorem cC(a:b_ D):i6 (.ci a)=a_ (.int a.length):=rfl
@[simp] theorem bN(d:D)(xs:b_ D):iq d (.au xs)=Jq d (.au xs):=rfl
@[simp] theorem VI(d:D)(xs:b_ D):fj d (.au xs)=og d (.au xs):=rfl
@[simp] theorem fU(a b:j_):Ak (.int a) (.int b)=a_ (.bl (decide (a<b))):=rfl
@[simp] theorem iY(a b:j_):Py (.int a) (.int b)=a_ (.bl (decide (a<=b))):=rfl
@[simp] theorem iZ(a b:j_):UU (.int a) (.int b)=a_ (.bl (decide (b<a))):=rfl
@[simp] theorem fB(a b:j_):gu (.int a) (.int b)=a_ (.bl (a==b)):=rfl
@[simp] theorem gW(a b:j_):e8 (.int a) (.int b)=a_ (.bl (!(a==b))):=rfl
@[simp] theorem ZC(a b:j_):bj (.int a) (.int b)=a_ (.int (a+b)):=rfl
@[simp] theorem gU(a b:j_):Mp (.int a) (.int b)=a_ (.int (a-b)):=rfl
@[simp] theorem aX:jw d .fD=a_ (.bl (!R7 d)):=rfl
@[simp] theorem WT(a:b_ D):gm (.au a)=a_ (.ci a):=rfl
@[simp] theorem hJ:gM f2 g h δ=(g δ).bind λx=>match x with
 |.au xs=>(h δ).bind λy=>ce.of (f2 (.au xs) y)
 |_=>.st:=rfl
@[simp] theorem cN(x:x_):cf "str" (.str x)=a_ (.bl c_):=by kernel_rfl
@[simp] theorem cQ(x:j_):cf "str" (.int x)=a_ (.bl e_):=by kernel_rfl
@[simp] theorem bE(x:j_):cf "int" (.int x)=a_ (.bl c_):=by kernel_rfl
@[simp] theorem bK(x:j_):cf "bool" (.int x)=a_ (.bl e_):=by kernel_rfl
@[simp] theorem cG(x:b_ D):cf "tuple" (.ci x)=a_ (.bl c_):=by kernel_rfl
@[simp] theorem cV(x:b_ D):cf "list" (.au x)=a_ (.bl c_):=by kernel_rfl
@[simp] theorem cF(a b:D):az (.ci [a,b]) (.int 0)=a_ a:=rfl
@[simp] theorem cE(a b:D):az (.ci [a,b]) (.int 1)=a_ b:=rfl
inductive Smp(d:D):Prop
 |mk (p) (_:e9 d=a_ p) (_:mY p=c_) (_:p.depth<=8):Smp d
inductive SmpL(ds:b_ D):Prop
 |mk (ps) (_:fu ds=a_ ps) (_:jN ps=c_) (_:lF ps<=8):SmpL ds
def Wo:∀{m:b_ D},(∀d∈m,Smp d)->SmpL m:=by
 intro a;induction a with
 |nil=>rintro _;exact⟨[],_6,_6,jW _⟩
 |cons d r b=>
  rintro h
  obtain⟨p,u,s,q⟩:=h d iM;obtain⟨l,o,f2,f3⟩:=b λd n=>h d (iI _ n);refine⟨p::l,by unfold fu;rw[u,o],?_,Nat.max_le.mpr ⟨q,f3⟩⟩;show(mY p&&jN l)=c_;rw[s,f2];rfl
def qm{p:rS}(a:mY p=c_)(b:p.depth<=63):jZ p=c_:=by unfold jZ;rw[a,m_ (by lia)];rfl
def Iv{d e:D}{p q:rS}(b:e9 d=a_ p)(a:e9 e=a_ q)(o:mY p=c_)(n:p.depth<=63)(m:mY q=c_)(l:q.depth<=63):W7 d e=a_ (lC p q):=by unfold W7;rw[b,a];dsimp only;rw[qm o n,qm m l];rfl
def n9{ds:b_ D}(h:SmpL ds):gu (.au ds) (.au [])=a_ (.bl ds.isEmpty)/\e8 (.au ds) (.au [])=a_ (.bl (!ds.isEmpty)):=by
 obtain⟨b,a,o,s⟩:=h;have q:W7 (.au ds) (.au [])=a_ (lC (.list b) _):=Iv (by unfold e9;rw[a]) _6 o (show lF b+1<=63 by lia) _6 (show 0+1<=63 by lia);have e:lC (.list b) (.list [])=ds.isEmpty:=by
  cases ds with
  |nil=>cases a;rfl
  |cons d r=>
   unfold fu at a;cases l:e9 d with
   |none=>rw[l]at a;cases a
   |some p=>
    cases m:fu r with
    |none=>rw[l,m]at a;cases a
    |some n=>rw[l,m]at a;cases a;rfl
 unfold gu e8;rw[q,e];exact⟨_6,_6⟩
def Tp(a b:j_)(h:0<b):E5 (.int a) (.int b)=a_ (.int (a%b)):=iH h
def Cm(a b:j_)(h:(-(2^64)<a/\a<2^64)\/(-(2^64)<b/\b<2^64)):j7 (.int a) (.int b)=a_ (.int (a*b)):=iH h
def j9(hr:r δ=.ok [.int j'])(h:-(2^62)<=j'/\j'<2^62):cy r δ=.ok (j0 0 j'.toNat):=by unfold cy;rw[hr];exact iH h
end
@[simp] theorem VJ(w j y:g_)(g:En->ce)(F:En->fc)(δ:En):E7 w j y g F δ=match δ[w]? with
 |some (.ow _)=>Hh w j y g δ
 |_=>F δ:=by
 unfold E7 XQ;cases e:δ[w]? with
 |none=>rfl
 |some s=>cases s<;>rfl
@[simp] theorem gZ(cls:x_->f_ (x_×x_))(f:x_)(g:En->ce)(δ:En):gp cls f g δ=(g δ).bind λd=>ce.of (S9 cls f d):=rfl
@[simp] theorem cB(g:En->ce)(δ:En):jh g δ=match g δ with
 |.ok (.js c_ a)=>.ok (a.map (·.1))
 |.er c=>.er c
 |r=>ak (λz=>r) δ:=rfl
@[simp] theorem aW(g:En->ce)(δ:En):oe g δ=match g δ with
 |.ok (.js c_ a)=>.ok (a.map Ea)
 |.er c=>.er c
 |_=>.st:=rfl
@[simp] theorem fV(d k x:En->ce)(δ:En):D4 d k x δ=(d δ).bind λe=>match e with
 |.js e_ a=>(k δ).bind λc=>(x δ).bind λb=>match me c with
  |some j=>.ok ((Aj a j).getD b)
  |none=>.st
 |.js c_ a=>(k δ).bind λc=>(x δ).bind λb=>match bx c with
  |some j=>.ok ((dj a j).getD b)
  |none=>.st
 |_=>.st:=rfl
@[simp] theorem gX(c b a:x_)(d e:D):Cb c b a [d,e]=.ok (.obj (.Name c ⟨0,0,0,0⟩) [(b,d),(a,e)]):=rfl
section
variable(δ:En)(d e:D)(i j:g_)(g h k c:En->ce)(F F':En->fc)(r:En->f8)(f:D->f_ D)(f2 f3:D->D->f_ D)
def Sf:g_->Expr->f_ Expr
 |0,_=>d_
 |n+1,e=>match e with
  |.Lambda p b s q=>a_ (.Lambda p b s q)
  |.BoolOp _ a _=>a.findSome? (Sf n)
  | .Call _ m l _ => (match m.findSome? (Sf n) with
   |some e=>a_ e
   |none=>l.findSome? λk=>Sf n k.value)
  |_=>d_
def QH(st:S_):Expr:=((d8 st).findSome? λs=>match s with
 |.Return (a_ e) _=>Sf 10 e
 |_=>d_).getD (.Name "" ⟨0,0,0,0⟩)
@[simp] theorem gY:j4 δ=.st:=rfl
@[simp] theorem WU(f:D->fc):ce.st.then f=.st:=rfl
@[simp] theorem WV(f:D->fc)(c:x_):(ce.er c).then f=.er c:=rfl
@[simp] theorem VA(f:D->ce):ce.st.bind f=.st:=rfl
@[simp] theorem VB(f:D->ce)(c:x_):(ce.er c).bind f=.er c:=rfl
@[simp] theorem WW:ce.of d_=.st:=rfl
@[simp] theorem aU:fe (.nx δ)=.ok .fD:=rfl
@[simp] theorem aT:fe .st=.st:=rfl
@[simp] theorem aV(c:x_):fe (.er c)=.er c:=rfl
@[simp] theorem aY:aq i d δ=a_ (δ.set i (.pu d)):=rfl
@[simp] theorem WS(a:b_ D):gm (.ci a)=a_ (.ci a):=rfl
@[simp] theorem cR(x:r_):cf "str" (.bl x)=a_ (.bl e_):=by kernel_rfl
@[simp] theorem cO:cf "str" .fD=a_ (.bl e_):=by kernel_rfl
@[simp] theorem cM(x:b_ D):cf "str" (.ci x)=a_ (.bl e_):=by kernel_rfl
@[simp] theorem cP(x:b_ D):cf "str" (.au x)=a_ (.bl e_):=by kernel_rfl
@[simp] theorem bA(x:x_):cf "int" (.str x)=a_ (.bl e_):=by kernel_rfl
@[simp] theorem bF(x:r_):cf "int" (.bl x)=a_ (.bl c_):=by kernel_rfl
@[simp] theorem bB:cf "int" .fD=a_ (.bl e_):=by kernel_rfl
@[simp] theorem cZ(x:b_ D):cf "int" (.ci x)=a_ (.bl e_):=by kernel_rfl
@[simp] theorem bC(x:b_ D):cf "int" (.au x)=a_ (.bl e_):=by kernel_rfl
@[simp] theorem bI(x:x_):cf "bool" (.str x)=a_ (.bl e_):=by kernel_rfl
@[simp] theorem bL(x:r_):cf "bool" (.bl x)=a_ (.bl c_):=by kernel_rfl
@[simp] theorem bJ:cf "bool" .fD=a_ (.bl e_):=by kernel_rfl
@[simp] theorem bH(x:b_ D):cf "bool" (.ci x)=a_ (.bl e_):=by kernel_rfl
@[simp] theorem bM(x:b_ D):cf "bool" (.au x)=a_ (.bl e_):=by kernel_rfl
@[simp] theorem cH(x:x_):cf "tuple" (.str x)=a_ (.bl e_):=by kernel_rfl
@[simp] theorem cK(x:j_):cf "tuple" (.int x)=a_ (.bl e_):=by kernel_rfl
@[simp] theorem cL(x:r_):cf "tuple" (.bl x)=a_ (.bl e_):=by kernel_rfl
@[simp] theorem cI:cf "tuple" .fD=a_ (.bl e_):=by kernel_rfl
@[simp] theorem cJ(x:b_ D):cf "tuple" (.au x)=a_ (.bl e_):=by kernel_rfl
@[simp] theorem cT(x:x_):cf "list" (.str x)=a_ (.bl e_):=by kernel_rfl
@[simp] theorem cX(x:j_):cf "list" (.int x)=a_ (.bl e_):=by kernel_rfl
@[simp] theorem cY(x:r_):cf "list" (.bl x)=a_ (.bl e_):=by kernel_rfl
@[simp] theorem cU:cf "list" .fD=a_ (.bl e_):=by kernel_rfl
@[simp] theorem cS(x:b_ D):cf "list" (.ci x)=a_ (.bl e_):=by kernel_rfl
def LG(i:j_):Smp (.int i):=⟨.int i,_6,_6,jW _⟩
end
end Pu
namespace LK
open L2 Pu
def Bl(n:g_):En->fc:=cj (vy (g1 (cf "int") (aa 0)) (jg (g1 (cf "bool") (aa 0))))
def Kw(n:g_)(a:b_ D):ae (tab (n+1)) nc a=fe (Bl n (cz [c_] a++iT (1-_7 a) .no)):=jc (by kernel_rfl) (by decide+kernel) _6 a
def yg(n:g_):En->fc:=(a9 (oj (Fs (jg (jq (g1 (cf "tuple") (aa 0)))) (jg (wx Py Py (aa 1) (g1 i6 (aa 0)) (aa 2)))) (cj (gC (.bl e_))) gw)
 (cj (g1 xf (ao (ak (aa 0)) [3] (gC (.bl c_)) (Iz (tab (n+1)) 1 [((aa 0),(a0 0))])))))
def Fx(n:g_)(a:b_ D):ae (tab (n+1)) m6 a=fe (yg n (cz [c_,c_,c_,c_] a++iT (4-_7 a) .no)):=jc (by kernel_rfl) (by decide+kernel) _6 a
def Gb(n:g_):En->fc:=cj (vy (g1 (cf "tuple") (aa 0)) (g2 gu (g1 i6 (aa 0)) (gC (.int 2))))
def Uq(n:g_)(a:b_ D):ae (tab (n+1)) xm a=fe (Gb n (cz [c_] a++iT (1-_7 a) .no)):=jc (by kernel_rfl) (by decide+kernel) _6 a
def zq(n:g_):En->fc:=cj (g1 xf (ao (cy (am (g2 Mp (g1 i6 (aa 0)) (gC (.int 1))) af)) [0] (gC (.bl c_)) (g2 Ak (g2 az (aa 1) (aa 0)) (g2 az (aa 1) (g2 bj (aa 0) (gC (.int 1)))))))
def Ir(n:g_)(a:b_ D):ae (tab (n+1)) n6 a=fe (zq n (cz [c_] a++iT (1-_7 a) .no)):=jc (by kernel_rfl) (by decide+kernel) _6 a
def sj(n:g_):En->fc:=cj (g1 gm (ao (ak (aa 1)) [0] (gC (.bl c_)) (g2 az (aa 1) (aa 0))))
def Ye(n:g_)(a:b_ D):ae (tab (n+1)) d7 a=fe (sj n (cz [c_,c_] a++iT (2-_7 a) .no)):=jc (by kernel_rfl) (by decide+kernel) _6 a
def Br(n:g_):En->fc:=cj (ao (ak (aa 0)) [1] (gC (.bl c_)) (gM jm (aa 1) (aa 0)))
def sk(n:g_):En->fc:=cj (ao (jh (gp xs.cls "columns" (aa 0))) [1] (g2 iq (aa 0) (gp xs.cls "columns" (aa 1))) (a0 0))
def yq(n:g_):En->fc:=(a9 (de 2 (ao (jh (gp xs.cls "columns" (aa 0))) [1] (g2 iq (aa 0) (aa 1)) (a0 0)))
 (a9 (oj (g2 gu (aa 2) (gp xs.cls "columns" (aa 0))) (fz [0] (cj (a0 0))) gw)
 (a9 (dq 3 (ah (ae (tab n) jv) (am (aa 2) (am (gp xs.cls "columns" (aa 0)) af))))
 (a9 (sf 4)
 (a9 (di (nu [5,6]) (oe (gp xs.cls "rows" (aa 0))) (fz [6] (uy (gi 4 (ah (ae (tab n) d7) (am (aa 5) (am (aa 3) af))) (a0 6)))))
 (fz [2,4] (cj (ah (Cb "Fits" "columns" "rows") (am (a0 2) (am (a0 4) af))))))))))
def N7(n:g_)(a:b_ D):ae (tab (n+1)) oz a=fe (yq n (cz [e_,c_] a++iT (7-_7 a) .no)):=jc (by kernel_rfl) (by decide+kernel) _6 a
def q0(n:g_):En->fc:=(a9 (dq 2 (ah (ae (tab n) jv) (am (aa 1) (am (gp xs.cls "columns" (aa 0)) af))))
 (a9 (sf 3)
 (a9 (LR c_ 3 4 (jh (gp xs.cls "rows" (aa 0))) (ah (ae (tab n) d7) (am (aa 4) (am (aa 2) af))) (a0 4))
 (fz [3] (cj (a0 3))))))
def zz(n:g_)(a:b_ D):ae (tab (n+1)) jl a=fe (q0 n (cz [c_,c_] a++iT (5-_7 a) .no)):=jc (by kernel_rfl) (by decide+kernel) _6 a
def Kb(n:g_):En->fc:=(a9 (dq 3 (ah (ae (tab n) ml) (am (aa 0) (am (aa 1) af))))
 (a9 (fz [0] (dq 4 (ah (ae (tab n) oz) (am (a0 0) (am (g2 bj (aa 2) (aa 3)) af)))))
 (a9 (fz [1] (dq 5 (ah (ae (tab n) oz) (am (a0 1) (am (g2 bj (aa 2) (aa 3)) af)))))
 (a9 (dq 6 (g2 bj (gp xs.cls "columns" (aa 4)) (gp xs.cls "columns" (aa 5))))
 (a9 (dq 7 (g2 bj (gp xs.cls "columns" (aa 4)) (ao (jh (gp xs.cls "columns" (aa 5))) [3] (g2 fj (aa 0) (aa 1)) (a0 0))))
 (a9 (de 8 (ao (ak (aa 7)) [2] (g2 iq (aa 0) (aa 1)) (a0 0)))
 (a9 (dq 9 (ah (ae (tab n) jv) (am (aa 8) (am (aa 6) af))))
 (a9 (dq 10 (ah (ae (tab n) jv) (am (aa 3) (am (gp xs.cls "columns" (aa 4)) af))))
 (a9 (dq 11 (ah (ae (tab n) jl) (am (aa 5) (am (aa 3) af))))
 (a9 (sf 12)
 (a9 (di (nu [13,14]) (oe (gp xs.cls "rows" (aa 4))) (di (aq 15) (ak (D4 (aa 11) (ah (ae (tab n) d7) (am (aa 13) (am (aa 10) af))) (b9 af))) (uy (gi 12 (ah (ae (tab n) d7) (am (g2 bj (aa 13) (aa 15)) (am (aa 9) af))) (g2 bj (aa 14) (g2 az (gp xs.cls "rows" (aa 5)) (aa 15)))))))
 (fz [8,12] (cj (ah (Cb "Fits" "columns" "rows") (am (a0 8) (am (a0 12) af))))))))))))))))
def Yd(n:g_)(a:b_ D):ae (tab (n+1)) ou a=fe (Kb n (cz [e_,e_,c_] a++iT (16-_7 a) .no)):=jc (by kernel_rfl) (by decide+kernel) _6 a
def zp(n:g_):En->fc:=(a9 (dq 2 (ah (Cb "Fits" "columns" "rows") (am (b9 af) (am (D3 (h8 af) (h8 af)) af))))
 (a9 (di (nu [3,4]) (Gn (vo 0)) (a9 (de 5 (g1 iu (aa 1)))
 (a9 (di (aq 6) (ak (Uu (aa 0) (a_ (g2 bj (aa 3) (gC (.int 1)))) d_)) (An 5 (gp xs.cls "columns" (aa 6))))
 (fz [2,4] (dq 2 (ah (ae (tab n) ou) (am (a0 2) (am (a0 4) (am (aa 5) af)))))))))
 (fz [2] (cj (a0 2)))))
def Iq(n:g_)(a:b_ D):ae (tab (n+1)) n5 a=fe (zp n (cz [c_,c_] a++iT (7-_7 a) .no)):=jc (by kernel_rfl) (by decide+kernel) _6 a
def we(n:g_):En->fc:=(a9 (de 2 (ao (jh (gp xs.cls "columns" (aa 0))) [1] (g2 fj (aa 0) (aa 1)) (a0 0)))
 (a9 (dq 3 (g2 gu (g1 i6 (aa 2)) (g1 i6 (gp xs.cls "columns" (aa 0)))))
 (fz [3] (cj (h8 (am (a0 3) (am (g1 i6 (aa 2)) af)))))))
def D0(n:g_)(a:b_ D):ae (tab (n+1)) ft a=fe (we n (cz [c_,c_] a++iT (4-_7 a) .no)):=jc (by kernel_rfl) (by decide+kernel) _6 a
def vf(n:g_):En->fc:=(a9 (de 2 (g1 iu (aa 1)))
 (a9 (fz [3] (de 4 (ao (cy (am (g1 i6 (aa 0)) af)) [2] (g2 fj (aa 0) (aa 1)) (a0 0))))
 (a9 (fz [] (NJ (jq (aa 4)) (a9 (de 5 (b9 af))
 (a9 (E7 2 3 5 (gp xs.cls "columns" (g2 az (aa 0) (aa 3))) (di (aq 3) (ak (vo 2)) (An 5 (gp xs.cls "columns" (g2 az (aa 0) (aa 3))))))
 (a9 (de 6 (ao (ak (aa 4)) [5,0] (gC (.bl c_)) (ah (ae (tab n) ft) (am (g2 az (aa 2) (aa 0)) (am (aa 1) af)))))
 (ux 2 4 (gM jm (aa 6) (g1 rq (aa 6)))))))))
 (fz [2] (cj (a0 2))))))
def Cp(n:g_):En->fc:=cj (ah (ae (tab n) n5) (am (ao (ak (ah (ae (tab n) kg) (am (aa 0) (am (b9 af) af)))) [0] (gC (.bl c_)) (g2 az (aa 1) (aa 0))) (am (aa 1) af)))
def Cs(n:g_)(a:b_ D):ae (tab (n+1)) kf a=fe (Cp n (cz [c_,c_] a++iT (2-_7 a) .no)):=jc (by kernel_rfl) (by decide+kernel) _6 a
def lj:Expr:=QH fy.st
def zu(n:g_):En->ce:=vy (ah (ae (tab n) nc) (am (aa 0) af)) (wx Py Ak (gC (.int 0)) (aa 0) (aa 1))
def F0(n:g_)(a d:D):(tab (n+2)).lam lj [("many",a)] [d]=zu n [.pu d,.pu a]:=by kernel_rfl
def zr(n:g_):En->fc:=cj (vy (ah (ae (tab n) m6) (am (aa 0) (am (gC (.int 0)) (am (aa 1) (am (Ro lj ["many"] [1]) af))))) (ah (ae (tab n) n6) (am (aa 0) af)))
def Iu(n:g_)(a:b_ D):ae (tab (n+1)) fy a=fe (zr n (cz [c_,e_] a++iT (2-_7 a) .no)):=jc (by kernel_rfl) (by decide+kernel) _6 a
def Ga(n:g_):En->fc:=fz [1,1] (cj (vy (ah (ae (tab n) xm) (am (aa 0) af)) (vy (ah (ae (tab n) fy) (am (g2 az (aa 0) (gC (.int 0))) (am (a0 1) af))) (ah (ae (tab n) fy) (am (g2 az (aa 0) (gC (.int 1))) (am (a0 1) af))))))
def Up(n:g_)(a:b_ D):ae (tab (n+1)) sr a=fe (Ga n (cz [c_,e_] a++iT (2-_7 a) .no)):=jc (by kernel_rfl) (by decide+kernel) _6 a
def vd(n:g_):En->fc:=(a9 (oj (Fs (jg (jq (ah (ae (tab n) nc) (am (aa 1) af)))) (jg (wx Py Py (gC (.int 1)) (aa 1) (gC (.int 6))))) zc gw)
 (a9 (oj (Fs (jg (jq (g1 (cf "list") (aa 0)))) (g2 UU (g1 i6 (aa 0)) (gC (.int 10)))) zc gw)
 (a9 (fz [1] (oj (jg (jq (g1 xf (ao (ak (aa 0)) [1] (gC (.bl c_)) (ah (ae (tab n) sr) (am (aa 0) (am (a0 1) af))))))) zc gw))
 (fz [0] (cj (a0 0))))))
def Cq(n:g_)(a:b_ D):ae (tab (n+1)) i8 a=fe (vd n (cz [e_,e_] a++iT (2-_7 a) .no)):=jc (by kernel_rfl) (by decide+kernel) _6 a
def Gc(n:g_):En->fc:=cj (g1 xf (ao (ak (aa 0)) [1] (gC (.bl c_)) (g2 iq (aa 0) (aa 1))))
def yf(n:g_):En->fc:=(a9 (de 1 (b9 af))
 (a9 (E7 0 2 1 (aa 2) (di (aq 2) (ak (vo 0)) (An 1 (aa 2))))
 (cj (g1 dh (aa 1)))))
def Kc(n:g_):En->fc:=(a9 (dq 1 (g1 dh (aa 0)))
 (cj (ao (ak (aa 1)) [1] (jg (jq (g1 Ca (ao (ak (aa 1)) [0] (gC (.bl c_)) (vy (g2 e8 (aa 1) (aa 0)) (ah (ae (tab n) mj) (am (aa 1) (am (aa 0) af)))))))) (a0 0))))
def Bq(n:g_):En->fc:=cj (ah (Cb "Fits" "columns" "rows") (am (g1 iu (aa 1)) (am (g1 xu (ao (ak (aa 0)) [1] (gC (.bl c_)) (h8 (am (ah (ae (tab n) d7) (am (aa 0) (am (aa 1) af))) (am (h8 af) af))))) af)))
def Dq(n:g_):En->fc:=(a9 (dq 2 (ah (ae (tab n) j6) (am (aa 1) af)))
 (a9 (dq 3 (ah (ae (tab n) kf) (am (ao (ak (ah (ae (tab n) o8) (am (aa 1) af))) [0] (gC (.bl c_)) (ah (ae (tab n) wu) (am (aa 1) (am (aa 0) af)))) (am (aa 2) af))))
 (a9 (dq 4 (ah (ae (tab n) jv) (am (aa 2) (am (gp xs.cls "columns" (aa 3)) af))))
 (cj (g1 j8 (ao (jh (gp xs.cls "rows" (aa 3))) [4] (gC (.bl c_)) (ah (ae (tab n) d7) (am (aa 0) (am (aa 1) af)))))))))
def D1(n:g_)(a:b_ D):ae (tab (n+1)) gd a=fe (Dq n (cz [c_,c_] a++iT (5-_7 a) .no)):=jc (by kernel_rfl) (by decide+kernel) _6 a
def nq(n:g_):En->fc:=(a9 (fz [1] (oj (Fs (jg (jq (g1 (cf "list") (aa 0)))) (jg (jq (g1 xf (ao (ak (aa 0)) [1] (gC (.bl c_)) (ah (ae (tab n) fy) (am (aa 0) (am (a0 1) af)))))))) zc gw))
 (a9 (oj (g2 Ak (g1 i6 (ah (ae (tab n) j6) (am (aa 0) af))) (aa 1)) zc gw)
 (fz [0] (cj (a0 0)))))
def Cr(n:g_)(a:b_ D):ae (tab (n+1)) i9 a=fe (nq n (cz [e_,e_] a++iT (2-_7 a) .no)):=jc (by kernel_rfl) (by decide+kernel) _6 a
def Ib(n:g_):En->fc:=(a9 (fz [0] (di (nu [2,3]) (ak (vo 0)) (a9 (sf 4)
 (fz [1] (di (aq 5) (ak (vo 1)) (a9 (fz [5] (ym 6 (gi 4 (ah (ae (tab n) d7) (am (aa 5) (am (aa 2) af))) (a0 5))))
 (fz [3] (di (aq 7) (ak (vo 3)) (oj (g2 e8 (g2 az (aa 6) (aa 7)) (g2 az (aa 5) (aa 7))) (fz [7] (cj (h8 (am (a0 7) (am (g2 E4 (g2 az (aa 6) (aa 7)) (g2 az (aa 5) (aa 7))) (am (g2 E3 (g2 az (aa 6) (aa 7)) (g2 az (aa 5) (aa 7))) af)))))) gw)))))))))
 (cj (gC .fD)))
def Ic(n:g_):En->fc:=(a9 (dq 2 (ah (ae (tab n) q8) (am (aa 0) (am (aa 1) af))))
 (a9 (fz [] (NJ (g2 jw (aa 2) (gC .fD)) (a9 (dq 1 (ah (ae (tab n) ic) (am (aa 1) (am (g2 az (aa 2) (gC (.int 0))) (am (g2 az (aa 2) (gC (.int 1))) (am (g2 az (aa 2) (gC (.int 2))) af))))))
 (dq 2 (ah (ae (tab n) q8) (am (aa 0) (am (aa 1) af)))))))
 (cj (g1 dh (aa 1)))))
def Ie(n:g_):En->fc:=(a9 (fz [0,1] (Cd (ah (ae (tab n) i8) (am (a0 0) (am (a0 1) af)))))
 (a9 (fz [2,1] (Cd (ah (ae (tab n) i9) (am (a0 2) (am (a0 1) af)))))
 (a9 (de 3 (b9 af))
 (a9 (di (nu [4,5]) (K8 (ah (ae (tab n) o8) (am (aa 2) af))) (fz [4] (qi 3 (g1 gm (ao (cy (am (aa 1) af)) [5,4] (gC (.bl c_)) (Of (g2 iq (aa 0) (aa 1)) (gC (.int 0)) (a0 2)))))))
 (a9 (dq 6 (ah (ae (tab n) n8) (am (aa 0) (am (aa 3) af))))
 (a9 (oj (g2 iq (g1 gm (Og (b9 (am (gC (.int 0)) af)) (aa 1))) (aa 6)) (cj (h8 (am (gC (.str "sound")) (am (gC .fD) af)))) gw)
 (fz [6] (cj (h8 (am (gC (.str "rows")) (am (a0 6) af)))))))))))
def GM(n:g_)(a:b_ D):ae (tab (n+1)) zx a=fe (Ie n (cz [e_,e_,e_] a++iT (7-_7 a) .no)):=jc (by kernel_rfl) (by decide+kernel) _6 a
def my(n:g_):En->fc:=(a9 (oj (g2 Ak (aa 1) (g1 i6 (aa 0))) (cj (g2 az (aa 0) (aa 1))) gw)
 (a9 (oj (g2 gu (aa 0) (b9 af)) (cj (gC (.int 0))) gw)
 (cj (g2 bj (g2 j7 (g2 az (aa 0) (g2 E5 (aa 1) (g1 i6 (aa 0)))) (gC (.int 31))) (aa 1)))))
def Fy(n:g_)(a:b_ D):ae (tab (n+1)) m9 a=fe (my n (cz [c_,c_] a++iT (2-_7 a) .no)):=jc (by kernel_rfl) (by decide+kernel) _6 a
def Bo(n:g_):En->fc:=(a9 (dq 3 (g2 E5 (g2 j7 (g2 bj (g2 bj (ah (ae (tab n) m9) (am (aa 0) (am (aa 1) af))) (g2 j7 (gC (.int 7919)) (aa 1))) (gC (.int 1))) (gC (.int 48271))) (gC (.int 2147483647))))
 (cj (g2 E5 (g2 E5 (g2 bj (g2 bj (g2 j7 (aa 3) (aa 3)) (g2 j7 (gC (.int 7)) (aa 3))) (aa 1)) (gC (.int 2147483629))) (aa 2))))
def Kz(n:g_)(a:b_ D):ae (tab (n+1)) cb a=fe (Bo n (cz [c_,c_,c_] a++iT (4-_7 a) .no)):=jc (by kernel_rfl) (by decide+kernel) _6 a
def yh(n:g_):En->fc:=cj (g1 gm (ao (cy (am (aa 2) af)) [1,0,3] (g2 gu (ah (ae (tab n) cb) (am (aa 2) (am (g2 bj (aa 1) (aa 0)) (am (aa 3) af)))) (gC (.int 0))) (a0 0)))
def Fz(n:g_)(a:b_ D):ae (tab (n+1)) d5 a=fe (yh n (cz [c_,c_,c_,c_] a++iT (4-_7 a) .no)):=jc (by kernel_rfl) (by decide+kernel) _6 a
def Bn(n:g_):En->fc:=(a9 (de 3 (b9 af))
 (a9 (di (aq 4) (cy (am (ah (ae (tab n) cb) (am (aa 0) (am (aa 1) (am (gC (.int 6)) af)))) af)) (qi 3 (h8 (am (ah (ae (tab n) d5) (am (aa 0) (am (g2 bj (g2 bj (aa 1) (gC (.int 1))) (g2 j7 (gC (.int 12)) (aa 4))) (am (aa 2) (am (gC (.int 3)) af))))) (am (ah (ae (tab n) d5) (am (aa 0) (am (g2 bj (g2 bj (aa 1) (gC (.int 7))) (g2 j7 (gC (.int 12)) (aa 4))) (am (aa 2) (am (gC (.int 3)) af))))) af)))))
 (fz [3] (cj (a0 3)))))
def Kx(n:g_)(a:b_ D):ae (tab (n+1)) nh a=fe (Bn n (cz [c_,c_,c_] a++iT (5-_7 a) .no)):=jc (by kernel_rfl) (by decide+kernel) _6 a
def wj(n:g_):En->fc:=(a9 (de 3 (ao (cy (am (g2 bj (gC (.int 1)) (ah (ae (tab n) cb) (am (aa 0) (am (g2 bj (aa 1) (gC (.int 30))) (am (gC (.int 4)) af))))) af)) [1,2,0] (gC (.bl c_)) (ah (ae (tab n) d5) (am (aa 3) (am (g2 bj (aa 1) (g2 j7 (gC (.int 6)) (aa 0))) (am (aa 2) (am (gC (.int 2)) af)))))))
 (a9 (de 4 (b9 af))
 (a9 (di (aq 5) (cy (am (aa 2) af)) (oj (g2 gu (ao (ak (aa 3)) [5] (g2 iq (aa 1) (aa 0)) (a0 0)) (b9 af)) (fz [5] (qi 4 (a0 5))) gw))
 (a9 (oj (g2 e8 (aa 4) (b9 af)) (qi 3 (g1 gm (aa 4))) gw)
 (fz [3] (cj (a0 3)))))))
def K0(n:g_)(a:b_ D):ae (tab (n+1)) kq a=fe (wj n (cz [c_,c_,c_] a++iT (6-_7 a) .no)):=jc (by kernel_rfl) (by decide+kernel) _6 a
def Dp(n:g_):En->fc:=(a9 (fz [0] (di (aq 3) (ak (vo 0)) (oj (g2 gu (ao (ak (aa 1)) [3,2] (g2 e8 (g2 az (aa 1) (aa 0)) (g2 az (aa 2) (aa 0))) (a0 0)) (b9 af)) (cj (gC (.bl c_))) gw)))
 (cj (gC (.bl e_))))
def wk(n:g_):En->fc:=(a9 (de 3 (b9 (am (h8 af) af)))
 (a9 (di (aq 4) (cy (am (aa 2) af)) (a9 (de 5 (b9 af))
 (a9 (fz [3] (di (aq 6) (ak (vo 3)) (di (aq 7) (ak (g1 dh (ao (ak (aa 0)) [4] (gC (.bl c_)) (g2 az (aa 0) (aa 1))))) (fz [7] (qi 5 (g2 bj (aa 6) (h8 (am (a0 7) af))))))))
 (fz [5] (dq 3 (a0 5))))))
 (a9 (de 8 (b9 af))
 (a9 (fz [3] (di (aq 6) (ak (vo 3)) (a9 (dq 9 (gC (.bl c_)))
 (a9 (fz [1] (di (aq 10) (ak (vo 1)) (fz [9] (dq 9 (vy (a0 9) (ah (ae (tab n) ox) (am (aa 0) (am (aa 10) (am (aa 6) af)))))))))
 (oj (jq (aa 9)) (fz [6] (qi 8 (a0 6))) gw)))))
 (fz [8] (cj (a0 8)))))))
def wg(n:g_):En->fc:=(a9 (fz [0] (di (aq 2) (ak (vo 0)) (fz [0] (di (aq 3) (ak (vo 0)) (oj (g2 gu (ao (ak (g2 az (aa 1) (gC (.int 0)))) [2,3] (g2 e8 (g2 az (aa 1) (aa 0)) (g2 az (aa 2) (aa 0))) (a0 0)) (b9 af)) (oj (g2 e8 (ao (ak (g2 az (aa 1) (gC (.int 1)))) [2,3] (g2 e8 (g2 az (aa 1) (aa 0)) (g2 az (aa 2) (aa 0))) (a0 0)) (b9 af)) (cj (gC (.bl e_))) gw) gw)))))
 (cj (gC (.bl c_))))
def Ky(n:g_)(a:b_ D):ae (tab (n+1)) g9 a=fe (wg n (cz [c_,c_] a++iT (4-_7 a) .no)):=jc (by kernel_rfl) (by decide+kernel) _6 a
def Bp(n:g_):En->fc:=(a9 (de 4 (b9 af))
 (a9 (di (aq 5) (cy (am (ah (ae (tab n) cb) (am (aa 0) (am (aa 1) (am (gC (.int 8)) af)))) af)) (a9 (dq 6 (g1 gm (ao (cy (am (aa 2) af)) [1,5,0] (gC (.bl c_)) (ah (ae (tab n) cb) (am (aa 3) (am (g2 bj (g2 bj (g2 bj (aa 1) (gC (.int 1))) (g2 j7 (gC (.int 6)) (aa 2))) (aa 0)) (am (gC (.int 3)) af)))))))
 (a9 (fz [6] (de 7 (ao (ak (aa 3)) [4,6] (jg (jq (ah (ae (tab n) g9) (am (g2 bj (aa 1) (b9 (am (a0 2) af))) (am (aa 0) af))))) (a0 0))))
 (oj (vy (g2 fj (aa 6) (aa 4)) (g2 gu (aa 7) (b9 af))) (fz [6] (qi 4 (a0 6))) gw))))
 (fz [4] (cj (a0 4)))))
def K1(n:g_)(a:b_ D):ae (tab (n+1)) kr a=fe (Bp n (cz [c_,c_,c_,c_] a++iT (8-_7 a) .no)):=jc (by kernel_rfl) (by decide+kernel) _6 a
def Xm(n:g_):En->fc:=(a9 (dq 1 (g2 bj (gC (.int 1)) (ah (ae (tab n) cb) (am (aa 0) (am (gC (.int 0)) (am (gC (.int 5)) af))))))
 (a9 (dq 2 (ah (ae (tab n) nh) (am (aa 0) (am (gC (.int 1)) (am (aa 1) af)))))
 (a9 (dq 3 (ah (ae (tab n) kq) (am (aa 0) (am (gC (.int 80)) (am (aa 1) af)))))
 (a9 (de 4 (b9 (am (g1 iu (aa 2)) (am (g1 iu (aa 3)) af))))
 (a9 (fz [1] (dq 5 (ah (ae (tab n) zx) (am (g2 az (aa 4) (gC (.int 0))) (am (a0 1) (am (g2 az (aa 4) (gC (.int 1))) af))))))
 (a9 (fz [2,3] (oj (Fs (jg (jq (g1 (cf "tuple") (aa 5)))) (Fs (g2 e8 (g1 i6 (aa 5)) (gC (.int 2))) (g2 e8 (aa 4) (b9 (am (a0 2) (am (a0 3) af)))))) (cj (gC (.bl e_))) gw))
 (a9 (oj (g2 gu (g2 az (aa 5) (gC (.int 0))) (gC (.str "sound"))) (a9 (dq 6 (ah (ae (tab n) kr) (am (aa 0) (am (gC (.int 120)) (am (aa 1) (am (aa 2) af))))))
 (a9 (oj (g2 jw (g2 az (aa 5) (gC (.int 1))) (gC .fD)) (cj (gC (.bl e_))) gw)
 (cj (Fs (g2 gu (aa 6) (b9 af)) (g2 gu (ah (ae (tab n) ju) (am (aa 6) (am (aa 3) (am (aa 1) af)))) (g1 j8 (aa 6))))))) gw)
 (a9 (oj (Fs (g2 e8 (g2 az (aa 5) (gC (.int 0))) (gC (.str "rows"))) (Fs (jg (jq (g1 (cf "list") (g2 az (aa 5) (gC (.int 1)))))) (g2 gu (g2 az (aa 5) (gC (.int 1))) (b9 af)))) (cj (gC (.bl e_))) gw)
 (a9 (di (aq 7) (ak (g2 az (aa 5) (gC (.int 1)))) (a9 (oj (Fs (jg (jq (g1 (cf "tuple") (aa 7)))) (g2 e8 (g1 i6 (aa 7)) (aa 1))) (cj (gC (.bl e_))) gw)
 (oj (g2 e8 (ao (ak (aa 7)) [] (jg (jq (ah (ae (tab n) ni) (am (aa 0) af)))) (a0 0)) (b9 af)) (cj (gC (.bl e_))) gw)))
 (a9 (oj (g2 e8 (ao (ak (aa 2)) [5] (jg (jq (ah (ae (tab n) g9) (am (g2 az (aa 1) (gC (.int 1))) (am (aa 0) af))))) (a0 0)) (b9 af)) (cj (gC (.bl e_))) gw)
 (fz [7] (cj (g2 e8 (ao (ak (ah (ae (tab n) gd) (am (g2 az (aa 5) (gC (.int 1))) (am (aa 3) af)))) [5] (g2 fj (aa 0) (g2 az (aa 1) (gC (.int 1)))) (a0 0)) (b9 af))))))))))))))
def WC(n:g_)(a:b_ D):ae (tab (n+1)) wt a=fe (Xm n (cz [e_] a++iT (8-_7 a) .no)):=jc (by kernel_rfl) (by decide+kernel) _6 a
end LK
namespace Pu
def X2:∀(l:b_ α),(∀a∈l,F (f a)=a_ (if b a then a_ (f' a)else d_))->vk F (l.map f)=a_ ((l.filter b).map f'):=by
 intro d;induction d with
 |nil=>rintro _;exact _6
 |cons a l e=>
  rintro h
  rw[iJ];unfold vk;rw[h a iM,e λc g=>h c (iI _ g),pJ];cases b a<;>rfl
def Rg{l:b_ α}(i:r δ=.ok (l.map f))(j:_7 l<=16777216)(h:∀a∈l,t (fq d δ (.pu (f a)))=.ok (.bl (b a)))(m:∀a∈l,g (fq d δ (.pu (f a)))=.ok (c a)):
  ao r d t g δ=.ok (.au ((l.filter b).map c)):=by
 unfold ao;rw[i];dsimp only;rw[iH (by rw[iD];exact j),X2 (f':=c) l λa e=>by
  rw[MX (y:=c a) (h a e) λz=>m a e]]
def cm{l:b_ α}(d:r δ=.ok (l.map f))(e:_7 l<=16777216)(c:∀a∈l,t (fq ix δ (.pu (f a)))=.ok (.bl (b a))):
  ao r ix t (a0 0) δ=.ok (.au ((l.filter b).map f)):=Rg d e c λa z=>rfl
def f9{l:b_ α}(c:r δ=.ok (l.map f))(d:_7 l<=16777216)(e:∀a∈l,g (fq b δ (.pu (f a)))=.ok (h a)):
  ao r b (gC (.bl c_)) g δ=.ok (.au (l.map h)):=by
 have:=Rg (t:=gC (.bl c_)) c d (λz z=>rfl) e;rwa[S?.mpr (λz z=>rfl)]at this
def Bu(b:α->r_):∀l:b_ α,k9 (l.map λa=>D.bl (b a))=a_ (l.map b):=by
 intro c;induction c with
 |nil=>exact _6
 |cons a l d=>show(k9 _).map _=_;rw[d];rfl
def Q5(b:α->r_)(l:b_ α):xf (.au (l.map λa=>D.bl (b a)))=a_ (.bl (l.all b)):=by unfold xf;dsimp only;rw[Bu];show a_ (D.bl _)=_;rw[List.all_map];rfl
inductive pa(n:g_)(d:D):Prop
 |mk (p) (_:e9 d=a_ p) (_:mY p=c_) (_:p.depth<=n):pa n d
theorem DJ:∀{ds},(∀d∈ds,pa n d)->∃a,fu ds=a_ a/\jN a=c_/\lF a<=n
 |[],_=>⟨[],_6,_6,jW _⟩
 |d::r,h=>by obtain⟨p,j,i,g⟩:=h d iM;obtain⟨a,f,e,c⟩:=DJ (ds:=r) λd b=>h d (iI _ b);refine⟨p::a,by unfold fu;rw[j,f],?_,Nat.max_le.mpr ⟨g,c⟩⟩;show(mY p&&jN a)=c_;rw[i,e];rfl
def Mz(h:∀d∈e,pa n d):pa (n+1) (.ci e):=by obtain⟨a,c,b,f⟩:=DJ h;exact⟨.tuple a,by unfold e9;rw[c],b,show lF a+1<=n+1 by lia⟩
def Fh(h:∀d∈e,pa n d):pa (n+1) (.au e):=by obtain⟨a,c,b,f⟩:=DJ h;exact⟨.list a,by unfold e9;rw[c],b,show lF a+1<=n+1 by lia⟩
def Wp(h:pa n d)(l:n<=m):pa m d:=by obtain⟨p,b,a,c⟩:=h;exact⟨p,b,a,by lia⟩
def Fg(i:j_):pa 0 (.int i):=⟨.int i,_6,_6,iF _⟩
def q9{n:g_}{d:D}(h:pa n d)(c:n<=63):gu d d=a_ (.bl c_)/\e8 d d=a_ (.bl e_):=by
 obtain⟨p,b,a,f⟩:=h;have e:W7 d d=a_ c_:=by rw[Iv b b a (by lia) a (by lia),PySem.SeqAt.eqv_refl p a]
 unfold gu e8;rw[e];exact⟨_6,_6⟩
def tI(a:b_ j_):D:=.ci (a.map D.int)
end Pu
section
set_option genInjectivity true
namespace LK
open Pu
noncomputable abbrev jj(a:b_ j_):D:=.au (a.map D.int)
def Xz(a:b_ j_)(k:j_):j_:=if k<_7 a then(a[k.toNat]?).getD 0 else if a=[]then 0 else(a[(k%a.length).toNat]?).getD 0*31+k
def kn:∀b:b_ j_,fu (b.map D.int)=a_ (b.map lK):=by
 intro a;induction a with
 |nil=>exact _6
 |cons n b c=>show(match e9 (.int n)with|some p=>(match fu _ with|some d=>a_ _|none=>d_)|none=>d_)=_;rw[c];rfl
def fx:∀c:b_ j_,jN (c.map lK)=c_:=by
 intro a;induction a with
 |nil=>exact _6
 |cons n c b=>show(mY _&&jN _)=c_;rw[b];rfl
def ud:∀b:b_ j_,lF (b.map lK)<=1:=by
 intro a;induction a with
 |nil=>decide
 |cons n b c=>
  show max _ _<=1;have h:oM (.int n)<=1:=jW _
  lia
def Mx(a:b_ j_):jZ (.list (a.map lK))=c_:=by
 unfold jZ;have b:mY (.list _)=c_:=fx a;have c:oM (.list (a.map lK))<=2:=by
  have:=ud a;show lF _+1<=2
  lia
 rw[b];simp only[Bool.true_and,n_]
 lia
def Yj(a:b_ j_):gu (jj a) (.au [])=a_ (.bl (decide (a=[]))):=by
 unfold gu W7 jj;have c:e9 (.au (a.map D.int))=a_ (.list (a.map lK)):=by unfold e9;rw[kn]
 have b:e9 (.au [])=a_ _:=rfl;rw[c,b];dsimp only;rw[Mx,show jZ _=c_ from by decide];cases a<;>rfl
def Zh(a:b_ j_)(k:j_)(d:0<=k)(c:k<_7 a):az (jj a) (.int k)=a_ (.int ((a[k.toNat]?).getD 0)):=by
 have b:k=((k.toNat:g_):j_):=by lia
 rw[b];refine(L2.Ia ?_).trans (by rw[<-b]);rw[jF,iR (by lia)];rfl
def FC(n:g_)(b:b_ j_)(k:j_)(e:0<=k):ae (tab (n+1)) m9 [jj b,.int k]=.ok (.int (Xz b k)):=by
 rw[Fy];unfold Xz
 by_cases c:k<_7 b
 .have g:=Zh b k e c;simp[my,c,g]
 .by_cases d:b=[]
  .subst d;have f:¬k<0:=by lia
   simp[my,f,(Yj [])]
  .have h:0<_7 b:=by cases b<;>simp_all
   simp[my,c,d,(Zh b (k%b.length) (Int.emod_nonneg _ (by lia)) (F! _ (by lia))),(Yj b),(Tp k b.length (by lia)),(λa=>Cm a 31 _)]
def x8(a:b_ j_)(k m:j_):j_:=
 let x:=(Xz a k+7919*k+1)*48271%2147483647
 (x*x+7*x+k)%2147483629%m
def sy(n:g_)(b:b_ j_)(k m:j_)(d:0<=k)(c:0<m):ae (tab (n+2)) cb [jj b,.int k,.int m]=.ok (.int (x8 b k m)):=by rw[Kz];have e:∀a,j7 (.int (a%2147483647)) (.int (a%2147483647))=a_ _:=λa=>Cm _ _ (.inl (by lia));simp[Bo,(FC n b k d),(Cm 7919 k _),(λa=>Cm a 48271 _),(λa=>Tp a 2147483647 (by decide)),(λa=>Tp a 2147483629 (by decide)),(λa=>Tp a m c),(λa=>Cm 7 a _),e,x8]
def ui(a:b_ j_)(k m:j_)(b:0<m):0<=x8 a k m/\x8 a k m<m:=⟨Int.emod_nonneg _ (by lia),F! _ b⟩
def Iy:∀(l:b_ g_),(∀j∈l,h (.int (0+(j:j_)))=a_ (f j))->(l.map λ(i:g_)=>Pu.D.int (0+(i:j_))).filterMap h=l.map f:=by
 intro b;induction b with
 |nil=>rintro _;exact _6
 |cons a l c=>
  rintro d
  rw[iJ,pB,d a iM];rw[c λj e=>d j (iI _ e),iJ]
def Ct{f:g_->Pu.D}(n:g_)(b:∀j,j<n->h (.int (0+(j:j_)))=a_ (f j)):(j0 0 n).filterMap h=(jD n).map f:=
 Iy _ λj a=>b j (v_.mp a)
def Pz(n:g_):(j0 0 n).length=n:=by unfold j0;simp
def Pa(h:d∈j0 0 n):∃j,j<n/\d=.int (0+(j:j_)):=by obtain⟨j,a,e⟩:=k_.mp h;exact⟨j,v_.mp a,e.symm⟩
def uc{r:En->f8}{a:b_ g_}{g:En->ce}{δ:En}{m:g_}{f:g_->Pu.D}(c:r δ=.ok (j0 0 m))(l:m<=16777216)(e:∀j,j<m->g (fq a δ (.pu (.int (0+(j:j_)))))=.ok (f j)):
  ao r a (gC (.bl c_)) g δ=.ok (.au ((jD m).map f)):=by
 let h:Pu.D->f_ Pu.D:=λd=>match d with
  |.int k=>a_ (f k.toNat)
  |_=>d_
 have:=Yt (t:=gC _) (g:=g) (δ:=δ) (h:=h) c (by rwa[Pz]) λd i=>by
  obtain⟨j,b,rfl⟩:=Pa i;rw[EM (e j b)];show a_ _=a_ (a_ _);have:(0+(j:j_)).toNat=j:=by lia
  rw[this]
 rw[this,Ct m];intro j b;show a_ _=a_ (f j);have:(0+(j:j_)).toNat=j:=by lia
 rw[this]
def Da(x:j_):r_:=c_
def Fm(l:b_ j_):fu (l.map Pu.D.int)=a_ (l.map lK):=kn l
def wm{l:b_ j_}(h:∀x∈l,Da x=c_):jN (l.map lK)=c_:=fx l
def J8(l:b_ j_)(x:j_):((l.map lK).any λy=>lC y (.int x))=decide (x∈l):=by
 induction l with
 |nil=>rfl
 |cons y l a=>
  rw[iJ,mZ,a];show((y==x)||decide _)=_
  by_cases h:y=x
  .subst h;simp
  .have b:¬x=y:=λz=>h z.symm;have:(y==x)=e_:=by simpa using h
   rw[this];simp[b]
def Rw(l:b_ j_)(x:j_):yk (.int x) (.au (l.map Pu.D.int))=a_ (decide (x∈l))/\yk (.int x) (.ci (l.map Pu.D.int))=a_ (decide (x∈l)):=by
 constructor
 .show (match fu _, e9 _ with
   |some a,a_ q=>if jN a&&jZ q then a_ _ else d_
   |_,_=>d_)=_
  rw[kn];show(if jN _&&jZ _ then a_ _ else d_)=_;rw[fx,qm _6 (jW _),J8];rfl
 .show (match fu _, e9 _ with
   |some a,a_ q=>if jN a&&jZ q then a_ _ else d_
   |_,_=>d_)=_
  rw[kn];show(if jN _&&jZ _ then a_ _ else d_)=_;rw[fx,qm _6 (jW _),J8];rfl
def Ac{l:b_ j_}{x:j_}(b:∀y∈l,Da y=c_)(a:Da x=c_):Jq (.int x) (.au (l.map Pu.D.int))=a_ (.bl (decide (x∈l)))/\og (.int x) (.au (l.map Pu.D.int))=a_ (.bl (!decide (x∈l))):=by unfold Jq og;rw[(Rw l x).1];exact⟨_6,_6⟩
end LK
end
namespace LK
open Pu
def pick(a:b_ j_)(b:b_ g_):b_ j_:=b.map λp=>a.getD p 0
def bf(a:b_ g_):b_ Pu.D:=a.map λ(p:g_)=>Pu.D.int (p:j_)
noncomputable abbrev fw(xs:b_ j_):Pu.D:=.au (xs.map Pu.D.int)
def Af(a:b_ j_)(p:g_)(h:p<_7 a):az (tI a) (.int p)=a_ (.int (a.getD p 0)):=by show L2.atI _ p=_;unfold L2.atI;simp[L2.MA,h]
def ti(n:g_)(a:b_ j_)(b:b_ g_)(h:∀p∈b,p<_7 a)(e:_7 b<=1000):ae (tab (n+1)) d7 [tI a,.au (bf b)]=.ok (tI (pick a b)):=by
 have d:ao (ak (aa 1)) [0] _ (g2 az (aa 1) (aa 0)) [.bo (tI a),.bo (.au (bf b))]=.ok (.au (b.map λp=>Pu.D.int (a.getD p 0))):=
  f9 (f:=λ(p:g_)=>Pu.D.int (p:j_)) (by simp[bf]) (by lia) λp c=>by simp[fq,Af a p (h p c)]
 show fe (sj n [.bo _,.bo (.au _)])=_;unfold sj;rw[t6,Fo,d];simp[tI,pick]
def Y2(x:j_):∀(a:b_ j_),x∈a->D2 (a.map lK) (.int x)=a_ (a.idxOf x):=by
 intro b;induction b with
 |nil=>rintro h;simp at h
 |cons y r c=>
  rintro h
  unfold D2;rw[iJ,e!,List.idxOf_cons];have e:lC (.int y) (.int x)=(y==x):=rfl;rw[e]
  by_cases q:y=x
  .subst q;simp
  .have d:(y==x)=e_:=by simpa using q
   rw[d];have f:x∈r:=by
    rcases l_.mp h with z|z
    .exact t_ z.symm q
    .exact z
   have:=c f;unfold D2 at this;simp[this]
def P6(h:Da x=c_):jZ (.int x)=c_:=by unfold jZ;simp[mY,oM]
def Om(c:∀y∈a,Da y=c_)(d:_7 a<=1000)(b:x∈a):jm (fw a) (.int x)=a_ (.int (a.idxOf x:g_)):=by unfold fw jm;dsimp only;rw[Fm];show(if jN _&&jZ _&&decide _ then(D2 _ _).map λj=>Pu.D.int _ else d_)=_;rw[wm c,P6 (c x b),m_ (by rw[iD,kP];lia),Y2 x a b];rfl
def mr(n:g_){xs:b_ j_}(h:∀y∈a,Da y=c_)(g:_7 a<=1000)(d:∀x∈xs,x∈a)(e:_7 xs<=1000):ae (tab (n+1)) jv [fw xs,fw a]=.ok (.au (bf (xs.map a.idxOf))):=by
 have c:ao (ak (aa 0)) [1] _ (gM jm (aa 1) (aa 0)) [.bo (fw xs),.bo (fw a)]=.ok (.au (xs.map λx=>Pu.D.int (a.idxOf x:g_))):=
  f9 (f:=Pu.D.int) (by simp) (by omega) λx b=>by simp[fq,(Om h g (d x b))]
 show fe (Br n [.bo (fw xs),.bo _])=_;unfold Br;rw[t6,c];simp[bf]
abbrev qz:=b_ j_×b_ Pu.D
def wa(p:qz):Pu.D×Pu.D:=(tI p.1,.ci p.2)
def i5(b:b_ j_)(a:b_ qz):Pu.D:=.obj (.Name "Fits" ⟨0,0,0,0⟩) [("columns",fw b),("rows",.js c_ (a.map wa))]
@[simp] theorem fO(a:b_ j_)(b:b_ qz):S9 xs.cls "columns" (i5 a b)=a_ (fw a):=rfl
@[simp] theorem fN(b:b_ j_)(a:b_ qz):S9 xs.cls "rows" (i5 b a)=a_ (.js c_ (a.map wa)):=rfl
def Rx(b:b_ j_)(a:b_ qz):Cb "Fits" "columns" "rows" [fw b,.js c_ (a.map wa)]=.ok (i5 b a):=rfl
end LK
section
set_option genInjectivity true
namespace LK
open Pu
def rK(r:b_ j_):L2.fm:=r.map λz=>.inl (.inl z)
def Zi(r:b_ j_):kT (rK r)=tI r:=by show Pu.D.ci ((r.map λz=>uN _).map Vu)=_;rw[jV];rfl
def oi(r:b_ j_):bx (tI r)=a_ (rK r):=by rw[<-Zi];exact oh _
theorem CM:∀{r t},rK r=rK t->r=t
 |[],[],_=>rfl
 |[],_::_,h=>by cases h
 |_::_,[],h=>by cases h
 |i::r,j::t,h=>by
  injection h with b a
  rw[uQ (uQ b),CM a]
def ik:bx (tI r)=a_ (rK t)↔r=t:=by rw[oi];exact⟨λh=>CM (jM h),λh=>by rw[h]⟩
noncomputable abbrev cg(a:b_ qz):b_ (b_ j_):=a.map (·.1)
def Vo(r:b_ j_):∀a,(r∉cg a->dj (a.map wa) (rK r)=d_)/\(r∈cg a->∃s,(r,s)∈a/\dj (a.map wa) (rK r)=a_ (.ci s)):=by
 intro b;induction b with
 |nil=>exact⟨λq=>rfl,λh=>by simp at h⟩
 |cons p a c=>
  obtain⟨f,d⟩:=c;show(_->(if bx _=a_ _ then a_ _ else dj _ _)=d_)/\(_->∃s,_/\(if bx _=a_ _ then a_ _ else dj _ _)=a_ _)
  by_cases e:p.1=r
  .rw[iH (ik.mpr e)];refine⟨λh=>t_ (by rw[<-e];simp) h,λq=>⟨p.2,?_,_6⟩⟩;rw[<-e];exact iM
  .rw[iG λz=>e (ik.mp z)];refine⟨λh=>f λz=>h (by simp at z⊢;exact .inr z),λh=>?_⟩;have:r∈cg a:=by simp only[iJ,mF]at h;exact h.resolve_left λz=>e z.symm
   obtain⟨s,i,g⟩:=d this;exact⟨s,iI _ i,g⟩
def md(a:b_ qz)(r:b_ j_)(s:b_ Pu.D):b_ qz:=if r∈cg a then a else a++[(r,s)]
def zi(a:b_ qz)(r:b_ j_)(s:b_ Pu.D):(md a r s).length<=_7 a+1:=by
 unfold md;split
 .lia
 .simp
def Lw:x∈cg (md a r s)↔x∈cg a\/x=r:=by
 unfold md
 by_cases h:r∈cg a
 .rw[iH h];exact⟨.inl,λq=>q.elim id λe=>e▸h⟩
 .rw[iG h];simp
def Dm(h:(cg c).Nodup):(cg (md c r s)).Nodup:=by
 unfold md
 by_cases e:r∈cg c
 .rwa[iH e]
 .rw[iG e];show((c++_).map _).Nodup;rw[kQ,rL];refine⟨h,by simp,λa f b d=>?_⟩;have:b=r:=by simpa using d
  subst this;exact λz=>e (z▸f)
def Mn(h:r∉cg a):Cy (a.map wa) (rK r) (.ci s)=(md a r s).map wa:=by
 have d:yx (a.map wa) (rK r)=e_:=by unfold yx;rw[Z_];intro p c;obtain⟨q,b,rfl⟩:=k_.mp c;simp only[n_];intro z;exact h (k_.mpr ⟨q,b,ik.mp z⟩)
 unfold Cy md;rw[d,iG h,iG D_,kQ,Zi];rfl
def UH{δ:En}(h:δ[i]?=a_ s):δ.set i s=δ:=by
 refine rN λj=>?_
 by_cases e:i=j
 .subst e;rw[jQ (h_.mp h).1,h]
 .rw[jL e]
def ZR{δ:En}{i:g_}{d c:En->ce}{a:b_ qz}{r:b_ j_}{s:b_ Pu.D}(b:δ[i]?=a_ (.od c_ (a.map wa)))(l:d δ=.ok (tI r))(j:c δ=.ok (.ci s))(m:_7 a<=100000):
  uy (gi i d c) δ=.nx (δ.set i (.od c_ ((md a r s).map wa))):=by
 unfold uy gi;rw[b];rw[l];rw[j];dsimp only;rw[oi];dsimp only;rw[iH (by rw[iD,kP];lia)];obtain⟨g,f⟩:=Vo r a
 by_cases h:r∈cg a
 .obtain⟨t,_,e⟩:=f h;rw[e];rw[show md a r s=a from iH h,UH b]
 .rw[g h];rw[Mn h]
theorem C2:∀a b:b_ j_,qL (a.map lK) (b.map lK)=decide (a=b)
 |[],[]=>rfl
 |[],_::_=>rfl
 |_::_,[]=>rfl
 |x::a,y::b=>by
  show((x==y)&&qL _ _)=_;rw[C2 a b]
  by_cases h:x=y
  .subst h;simp
  .simp[h]
def GJ(f:∀x∈a,Da x=c_)(e:∀x∈b,Da x=c_):gu (fw a) (fw b)=a_ (.bl (decide (a=b))):=by
 have t:∀l,e9 (fw l)=a_ _:=λl=>by unfold fw e9;rw[Fm]
 have g:∀l:b_ j_,lF (l.map lK)=0:=λl=>by
  induction l with
  |nil=>rfl
  |cons x r c=>show max _ _=0;rw[c];rfl
 have d:∀l:b_ j_,oM (.list _)<=63:=λl=>by show lF (l.map lK)+1<=63;rw[g];decide
 unfold gu;rw[Iv (t a) (t b) (wm f) (d a) (wm e) (d b)];exact u_ a_ (u_ Pu.D.bl (C2 a b))
def RX(f:b_ Pu.D->ce):En->fc:=fz [6] (uy (gi 4 (ah f (Pu.am (aa 5) (Pu.am (aa 3) af))) (a0 6)))
def Cv(d:b_ g_)(c b:b_ qz):b_ qz:=b.foldl (λa p=>md a (pick p.1 d) p.2) c
def AV(f:b_ Pu.D->ce)(b:b_ g_)(x:∀d,(∀q∈b,q<_7 d)->f [tI d,.au (bf b)]=.ok (tI (pick d b)))(i h g:Sl):∀a c l j,(∀p∈a,∀q∈b,q<_7 p.1)->_7 c+_7 a<=100000->
  ∃o n,turns (nu [5,6]) (RX f) (a.map λp=>Ea (wa p)) [i,h,g,.pu (.au (bf b)),.od c_ (c.map wa),l,j]=.nx [i,h,g,.pu (.au (bf b)),.od c_ ((Cv b c a).map wa),o,n]:=by
 intro m;induction m with
 |nil=>rintro c l j _ _;exact⟨l,j,_6⟩
 |cons p a r=>
  rintro c l j s w
  rw[iC]at w;have v:=zi c (pick p.1 b) p.2;obtain⟨o,n,e⟩:=r (md c (pick p.1 b) p.2) _ _ (λq u=>s q (iI _ u)) (by lia);refine⟨o,n,?_⟩;rw[iJ,bu (δ1:=[i,h,g,.pu _,.od c_ _,.pu (tI p.1),.pu (.ci p.2)]) _6];have y:RX f [i,h,g,.pu (.au (bf b)),.od c_ (c.map wa),.pu (tI p.1),.pu (.ci p.2)]=.nx [i,h,g,.pu (.au (bf b)),.od c_ ((md c (pick p.1 b) p.2).map wa),.pu (tI p.1),.pu (.ci p.2)]:=by exact ZR (δ:=[i,h,g,.pu _,.od c_ _,.pu _,.pu _]) _6 (by simp[(x p.1 (s p iM))]) _6 (by lia)
  rwa[y]
def L7(c:b_ g_):∀a b,(Cv c b a).length<=_7 b+_7 a:=by
 intro d;induction d with
 |nil=>rintro b;simp[Cv]
 |cons p a e=>
  rintro b
  have g:=e (md b (pick p.1 c) p.2);have f:=zi b (pick p.1 c) p.2;show(Cv c (md b _ p.2) a).length<=_;rw[iC]
  lia
def Lx(d:b_ g_)(x:b_ j_):∀a b,x∈cg (Cv d b a)↔x∈cg b\/∃r∈cg a,x=pick r d:=by
 intro c;induction c with
 |nil=>rintro b;simp[Cv]
 |cons p a e=>
  rintro b
  show x∈cg (Cv d _ a)↔_;rw[e,Lw];simp only[iJ,mF,_Z,or_assoc]
def Ep(e:b_ g_):∀a b,(cg b).Nodup->(cg (Cv e b a)).Nodup:=by
 intro c;induction c with
 |nil=>rintro b h;exact h
 |cons p a d=>rintro b h;exact d _ (Dm h)
theorem Er(e:b_ g_)(b:g_):∀a d,(∀p∈d,_7 p.2<=b)->(∀p∈a,_7 p.2<=b)->∀p∈Cv e d a,_7 p.2<=b
 |[],d,h,_=>h
 |q::a,d,h,f=>by
  refine Er e b a _ (λp c=>?_) (λp c=>f p (iI _ c));replace c:p∈md d _ q.2:=c;unfold md at c;split at c
  .exact h p c
  .rcases s_.mp c with z|z
   .exact h p z
   .rw[q_.mp z];exact f q iM
structure Rep(b:g_)(cols:b_ j_)(rows:b_ qz)(S:(j_->j_)->Prop):Prop where
 cn:cols.Nodup
 ck:∀x∈cols,Da x=c_
 cl:_7 cols<=100
 rn:(cg rows).Nodup
 mem:∀r,r∈cg rows↔∃Z,S Z/\r=cols.map Z
 vb:∀p∈rows,_7 p.2<=b
def Rep.len(R:Rep b c a S)(h:p∈a):_7 p.1=_7 c:=by obtain⟨Z,_,e⟩:=(R.mem p.1).mp (k_.mpr ⟨p,h,_6⟩);rw[e,iD]
def l8{a xs:b_ j_}(h:∀x∈xs,x∈a):pick (a.map Z) (xs.map a.idxOf)=xs.map Z:=by unfold pick;rw[jV];refine jY λx b=>?_;show(a.map Z).getD _ 0=Z x;rw[iK,jF,iR (lM (h x b))];simp
def B6(n:g_)(R:Rep b a d S)(G:∀x∈c,Da x=c_)(N:_7 c<=1000)(M:_7 d<=10000):
  ∃f,Rep b (a.filter λx=>decide (x∈c)) f S/\_7 f<=_7 d/\ae (tab (n+2)) oz [i5 a d,fw c]=.ok (i5 (a.filter λx=>decide (x∈c)) f):=by
 have I:=R.cl;have A:ao (jh (gp xs.cls "columns" (aa 0))) [1] (g2 iq (aa 0) (aa 1)) _ [.pu (i5 a d),.bo (fw c),.no,.no,.no,.no,.no]=.ok (.au ((a.filter λx=>decide _).map Pu.D.int)):=
  cm (b:=λx=>decide (x∈c)) (by simp) (by lia) λx m=>by have e:=(Ac G (R.ck x m)).1;simp[fq,e]
 have u:∀x∈a.filter λx=>decide (x∈c),Da x=c_:=λx m=>R.ck x (z_.mp m).1;have i:=GJ u R.ck;rw[N7]
 by_cases o:(a.filter λx=>decide (x∈c))=a
 .refine⟨d,by rwa[o],iF _,?_⟩;rw[m_ o,o]at i;simp[yq,A,i,o]
 .rw[i_ o]at i;have g:∀x∈a.filter λx=>decide (x∈c),x∈a:=λx m=>(z_.mp m).1;have H:(a.filter λx=>decide (x∈c)).length<=_7 a:=lR ..;generalize z:(a.filter λx=>decide (x∈c))=s at *;have w:∀p∈d,∀q∈s.map a.idxOf,q<_7 p.1:=λp E q C=>by obtain⟨x,m,rfl⟩:=k_.mp C;rw[R.len E];exact lM (g x m)
  obtain⟨L,J,e⟩:=AV _ _ (λv h=>ti n v _ h (by rw[iD];lia)) _ _ _ d [] .no .no w (by simp;lia);refine⟨Cv _ [] d,⟨by rw[<-z];exact R.cn.filter _,u,by lia,Ep _ d [] nE,λr=>?_,Er _ b d [] (by simp) R.vb⟩,by simpa using(L7 (s.map a.idxOf) d []),?_⟩
  .rw[Lx];constructor
   .rintro (h|⟨B,h,rfl⟩)
    .simp at h
    .obtain⟨Z,l,rfl⟩:=(R.mem B).mp h;exact⟨Z,l,l8 g⟩
   .rintro⟨Z,l,rfl⟩
    exact .inr ⟨a.map Z,(R.mem _).mpr ⟨Z,l,_6⟩,(l8 g).symm⟩
  .unfold RX at e;have y:oe (gp xs.cls "rows" (aa 0)) [.pu (i5 a d),.bo (fw c),.ow (s.map Pu.D.int),.pu (.au (bf (s.map a.idxOf))),.od c_ (([]).map wa),.no,.no]=.ok (d.map λp=>Ea (wa p)):=by simp
   have j:=(f6 y).trans e;simp only[nI]at j;simp[yq,A,i,(mr n R.ck (by lia) g (by lia)),sf,j,(Rx s _)]
abbrev W4:=b_ (b_ j_×b_ (b_ j_))
def gD(q:b_ j_×b_ (b_ j_)):Pu.D×b_ Pu.D:=(tI q.1,q.2.map tI)
noncomputable def D5(k r:b_ j_):W4->W4
 |[]=>[(k,[r])]
 |(a,l)::gs=>if a=k then(a,l++[r])::gs else(a,l)::D5 k r gs
noncomputable def Bb:W4->b_ j_->b_ (b_ j_)
 |[],_=>[]
 |(a,l)::gs,k=>if a=k then l else Bb gs k
def QD(k r b:b_ j_):∀gs,Bb (D5 k r gs) b=if k=b then Bb gs b++[r]else Bb gs b:=by
 intro a;induction a with
 |nil=>
  unfold D5 Bb
  by_cases h:k=b<;>simp[Bb]
 |cons a gs e=>
  obtain⟨d,l⟩:=a;unfold D5
  by_cases h:d=k
  .subst h
   by_cases c:d=b<;>simp[Bb,c]
  .rw[iG h];unfold Bb;rw[e]
   by_cases c:d=b
   .rw[iH c,iH c,iG (λz=>h (c.trans z.symm))]
   .rw[iG c,iG c]
def U6(k r:b_ j_):∀gs,Le bx kT (rK k) (tI r) (gs.map gD)=(D5 k r gs).map gD:=by
 intro a;induction a with
 |nil=>show[_]=[(tI k,[tI r])];rw[Zi]
 |cons a gs b=>
  obtain⟨c,l⟩:=a;show(if bx _=a_ _ then _::gs.map gD else _::Le bx kT _ _ _)=_;unfold D5
  by_cases h:c=k
  .rw[iH (ik.mpr h),iH h];simp[gD]
  .rw[iG λz=>h (ik.mp z),iG h,b];rfl
def VZ(gs:W4):g_:=(gs.map λq=>q.2.length).sum
def VY(k r:b_ j_):∀gs,VZ (D5 k r gs)=VZ gs+1/\(D5 k r gs).length<=_7 gs+1:=by
 intro a;induction a with
 |nil=>simp[D5,VZ]
 |cons _ gs b=>
  obtain⟨c,d⟩:=b;unfold D5;unfold VZ at c⊢;split
  .simp;lia
  .simp;lia
def Zz(k:b_ j_):∀gs,(dj ((gs.map gD).map λq=>(q.1,Pu.D.au q.2)) (rK k)).getD (.au [])=.au ((Bb gs k).map tI):=by
 intro a;induction a with
 |nil=>exact _6
 |cons a gs b=>
  obtain⟨c,l⟩:=a;show(if bx (tI c)=a_ _ then a_ _ else dj _ _).getD _=_;unfold Bb
  by_cases h:c=k
  .rw[iH (ik.mpr h),iH h];rfl
  .rw[iG λz=>h (ik.mp z),iG h,b]
def Y0(s o:En->ce)(c:b_ g_)(i g f e:Sl):∀(b:b_ (b_ j_)) d gs,(∀r∈b,s [i,g,f,e,.pu (tI r)]=.ok (tI (pick r c))/\o [i,g,f,e,.pu (tI r)]=.ok (tI r))->_7 gs+_7 b<=100000->VZ gs+_7 b<=100000->
  ∃l a,MG bx kT 4 s o (b.map tI) [i,g,f,e,d] (gs.map gD)=a_ ([i,g,f,e,l],a.map gD)/\∀k,Bb a k=Bb gs k++b.filter λr=>decide (pick r c=k):=by
 intro j;induction j with
 |nil=>rintro d gs _ _ _;exact⟨d,gs,_6,λk=>by simp⟩
 |cons r b m=>
  rintro d gs h A z
  rw[iC]at A z;obtain⟨G,E⟩:=VY (pick r c) r gs;obtain⟨C,B⟩:=h r iM;obtain⟨l,a,v,u⟩:=m _ (D5 (pick r c) r gs) (λx w=>h x (iI _ w)) (by lia) (by lia);refine⟨l,a,?_,λk=>?_⟩
  .rw[iJ];unfold MG;simp only[mL,nN];rw[C,B];dsimp only;rw[oi];dsimp only;have y:(((gs.map gD).map λp=>p.2.length).sum)=VZ gs:=by
    rw[jV]
    congr 1
    exact jY λq Y=>by simp[gD]
   rw[iH (by rw[y,iD,kP];lia),U6,v]
  .rw[u,QD,pJ]
   by_cases n:pick r c=k
   .simp[n]
   .simp[n]
def Fv(n:g_)(R:Rep b d c S)(i:∀x∈a,x∈d)(s:_7 a<=1000)(f:_7 c<=10000):
  ∃gs,ae (tab (n+2)) jl [i5 d c,fw a]=.ok (.js c_ ((gs.map gD).map λq=>(q.1,.au q.2)))/\∀k,Bb gs k=(cg c).filter λr=>decide (pick r (a.map d.idxOf)=k):=by
 have u:=R.cl;have g:∀r∈cg c,∀q∈a.map d.idxOf,q<_7 r:=λr f q m=>by obtain⟨p,o,rfl⟩:=k_.mp f;obtain⟨x,l,rfl⟩:=k_.mp m;rw[R.len o];exact lM (i x l)
 obtain⟨v,gs,h,j⟩:=Y0 (ah (ae (tab (n+1)) d7) (Pu.am (aa 4) (Pu.am (aa 2) af))) (a0 4) (a.map d.idxOf) _ _ (.pu (.au (bf (a.map d.idxOf)))) .no _ .no [] (λr f=>by
  have:=(λr f=>ti n r _ (g r f) (by rw[iD];lia)) r f;simp[this]) (by simp;lia) (by simp[VZ];lia)
 refine⟨gs,?_,λk=>by rw[j];simp[Bb]⟩;rw[zz];have e:c.map ((λx=>x.fst) ∘ wa)=(cg c).map tI:=by rw[jV];rfl
 rw[nI]at h;simp[q0,(mr n R.ck (by lia) i s),sf,LR,Tc];rw[e,h];simp
def Wn(n:g_){a c:b_ j_}{r1 r2:b_ qz}(g:∀x∈a,Da x=c_)(f:∀x∈c,Da x=c_)(h:_7 a<=1000):
  ae (tab (n+1)) ml [i5 a r1,i5 c r2]=.ok (fw (a.filter λx=>decide (x∈c))):=by
 have e:ao (jh (gp xs.cls "columns" (aa 0))) [1] (g2 iq (aa 0) (gp xs.cls "columns" (aa 1))) _ [.bo (i5 a r1),.bo (i5 c r2)]=.ok (.au ((a.filter λx=>decide _).map Pu.D.int)):=
  cm (b:=λx=>decide (x∈c)) (by simp) (by lia) λx d=>by simp[fq,((Ac (x:=x) f (g x d)).1)]
 show fe (sk n [.bo (i5 a r1),.bo _])=_;unfold sk;rw[t6,e];rfl
noncomputable def yc:b_ qz->b_ j_->b_ Pu.D
 |[],_=>[]
 |p::a,r=>if p.1=r then p.2 else yc a r
def Z1:∀{a},r∈cg a->dj (a.map wa) (rK r)=a_ (.ci (yc a r)):=by
 intro b;induction b with
 |nil=>rintro h;simp at h
 |cons p a c=>
  rintro h
  show(if bx _=a_ _ then a_ _ else dj _ _)=_;unfold yc
  by_cases e:p.1=r
  .rw[iH (ik.mpr e),iH e]
  .rw[iG λz=>e (ik.mp z),iG e];refine c ?_;simp only[iJ,mF]at h;exact h.resolve_left λz=>e z.symm
def FY{b:g_}{r:b_ j_}:∀{c},(∀p∈c,_7 p.2<=b)->(yc c r).length<=b:=by
 intro a;induction a with
 |nil=>rintro _;simp[yc]
 |cons p c d=>
  rintro h
  unfold yc;split
  .exact h p iM
  .exact d λq e=>h q (iI _ e)
def bW(f:b_ Pu.D->ce):En->fc:=uy (gi 12 (ah f (Pu.am (g2 bj (aa 13) (aa 15)) (Pu.am (aa 9) af))) (g2 bj (aa 14) (g2 az (gp xs.cls "rows" (aa 5)) (aa 15))))
def dA(f:b_ Pu.D->ce):En->fc:=di (aq 15) (ak (D4 (aa 11) (ah f (Pu.am (aa 13) (Pu.am (aa 10) af))) (b9 af))) (bW f)
def jE(m l j i h:Sl)(r:b_ j_)(o:b_ qz)(g f e:Sl)(p d:b_ g_)(gs:W4)(n:b_ qz)(c b a:Sl):En:=
 [m,l,j,i,h,.pu (i5 r o),g,f,e,.pu (.au (bf p)),.pu (.au (bf d)),.pu (.js c_ ((gs.map gD).map λq=>(q.1,.au q.2))),.od c_ (n.map wa),c,b,a]
def Uy(d:b_ g_)(c:b_ qz)(p:qz)(b:b_ qz)(l:b_ (b_ j_)):b_ qz:=l.foldl (λa r=>md a (pick (p.1++r) d) (p.2++yc c r)) b
def Xj{a b:b_ j_}(h:_7 a+_7 b<=1000):bj (tI a) (tI b)=a_ (tI (a++b)):=by show(if(a.map Pu.D.int).length+(b.map Pu.D.int).length<=iN then a_ _ else d_)=_;rw[iH (by rw[iD,iD,kP];lia),<-kQ];rfl
def FK{a b:b_ Pu.D}(h:_7 a+_7 b<=1000):bj (.ci a) (.ci b)=a_ (.ci (a++b)):=iH (by rw[kP];lia)
def Ru(c:b_ g_)(b:b_ qz)(p:qz):∀l a,(Uy c b p a l).length<=_7 a+_7 l:=by
 intro d;induction d with
 |nil=>rintro a;simp[Uy]
 |cons r l e=>
  rintro a
  have g:=e (md a (pick (p.1++r) c) (p.2++yc b r));have f:=zi a (pick (p.1++r) c) (p.2++yc b r);show(Uy c b p (md a _ _) l).length<=_;rw[iC]
  lia
def IF(c:b_ g_)(e:b_ qz)(p:qz)(x:b_ j_):∀l a,x∈cg (Uy c e p a l)↔x∈cg a\/∃r∈l,x=pick (p.1++r) c:=by
 intro b;induction b with
 |nil=>rintro a;simp[Uy]
 |cons r l d=>
  rintro a
  show x∈cg (Uy c e p _ l)↔_;rw[d,Lw];simp only[mF,_Z,or_assoc]
def Uz(e:b_ g_)(d:b_ qz)(p:qz):∀l a,(cg a).Nodup->(cg (Uy e d p a l)).Nodup:=by
 intro b;induction b with
 |nil=>rintro a h;exact h
 |cons r l c=>rintro a h;exact c _ (Dm h)
theorem Rv(e:b_ g_)(d:b_ qz)(p:qz)(b:g_)(f:∀r,(p.2++yc d r).length<=b):∀l c,(∀q∈c,_7 q.2<=b)->∀q∈Uy e d p c l,_7 q.2<=b
 |[],c,h=>h
 |r::l,c,h=>by
  refine Rv e d p b f l _ λq a=>?_;replace a:q∈md c _ _:=a;unfold md at a;split at a
  .exact h q a
  .rcases s_.mp a with z|z
   .exact h q z
   .rw[q_.mp z];exact f r
def HW(f:b_ Pu.D->ce)(m:g_)(A z y x w:Sl)(B:b_ j_)(c:b_ qz)(v u s:Sl)(d g:b_ g_)(gs:W4)(p:qz)(T:_7 p.1<=100)(I:_7 p.2<=400)(G:∀q∈c,_7 q.2<=400)
  (M:∀o,_7 o=m->f [tI o,.au (bf d)]=.ok (tI (pick o d))):∀l i j,(∀r∈l,r∈cg c/\_7 r<=100/\(p.1++r).length=m)->_7 i+_7 l<=100000->
  ∃n,turns (aq 15) (bW f) (l.map tI) (jE A z y x w B c v u s d g gs i (.pu (tI p.1)) (.pu (.ci p.2)) j)=.nx (jE A z y x w B c v u s d g gs (Uy d c p i l) (.pu (tI p.1)) (.pu (.ci p.2)) n):=by
 intro C;induction C with
 |nil=>rintro i j _ _;exact⟨j,_6⟩
 |cons r l E=>
  rintro i j h L
  rw[iC]at L;have J:=zi i (pick (p.1++r) d) (p.2++yc c r);obtain⟨n,e⟩:=E (md i (pick (p.1++r) d) (p.2++yc c r)) _ (λq H=>h q (iI _ H)) (by lia);refine⟨n,?_⟩;obtain⟨g1,g2,O⟩:=h r iM;rw[iJ,bu (δ1:=jE A z y x w B c v u s d g gs i _ _ _) _6];have N:bW f (jE A z y x w B c v u s d g gs i (.pu (tI p.1)) (.pu (.ci p.2)) (.pu (tI r)))=.nx (jE A z y x w B c v u s d g gs (md i (pick (p.1++r) d) (p.2++yc c r)) (.pu (tI p.1)) (.pu (.ci p.2)) (.pu (tI r))):=by
   have Q:az (.js c_ (c.map wa)) (tI r)=a_ (.ci (yc c r)):=by show(bx _).bind _=_;rw[oi];exact Z1 g1
   exact ZR _6 (by simp[jE,(M _ O),(Xj (a:=p.1) (b:=r) (by lia))]) (by simp[jE,Q,(FK (a:=p.2) (b:=yc c r) (by have:=FY (r:=r) G;lia))]) (by lia)
  rwa[N]
def AG(f c:b_ g_)(e:b_ qz)(gs:W4)(d b:b_ qz):b_ qz:=b.foldl (λa p=>Uy f e p a (Bb gs (pick p.1 c))) d
def IE(e b:b_ g_)(g:b_ qz)(gs:W4)(x:b_ j_):∀a c,x∈cg (AG e b g gs c a)↔x∈cg c\/∃p∈cg a,∃r∈Bb gs (pick p b),x=pick (p++r) e:=by
 intro d;induction d with
 |nil=>rintro c;simp[AG]
 |cons p a f=>
  rintro c
  show x∈cg (AG e b g gs _ a)↔_;rw[f,IF];simp only[iJ,mF,_Z,or_assoc]
def V6(g d:b_ g_)(f:b_ qz)(gs:W4):∀a b,(cg b).Nodup->(cg (AG g d f gs b a)).Nodup:=by
 intro c;induction c with
 |nil=>rintro b h;exact h
 |cons p a e=>rintro b h;exact e _ (Uz g f p _ _ h)
theorem Sv(f c:b_ g_)(e:b_ qz)(gs:W4)(b:g_):∀a d,(∀p∈a,∀r,(p.2++yc e r).length<=b)->(∀q∈d,_7 q.2<=b)->∀q∈AG f c e gs d a,_7 q.2<=b
 |[],d,_,h=>h
 |p::a,d,g,h=>Sv f c e gs b a _ (λq i=>g q (iI _ i)) (Rv f e p b (g p iM) _ _ h)
def JN(e b:b_ g_)(d:b_ qz)(gs:W4)(k:g_)(h:∀q,(Bb gs q).length<=k):∀a c,(AG e b d gs c a).length<=_7 c+_7 a*k:=by
 intro f;induction f with
 |nil=>rintro c;simp[AG]
 |cons p a g=>
  rintro c
  have l:=g (Uy e d p c (Bb gs (pick p.1 b)));have j:=Ru e d p (Bb gs (pick p.1 b)) c;have i:=h (pick p.1 b);show(AG e b d gs (Uy e d p c _) a).length<=_;rw[iC,yC,yD]
  lia
def JM(f:b_ Pu.D->ce)(m L k:g_)(H G E C B:Sl)(I:b_ j_)(n:b_ qz)(A z y:Sl)(o d:b_ g_)(gs:W4)(O:∀q∈n,_7 q.2<=400)
  (hf:∀j,_7 j=m->f [tI j,.au (bf o)]=.ok (tI (pick j o)))(Q:∀j,_7 j=L->f [tI j,.au (bf d)]=.ok (tI (pick j d)))(hm:L<=100)
  (hg:∀q,∀r∈Bb gs q,r∈cg n/\_7 r<=100/\L+_7 r=m) (hk:∀q,(Bb gs q).length<=k):∀i l u s g,(∀p∈i,_7 p.1=L/\_7 p.2<=400)->_7 l+_7 i*k<=100000->
  ∃x w v,turns (nu [13,14]) (dA f) (i.map λp=>Ea (wa p)) (jE H G E C B I n A z y o d gs l u s g)=.nx (jE H G E C B I n A z y o d gs (AG o d n gs l i) x w v):=by
 intro M;induction M with
 |nil=>rintro l u s g _ _;exact⟨u,s,g,_6⟩
 |cons p i N=>
  rintro l u s g h hl
  rw[iC,yC,yD]at hl;have h2:=Ru o n p (Bb gs (pick p.1 d)) l;have h3:=hk (pick p.1 d);obtain⟨g1,g2⟩:=h p iM;obtain⟨v,e1⟩:=HW f m H G E C B I n A z y o d gs p (by lia) g2 O hf (Bb gs (pick p.1 d)) l g (λr Y=>by
   obtain⟨a,b,c⟩:=hg _ r Y;exact⟨a,b,by rwa[iO,g1]⟩) (by lia)
  obtain⟨x,w,J,e⟩:=N (Uy o n p l (Bb gs (pick p.1 d))) _ _ v (λq hq=>h q (iI _ hq)) (by lia);refine⟨x,w,J,?_⟩;rw[iJ,bu (δ1:=jE H G E C B I n A z y o d gs l (.pu (tI p.1)) (.pu (.ci p.2)) g) _6];have U:ak (D4 (aa 11) (ah f (Pu.am (aa 13) (Pu.am (aa 10) af))) (b9 af)) (jE H G E C B I n A z y o d gs l (.pu (tI p.1)) (.pu (.ci p.2)) g)=.ok ((Bb gs (pick p.1 d)).map tI):=by
   have T:D4 (aa 11) (ah f (Pu.am (aa 13) (Pu.am (aa 10) af))) (b9 af) (jE H G E C B I n A z y o d gs l (.pu (tI p.1)) (.pu (.ci p.2)) g)=.ok (.au ((Bb gs (pick p.1 d)).map tI)):=by rw[<-(Zz _ gs)];simp[jE,(Q p.1 g1),(oi _)]
   unfold ak;rw[T];rfl
  unfold dA;rwa[f6 U,e1]
def W9(V:b_ j_)(S:(j_->j_)->Prop):Prop:=∀Z τ:j_->j_,(∀x∈V,Z x=τ x)->S Z->S τ
def Dn{a b:b_ j_}(h:_7 a+_7 b<=10000):bj (fw a) (fw b)=a_ (fw (a++b)):=by show(if(a.map Pu.D.int).length+(b.map Pu.D.int).length<=iN then a_ _ else d_)=_;rw[iH (by rw[iD,iD,kP];lia),<-kQ]
def Lc(Z:j_->j_)(l:b_ j_)(x:j_)(h:x∈l):(l.map Z).getD (l.idxOf x) 0=Z x:=by rw[iK,jF,iR (lM h)];simp
def Mh{a e:b_ j_}(l:∀x∈e,x∈a->Z x=c x)(j:∀x∈e,x∉a->x∈d/\Z x=b x):pick (a.map c++d.map b) (e.map (a++d).idxOf)=e.map Z:=by
 unfold pick;rw[jV];refine jY λx f=>?_;show(a.map c++d.map b).getD ((a++d).idxOf x) 0=Z x;rw[List.idxOf_append]
 by_cases h:x∈a
 .rw[iH h,l x f h,<-Lc c a x h];rw[iK,kI (by rw[iD];exact(lM h)),iK]
 .obtain⟨i,g⟩:=j x f h;rw[iG h,g,<-Lc b d x i];rw[iK,kW (by rw[iD];lia),iK,iD]
  congr 2
  lia
def Vb(n:g_){b1 b2:g_}{o s wd:b_ j_}{Q O:b_ qz}{S1 S2:(j_->j_)->Prop}{V1 V2:b_ j_}(R1:Rep b1 o Q S1)(R2:Rep b2 s O S2)(hw:∀x∈wd,Da x=c_)(hwl:_7 wd<=500)
  (d1:W9 V1 S1)(d2:W9 V2 S2)(s1:∀x∈o,x∈V1)(s2:∀x∈s,x∈V2)(hv:∀x∈V1,x∈V2->x∈o/\x∈s)(hc:_7 o+_7 s<=100)(hb1:b1<=200)(hb2:b2<=200)(l1:_7 Q<=10000)(l2:_7 O<=10000)(l12:_7 Q*_7 O<=100000):
  ∃c y,Rep (b1+b2) c y (λZ=>S1 Z/\S2 Z)/\_7 y<=_7 Q*O.length/\(∀x,x∈c↔x∈wd/\(x∈o\/x∈s))/\_7 c<=_7 o+_7 s/\ae (tab (n+3)) ou [i5 o Q,i5 s O,fw wd]=.ok (i5 c y):=by
 have ε:=Wn (n+1) (r1:=Q) (r2:=O) R1.ck R2.ck (by lia);generalize I:(o.filter λx=>decide (x∈s))=f at ε;have m:∀x,x∈f↔x∈o/\x∈s:=λx=>by rw[<-I];simp
 have lsh:_7 f<=_7 o:=by rw[<-I];exact lR ..
 have η:∀x∈wd++f,Da x=c_:=λx d=>by
  rcases s_.mp d with z|z
  .exact hw x z
  .exact R1.ck x ((m x).mp z).1
 have ζ:(wd++f).length<=1000:=by rw[iO];lia
 obtain⟨N,G,l4,e4⟩:=B6 n R1 η ζ l1;obtain⟨H,B,l5,e5⟩:=B6 n R2 η ζ l2;have m4:∀x,x∈(o.filter λx=>decide (x∈wd++f))↔x∈o/\(x∈wd\/x∈f):=λx=>by simp
 have m5:∀x,x∈(s.filter λx=>decide (x∈wd++f))↔x∈s/\(x∈wd\/x∈f):=λx=>by simp
 have lc4:(o.filter λx=>decide (x∈wd++f)).length<=_7 o:=lR ..;have lc5:(s.filter λx=>decide (x∈wd++f)).length<=_7 s:=lR ..;generalize (o.filter λx=>decide (x∈wd++f))=i at *;generalize (s.filter λx=>decide (x∈wd++f))=g at *;have U:=Dn (a:=i) (b:=g.filter λx=> !decide (x∈f)) (by
  have:(g.filter λx=> !decide (x∈f)).length<=_7 g:=lR ..
  lia)
 have lc7:(i++g.filter λx=> !decide (x∈f)).length<=_7 i+_7 g:=by
  rw[iO];have:(g.filter λx=> !decide (x∈f)).length<=_7 g:=lR ..
  lia
 have m7:∀x,x∈(i++g.filter λx=> !decide (x∈f))↔x∈i\/(x∈g/\x∉f):=λx=>by simp
 have χ:(i++g.filter λx=> !decide (x∈f)).Nodup:=O_.mpr ⟨G.cn,B.cn.filter _,λa ha b hb e=>by
  subst e;obtain⟨q1,q2⟩:=z_.mp hb;have:=(m a).mpr ⟨((m4 a).mp ha).1,((m5 a).mp q1).1⟩;simp[this]at q2⟩
 generalize hc7:(i++g.filter λx=> !decide (x∈f))=E at *;have m8:∀x,x∈(E.filter λx=>decide (x∈wd))↔x∈wd/\(x∈o\/x∈s):=λx=>by
  rw[vG,m7,m4,m5,n_];constructor
  .rintro⟨(⟨a,_⟩|⟨⟨a,_⟩,_⟩),b⟩
   .exact⟨b,.inl a⟩
   .exact⟨b,.inr a⟩
  .rintro⟨b,a|a⟩
   .exact⟨.inl ⟨a,.inl b⟩,b⟩
   .by_cases q:x∈f
    .exact⟨.inl ⟨((m x).mp q).1,.inl b⟩,b⟩
    .exact⟨.inr ⟨⟨a,.inl b⟩,q⟩,b⟩
 have l:∀x∈(E.filter λx=>decide (x∈wd)),x∈i++g:=λx d=>by
  rcases(m7 x).mp (z_.mp d).1 with z|z
  .exact s_.mpr (.inl z)
  .exact s_.mpr (.inr z.1)
 have φ:=χ.filter λx=>decide (x∈wd);have lc8:(E.filter λx=>decide (x∈wd)).length<=_7 E:=lR ..;have Δ:∀x∈E,Da x=c_:=λx d=>by
  rcases(m7 x).mp d with z|z
  .exact G.ck x z
  .exact B.ck x z.1
 have ξ:∀x∈i++g,Da x=c_:=λx d=>by
  rcases s_.mp d with z|z
  .exact G.ck x z
  .exact B.ck x z
 have μ:∀δ,δ[2]?=a_ (.bo (fw wd))->δ[7]?=a_ (.pu (fw E))->ao (ak (aa 7)) [2] (g2 iq (aa 0) (aa 1)) _ δ=.ok (.au ((E.filter λx=>decide _).map Pu.D.int)):=λδ e2 e7=>
  cm (b:=λx=>decide (x∈wd)) (by simp[e7]) (by lia) λx d=>by have e:=(Ac (x:=x) hw (Δ x d)).1;simp[fq,e2,e]
 have ν:∀δ,δ[3]?=a_ (.pu (fw f))->δ[5]?=a_ (.pu (i5 g H))->ao (jh (gp xs.cls "columns" (aa 5))) [3] (g2 fj (aa 0) (aa 1)) _ δ=.ok (.au ((g.filter λx=> !decide _).map Pu.D.int)):=λδ e3 e5=>
  cm (b:=λx=> !decide (x∈f)) (by simp[e5]) (by lia) λx d=>by have e:=(Ac (x:=x) (λx d=>R1.ck x ((m x).mp d).1) (B.ck x d)).2;simp[fq,e3,e]
 have j:∀x∈f,x∈i:=λx d=>(m4 x).mpr ⟨((m x).mp d).1,.inr d⟩;have u:∀x∈f,x∈g:=λx d=>(m5 x).mpr ⟨((m x).mp d).2,.inr d⟩;obtain⟨gs,κ,C⟩:=Fv n B u (by lia) (by lia);generalize hc8:(E.filter λx=>decide (x∈wd))=Y at *;have θ:∀q∈Y.map (i++g).idxOf,q<_7 i+_7 g:=λq w=>by obtain⟨x,d,rfl⟩:=k_.mp w;have:=lM (l x d);rwa[iO]at this
 have T:∀q∈f.map i.idxOf,q<_7 i:=λq w=>by obtain⟨x,d,rfl⟩:=k_.mp w;exact lM (j x d)
 have L:∀q,(Bb gs q).length<=_7 H:=λq=>by rw[C];exact kC (lR ..) (by simp[cg])
 have hll:=Nat.mul_le_mul l4 l5;obtain⟨w13,w14,w15,e⟩:=JM _ _ i.length H.length (.pu (i5 o Q)) (.pu (i5 s O)) (.bo (fw wd)) (.pu (fw f)) (.pu (i5 i N)) g H (.pu (fw (i++g))) (.pu (fw E)) (.ow (Y.map Pu.D.int)) _ _ gs
  (λq w=>kC (B.vb q w) (by lia))
  (λM A=>ti _ M _ (λq w=>by rw[A];exact θ q w) (by rw[iD];lia))
  (λM A=>ti (n+1) M _ (λq w=>by rw[A];exact T q w) (by rw[iD];lia)) (by lia)
  (λq r hr=>by
   rw[C]at hr;have hk:=(z_.mp hr).1;obtain⟨p,J,rfl⟩:=k_.mp hk;have:=B.len J;exact⟨hk,by lia,by lia⟩) L N [] .no .no .no (λp J=>⟨G.len J,kC (G.vb p J) (by lia)⟩) (by simp;lia)
 have ι:=JN (Y.map (i++g).idxOf) (f.map i.idxOf) H gs H.length L N [];refine⟨Y,AG (Y.map (i++g).idxOf) (f.map i.idxOf) H gs [] N,⟨φ,λx d=>ξ x (l x d),by lia,V6 _ _ _ _ N [] nE,λr=>?_,?_⟩,by simp at ι;lia,m8,by lia,?_⟩
 .rw[IE];constructor
  .rintro (h|⟨p,J,q,w,rfl⟩)
   .simp at h
   .rw[C,vG,n_]at w;obtain⟨γ,g1,rfl⟩:=(G.mem p).mp J;obtain⟨β,g2,rfl⟩:=(B.mem q).mp w.1;have ha:=w.2;rw[l8 u,l8 j]at ha;refine⟨λx=>if x∈V1 then γ x else β x,⟨d1 γ _ (λx d=>by simp[d]) g1,d2 β _ (λx d=>?_) g2⟩,?_⟩
    .by_cases h:x∈V1
     .simp[h];exact(λx d=>_e.mp ha x d) x ((m x).mpr (hv x h d))
     .simp[h]
    .refine Mh (λx d h=>?_) λx d h=>?_
     .have:=s1 x ((m4 x).mp h).1;simp[this]
     .have h5:=(s_.mp (l x d)).resolve_left h;refine⟨h5,?_⟩;have:x∉V1:=λz=>h (j x ((m x).mpr (hv x z (s2 x ((m5 x).mp h5).1))));simp[this]
  .rintro⟨Z,⟨g1,g2⟩,rfl⟩
   refine .inr ⟨i.map Z,(G.mem _).mpr ⟨Z,g1,_6⟩,g.map Z,?_,(Mh (λW W W=>rfl) λx d h=>⟨(s_.mp (l x d)).resolve_left h,_6⟩).symm⟩;rw[C,vG,n_,l8 u,l8 j];exact⟨(B.mem _).mpr ⟨Z,g2,_6⟩,_6⟩
 .refine Sv _ _ _ _ _ N [] (λp J r=>?_) (by simp);rw[iO];exact Nat.add_le_add (G.vb p J) (FY B.vb)
 .rw[Yd];unfold jE dA bW at e;simp only[nI]at e;have v:=λω=>(f6 (r:=oe (gp xs.cls "rows" (aa 4))) ω).trans e;replace v:=v (by simp);simp[Kb,ε,(Dn (a:=wd) (b:=f) (by lia)),e4,e5,(Dn (a:=i) (b:=g) (by lia))];rw[ν _ _6 _6];simp[U];rw[μ _ _6 _6];simp only[jV]at κ v;simp[(mr (n+1) ξ (by rw[iO];lia) l (by lia)),(mr (n+1) G.ck (by lia) j (by lia)),κ,sf,v,(Rx Y (AG (Y.map (i++g).idxOf) (f.map i.idxOf) H gs [] N))]
end LK
end
section
set_option genInjectivity true
namespace LK
open Pu
structure FT where
 c:b_ j_
 r:b_ qz
 S:(j_->j_)->Prop
structure FT.ok(f:FT):Prop where
 rep:Rep 1 f.c f.r f.S
 dep:W9 f.c f.S
 lr:_7 f.r<=7
 lc:_7 f.c<=5
def FT.D(f:FT):Pu.D:=i5 f.c f.r
def g8(fs:b_ FT):b_ j_:=fs.flatMap (·.c)
def H8(fs:b_ FT)(Z:j_->j_):Prop:=∀f∈fs,f.S Z
def X6(a l:b_ Pu.D)(d:Pu.D):Km (a++d::l) (a_ ((a.length:j_)+1)) d_=l:=by
 unfold Km;rw[HT.E8,show(_+1)=((_7 a+1:g_):j_) by lia,HT.Jr];have b:(a++d::l).length=_7 a+1+_7 l:=by simp;lia
 rw[b,xY (mO ..)];have:(a++d::l).drop (_7 a+1)=l:=by simp
 rw[this];exact lJ (by lia)
def O3(j i g d b:Sl):∀l a m,_7 a+(g8 l).length<=10000->
  ∃o,turns (aq 6) (An 5 (gp xs.cls "columns" (aa 6))) (l.map FT.D) [j,i,g,d,b,.ow (a.map Pu.D.int),m]=.nx [j,i,g,d,b,.ow ((a++g8 l).map Pu.D.int),o]:=by
 intro n;induction n with
 |nil=>rintro a m _;exact⟨m,by simp[turns,g8]⟩
 |cons f l p=>
  rintro a m h
  have r:(g8 (f::l)).length=_7 f.c+(g8 l).length:=by simp[g8]
  obtain⟨o,e⟩:=p (a++f.c) _ (by rw[iO];lia);refine⟨o,?_⟩;rw[iJ,bu (δ1:=[j,i,g,d,b,.ow _,.pu f.D]) _6];have q:An 5 (gp xs.cls "columns" (aa 6)) [j,i,g,d,b,.ow (a.map Pu.D.int),.pu f.D]=.nx [j,i,g,d,b,.ow ((a++f.c).map Pu.D.int),.pu f.D]:=by
   have:_7 a+_7 f.c<=16777216:=by lia
   simp[FT.D,this]
  rw[q];dsimp only;rw[e,show g8 (f::l)=f.c++g8 l by simp[g8],kF]
def aC(f:b_ Pu.D->ce):En->fc:=(a9 (de 5 (g1 iu (aa 1)))
 (a9 (di (aq 6) (ak (Uu (aa 0) (a_ (g2 bj (aa 3) (gC (.int 1)))) d_)) (An 5 (gp xs.cls "columns" (aa 6))))
 (fz [2,4] (dq 2 (ah f (Pu.am (a0 2) (Pu.am (a0 4) (Pu.am (aa 5) af))))))))
def BM(k:g_)(h:k<=5):7^k<=16807:=kC (T? (by decide) h) (by decide)
def Uc:∀l,(∀f∈l,f.ok)->(g8 l).length<=5*l.length:=by
 intro a;induction a with
 |nil=>rintro _;simp[g8]
 |cons f l b=>
  rintro h
  have j:=b λg d=>h g (iI _ d);have i:=(h f iM).lc;have e:(g8 (f::l)).length=_7 f.c+(g8 l).length:=by simp[g8]
  rw[e,iC]
  lia
def FJ(n:g_)(j:b_ j_)(Y:∀x∈j,Da x=c_)(ξ:_7 j<=200):∀l d c e J I w q,(∀f∈d++l,f.ok)->(d++l).length<=5->Rep d.length c e (H8 d)->_7 e<=7^(_7 d)->_7 c<=5*_7 d->(∀x,x∈c↔x∈g8 d/\(x∈j\/x∈g8 l))->
  ∃s i T Q O H,Rep (d++l).length s i (H8 (d++l))/\_7 i<=7^(d++l).length/\_7 s<=5*(d++l).length/\(∀x,x∈s↔x∈g8 (d++l)/\x∈j)/\
   turns (nu [3,4]) (aC (ae (tab (n+3)) ou)) (lg d.length (l.map FT.D)) [.bo (.au ((d++l).map FT.D)),.bo (fw j),.pu (i5 c e),J,I,w,q]=.nx [.bo (.au ((d++l).map FT.D)),.bo (fw j),.pu (i5 s i),T,Q,O,H]:=by
 intro M;induction M with
 |nil=>
  rintro d c e J I w q _ _ R hr hc C
  rw[jX];exact⟨c,e,J,I,w,q,R,hr,hc,λx=>by rw[C x];simp[g8],_6⟩
 |cons f l U=>
  rintro d c e J I w q r E R hr hc C
  have A:=r f (by simp);have σ:_7 d+(_7 l+1)<=5:=by simpa using E
  have θ:7^(_7 d)<=2401:=kC (T? (by decide) (show _7 d<=4 by lia)) (by decide);have υ:=Uc l λg v=>r g (by simp[v]);obtain⟨H,el⟩:=O3 _ _ _ _ _ l j q (by lia);have ι:=Nat.mul_le_mul hr A.lr;obtain⟨s,i,R',h1,h2,h3,ej⟩:=Vb n (wd:=j++g8 l) R A.rep (λx m=>by
   rcases s_.mp m with z|z
   .exact Y x z
   .obtain⟨g,v,m⟩:=_a.mp z;exact(r g (by simp[v])).rep.ck x m) (by rw[iO];lia) (λZ τ h g x m=>(r x (by simp[m])).dep Z τ (λy hy=>h y (_a.mpr ⟨x,m,hy⟩)) (g x m)) A.dep (λx m=>((C x).mp m).1) (λx m=>m) (λx m B=>⟨(C x).mpr ⟨m,.inr (by simp[g8,B])⟩,B⟩) (by have:=A.lc;lia) (by lia) (by decide) (by lia) (by have:=A.lr;lia) (by lia)
  have ea:d++f::l=(d++[f])++l:=by simp
  have R2:Rep (d++[f]).length s i (H8 (d++[f])):=by
   have e1:(λZ=>H8 d Z/\f.S Z)=H8 (d++[f]):=by
    funext Z
    refine propext ⟨λh g v=>?_,λh=>⟨λg v=>h g (by simp[v]),h f (by simp)⟩⟩;rcases s_.mp v with z|z
    .exact h.1 g z
    .rw[q_.mp z];exact h.2
   rw[e1]at R';simpa using R'
  obtain⟨c2,u,T,Q,O,N,q1,q2,q3,q4,q5⟩:=U _ s i _ _ _ H (by rwa[<-ea]) (by rwa[<-ea]) R2 (by rw[iO,nC,xP];lia) (by have:=A.lc;simp;lia) (λx=>by
   rw[h2 x,C x];simp only[g8,List.flatMap_append,wM,M!,vF,jX];constructor
   .rintro⟨a,b|b⟩
    .exact⟨.inl b.1,a⟩
    .exact⟨.inr b,a⟩
   .rintro⟨a|a,b⟩
    .exact⟨b,.inl ⟨a,b.elim .inl λz=>.inr (.inr z)⟩⟩
    .exact⟨b,.inr a⟩)
  rw[<-ea]at q1 q2 q3 q4 q5;refine⟨c2,u,T,Q,O,N,q1,q2,q3,q4,?_⟩;rw[iJ,lg,bu (δ1:=[.bo _,.bo _,.pu _,.pu _,.pu f.D,w,q]) _6];have hb:aC (ae (tab (n+3)) ou) [.bo (.au ((d++f::l).map FT.D)),.bo (fw j),.pu (i5 c e),.pu (.int d.length),.pu f.D,w,q]=.nx [.bo (.au ((d++f::l).map FT.D)),.bo (fw j),.pu (i5 s i),.pu (.int d.length),.pu f.D,.ow ((j++g8 l).map Pu.D.int),H]:=by
   have Y:ak (Uu (aa 0) (a_ (g2 bj (aa 3) (gC (.int 1)))) d_) [.bo (.au ((d++f::l).map FT.D)),.bo (fw j),.pu (i5 c e),.pu (.int d.length),.pu f.D,.ow (j.map Pu.D.int),q]=.ok (l.map FT.D):=by
    have p:=X6 (d.map FT.D) (l.map FT.D) f.D;rw[iD]at p;rw[show d.map FT.D++f.D::l.map FT.D=(d++f::l).map FT.D by simp]at p;have hs:Uu (aa 0) (a_ (g2 bj (aa 3) (gC (.int 1)))) d_ [.bo (.au ((d++f::l).map FT.D)),.bo (fw j),.pu (i5 c e),.pu (.int d.length),.pu f.D,.ow (j.map Pu.D.int),q]=.ok (.au (l.map FT.D)):=by show ce.of (a_ _)=_;rw[p];rfl
    unfold ak;rw[hs];rfl
   have o:=(f6 Y).trans el;have G:ae _ ou [i5 c e,f.D,.au _]=.ok _:=ej;unfold aC;generalize (j++g8 l).map Pu.D.int=W at o G⊢;generalize (d++f::l).map FT.D=L at o⊢;simp[iu,o,G]
  rw[hb];rw[show _7 d+1=(d++[f]).length by simp];exact q5
def Fu(n:g_)(q:∀x∈b,Da x=c_)(g:_7 b<=200)(i:∀f∈fs,f.ok)(m:_7 fs<=5):
  ∃c a,Rep fs.length c a (H8 fs)/\_7 a<=16807/\_7 c<=25/\(∀x,x∈c↔x∈g8 fs/\x∈b)/\ae (tab (n+4)) n5 [.au (fs.map FT.D),fw b]=.ok (i5 c a):=by
 obtain⟨c,a,B,A,y,w,p,v,u,o,l⟩:=FJ n b q g fs [] [] [([],[])] .no .no .no .no (by simpa using i) (by simpa using m) (⟨nE,by simp,by simp,by simp,λr=>⟨λh=>⟨λY=>0,λY z=>(nomatch z),by simpa using h⟩,by rintro⟨Z,_,e⟩;simpa using e⟩,by simp⟩) (by simp) (by simp) (by simp[g8]);rw[oX]at p v u o l;have C:=BM fs.length m;refine⟨c,a,p,by lia,by lia,o,?_⟩;rw[Iq];unfold aC at l;have j:Gn (vo 0) [.bo (.au (fs.map FT.D)),.bo (fw b),.pu (i5 [] [([],[])]),.no,.no,.no,.no]=.ok _:=rfl;have d:∀δ,D3 (h8 af) (h8 af) δ=.ok (.js c_ ([([],[])].map wa)):=λδ=>rfl;simp[zp,d];have s:(Pu.D.obj _ [("columns",.au []),("rows",.js c_ [wa _])])=i5 [] [([],[])]:=rfl;rw[s,((f6 j).trans l)];simp
noncomputable def pD(p:r_×j_):Pu.D:=.ci [.bl p.1,.int p.2]
noncomputable def J5(c a:b_ j_):r_×j_:=(((c.filter λx=> !decide (x∈a)).length:j_)==(c.length:j_),((c.filter λx=> !decide (x∈a)).length:g_))
def GW(n:g_)(g:∀x∈c,Da x=c_)(f:∀x∈a,Da x=c_)(h:_7 c<=1000):ae (tab (n+1)) ft [i5 c r,fw a]=.ok (pD (J5 c a)):=by
 rw[D0];have d:ao (jh (gp xs.cls "columns" (aa 0))) [1] (g2 fj (aa 0) (aa 1)) _ [.bo (i5 c r),.bo (fw a),.no,.no]=.ok (.au ((c.filter λx=> !decide _).map Pu.D.int)):=
  cm (b:=λx=> !decide (x∈a)) (by simp) (by omega) λx e=>by simp[fq,((Ac f (g x e)).2)]
 have i:(c.filter λx=> !decide (x∈a)).length<=_7 c:=lR ..;simp only[we];unfold J5;simp[d,pD]
def V7:∀b,xa (b.map pD)=a_ b:=by
 intro a;induction a with
 |nil=>exact _6
 |cons p b c=>show(xa _).map _=_;rw[c];rfl
def Nu(c:g_->g_->r_):∀k,vM c k<=k:=by
 intro a;induction a with
 |zero=>exact iF _
 |succ k b=>unfold vM;split<;>lia
def Vs(h:a≠[]):∃p∈a,rq (.au (a.map pD))=a_ (pD p):=by
 unfold rq;dsimp only;rw[V7];dsimp only;rw[iG h];have d:=R_.mpr h;have c:=Nu (λi j=>XH (a.getD i (e_,0)) (a.getD j (e_,0))) (_7 a-1);generalize vM _ _=k at c;have b:k<_7 a:=by lia
 exact⟨a[k],oG b,by rw[jF,iR b];rfl⟩
noncomputable def pP(p:r_×j_):rS:=.tuple [.bool p.1,.int p.2]
def EV:∀b:b_ (r_×j_),fu (b.map pD)=a_ (b.map pP):=by
 intro a;induction a with
 |nil=>exact _6
 |cons p b c=>rw[iJ];unfold fu;rw[c];rfl
def Ua:∀c:b_ (r_×j_),jN (c.map pP)=c_:=by
 intro a;induction a with
 |nil=>exact _6
 |cons p c b=>show(mY _&&jN _)=c_;rw[b];rfl
def PL(p:r_×j_):lC (pP p) (pP p)=c_:=by obtain⟨b,i⟩:=p;show((b==b)&&((i==i)&&c_))=c_;simp
def Ld{a:b_ (r_×j_)}(b:p∈a)(f:_7 a<=1000):∃j,j<_7 a/\jm (.au (a.map pD)) (pD p)=a_ (.int j):=by
 have d:e9 (pD p)=a_ (pP p):=rfl;have c:jZ (pP p)=c_:=rfl;unfold jm;dsimp only;rw[EV,d];dsimp only;rw[Ua,c,m_ (by rw[iD,kP];lia)];unfold D2;cases e:(a.map pP).findIdx? λy=>lC y _ with
 |none=>rw[_X]at e;have:=e _ (k_.mpr ⟨p,b,_6⟩);rw[PL]at this;cases this
 |some j=>have:=(List.findIdx?_eq_some_iff_findIdx_eq.mp e).1;rw[iD]at this;exact⟨j,this,_6⟩
theorem mm{α:Type}:∀(l:b_ α) i h,(l[i]::l.eraseIdx i).Perm l
 |[],_,h=>by simp at h
 |a::l,0,_=>by simp
 |a::l,i+1,h=>by exact(qS a _ _).trans ((mm l i (by simpa using h)).cons a)
theorem Gj{α β:Type}(f:α->β):∀(l:b_ α) i,(l.map f).eraseIdx i=(l.eraseIdx i).map f
 |[],_=>rfl
 |_::_,0=>rfl
 |a::l,i+1=>by show f a::(l.map f).eraseIdx i=f a::(l.eraseIdx i).map f;rw[Gj f l i]
def Zg{fs:b_ FT}(h:i<_7 fs):az (.au (fs.map FT.D)) (.int (i:j_))=a_ (fs[i]).D:=L2.Ia (by rw[jF,iR h];rfl)
def Yl{fs:b_ FT}(s:∀f∈fs,f.ok)(p o n m:Sl):∀d (b:b_ j_) e,(∀i∈d,i<_7 fs)->(∀x∈b,Da x=c_)->_7 b+5*_7 d<=1000->
  ∃(l:Sl) (a:b_ j_),(∀x∈a,Da x=c_)/\_7 a<=_7 b+5*d.length/\K4 3 5 (gp xs.cls "columns" (g2 az (aa 0) (aa 3))) (bf d) [.bo (.au (fs.map FT.D)),p,o,e,n,.ow (b.map Pu.D.int),m]=a_ [.bo (.au (fs.map FT.D)),p,o,l,n,.ow (a.map Pu.D.int),m]:=by
 intro h;induction h with
 |nil=>rintro b e _ u _;exact⟨e,b,u,by simp,_6⟩
 |cons i d q=>
  rintro b e A u H
  rw[iC]at H;have w:=A i iM;have y:=s _ (oG w);have I:=y.lc;obtain⟨l,a,C,B,v⟩:=q _ _ (λj E=>A j (iI _ E)) (λx g=>by
   rcases s_.mp g with z|z
   .exact u x z
   .exact y.rep.ck x z) (by rw[iO];lia)
  refine⟨l,a,C,by rw[iO]at B;rw[iC];lia,?_⟩;have g:=Zg w;have r:_7 b+(fs[i]).c.length<=iN:=by rw[kP];lia
  show K4 3 5 _ (.int _::bf d) _=_;unfold K4;generalize (fs.map FT.D)=L at g v⊢;simp only[mL,nN];have G:gp xs.cls "columns" (g2 az (aa 0) (aa 3)) [.bo (.au L),p,o,.pu (.int i),n,.ow (b.map Pu.D.int),m]=.ok (fw (fs[i]).c):=by simp[g,FT.D]
  rw[G];simp only[kB,kA,yz];rw[iH (by rw[iD,iD];exact r),<-kQ];exact v
def YY(f:b_ Pu.D->ce):En->fc:=(a9 (de 5 (b9 af))
 (a9 (E7 2 3 5 (gp xs.cls "columns" (g2 az (aa 0) (aa 3))) (di (aq 3) (ak (vo 2)) (An 5 (gp xs.cls "columns" (g2 az (aa 0) (aa 3))))))
 (a9 (de 6 (ao (ak (aa 4)) [5,0] (gC (.bl c_)) (ah f (Pu.am (g2 az (aa 2) (aa 0)) (Pu.am (aa 1) af)))))
 (ux 2 4 (gM jm (aa 6) (g1 rq (aa 6)))))))
def Dx(fs:b_ FT)(a:b_ j_)(i:g_):r_×j_:=match fs[i]? with
 |some f=>J5 f.c a
 |none=>(e_,0)
def JV(n:g_){fs:b_ FT}(q:∀f∈fs,f.ok)(d v I l:Sl)(Q:∀i∈od,i<_7 fs)(B:∀i∈a,i<_7 fs)(O:_7 od<=100)(hl:_7 a<=100)(y:a≠[]):
  ∃e H G,∃j,∃h,YY (ae (tab (n+1)) ft) [.bo (.au (fs.map FT.D)),d,.ow (bf od),v,.ow (bf a),I,l]=.nx [.bo (.au (fs.map FT.D)),d,.ow (bf (od++[a[j]])),e,.ow (bf (a.eraseIdx j)),H,G]:=by
 obtain⟨e,b,J,k2,E⟩:=Yl q d _ _ l od [] v Q (by simp) (by simp;lia);have g:ao (ak (aa 4)) [5,0] _ (ah (ae (tab (n+1)) ft) (Pu.am (g2 az (aa 2) (aa 0)) (Pu.am (aa 1) af))) [.bo (.au (fs.map FT.D)),d,.ow (bf od),e,.ow (bf a),.ow (b.map Pu.D.int),l]=.ok (.au (a.map λi=>pD (Dx fs b i))):=
  f9 (f:=λ(p:g_)=>Pu.D.int (p:j_)) (by simp[bf]) (by lia) λi r=>by
   have w:=Zg (B i r);have s:=q _ (oG (B i r));have C:Dx fs b i=J5 (fs[i]'(B i r)).c b:=by unfold Dx;rw[iR]
   rw[C];generalize (fs.map FT.D)=L at w⊢;unfold FT.D at w;simp[fq,w,(GW n s.rep.ck J (by have:=s.lc;lia))]
 have x:(a.map λi=>pD (Dx fs b i))=(a.map (Dx fs b)).map pD:=by rw[jV];rfl
 rw[x]at g;have o:(a.map (Dx fs b)).length=_7 a:=iD ..;have m:a.map (Dx fs b)≠[]:=by simpa using y
 generalize a.map _=u at g o m;obtain⟨p,N,T⟩:=Vs m;obtain⟨j,z,r⟩:=Ld N (by lia);rw[o]at z;refine⟨e,.ow (b.map Pu.D.int),.ow (u.map pD),j,z,?_⟩;have Y:Hh 2 3 5 (gp xs.cls "columns" (g2 az (aa 0) (aa 3))) [.bo (.au (fs.map FT.D)),d,.ow (bf od),v,.ow (bf a),.ow [],l]=.nx [.bo (.au (fs.map FT.D)),d,.ow (bf od),e,.ow (bf a),.ow (b.map Pu.D.int),l]:=by unfold Hh;simp only[kB,kA];rw[iH (by decide)];simp only[nI]at E;rw[E]
 have hA:ux 2 4 (gM jm (aa 6) (g1 rq (aa 6))) [.bo (.au (fs.map FT.D)),d,.ow (bf od),e,.ow (bf a),.ow (b.map Pu.D.int),.ow (u.map pD)]=.nx [.bo (.au (fs.map FT.D)),d,.ow (bf (od++[a[j]])),e,.ow (bf (a.eraseIdx j)),.ow (b.map Pu.D.int),.ow (u.map pD)]:=by
  have A:gM jm (aa 6) (g1 rq (aa 6)) [.bo (.au (fs.map FT.D)),d,.ow (bf od),e,.ow (bf a),.ow (b.map Pu.D.int),.ow (u.map pD)]=.ok (.int j):=by simp[T,r]
  unfold ux;rw[A];simp only[kB,kA];have M:wX (j:j_) (bf a).length=a_ j:=by
   unfold wX bf;simp
   lia
  rw[M];dsimp only;have U:(bf a)[j]?=a_ (.int (a[j]:g_)):=by unfold bf;rw[jF,iR z];rfl
  rw[U];dsimp only;rw[iH ⟨by decide,by unfold bf;rw[iD,kP];lia,by lia,by lia⟩];simp[bf,Gj]
 simp[YY,Y,g,hA]
def JW(n:g_){fs:b_ FT}(A:∀f∈fs,f.ok)(p:Sl):∀m b od c l h g,_7 c=m->m<b->(∀i∈od,i<_7 fs)->(∀i∈c,i<_7 fs)->_7 od+_7 c<=100->
  ∃d x w v,d.Perm (od++c)/\xj (jq (aa 4)) (YY (ae (tab (n+1)) ft)) b [.bo (.au (fs.map FT.D)),p,.ow (bf od),l,.ow (bf c),h,g]=.nx [.bo (.au (fs.map FT.D)),p,.ow (bf d),x,.ow [],w,v]:=by
 intro u;induction u with
 |zero=>
  rintro b od c l h g q G B s M
  have:=H_.mp q;subst this;cases b with
  |zero=>lia
  |succ k=>refine⟨od,l,h,g,by simp,?_⟩;rfl
 |succ m y=>
  rintro b od c l h g q G B s M
  have o:c≠[]:=λz=>by rw[z]at q;cases q
  obtain⟨x,w,v,j,C,e⟩:=JV n A p l h g B s (by lia) (by lia) o;have O:=_M C;cases b with
  |zero=>lia
  |succ k=>
   obtain⟨d,J,I,H,N,Q⟩:=y k _ (c.eraseIdx j) x w v (by lia) (by lia) (λi E=>by
    rcases s_.mp E with z|z
    .exact B i z
    .rw[q_.mp z];exact s _ (oG C)) (λi E=>s i (List.mem_of_mem_eraseIdx E)) (by rw[iO,nC];lia)
   refine⟨d,J,I,H,N.trans ?_,?_⟩
   .rw[kF];exact(_K od (mm c j C))
   .unfold xj;have L:jq (aa 4) [.bo (.au (fs.map FT.D)),p,.ow (bf od),l,.ow (bf c),h,g]=.ok (.bl c_):=by obtain⟨a,r,rfl⟩:=List.exists_cons_of_ne_nil o;rfl
    rw[L];rwa[e]
def AH(n:g_){fs:b_ FT}(g:∀f∈fs,f.ok)(u:_7 fs<=100):∃od,od.Perm (jD fs.length)/\ae (tab (n+2)) kg [.au (fs.map FT.D),.au []]=.ok (.au (bf od)):=by
 have a:∃od o m j,od.Perm ([]++jD fs.length)/\NJ (jq (aa 4)) (YY (ae (tab (n+1)) ft)) [.bo (.au (fs.map FT.D)),.bo (.au []),.ow (bf []),.no,.ow (bf (jD fs.length)),.no,.no]=.nx [.bo (.au (fs.map FT.D)),.bo (.au []),.ow (bf od),o,.ow [],m,j]:=by
  have q:_7 fs<Hs:=by unfold Hs;lia
  unfold NJ;generalize Hs=W at q;exact JW n g _ fs.length W [] _ .no .no .no (by simp) q (by simp) (by simp) (by simp;lia)
 obtain⟨od,o,m,j,s,e⟩:=a;refine⟨od,by simpa using s,?_⟩;show fe (vf (n+1) [.bo (.au (fs.map FT.D)),.bo (.au []),.no,.no,.no,.no,.no])=_;have d:=j9 [.bo (.au (fs.map FT.D)),.bo (.au []),.ow [],.no,.no,.no,.no] (Pu.am (g1 i6 (aa 0)) af) (j':=fs.length) (by
  have:_7 fs<=16777216:=by lia
  simp) (by lia)
 rw[mE]at d;have c:j0 0 (_7 fs)=bf (jD fs.length):=by refine jY λi z=>?_;rw[F?]
 rw[c]at d;have h:ao (cy (Pu.am (g1 i6 (aa 0)) af)) [2] (g2 fj (aa 0) (aa 1)) (a0 0) [.bo (.au (fs.map FT.D)),.bo (.au []),.ow [],.no,.no,.no,.no]=.ok (.au (bf (jD fs.length))):=by have:=cm (t:=g2 fj (aa 0) (aa 1)) (ix:=[2]) (l:=jD fs.length) (f:=λp=>Pu.D.int _) (b:=λz=>c_) d (by simp;lia) λi z=>rfl;rw[S?.mpr (λz z=>rfl)]at this;exact this
 unfold YY at e;have r:fz [3] (de 4 (ao (cy (Pu.am (g1 i6 (aa 0)) af)) [2] (g2 fj (aa 0) (aa 1)) (a0 0))) [.bo (.au (fs.map FT.D)),.bo (.au []),.ow [],.no,.no,.no,.no]=.nx [.bo (.au (fs.map FT.D)),.bo (.au []),.ow [],.no,.ow (bf (jD fs.length)),.no,.no]:=by simp[h]
 unfold vf;rw[b0,show de 2 _ _=.nx [.bo _,.bo _,.ow [],.no,.no,.no,.no]from rfl];dsimp only;rw[b0,r];dsimp only;rw[b0,i7];rw[show bf []=[]from rfl]at e;rw[e];rfl
def AI(n m:g_)(b:m=n+2){fs:b_ FT}(a:∀f∈fs,f.ok)(c:_7 fs<=100):∃od,od.Perm (jD fs.length)/\ae (tab m) kg [.au (fs.map FT.D),.au []]=.ok (.au (bf od)):=by subst b;exact AH n a c
instance:Inhabited FT:=⟨⟨[],[],λz=>_u⟩⟩
def P0(fs:b_ FT):(jD fs.length).map (λi=>fs.getD i uP)=fs:=by refine qQ (by simp) λi b a=>?_;simp[iR a]
def Od(F h:b_ Pu.D->ce){fs:b_ FT}(b:∀i∈od,i<_7 fs)(n:_7 od<=100)(l:F [.au (fs.map FT.D),.au []]=.ok (.au (bf od)))
  (e:h [.au ((od.map λi=>fs.getD i uP).map FT.D),fw c]=.ok d):
  fe (cj (ah h (Pu.am (ao (ak (ah F (Pu.am (aa 0) (Pu.am (b9 af) af)))) [0] (gC (.bl c_)) (g2 az (aa 1) (aa 0))) (Pu.am (aa 1) af))) [.bo (.au (fs.map FT.D)),.bo (fw c)])=.ok d:=by
 have a:ao (ak (ah F (Pu.am (aa 0) (Pu.am (b9 af) af)))) [0] (gC (.bl c_)) (g2 az (aa 1) (aa 0)) [.bo (.au (fs.map FT.D)),.bo (fw c)]=.ok (.au (od.map λi=>(fs.getD i uP).D)):=by
  refine f9 (f:=λ(p:g_)=>Pu.D.int (p:j_)) ?_ (by lia) λi g=>?_
  .have m:ah F (Pu.am (aa 0) (Pu.am (b9 af) af)) [.bo (.au (fs.map FT.D)),.bo (fw c)]=.ok (.au (bf od)):=by exact l
   unfold ak;rw[m];rfl
  .have j:fs.getD i uP=fs[i]'(b i g):=by rw[iK,iR];rfl
   rw[j];simp[fq,(Zg (b i g))]
 rw[show(od.map λi=>(fs.getD i uP).D)=(od.map λi=>fs.getD i uP).map FT.D by rw[jV];rfl]at a;generalize ((od.map λi=>fs.getD i uP).map FT.D)=L2 at a e;simp[a,e]
def Ut(n:g_){wd:b_ j_}{fs:b_ FT}(o:∀x∈wd,Da x=c_)(j:_7 wd<=200)(g:∀f∈fs,f.ok)(y:_7 fs<=5):
  ∃c a,Rep fs.length c a (H8 fs)/\_7 a<=16807/\_7 c<=25/\(∀x,x∈c↔x∈g8 fs/\x∈wd)/\ae (tab (n+5)) kf [.au (fs.map FT.D),fw wd]=.ok (i5 c a):=by
 obtain⟨od,l,w⟩:=AI (n+2) (n+4) (by lia) g (by lia);have b:(od.map λi=>fs.getD i uP).Perm fs:=by have:=l.map λi=>fs.getD i uP;rwa[P0]at this
 obtain⟨c,a,R,v,u,s,e⟩:=Fu n o j (λf d=>g f (b.mem_iff.mp d)) (by rwa[b.length_eq]);have r:H8 (od.map λi=>fs.getD i uP)=H8 fs:=by
  funext Z
  exact propext ⟨λh f d=>h f (b.mem_iff.mpr d),λh f d=>h f (b.mem_iff.mp d)⟩
 rw[r,b.length_eq]at R;have m:_7 od<=100:=by
  have:=l.length_eq;rw[kG]at this
  lia
 refine⟨c,a,R,v,u,λx=>?_,?_⟩
 .rw[s x];have:x∈g8 (od.map λi=>fs.getD i uP)↔x∈g8 fs:=by simp only[g8,_a];exact⟨by rintro⟨f,d,q⟩;exact⟨f,b.mem_iff.mp d,q⟩,by rintro⟨f,d,q⟩;exact⟨f,b.mem_iff.mpr d,q⟩⟩
  rw[this]
 .rw[Cs];exact Od _ _ (λi p=>v_.mp (l.mem_iff.mp p)) m w e
end LK
end
section
namespace LK
open Pu
def U7(r:b_ j_):D6 (r.map Pu.D.int)=a_ r:=by
 induction r with
 |nil=>rfl
 |cons i r a=>rw[iJ,D6,a];rfl
def Ov(P:b_ (b_ j_)):mf (P.map tI)=a_ P:=by
 induction P with
 |nil=>rfl
 |cons r P a=>have e:Vc (tI r)=a_ r:=U7 r;rw[iJ,mf,e,a]
def Ow(P:b_ j_):mh (P.map Pu.D.int)=a_ (P.map λi=>[i]):=by
 induction P with
 |nil=>rfl
 |cons r P a=>rw[iJ,mh,a];rfl
section
variable(key:α->b_ j_)(f:α->Pu.D)
noncomputable def U4(x:α):b_ α->b_ α
 |[]=>[x]
 |y::r=>if key x<key y then x::y::r else y::U4 x r
def DF(l:b_ α):b_ α:=l.foldr (U4 key) []
def U5(x:α)(l:b_ α):(U4 key x l).Perm (x::l):=by
 induction l with
 |nil=>exact .refl _
 |cons y r a=>
  unfold U4;split
  .exact .refl _
  .exact(a.cons y).trans (qS x y r)
def P9(l:b_ α):(DF key l).Perm l:=by
 induction l with
 |nil=>exact .refl _
 |cons x r a=>exact(U5 key x _).trans (a.cons x)
def Y8(x:α)(l:b_ α):Jb (key x,f x) (l.map λa=>(key a,f a))=(U4 key x l).map λa=>(key a,f a):=by
 induction l with
 |nil=>rfl
 |cons y r b=>
  rw[iJ,Jb,U4]
  by_cases c:key x<key y
  .rw[iH c,iH c];rfl
  .rw[iG c,iG c,b];rfl
def Wr(l:b_ α):xh (l.map λa=>(key a,f a))=(DF key l).map λa=>(key a,f a):=by
 induction l with
 |nil=>rfl
 |cons x r b=>show Jb _ (xh _)=_;rw[b];exact Y8 key f x _
def Hk{b:r_}{l:b_ α}(g:lh (l.map f)=a_ (b,l.map key))(d:(l.map key).Nodup)(e:_7 l<100000):∃G:b_ α,jn (l.map f)=a_ (G.map f)/\G.Perm l/\G.Pairwise λx y=>key x<key y:=by
 unfold jn
 by_cases c:(l.map f).length<2
 .rw[iH c];refine⟨l,_6,.refl _,?_⟩
  match l,c with
  |[],_=>exact qB
  |[x],_=>exact tD _ _
  |_::_::_,c=>rw[iD,iC,iC]at c;lia
 .rw[iG c,iH (by rw[iD];exact e),g];dsimp only;rw[iH d];have h:(l.map key).zip (l.map f)=l.map λa=>(key a,f a):=by rw[List.zip_map']
  have pw:=Ap (l:=l.map λa=>(key a,f a)) (by rwa[jV]);rw[h,Wr]at *;refine⟨DF key l,by rw[jV];rfl,P9 key l,?_⟩;rw[qD]at pw;exact pw
end
def ze(c:P.Nodup)(a:_7 P<100000):∃G,jn (P.map tI)=a_ (.map tI G)/\G.Perm P/\G.Pairwise (· <·):=by refine Hk (b:=c_) _ tI ?_ (by rwa[n?]) a;unfold lh;rw[Ov,n?]
def Qa(d:P.Nodup)(f:_7 P<100000):∃G:b_ j_,jn (P.map Pu.D.int)=a_ (G.map Pu.D.int)/\G.Perm P/\G.Pairwise (· <·):=by
 cases P with
 |nil=>exact⟨[],_6,.refl _,qB⟩
 |cons i P=>
  obtain⟨G,g1,g2,g⟩:=Hk _ Pu.D.int (by
   unfold lh;rw[show mf _=d_ from rfl,Ow];rfl) (wN _ (λa b c e=>c (by injection e)) d) f
  refine⟨G,g1,g2,g.imp λh=>?_⟩;rcases N_.mp h with h|⟨_,h⟩
  .exact h
  .exact t_ h (rX _)
def tK(r:b_ j_):L2.NK:=.inr (r.map λz=>.inl z)
def AQ(f:α->Pu.D)(g:α->L2.NK)(h:∀a,Ji (f a)=a_ (g a))(l:b_ α):y9 (l.map f)=a_ (l.map g):=by
 induction l with
 |nil=>rfl
 |cons a l b=>rw[iJ,y9,h a,b];rfl
def Oz(r:b_ j_):sv (r.map Pu.D.int)=a_ (r.map λz=>.inl z):=by
 induction r with
 |nil=>rfl
 |cons i r a=>rw[iJ,sv,a];rfl
def YZ(r:b_ j_):Ji (tI r)=a_ (tK r):=by show(sv _).map vK=_;rw[Oz];rfl
def RT(r:b_ j_):Vu (tK r)=tI r:=by show Pu.D.ci _=_;rw[jV];rfl
def VW(h:tK a=tK b):a=b:=by
 have h:=Sum.inr.inj h;induction a generalizing b with
 |nil=>cases b with
  |nil=>rfl
  |cons=>cases h
 |cons x a d=>cases b with
  |nil=>cases h
  |cons y b=>
   injection h with e c
   rw[uQ e,d (by unfold tK;rw[c]) c]
section
variable[P_ α]
noncomputable def A0(T:b_ α):b_ α->b_ α
 |[]=>T
 |r::P=>A0 (if r∈T then T else T++[r]) P
set_option tactic.hygienic true in
def Xg:∀(P T:b_ α),x∈A0 T P↔x∈T\/x∈P:=by
 intro P;induction P with
 |nil=>intro T;unfold A0;simp
 |cons r P a=>
  intro T;unfold A0;rw[a,mF];split
  .rename_i h;constructor
   .rintro (z|z)
    .exact .inl z
    .exact .inr (.inr z)
   .rintro (z|rfl|z)
    .exact .inl z
    .exact .inl h
    .exact .inr z
  .rw[vF,pN,or_assoc]
set_option tactic.hygienic true in
def Nr:∀(P T:b_ α),T.Nodup->(A0 T P).Nodup:=by
 intro P;induction P with
 |nil=>intro T h;exact h
 |cons r P d=>
  intro T h;refine d _ ?_;split
  .exact h
  .rename_i e;exact O_.mpr ⟨h,by simp,λa f b c z=>e (by rw[pN]at c;rwa[<-c,<-z])⟩
set_option tactic.hygienic true in
def Dl:∀(P T:b_ α),(A0 T P).length<=_7 T+_7 P:=by
 intro P;induction P with
 |nil=>intro T;exact iF _
 |cons r P a=>
  intro T;unfold A0;have:=a (if r∈T then T else T++[r]);rw[iC];split at this
  .rename_i h;rw[iH h];lia
  .rename_i h;rw[iG h];simp at this⊢;lia
def DR(f:∀a b,g a=g b->a=b):∀(P T:b_ α),(P.map g).foldl L2.Ad (T.map g)=(A0 T P).map g:=by
 intro P;induction P with
 |nil=>intro T;rfl
 |cons r P c=>
  intro T;rw[iJ,uZ];unfold A0;rw[<-c]
  congr 1
  unfold L2.Ad;have e:L2.yx (T.map g) (g r)=decide (r∈T):=by
   by_cases h:r∈T
   .rw[m_ h];exact L2.Ab.mpr (k_.mpr ⟨r,h,_6⟩)
   .rw[i_ h];cases q:L2.yx _ (g r)with
    |false=>rfl
    |true=>obtain⟨x,d,e⟩:=k_.mp (L2.Ab.mp q);exact t_ (f _ _ e▸d) h
  rw[e]
  by_cases h:r∈T
  .rw[iH (m_ h),iH h]
  .rw[iG (by simp[h]),iG h,kQ];rfl
def Cf{f:α->Pu.D}{g:α->L2.NK}(l:∀a b,g a=g b->a=b)(n:∀a,Ji (f a)=a_ (g a))(m:∀a,Vu (g a)=f a){b:r_}(i:∀a,My (g a)=b){R:α->α->Prop}(j:∀P,P.Nodup->_7 P<100000->∃G:b_ α,jn (P.map f)=a_ (G.map f)/\G.Perm P/\G.Pairwise R){P:b_ α}(r:(A0 [] P).length<=76):
  ∃G:b_ α,dh (.au (P.map f))=a_ (.au (G.map f))/\(∀x,x∈G↔x∈P)/\G.Nodup/\_7 G<=_7 P/\G.Pairwise R:=by
 show∃G,((y9 _).bind λh=>if F6 h=c_/\(L2.zd h).length<=76 then(jn _).map Pu.D.au else d_)=_/\_;rw[AQ f g n];show∃G,(if F6 _=c_/\(L2.zd _).length<=76 then(jn _).map Pu.D.au else d_)=_/\_;have p:L2.zd _=(A0 [] P).map g:=DR l P [];have q:=Dl P [];rw[lB,nZ]at q;have em:((A0 [] P).map g).map Vu=(A0 [] P).map f:=by rw[jV];exact jY λa z=>m a
 have c:F6 (P.map g)=c_:=by
  unfold F6;cases b with
  |true=>rw[pZ];exact .inl (w_.mpr λk d=>by obtain⟨a,_,rfl⟩:=k_.mp d;exact i a)
  |false=>rw[pZ];exact .inr (w_.mpr λk d=>by obtain⟨a,_,rfl⟩:=k_.mp d;rw[i a];rfl)
 have e:=Nr P [] nE;rw[p,iH ⟨c,by rwa[iD]⟩,em];obtain⟨G,g1,g2,o⟩:=j _ e (by lia);exact⟨G,by rw[g1];rfl,λx=>by rw[g2.mem_iff,Xg];simp,g2.nodup_iff.mpr e,by rwa[g2.length_eq],o⟩
end
def Ar{P:b_ (b_ j_)}(c:_7 P<=76):∃G:b_ (b_ j_),dh (.au (P.map tI))=a_ (.au (G.map tI))/\(∀x,x∈G↔x∈P)/\G.Nodup/\_7 G<=_7 P/\G.Pairwise (· <·):=
 Cf (λa b=>VW) YZ RT (λz=>rfl) (λP d c=>ze d c) (by have:=Dl P [];rw[lB]at this;lia)
def Aq{P:b_ j_}(c:_7 P<=76):∃G:b_ j_,dh (.au (P.map Pu.D.int))=a_ (.au (G.map Pu.D.int))/\(∀x,x∈G↔x∈P)/\G.Nodup/\_7 G<=_7 P/\G.Pairwise (· <·):=
 Cf (λa b h=>uQ (uQ h)) (λz=>rfl) (λz=>rfl) (b:=e_) (λz=>rfl) (λP d c=>Qa d c) (by have:=Dl P [];rw[lB]at this;lia)
def Mt{R:α->α->Prop}(d:∀a,¬R a a)(tr:∀a b c,R a b->R b c->R a c):∀{A B:b_ α},A.Pairwise R->B.Pairwise R->(∀x,x∈A↔x∈B)->A=B:=by intro A B g f h;exact sN (λa b z z j i=>t_ (tr _ _ _ j i) (d _)) g f ((rY (tR (λ{a b}(h:R a b)(e:a=b)=>by subst e;exact d _ h) g) (tR (λ{a b}(h:R a b)(e:a=b)=>by subst e;exact d _ h) f)).mpr h)
end LK
end
section
namespace LK
open Pu
abbrev tN(p:b_ g_):Pu.D:=.ci (bf p)
def bq(a:b_ g_):b_ j_:=a.map λ(c:g_)=>(c:j_)
def Cg(p:b_ g_):tN p=tI (bq p):=by show Pu.D.ci _=_;unfold tI bq bf;rw[jV];rfl
def DG(r:b_ j_):Smp (tI r):=⟨.tuple _,by unfold tI e9;rw[kn],fx r,by
 have:=ud r;show lF _+1<=8
 lia⟩
def M0(L:b_ (b_ j_)):SmpL (L.map tI):=Wo λd a=>by obtain⟨r,_,rfl⟩:=k_.mp a;exact DG r
def Hj(P:b_ (b_ g_)):SmpL (P.map tN):=Wo λd a=>by obtain⟨r,_,rfl⟩:=k_.mp a;rw[Cg];exact DG _
structure lf(m:g_)(cs:b_ g_):Prop where
 lt:∀c∈cs,c<m
 ris:cs.Pairwise (· <·)
def UX:∀{b:b_ g_}{k m},(∀c∈b,k<=c/\c<m)->b.Pairwise (· <·)->_7 b<=m-k:=by
 intro b;induction b with
 |nil=>intros;exact jW _
 |cons a r g=>intro k m h p;obtain⟨f,e⟩:=y_.mp p;have i:=h a iM;have:=g (m:=m) (λc d=>⟨f c d,(h c (iI _ d)).2⟩) e;rw[iC];lia
def lf.len(g:lf m b):_7 b<=m:=by
 have:=UX (λc a=>⟨jW _,g.lt c a⟩) g.ris
 lia
def Du(b:b_ j_)(k:j_)(m:g_)(a:j_):b_ g_:=(jD m).filter λj=>x8 b (k+(0+(j:j_))) a==0
def yr(b:b_ j_)(k:j_)(m:g_)(a:j_):lf m (Du b k m a):=⟨λc d=>v_.mp (z_.mp d).1,uW _ tS⟩
def yt(n:g_)(b:b_ j_)(k:j_)(m:g_)(a:j_)(h:0<=k)(f:m<=1000)(c:0<a):ae (tab (n+3)) d5 [jj b,.int k,.int (m:j_),.int a]=.ok (tN (Du b k m a)):=by
 rw[Fz];have d:ao (cy (Pu.am (aa 2) af)) [1,0,3] (g2 gu (ah (ae (tab (n+2)) cb) (Pu.am (aa 2) (Pu.am (g2 bj (aa 1) (aa 0)) (Pu.am (aa 3) af)))) (gC (.int 0))) (a0 0) [.bo (jj b),.bo (.int k),.bo (.int m),.bo (.int a)]
   =.ok (.au ((Du b k m a).map λ(i:g_)=>Pu.D.int (0+(i:j_)))):=by
  refine cm ((j9 _ _ (j':=m) (by simp) (by lia)).trans _6) (by rw[kG];lia) λj o=>?_;have e:=sy n b (k+(0+(j:j_))) a (by lia) c;generalize (0+(j:j_))=z at e⊢;simp[fq,e]
 have g:∀l,(l.map λ(i:g_)=>Pu.D.int (0+(i:j_)))=bf l:=λl=>by simp[bf]
 rw[g]at d;simp -implicitDefEqProofs [yh,d]
def Y5(c:g_)(p:b_ g_):iq (.int (c:j_)) (tN p)=a_ (.bl (decide (c∈p))):=by
 have h:yk (.int (c:j_)) (tN p)=a_ (decide (c∈p)):=by rw[Cg];refine((Rw (bq p) (c:j_)).2).trans (u_ a_ (b?.mpr ?_));unfold bq;rw[oA];exact⟨by rintro⟨a,b,q⟩;rwa[<-wU q],λh=>⟨c,h,_6⟩⟩
 show(yk _ (tN p)).map D.bl=_;rw[h];rfl
def su(l:b_ α)(f:α->β):(l.map f).isEmpty=decide (l=[]):=by cases l<;>rfl
def XI:En->fc:=oj (g2 gu (ao (ak (aa 3)) [5] (g2 iq (aa 1) (aa 0)) (a0 0)) (b9 af)) (fz [5] (qi 4 (a0 5))) gw
def F7(P:b_ (b_ g_))(c:g_):r_:=decide (P.filter (λp=>decide (c∈p))=[])
def IH(d b a:Sl){P:b_ (b_ g_)}(u:_7 P<=1000):∀(f cW:b_ g_) g,_7 cW+_7 f<=1000->
  ∃h,turns (aq 5) XI (f.map λ(i:g_)=>Pu.D.int (0+(i:j_))) [d,b,a,.ow (P.map tN),.ow (bf cW),g]=.nx [d,b,a,.ow (P.map tN),.ow (bf (cW++f.filter (F7 P))),h]:=by
 intro f;induction f with
 |nil=>intro cW g _;exact⟨g,by rw[List.filter_nil,jX];rfl⟩
 |cons c f m=>
  intro cW g n;rw[iC]at n;rw[iJ,F?,bu (δ1:=[d,b,a,.ow _,.ow _,.pu _]) _6];have o:ao (ak (aa 3)) [5] (g2 iq (aa 1) (aa 0)) (a0 0) [d,b,a,.ow (P.map tN),.ow (bf cW),.pu (.int c)]=.ok (.au ((P.filter λp=>decide (c∈p)).map tN)):=by refine cm (l:=P) _6 (by lia) λp s=>?_;have e:=Y5 c p;show ce.of _=_;rw[e];rfl
  have j:=(n9 (Hj (P.filter λp=>decide (c∈p)))).1;rw[su]at j;have r:XI [d,b,a,.ow (P.map tN),.ow (bf cW),.pu (.int c)]=.nx [d,b,a,.ow (P.map tN),.ow (bf (cW++if F7 P c then[c]else[])),.pu (.int c)]:=by
   unfold XI;rw[Fp,yb,o,bz];show(ce.of _).then _=_;rw[j];unfold F7
   by_cases q:P.filter (λp=>decide (c∈p))=[]
   .rw[m_ q];have:(bf cW).length+1<=16777216:=by unfold bf;rw[iD];lia
    simp[bf]at this⊢
    lia
   .rw[i_ q];simp
  rw[r];dsimp only;obtain⟨h,e⟩:=m (cW++if F7 P c then[c]else[]) (.pu _) (by split<;>simp<;>lia);refine⟨h,?_⟩;rw[e]
  congr 5
  rw[kF,pJ];cases F7 P c<;>rfl
def ji(a:b_ j_)(k:j_)(m:g_):b_ (b_ g_):=(jD (1+x8 a (k+30) 4).toNat).map λ(j:g_)=>Du a (k+6*(0+(j:j_))) m 2
def AC(n:g_)(f:b_ j_)(k:j_)(I:0<=k)(H:m<=5):∃P,(∀p∈P,lf m p)/\P≠[]/\_7 P<=5/\(∀c,c<m->∃p∈P,c∈p)/\ae (tab (n+4)) kq [jj f,.int k,.int (m:j_)]=.ok (.au (P.map tN)):=by
 obtain⟨M,L⟩:=ui f (k+30) 4 (by decide);have l:∀p∈ji f k m,lf m p:=λp g=>by obtain⟨j,_,rfl⟩:=k_.mp g;exact yr _ _ _ _
 have u:(ji f k m).length=(1+x8 f (k+30) 4).toNat:=by unfold ji;rw[iD,kG]
 have G:ao (cy (Pu.am (g2 bj (gC (.int 1)) (ah (ae (tab (n+3)) cb) (Pu.am (aa 0) (Pu.am (g2 bj (aa 1) (gC (.int 30))) (Pu.am (gC (.int 4)) af))))) af)) [1,2,0] (gC (.bl c_)) (ah (ae (tab (n+3)) d5) (Pu.am (aa 3) (Pu.am (g2 bj (aa 1) (g2 j7 (gC (.int 6)) (aa 0))) (Pu.am (aa 2) (Pu.am (gC (.int 2)) af))))) [.bo (jj f),.bo (.int k),.bo (.int m),.no,.no,.no]
   =.ok (.au ((ji f k m).map tN)):=by
  unfold ji;rw[jV];refine uc (j9 _ _ (by simp -implicitDefEqProofs [(sy (n+1) f (k+30) 4 (by lia) (by decide))]) (by lia)) (by lia) λj J=>?_;have e:=yt n f (k+6*(0+(j:j_))) m 2 (by lia) (by lia) (by decide);have em:=Cm 6 (0+(j:j_)) (.inl (by decide));show _=ce.ok (tN (Du f _ m 2));generalize (0+(j:j_))=z at e em⊢;simp -implicitDefEqProofs [fq,e,em]
 obtain⟨v,N⟩:=IH _ _ (.bo _) (P:=ji f k m) (by lia) (jD m) [] .no (by simp;lia);have r:di (aq 5) (cy (Pu.am (aa 2) af)) XI [.bo (jj f),.bo (.int k),.bo (.int m),.ow ((ji f k m).map tN),.ow [],.no]=.nx [.bo (jj f),.bo (.int k),.bo (.int m),.ow ((ji f k m).map tN),.ow (bf ((jD m).filter (F7 (ji f k m)))),v]:=by rwa[f6 ((j9 _ _ (j':=m) (by simp) (by lia)).trans _6)]
 have s:ji f k m≠[]:=λz=>by rw[z,lB]at u;lia
 have w:∀c,F7 _ c=e_->∃p∈ji f k m,c∈p:=λc h=>by obtain⟨p,g⟩:=d? _ (_x h);obtain⟨a,b⟩:=z_.mp g;exact⟨p,a,A_ b⟩
 have E:lf m ((jD m).filter (F7 (ji f k m))):=⟨λc i=>v_.mp (z_.mp i).1,uW _ tS⟩;generalize x:(jD m).filter _=cW at r E;have o:=(n9 (ds:=bf cW) (Wo λd C=>by
  obtain⟨c,_,rfl⟩:=k_.mp C;exact⟨.int c,_6,_6,jW _⟩)).2
 unfold bf at o;rw[su]at o;have run:∀P:b_ _,oj _ _ gw _=.nx _->
   ae _ kq [jj f,.int k,.int _]=.ok _:=λP h=>by
  rw[K0 (n+3)];show fe (wj (n+3) [.bo _,.bo _,.bo _,.no,.no,.no])=_;unfold wj;unfold XI at r;have B:de 3 (ao (cy (Pu.am (g2 bj (gC (.int 1)) (ah (ae (tab (n+3)) cb) (Pu.am (aa 0) (Pu.am (g2 bj (aa 1) (gC (.int 30))) (Pu.am (gC (.int 4)) af))))) af)) [1,2,0] (gC (.bl c_)) (ah (ae (tab (n+3)) d5) (Pu.am (aa 3) (Pu.am (g2 bj (aa 1) (g2 j7 (gC (.int 6)) (aa 0))) (Pu.am (aa 2) (Pu.am (gC (.int 2)) af)))))) [.bo (jj f),.bo (.int k),.bo (.int m),.no,.no,.no]=.nx [.bo (jj f),.bo (.int k),.bo (.int m),.ow ((ji f k m).map tN),.no,.no]:=by rw[J4,G,cx];rfl
  have A:de 4 (b9 af) [.bo _,.bo _,.bo _,.ow _,.no,.no]=.nx [.bo (jj f),.bo (.int k),.bo (.int (m:j_)),.ow ((ji f k m).map tN),.ow [],.no]:=rfl;have y:fz [3] (cj (a0 3)) [.bo (jj f),.bo (.int k),.bo (.int m),.ow (P.map tN),.ow (bf cW),v]=.rt _:=rfl;rw[b0,B];dsimp only;rw[b0,A];dsimp only;rw[b0,r];dsimp only;rw[b0,h];dsimp only;rw[y,Ng]
 by_cases q:cW=[]
 .refine⟨ji f k m,l,s,by lia,λc i=>w c ?_,run _ ?_⟩
  .cases e:F7 _ c with
   |false=>rfl
   |true=>
    have:c∈cW:=by rw[<-x];exact z_.mpr ⟨v_.mpr i,e⟩
    rw[q]at this;cases this
  .show(ce.of _).then _=_;unfold bf;rw[o,m_ q];rfl
 .refine⟨ji f k m++[cW],λp g=>?_,by simp,by rw[iO,nC];lia,λc i=>?_,run _ ?_⟩
  .rcases s_.mp g with g|g
   .exact l p g
   .rwa[q_.mp g]
  .cases e:F7 _ c with
   |false=>obtain⟨p,a,b⟩:=w c e;exact⟨p,kE _ a,b⟩
   |true=>exact⟨cW,kS _ (.head _),by rw[<-x];exact z_.mpr ⟨v_.mpr i,e⟩⟩
  .show(ce.of _).then _=_;unfold bf;rw[o,i_ q];have:((ji f k m).map tN).length<16777216:=by rw[iD];lia
   rw[om,cx];show(if((ji f k m).map tN).length<16777216 then _ else _)=_;rw[iH this,kQ];rfl
end LK
end
section
namespace LK
open Pu
def L8(a b:b_ g_):bf (a++b)=bf a++bf b:=by unfold bf;rw[kQ]
def pq(a:b_ g_):(bf a).length=_7 a:=by unfold bf;rw[iD]
def Es(a:b_ g_):bf a=(bq a).map Pu.D.int:=by unfold bf bq;rw[jV];rfl
def FL(b:Sl):∀(P:b_ (b_ g_)) C a,(∀p∈P,_7 p<=100)->_7 C+100*_7 P<=100000->∃c,turns (aq 2) (An 1 (aa 2)) (P.map tN) [b,.ow (bf C),a]=.nx [b,.ow (bf (C++P.flatten)),c]:=by
 intro P;induction P with
 |nil=>intro C a _ _;exact⟨a,by rw[H!,jX];rfl⟩
 |cons p P d=>
  intro C a h f;rw[iC]at f;have g:=h p iM;have x:An 1 (aa 2) [b,.ow _,.pu (tN p)]=if(bf C).length+(bf p).length<=16777216 then fc.nx _ else .st:=rfl
  rw[iJ,bu (δ1:=[b,.ow _,.pu (tN p)]) _6,x,iH (by rw[pq,pq];lia),<-L8];obtain⟨c,q⟩:=d (C++p) _ (λq e=>h q (iI _ e)) (by rw[iO];lia);refine⟨c,?_⟩;rwa[nX,<-kF]
def Q6(n:g_){P:b_ (b_ g_)}(g:∀p∈P,lf m p)(w:m<=5)(y:_7 P<=5)(i:∀c,c<m->∃p∈P,c∈p):ae (tab (n+1)) j6 [.au (P.map tN)]=.ok (fw (bq (jD m))):=by
 have f:∀p∈P,_7 p<=5:=λp d=>by have:=(g p d).len;lia
 have B:_7 P.flatten<=25:=by
  have:∀P:b_ (b_ g_),(∀p∈P,_7 p<=5)->_7 P.flatten<=5*P.length:=by
   intro P;induction P with
   |nil=>intro _;exact iF _
   |cons p P r=>
    intro h;have A:=r λp d=>h p (.tail _ d);have z:=h p (.head _);rw[nX,iO,iC]
    lia
  have:=this P f
  lia
 obtain⟨G,g1,g2,_,_,u⟩:=Aq (P:=bq P.flatten) (by unfold bq;rw[iD];lia);have v:G=bq (jD m):=by
  refine Mt (λa=>Int.lt_irrefl a) (λa b c=>Int.lt_trans) u ?_ λx=>?_
  .unfold bq;rw[qD];exact List.pairwise_lt_range.imp λh=>Int.ofNat_lt.mpr h
  .rw[g2];unfold bq;rw[oA,oA];constructor
   .rintro⟨c,f,rfl⟩
    obtain⟨p,d,e⟩:=N!.mp f;exact⟨c,v_.mpr ((g p d).lt c e),_6⟩
   .rintro⟨c,f,rfl⟩
    obtain⟨p,d,e⟩:=i c (v_.mp f);exact⟨c,N!.mpr ⟨p,d,e⟩,_6⟩
 obtain⟨j,q⟩:=FL _ P [] .no (λp d=>by have:=f p d;lia) (by simp;lia);have l:E7 0 2 1 (aa 2) (di (aq 2) (ak (vo 0)) (An 1 (aa 2))) [.bo (.au (P.map tN)),.ow [],.no]=.nx [.bo (.au (P.map tN)),.ow (bf P.flatten),j]:=by rw[VJ];exact q
 have o:de 1 (b9 af) [.bo _,.no,.no]=.nx [.bo (.au (P.map tN)),.ow [],.no]:=rfl;have s:aa 1 [.bo (.au (P.map tN)),.ow (bf P.flatten),j]=.ok _:=rfl;show fe (yf n [.bo _,.no,.no])=_;unfold yf;rw[b0,o];dsimp only;rw[b0,l];dsimp only;rw[t6,Fo,s,bz,Es,g1,v];rfl
def sub(b a:b_ g_):r_:=b.all λc=>decide (c∈a)
def Tg:sub d b=c_↔∀c∈d,c∈b:=by unfold sub;rw[w_];exact⟨λh c a=>A_ (h c a),λh c a=>m_ (h c a)⟩
def Zx(n:g_)(b a:b_ g_)(e:_7 b<=1000):ae (tab (n+1)) mj [tN b,tN a]=.ok (.bl (sub b a)):=by
 have d:ao (ak (aa 0)) [1] _ (g2 iq (aa 0) (aa 1)) [.bo (tN b),.bo (tN a)]=.ok _:=
  f9 _6 (by lia) λc d=>by show ce.of _=_;rw[(Y5 c a)];rfl
 show fe (Gc n [.bo (tN b),.bo (tN a)])=_;unfold Gc;rw[t6,Fo,d,bz,(Q5 (λc=>decide (c∈a)) b)];rfl
def oq(h:bq a=bq b):a=b:=by have:=u_ (λl=>l.map yK) h;unfold bq at this;simpa[Function.comp_def]using this
def XA(p q:b_ g_):e8 (tN p) (tN q)=a_ (.bl (!decide (p=q))):=by
 have t:∀p,e9 (tN p)=a_ _:=λp=>by rw[Cg];unfold tI e9;rw[kn]
 have d:∀p,oM (.tuple ((bq p).map lK))<=63:=λp=>by
  have:=ud (bq p);show lF _+1<=63
  lia
 unfold e8;rw[Iv (t p) (t q) (fx _) (d p) (fx _) (d q)];have:lC (.tuple ((bq p).map lK)) (.tuple ((bq q).map lK))=decide (p=q):=by rw[show lC _ _=qL _ _ from rfl,C2];exact b?.mpr ⟨oq,λh=>by rw[h]⟩
 rw[this];rfl
def FI(f:α->r_)(l:b_ α):Ca (.au (l.map λa=>Pu.D.bl (f a)))=a_ (.bl (l.any f)):=by unfold Ca;have:=Bu f l;simp[this]
def Qy(G:b_ (b_ g_))(p:b_ g_):r_:= !(G.any λq=> !decide (p=q)&&sub p q)
set_option tactic.hygienic true in
def CG:∀{q p:b_ g_},p.Pairwise (· <·)->q.Pairwise (· <·)->(∀c∈p,c∈q)->_7 p<=_7 q/\(_7 p=_7 q->p=q):=by
 intro q;induction q with
 |nil=>
  intro p _ _ h;cases p with
  |nil=>exact⟨iF _,λY=>rfl⟩
  |cons a p=>exact t_ (h a (.head _)) (by simp)
 |cons b q i=>
  intro p l r h;cases p with
  |nil=>exact⟨jW _,λe=>by cases e⟩
  |cons a p=>
   obtain⟨g,n⟩:=y_.mp l;obtain⟨m,f⟩:=y_.mp r
   by_cases e:a=b
   .subst e;obtain⟨j,o⟩:=i n f λc d=>by
     rcases l_.mp (h c (.tail _ d))with z|z
     .have:=g c d;lia
     .exact z
    rw[iC,iC];exact⟨by lia,λe=>by rw[o (by lia)]⟩
   .have s:=m a ((l_.mp (h a (.head _))).resolve_left e);obtain⟨j,_⟩:=i l f λc d=>by
     rcases l_.mp (h c d)with z|z
     .rcases l_.mp d with y|y
      .lia
      .have:=g c y;lia
     .exact z
    rw[iC]at j⊢;rw[iC];exact⟨by lia,λe=>by lia⟩
def Qz{G:b_ (b_ g_)}(g:∀p∈G,p.Pairwise (· <·))(m:∀p∈G,_7 p<=100):∀k p,p∈G->100-_7 p<k->∃w∈G.filter (Qy G),∀c∈p,c∈w:=by
 intro k;induction k with
 |zero=>intro p d n;lia
 |succ k j=>
  intro p d n;cases a:Qy G p with
  |true=>exact⟨p,z_.mpr ⟨d,a⟩,λc f=>f⟩
  |false=>unfold Qy at a;rw[Bool.not_eq_false',uJ]at a;obtain⟨q,b,h⟩:=a;rw[iQ,qC,X_]at h;obtain⟨o,i⟩:=CG (g p d) (g q b) (Tg.mp h.2);have s:=m q b;have r:_7 p≠(_7 q):=λe=>h.1 (i e);obtain⟨w,a,l⟩:=j q b (by lia);exact⟨w,a,λc f=>l c (Tg.mp h.2 c f)⟩
def Hu(n:g_){P:b_ (b_ g_)}(g:∀p∈P,lf m p)(E:m<=5)(H:_7 P<=5):
  ∃W:b_ (b_ g_),(∀w∈W,w∈P)/\(∀p∈P,∃w∈W,∀c∈p,c∈w)/\_7 W<=_7 P/\ae (tab (n+2)) o8 [.au (P.map tN)]=.ok (.au (W.map tN)):=by
 have u:∀p∈P,_7 p<=5:=λp a=>by have:=(g p a).len;lia
 obtain⟨s,o,j,_,i,_⟩:=Ar (P:=P.map bq) (by rw[iD];lia);obtain⟨G,rfl⟩:∃G:b_ _,s=G.map bq:=by
  refine⟨s.map λr=>r.map yK,?_⟩;rw[jV]
  conv=>lhs;rw[<-yE s]
  refine jY λr A=>?_;obtain⟨p,_,rfl⟩:=k_.mp ((j r).mp A);show bq p=bq ((bq p).map yK)
  congr 1
  unfold bq;rw[jV]
  conv=>lhs;rw[<-yE p]
  exact jY λc Y=>rfl
 have mem:∀p,p∈G↔p∈P:=λp=>by
  have:=j (bq p);rw[oA,oA]at this;constructor
  .intro h;obtain⟨q,d,e⟩:=this.mp ⟨p,h,_6⟩;rwa[<-oq e]
  .intro h;obtain⟨q,d,e⟩:=this.mpr ⟨p,h,_6⟩;rwa[<-oq e]
 rw[iD,iD]at i;have v:∀L:b_ _,(L.map bq).map tI=L.map tN:=λL=>by rw[jV];exact jY λp Y=>(Cg p).symm
 rw[v,v]at o;refine⟨G.filter _,λw z=>(mem w).mp (z_.mp z).1,λp a=>Qz (λq d=>(g q ((mem q).mp d)).ris) (λq d=>by have:=u q ((mem q).mp d);lia) 200 p ((mem p).mpr a) (by lia),kC (lR _ _) i,?_⟩;show fe (Kc (n+1) [.bo _,.no])=_;have y:dq 1 (g1 dh (aa 0)) [.bo (.au (P.map tN)),.no]=.nx [.bo (.au (P.map tN)),.pu (.au (G.map tN))]:=by show(ce.of _).then _=_;rw[o];rfl
 have Y7:∀p∈G,ao (ak (aa 1)) [0] _ _ [.pu (tN p),.pu (.au (G.map tN))]=.ok (.au (G.map λq=>Pu.D.bl (!decide (p=q)&&sub p q))):=λp a=>by
  refine f9 (l:=G) _6 (by lia) λq d=>?_;have x:g2 e8 (aa 1) (aa 0) [.pu (tN q),.pu (tN p)]=.ok (.bl (!decide (p=q))):=by show ce.of _=_;rw[XA];rfl
  have B:ah (ae (tab (n+1)) mj) (Pu.am (aa 1) (Pu.am (aa 0) af)) [.pu (tN q),.pu (tN p)]=.ok (.bl (sub p q)):=by exact Zx n p q (by have:=u p ((mem p).mp a);lia)
  show vy (g2 e8 (aa 1) (aa 0)) (ah (ae (tab (n+1)) mj) (Pu.am (aa 1) (Pu.am (aa 0) af))) [.pu (tN q),.pu (tN p)]=_;generalize decide (p=q)=C at x⊢;rw[ZA,x,bz];cases C
  .exact B
  .rfl
 have cc:ao (ak (aa 1)) [1] (jg (jq (g1 Ca (ao (ak (aa 1)) [0] (gC (.bl c_)) (vy (g2 e8 (aa 1) (aa 0)) (ah (ae (tab (n+1)) mj) (Pu.am (aa 1) (Pu.am (aa 0) af)))))))) (a0 0) [.bo (.au (P.map tN)),.pu (.au (G.map tN))]=.ok (.au ((G.filter (Qy G)).map tN)):=by
  refine cm (f:=tN) (b:=Qy G) _6 (by lia) λp a=>?_;have e:g1 Ca (ao (ak (aa 1)) [0] (gC (.bl c_)) (vy (g2 e8 (aa 1) (aa 0)) (ah (ae (tab (n+1)) mj) (Pu.am (aa 1) (Pu.am (aa 0) af))))) [.pu (tN p),.pu (.au (G.map tN))]=.ok (.bl (G.any λq=> !decide (p=q)&&sub p q)):=by rw[Fo,Y7 p a,bz,FI];rfl
  show jg _ [.pu (tN p),.pu _]=_;rw[ED,EC,e];unfold Qy;cases G.any λq=> !decide (p=q)&&sub p q<;>rfl
 unfold Kc;rw[b0,y];dsimp only;rw[t6,cc];rfl
end LK
end
section
namespace LK
open Pu
def Pt(n:g_)(a:b_ j_)(b:b_ g_)(h:∀p∈b,p<_7 a)(e:_7 b<=1000):ae (tab (n+1)) d7 [tI a,tN b]=.ok (tI (pick a b)):=by
 have d:ao (ak (aa 1)) [0] _ (g2 az (aa 1) (aa 0)) [.bo _,.bo (tN b)]=.ok _:=
  f9 _6 (by lia) λp c=>by show ce.of _=_;rw[Af a p (h p c)];rfl
 show fe (sj n [.bo _,.bo (tN b)])=_;unfold sj;rw[t6,Fo,d];simp[tI,pick]
def Am(T:b_ (b_ j_))(p:b_ g_):b_ qz:=Cv p [] (T.map λt=>(t,[]))
def CQ(h:∀q∈a,q.2=[])(r:b_ j_):Cy (a.map wa) (rK r) (.ci [])=(md a r []).map wa:=by
 by_cases b:r∈cg a
 .have d:yx (a.map wa) (rK r)=c_:=by unfold yx;rw[uJ];obtain⟨q,c,e⟩:=k_.mp b;exact⟨wa q,k_.mpr ⟨q,c,_6⟩,m_ (ik.mpr e)⟩
  unfold Cy md;rw[iH d,iH b,jV];refine jY λq c=>?_;show(if _ then _ else wa q)=wa q;split
  .unfold wa;rw[h q c]
  .rfl
 .exact Mn b
def Xh(h:∀q∈b,q.2=[])(r:b_ j_):∀q∈md b r [],q.2=[]:=by
 intro q a;unfold md at a;split at a
 .exact h q a
 .rcases s_.mp a with a|a
  .exact h q a
  .rw[q_.mp a]
def Pc(p:b_ g_):∀(T:b_ (b_ j_)) a,(∀q∈a,q.2=[])->Be (a.map wa) (T.map λt=>(rK (pick t p),Pu.D.ci []))=(Cv p a (T.map λt=>(t,[]))).map wa:=by
 intro T;induction T with
 |nil=>intro a _;rfl
 |cons t T b=>intro a h;show Be (Cy _ _ _) _=_;rw[CQ h,b _ (Xh h _)];rfl
def Pp(p:b_ g_)(T:b_ (b_ j_)):nr (T.map λt=>Pu.D.ci [tI (pick t p),.ci []])=a_ (T.map λt=>(rK (pick t p),Pu.D.ci [])):=by
 induction T with
 |nil=>rfl
 |cons t T a=>
  have e:G8 (Pu.D.ci [tI (pick t p),.ci []])=a_ (rK (pick t p),Pu.D.ci []):=by show(bx _).map _=_;rw[oi];rfl
  rw[iJ,nr,e,a];rfl
def Jm(n:g_)(h:∀t∈T,_7 t=m)(g:lf m p)(j:m<=5)(o:_7 T<=7):ae (tab (n+2)) wu [.au (T.map tI),tN p]=.ok (i5 (bq p) (Am T p)):=by
 have gl:=g.len;have a:ao (ak (aa 0)) [1] (gC (.bl c_)) (Pu.h8 (Pu.am (ah (ae (tab (n+1)) d7) (Pu.am (aa 0) (Pu.am (aa 1) af))) (Pu.am (Pu.h8 af) af))) [.bo (.au (T.map tI)),.bo (tN p)]=.ok (.au (T.map λt=>Pu.D.ci [tI (pick t p),.ci []])):=by
  refine f9 (l:=T) _6 (by lia) λt b=>?_;have k:ah (ae (tab (n+1)) d7) (Pu.am (aa 0) (Pu.am (aa 1) af)) [.pu (tI t),.bo (tN p)]=.ok (tI (pick t p)):=by exact(Pt n t p (λc a=>by rw[h t b];exact g.lt c a) (by lia))
  show Pu.h8 _ [.pu (tI t),.bo (tN p)]=_;rw[EB,nt,k];rfl
 have f:xu (.au (T.map λt=>Pu.D.ci [tI (pick t p),.ci []]))=a_ (.js c_ ((Am T p).map wa)):=by show(if(T.map λt=>Pu.D.ci _).length<=iN then(nr _).map _ else d_)=_;rw[iH (by rw[iD,kP];lia),Pp];show a_ (Pu.D.js c_ _)=_;rw[show Be [] _=Be (([]:b_ qz).map wa) _ from rfl,Pc p T [] (λq d=>by cases d)];rfl
 have e:g1 xu (ao (ak (aa 0)) [1] (gC (.bl c_)) (Pu.h8 (Pu.am (ah (ae (tab (n+1)) d7) (Pu.am (aa 0) (Pu.am (aa 1) af))) (Pu.am (Pu.h8 af) af)))) [.bo (.au (T.map tI)),.bo (tN p)]=.ok (.js c_ ((Am T p).map wa)):=by rw[Fo,a,bz,f];rfl
 have i:g1 iu (aa 1) [.bo (.au (T.map tI)),.bo (tN p)]=.ok (fw (bq p)):=by show ce.of (a_ _)=_;rw[Es];rfl
 show fe (Bq (n+1) [.bo _,.bo (tN p)])=_;unfold Bq;rw[t6,EG,nt,i];rw[nt,e];rfl
def NX(T:b_ (b_ j_))(p:b_ g_)(Z:j_->j_):Prop:=∃t∈T,∀c∈p,Z (c:j_)=t.getD c 0
def GD(T:b_ (b_ j_))(p:b_ g_):FT:=⟨bq p,Am T p,NX T p⟩
def zw(p:b_ g_)(Z:j_->j_):(bq p).map Z=p.map λ(c:g_)=>Z (c:j_):=by unfold bq;rw[jV];rfl
def Vp:r∈cg (Am T p)↔∃t∈T,r=pick t p:=by
 unfold Am;rw[Lx];constructor
 .rintro (h|⟨t,a,e⟩)
  .cases h
  .obtain⟨q,c,rfl⟩:=k_.mp a;obtain⟨u,b,rfl⟩:=k_.mp c;exact⟨u,b,e⟩
 .rintro⟨t,a,e⟩
  exact .inr ⟨t,k_.mpr ⟨(t,[]),k_.mpr ⟨t,a,_6⟩,_6⟩,e⟩
def XZ(g:lf m p)(j:m<=5)(l:_7 T<=7):(GD T p).ok:=by
 have gl:=g.len;have n:(bq p).length=_7 p:=by unfold bq;rw[iD]
 refine⟨⟨?_,λz z=>rfl,by show(bq p).length<=100;lia,Ep _ _ _ nE,λr=>?_,Er _ 1 _ _ (λq i=>by cases i) λq i=>?_⟩,?_,?_,by show(bq p).length<=5;lia⟩
 .show(bq p).Nodup;exact wN _ (λa b h e=>by lia) g.ris
 .show r∈cg (Am T p)↔∃Z,NX T p Z/\r=(bq p).map Z;rw[Vp];constructor
  .rintro⟨t,d,rfl⟩
   refine⟨λx=>t.getD x.toNat 0,⟨t,d,λc z=>rfl⟩,?_⟩;rw[zw];rfl
  .rintro⟨Z,⟨t,d,e⟩,rfl⟩
   refine⟨t,d,?_⟩;rw[zw];exact jY λc f=>e c f
 .obtain⟨t,_,rfl⟩:=k_.mp i;exact jW _
 .rintro Z τ h ⟨t,d,e⟩
  refine⟨t,d,λc f=>?_⟩;rw[<-h _ (by exact k_.mpr ⟨c,f,_6⟩)];exact e c f
 .have:=L7 p (T.map λt=>(t,[])) [];rw[lB,iD]at this;show(Am T p).length<=7;unfold Am
  lia
def Ei(T:b_ (b_ j_))(p:b_ g_)(r:b_ j_):Prop:=∃t∈T,∀c∈p,r.getD c 0=t.getD c 0
def yw(m:g_)(Z:j_->j_)(h:c<m):((bq (jD m)).map Z).getD c 0=Z (c:j_):=by rw[zw,iK,jF,qN h];rfl
end LK
end
section
namespace LK
open Pu
def J1(A B C D E:b_ Pu.D->ce){T P a:Pu.D}{c:b_ j_}{rows:b_ qz}{W:b_ (b_ g_)}{F:b_ g_->FT}{b:b_ g_}{R:b_ (b_ j_)}
  (s:A [P]=.ok a)(hB:B [P]=.ok (.au (W.map tN)))(q:∀w∈W,C [T,tN w]=.ok (F w).D)(x:_7 W<=1000)
  (hD:D [.au (W.map λw=>(F w).D),a]=.ok (i5 c rows)) (p:E [a,fw c]=.ok (.au (bf b))) (g:_7 rows<=1000000) (G:b_ Pu.D->ce) (o:∀r∈cg rows,G [tI r,.au (bf b)]=.ok (tI (pick r b))) (n:j8 (.au ((cg rows).map λr=>tI (pick r b)))=a_ (.au (R.map tI))):
  fe ((a9 (dq 2 (ah A (Pu.am (aa 1) af)))
 (a9 (dq 3 (ah D (Pu.am (ao (ak (ah B (Pu.am (aa 1) af))) [0] (gC (.bl c_)) (ah C (Pu.am (aa 1) (Pu.am (aa 0) af)))) (Pu.am (aa 2) af))))
 (a9 (dq 4 (ah E (Pu.am (aa 2) (Pu.am (gp xs.cls "columns" (aa 3)) af))))
 (cj (g1 j8 (ao (jh (gp xs.cls "rows" (aa 3))) [4] (gC (.bl c_)) (ah G (Pu.am (aa 0) (Pu.am (aa 1) af))))))))) [.bo T,.bo P,.no,.no,.no])=.ok (.au (R.map tI)):=by
 have j:dq 2 (ah A (Pu.am (aa 1) af)) [.bo T,.bo P,.no,.no,.no]=.nx [.bo T,.bo P,.pu a,.no,.no]:=by show(A [P]).then _=_;rw[s];rfl
 have v:ao (ak (ah B (Pu.am (aa 1) af))) [0] (gC (.bl c_)) (ah C (Pu.am (aa 1) (Pu.am (aa 0) af))) [.bo T,.bo P,.pu a,.no,.no]=.ok (.au (W.map λw=>(F w).D)):=by
  have m:ak (ah B (Pu.am (aa 1) af)) [.bo T,.bo P,.pu a,.no,.no]=.ok (W.map tN):=by show(match B [P]with|.ok d=>_|.er c=>_|.st=>_)=_;rw[hB];rfl
  exact f9 (l:=W) m (by lia) λw e=>(q w e)
 have i:dq 3 (ah D (Pu.am (ao (ak (ah B (Pu.am (aa 1) af))) [0] (gC (.bl c_)) (ah C (Pu.am (aa 1) (Pu.am (aa 0) af)))) (Pu.am (aa 2) af))) [.bo T,.bo P,.pu a,.no,.no]=.nx [.bo T,.bo P,.pu a,.pu (i5 c rows),.no]:=by rw[vw,EG,nt,v];show(D [.au _,a]).then _=_;rw[hD];rfl
 have h:dq 4 (ah E (Pu.am (aa 2) (Pu.am (gp xs.cls "columns" (aa 3)) af))) [.bo T,.bo P,.pu a,.pu (i5 c rows),.no]=.nx [.bo T,.bo P,.pu a,.pu (i5 c rows),.pu (.au (bf b))]:=by show(E [a,fw c]).then _=_;rw[p];rfl
 have u:ao (jh (gp xs.cls "rows" (aa 3))) [4] (gC (.bl c_)) (ah G (Pu.am (aa 0) (Pu.am (aa 1) af))) [.bo T,.bo P,.pu a,.pu (i5 c rows),.pu (.au (bf b))]=.ok (.au ((cg rows).map λr=>tI (pick r b))):=by
  refine f9 (f:=tI) (l:=cg rows) ?_ (by rw[iD];lia) λr g=>?_
  .show f8.ok _=_;rw[jV,jV];rfl
  .exact o r g
 rw[b0,j];dsimp only;rw[b0,i];dsimp only;rw[b0,h];dsimp only;rw[t6,Fo,u,bz,n];rfl
def UZ(n:g_){m:g_}{T:b_ (b_ j_)}{P:b_ (b_ g_)}(hT:∀t∈T,_7 t=m)(g:∀p∈P,lf m p)(C:m<=5)(z:_7 T<=7)(E:_7 P<=5)(u:∀c,c<m->∃p∈P,c∈p):
  ∃R:b_ (b_ j_),R.Pairwise (· <·)/\(∀r,r∈R↔(_7 r)=m/\∀p∈P,Ei T p r)/\_7 R<=16807/\ae (tab (n+6)) gd [.au (T.map tI),.au (P.map tN)]=.ok (.au (R.map tI)):=by
 obtain⟨W,G,U,w3,w4⟩:=Hu (n+3) g C E;have M:∀f∈W.map (GD T),f.ok:=λf N=>by obtain⟨w,o,rfl⟩:=k_.mp N;exact XZ (g w (G w o)) C z
 have cl:(bq (jD m)).length=m:=by unfold bq;rw[iD,kG]
 obtain⟨c,d,v,r1,r2,r3,r4⟩:=Ut n (wd:=bq (jD m)) (fs:=W.map _) (λS S=>rfl) (by lia) M (by rw[iD];lia);have mc:∀x,x∈c↔x∈bq _:=λx=>by rw[r3];refine⟨λh=>h.2,λh=>⟨?_,h⟩⟩;obtain⟨k,s,rfl⟩:=k_.mp h;obtain⟨p,B,hc⟩:=u k (v_.mp s);obtain⟨w,o,J⟩:=U p B;exact _a.mpr ⟨GD T w,k_.mpr ⟨w,o,_6⟩,k_.mpr ⟨k,J k hc,_6⟩⟩
 have j:∀x∈bq _,x∈c:=λx y=>(mc x).mpr y;have A:∀Z,pick _ _=(bq _).map Z:=λZ=>l8 j;have nd:((cg d).map λr=>pick r ((bq (jD m)).map c.idxOf)).Nodup:=by
  refine wN _ ?_ (_t.mp v.rn)
  rintro a b ⟨Q,hb,O⟩ e
  obtain⟨Z,_,rfl⟩:=(v.mem a).mp Q;obtain⟨τ,_,rfl⟩:=(v.mem b).mp hb;rw[A,A]at e;refine O (jY λx y=>?_);obtain⟨k,s,rfl⟩:=k_.mp ((mc x).mp y);have:=u_ (λl=>List.getD l k 0) e;simp only[yw m Z (v_.mp s),yw m τ (v_.mp s)]at this;exact this
 obtain⟨R,s1,Y,s3⟩:=ze nd (by rw[iD,iD];lia);refine⟨R,s3,λr=>?_,by rwa[Y.length_eq,iD,iD],?_⟩
 .rw[Y.mem_iff,oA];constructor
  .rintro⟨a,Q,rfl⟩
   obtain⟨Z,H,rfl⟩:=(v.mem a).mp Q;rw[A];refine⟨by rw[iD,cl],λp B=>?_⟩;obtain⟨w,o,J⟩:=U p B;obtain⟨t,I,e⟩:=H _ (k_.mpr ⟨w,o,_6⟩);refine⟨t,I,λk s=>?_⟩;rw[yw m Z ((g p B).lt k s)];exact e k (J k s)
  .rintro⟨E,L⟩
   refine⟨c.map λx=>r.getD x.toNat 0,(v.mem _).mpr ⟨λx=>r.getD x.toNat 0,λf N=>?_,_6⟩,?_⟩
   .obtain⟨w,o,rfl⟩:=k_.mp N;obtain⟨t,I,e⟩:=L w (G w o);exact⟨t,I,λk s=>e k s⟩
   .rw[A,zw];apply qQ
    .rw[iD,kG,E]
    .intro i h1 h2;simp[iK,h2]
 .rw[D1 (n+5)];have hS:j8 (.au ((cg d).map λr=>tI (pick r ((bq (jD m)).map c.idxOf))))=a_ (.au (R.map tI)):=by rw[jV]at s1;show(jn _).map _=_;rw[show((cg d).map λr=>tI _)=(cg d).map (tI ∘ λr=>pick r _)from rfl,s1];rfl
  refine J1 _ _ _ _ _ (c:=c) (rows:=d) (W:=W) (F:=GD T) (Q6 (n+4) g C E u) w4 (λw o=>Jm (n+3) hT (g w (G w o)) C z) (by lia) (by rw[jV]at r4;exact r4) (mr (n+4) (λS S=>rfl) (by lia) j (by lia)) (by lia) _ (λr L=>ti (n+4) r _ (λq hq=>?_) (by rw[iD];lia)) hS;obtain⟨x,y,rfl⟩:=k_.mp hq;obtain⟨Z,_,rfl⟩:=(v.mem r).mp L;rw[iD];exact lM (j x y)
end LK
end
section
namespace LK
open Pu
def Ej(t:b_ j_)(p:b_ g_)(r:b_ j_):r_:=p.all λc=>t.getD c 0==r.getD c 0
def B3(T:b_ (b_ j_))(p:b_ g_)(r:b_ j_):r_:=T.any λt=>Ej t p r
def Gy:B3 T p r=c_↔Ei T p r:=by
 unfold B3 Ej Ei;rw[uJ];constructor
 .rintro⟨t,a,h⟩
  exact⟨t,a,λc b=>(nA (w_.mp h c b)).symm⟩
 .rintro⟨t,a,h⟩
  exact⟨t,a,w_.mpr λc b=>E_.mpr (h c b).symm⟩
def IK:En->fc:=oj (g2 gu (ao (ak (aa 1)) [3,2] (g2 e8 (g2 az (aa 1) (aa 0)) (g2 az (aa 2) (aa 0))) (a0 0)) (b9 af)) (cj (gC (.bl c_))) gw
def XJ(b:Sl)(j:_7 t=m)(n:_7 r=m)(g:lf m p)(o:m<=5):IK [b,.bo (tN p),.bo (tI r),.pu (tI t)]=if Ej t p r then .rt (.bl c_)else .nx [b,.bo (tN p),.bo (tI r),.pu (tI t)]:=by
 have gl:=g.len;have a:ao (ak (aa 1)) [3,2] (g2 e8 (g2 az (aa 1) (aa 0)) (g2 az (aa 2) (aa 0))) (a0 0) [b,.bo (tN p),.bo (tI r),.pu (tI t)]=.ok (.au (bf (p.filter λc=> !(t.getD c 0==r.getD c 0)))):=by refine cm (l:=p) _6 (by lia) λc a=>?_;have q:=g.lt c a;show((ce.of _).bind λx=>(ce.of _).bind λy=>ce.of _)=_;rw[(Af t c (by lia)),(Af r c (by lia))];rfl
 have e:=(n9 (ds:=bf (p.filter λc=> !(t.getD c 0==r.getD c 0))) (Wo λd i=>by
  obtain⟨c,_,rfl⟩:=k_.mp i;exact⟨.int c,_6,_6,jW _⟩)).1
 have f:(bf (p.filter λc=> !(t.getD c 0==r.getD c 0))).isEmpty=Ej t p r:=by
  unfold bf;rw[su];unfold Ej;cases h:p.all λc=>t.getD c 0==r.getD c 0 with
  |true=>
   refine m_ (V_.mpr λc a=>?_);rw[w_.mp h c a]
   decide
  |false=>
   refine i_ λz=>?_;rw[V_]at z;have:(p.all λc=>t.getD c 0==r.getD c 0)=c_:=w_.mpr λc a=>by simpa using z c a
   rw[h]at this;cases this
 rw[f]at e;unfold IK;rw[Fp,yb,a,bz];show(ce.of _).then _=_;rw[e];cases Ej t p r<;>rfl
def IM(n:g_)(s:∀t∈T,_7 t=m)(o:_7 r=m)(g:lf m p)(q:m<=5):ae (tab (n+1)) ox [.au (T.map tI),tN p,tI r]=.ok (.bl (B3 T p r)):=by
 have i:∀U a b,(∀t∈U,_7 t=m)->(B3 U p r=c_/\turns (aq 3) IK (U.map tI) [a,.bo (tN p),.bo (tI r),b]=.rt (.bl c_))\/(B3 U p r=e_/\∃e,turns (aq 3) IK (U.map tI) [a,.bo (tN p),.bo (tI r),b]=.nx [a,.bo (tN p),.bo (tI r),e]):=by
  intro U;induction U with
  |nil=>intro a b _;exact .inr ⟨_6,b,_6⟩
  |cons t U j=>
   intro a b h;rw[iJ,bu (δ1:=[a,.bo (tN p),.bo (tI r),.pu (tI t)]) _6,XJ a (h t (.head _)) o g q];unfold B3;rw[mZ];cases u:Ej t p r with
   |true=>exact .inl ⟨_6,_6⟩
   |false=>exact j a _ λt l=>h t (.tail _ l)
 show fe (Dp n [.bo _,.bo (tN p),.bo (tI r),.no])=_;have f:fz [0] (di (aq 3) (ak (vo 0)) IK) [.bo (.au (T.map tI)),.bo (tN p),.bo (tI r),.no]=turns (aq 3) IK (T.map tI) [.bo (.au (T.map tI)),.bo (tN p),.bo (tI r),.no]:=by exact f6 _6
 unfold IK at f;unfold Dp;rw[b0,f];rcases i T _ .no s with⟨d,c⟩|⟨d,e,c⟩
 .unfold IK at c;rw[c,d];rfl
 .unfold IK at c;rw[c,d];rfl
def yn(V:g_->b_ j_)(L:b_ (b_ j_))(c:g_):b_ (b_ j_):=L.flatMap λr=>(V c).map λv=>r++[v]
def tj(V:g_->b_ j_):b_ g_->b_ (b_ j_)->b_ (b_ j_)
 |[],L=>L
 |c::a,L=>tj V a (yn V L c)
noncomputable def eE(T P m:Pu.D)(h g f e d c b a:Sl):En:=[.bo T,.bo P,.bo m,h,g,f,e,d,c,b,a]
def XU:En->fc:=fz [7] (qi 5 (g2 bj (aa 6) (Pu.h8 (Pu.am (a0 7) af))))
def Y4(T P m:Pu.D)(h g f d b:Sl)(r:b_ j_)(p:_7 r<=100):∀(c:b_ j_) a i,_7 a+_7 c<=1000000->
  ∃j,turns (aq 7) XU (c.map Pu.D.int) (eE T P m h g (.ow (a.map tI)) (.pu (tI r)) i f d b)=.nx (eE T P m h g (.ow ((a++c.map λv=>r++[v]).map tI)) (.pu (tI r)) j f d b):=by
 intro c;induction c with
 |nil=>intro a i _;exact⟨i,by rw[nI,nI,jX];rfl⟩
 |cons v c l=>
  intro a i n;rw[iC]at n;obtain⟨j,e⟩:=l (a++[r++[v]]) _ (by rw[iO,nC];lia);refine⟨j,?_⟩;rw[iJ,bu (δ1:=eE T P m h g _ _ _ f d b) _6];have o:XU (eE T P m h g (.ow (a.map tI)) (.pu (tI r)) (.pu (.int v)) f d b)=.nx (eE T P m h g (.ow ((a++[r++[v]]).map tI)) (.pu (tI r)) (.pu (.int v)) f d b):=by unfold XU;rw[Ax,i7];rw[NC];show(ce.of (bj (tI r) (tI [v]))).then _=_;rw[(Xj (by simp;lia)),om,cx,iH (by rw[iD];lia),kQ];rfl
  rw[o];rw[iJ,show a++_::c.map _=a++[r++[v]]++c.map λv=>r++[v] by simp];exact e
def NR:En->fc:=di (aq 7) (ak (g1 dh (ao (ak (aa 0)) [4] (gC (.bl c_)) (g2 az (aa 0) (aa 1))))) XU
def AF(P:Pu.D){T:b_ (b_ j_)}(E:∀t∈T,_7 t=m)(y:c<m)(C:_7 T<=7){V:b_ j_}(B:dh (.au ((T.map λt=>t.getD c 0).map Pu.D.int))=a_ (.au (V.map Pu.D.int)))(A:_7 V<=7)(g f e b:Sl):∀(L a:b_ (b_ j_)) i d,(∀r∈L,_7 r<=100)->_7 a+7*_7 L<=1000000->
  ∃n h,turns (aq 6) NR (L.map tI) (eE (.au (T.map tI)) P (.int (m:j_)) g (.pu (.int (c:j_))) (.ow (a.map tI)) i d f e b)=.nx (eE (.au (T.map tI)) P (.int (m:j_)) g (.pu (.int (c:j_))) (.ow ((a++L.flatMap λr=>V.map λv=>r++[v]).map tI)) n h f e b):=by
 intro L;induction L with
 |nil=>intro a i d _ _;exact⟨i,d,by rw[nI,M!,jX];rfl⟩
 |cons r L s=>
  intro a i d q x;rw[iC]at x;rw[iJ,bu (δ1:=eE _ P _ g _ _ _ d f e b) _6];have p:ao (ak (aa 0)) [4] (gC (.bl c_)) (g2 az (aa 0) (aa 1)) (eE (.au (T.map tI)) P (.int m) g (.pu (.int c)) (.ow (a.map tI)) (.pu (tI r)) d f e b)=.ok (.au ((T.map λt=>t.getD c 0).map Pu.D.int)):=by rw[jV];refine f9 (l:=T) _6 (by lia) λt w=>?_;show ce.of _=_;rw[Af t c (by rw[E t w];exact y)];rfl
  have u:ak (g1 dh (ao (ak (aa 0)) [4] (gC (.bl c_)) (g2 az (aa 0) (aa 1)))) (eE (.au (T.map tI)) P (.int m) g (.pu (.int c)) (.ow (a.map tI)) (.pu (tI r)) d f e b)=.ok (V.map Pu.D.int):=by rw[EA,Fo,p,bz,B];rfl
  obtain⟨h,H⟩:=Y4 _ P _ g _ f e b r (q r (.head _)) V a d (by lia);have z:NR (eE (.au (T.map tI)) P (.int (m:j_)) g (.pu (.int c)) (.ow (a.map tI)) (.pu (tI r)) d f e b)=.nx (eE (.au (T.map tI)) P (.int m) g (.pu (.int c)) (.ow ((a++V.map λv=>r++[v]).map tI)) (.pu (tI r)) h f e b):=by unfold NR;rwa[f6 u]
  rw[z];obtain⟨n,j,G⟩:=s (a++V.map λv=>r++[v]) _ h (λr o=>q r (.tail _ o)) (by rw[iO,iD];lia);refine⟨n,j,?_⟩;rwa[wM,<-kF]
def dB(s:Sl)(L:b_ (b_ j_)):Prop:=s=.ow (L.map tI)\/s=.pu (.au (L.map tI))
def M7(a:∀c,(V c).length<=k)(L:b_ (b_ j_))(c:g_):(yn V L c).length<=k*L.length:=by
 unfold yn;induction L with
 |nil=>exact jW _
 |cons r L b=>
  have:=a c;rw[wM,iO,iD,iC,Nat.mul_succ]
  lia
def Ly:r∈yn V L c↔∃q∈L,∃v∈V c,r=q++[v]:=by
 unfold yn;rw[_a];constructor
 .rintro⟨q,b,h⟩
  obtain⟨v,a,rfl⟩:=k_.mp h;exact⟨q,b,v,a,_6⟩
 .rintro⟨q,b,v,a,rfl⟩
  exact⟨q,b,k_.mpr ⟨v,a,_6⟩⟩
def WH:En->fc:=(a9 (de 5 (b9 af))
 (a9 (fz [3] (di (aq 6) (ak (vo 3)) NR))
 (fz [5] (dq 3 (a0 5)))))
def WG(P:Pu.D){T:b_ (b_ j_)}(w:∀t∈T,_7 t=m)(u:c<m)(n:_7 T<=7)(v:dh (.au ((T.map λt=>t.getD c 0).map Pu.D.int))=a_ (.au ((V c).map Pu.D.int)))(l:(V c).length<=7)(y:dB h L)(x:∀r∈L,_7 r<=100)(A:_7 L<=20000)(o g f d b a:Sl):
  ∃p j i,WH (eE (.au (T.map tI)) P (.int (m:j_)) h (.pu (.int (c:j_))) o g f d b a)=.nx (eE (.au (T.map tI)) P (.int (m:j_)) (.pu (.au ((yn V L c).map tI))) (.pu (.int (c:j_))) p j i d b a):=by
 obtain⟨j,i,e⟩:=AF P w u n v l _ d b a L [] g f x (by simp;lia);refine⟨.pu (.au ((yn V L c).map tI)),j,i,?_⟩;have s:de 5 (b9 af) (eE _ P _ h _ o g f d b a)=.nx (eE (.au (T.map tI)) P (.int (m:j_)) h (.pu (.int (c:j_))) _ g f d b a):=rfl;have q:fz [3] (di (aq 6) (ak (vo 3)) NR) (eE (.au (T.map tI)) P (.int m) h (.pu (.int c)) (.ow []) g f d b a)=.nx (eE (.au (T.map tI)) P (.int m) (.pu (.au (L.map tI))) (.pu (.int c)) (.ow ((yn V L c).map tI)) j i d b a):=by
  have z:fz [3] (di (aq 6) (ak (vo 3)) NR) (eE (.au (T.map tI)) P (.int m) h (.pu (.int c)) (.ow []) g f d b a)=di (aq 6) (ak (vo 3)) NR (eE (.au (T.map tI)) P (.int m) (.pu (.au (L.map tI))) (.pu (.int c)) (.ow []) g f d b a):=by rcases y with rfl|rfl<;>rfl
  rw[z,f6 _6];exact e
 unfold WH;rw[b0,s];dsimp only;rw[b0,q];exact _6
def GY(P:Pu.D){T:b_ (b_ j_)}(O:m<=5)(N:∀t∈T,_7 t=m)(w:_7 T<=7)(M:∀c,c<m->dh (.au ((T.map λt=>t.getD c 0).map Pu.D.int))=a_ (.au ((V c).map Pu.D.int)))(l:∀c,(V c).length<=7)(o n b:Sl):∀a L j p g f d,dB j L->(∀c∈a,c<m)->(∀r∈L,_7 r+_7 a<=100)->_7 L*7^(_7 a)<=16807->
  ∃B E A z y,dB B (tj V a L)/\turns (aq 4) WH (a.map λ(i:g_)=>Pu.D.int (0+(i:j_))) (eE (.au (T.map tI)) P (.int (m:j_)) j p g f d o n b)=.nx (eE (.au (T.map tI)) P (.int (m:j_)) B E A z y o n b):=by
 intro a;induction a with
 |nil=>intro L j p g f d h _ _ _;exact⟨j,p,g,f,d,h,_6⟩
 |cons c a G=>
  intro L j p g f d h u C J;rw[iC,xP]at J;have U:1<=7^a.length:=Nat.one_le_pow _ _ (by decide);have Q:_7 L<=16807:=by
   have:_7 L*1<=_7 L*(7^(_7 a)*7):=Nat.mul_le_mul_left _ (by lia)
   lia
  rw[iJ,F?,bu (δ1:=eE _ P _ j _ g f d o n b) _6];obtain⟨A,z,y,e⟩:=WG P N (u c (.head _)) w (M c (u c (.head _))) (l c) h (λr s=>by have:=C r s;lia) (by lia) g f d o n b;rw[e];refine G _ _ _ _ _ _ (.inr _6) (λx H=>u x (.tail _ H)) (λr s=>?_) ?_
  .obtain⟨q,I,v,_,rfl⟩:=Ly.mp s;have:=C q I;rw[iC]at this;rw[iO,nC]
   lia
  .have:=Nat.mul_le_mul_right (7^a.length) (M7 l L c);have Y:7*_7 L*7^(_7 a)=_7 L*(7^(_7 a)*7):=by rw[xM 7,Nat.mul_assoc,xM 7]
   lia
def NQ(F:b_ Pu.D->ce):En->fc:=fz [9] (dq 9 (vy (a0 9) (ah F (Pu.am (aa 0) (Pu.am (aa 10) (Pu.am (aa 6) af))))))
def JK(F:b_ Pu.D->ce)(T n m:Pu.D)(b:b_ g_->r_)(r:b_ j_)(l j i g f:Sl):∀(P:b_ (b_ g_)) a c,(∀p∈P,F [T,tN p,tI r]=.ok (.bl (b p)))->
  ∃d,turns (aq 10) (NQ F) (P.map tN) (eE T n m l j i (.pu (tI r)) g f (.pu (.bl a)) c)=.nx (eE T n m l j i (.pu (tI r)) g f (.pu (.bl (a&&P.all b))) d):=by
 intro P;induction P with
 |nil=>intro a c _;exact⟨c,by rw[List.all_nil,Bool.and_true];rfl⟩
 |cons p P o=>
  intro a c h;obtain⟨d,e⟩:=o _ _ λq s=>h q (.tail _ s);refine⟨d,?_⟩;rw[iJ,bu (δ1:=eE T n m l j i _ g f _ _) _6];have u:NQ F (eE T n m l j i (.pu (tI r)) g f (.pu (.bl a)) (.pu (tN p)))=.nx (eE T n m l j i (.pu (tI r)) g f (.pu (.bl (a&&b p))) (.pu (tN p))):=by
   have k:ah F (Pu.am (aa 0) (Pu.am (aa 10) (Pu.am (aa 6) af))) (eE T n m l j i (.pu (tI r)) g f (.pu (.bl a)) (.pu (tN p)))=.ok (.bl (b p)):=by exact h p (.head _)
   unfold NQ;show dq 9 _ (eE T n m l j i _ g f _ _)=_;show(match Pu.D.bl a with|.bl c_=>_|.bl e_=>_|_=>_:ce).then _=_;cases a with
   |true=>rw[k];rfl
   |false=>rfl
  rw[u];rwa[kJ,<-Bool.and_assoc]
def PB(F:b_ Pu.D->ce):En->fc:=(a9 (dq 9 (gC (.bl c_)))
 (a9 (fz [1] (di (aq 10) (ak (vo 1)) (NQ F)))
 (oj (jq (aa 9)) (fz [6] (qi 8 (a0 6))) gw)))
def GA(F:b_ Pu.D->ce)(T m:Pu.D){P:b_ (b_ g_)}(b:b_ j_->b_ g_->r_)(j i g f:Sl):∀(L a:b_ (b_ j_)) o l c,(∀r∈L,∀p∈P,F [T,tN p,tI r]=.ok (.bl (b r p)))->a.length+L.length<=1000000->
  ∃u s d,turns (aq 6) (PB F) (L.map tI) (eE T (.au (P.map tN)) m j i g o f (.ow (a.map tI)) l c)=.nx (eE T (.au (P.map tN)) m j i g u f (.ow ((a++L.filter λr=>P.all (b r)).map tI)) s d):=by
 intro L;induction L with
 |nil=>intro a o l c _ _;exact⟨o,l,c,by rw[List.filter_nil,jX];rfl⟩
 |cons r L y=>
  intro a o l c h A;rw[iC]at A;rw[iJ,bu (δ1:=eE T _ m j i g _ f _ l c) _6];have x:dq 9 (gC (.bl c_)) (eE T _ m j i g _ f _ l c)=.nx (eE T (.au (P.map tN)) m j i g (.pu (tI r)) f (.ow (a.map tI)) _ c):=rfl;obtain⟨d,C⟩:=JK F T _ m (b r) r j i g f _ P c_ c (h r (.head _));have w:fz [1] (di (aq 10) (ak (vo 1)) (NQ F)) (eE T (.au (P.map tN)) m j i g (.pu (tI r)) f (.ow (a.map tI)) (.pu (.bl c_)) c)=.nx (eE T (.au (P.map tN)) m j i g (.pu (tI r)) f (.ow (a.map tI)) (.pu (.bl (P.all (b r)))) d):=by have G:fz [1] (di _ _ (NQ F)) (eE T (.au (P.map tN)) m j i g (.pu (tI r)) f (.ow (a.map tI)) (.pu (.bl c_)) c)=di (aq 10) (ak (vo 1)) (NQ F) _:=rfl;exact C
  have v:oj (jq (aa 9)) (fz [6] (qi 8 (a0 6))) gw (eE T (.au (P.map tN)) m j i g (.pu (tI r)) f (.ow (a.map tI)) (.pu (.bl (P.all (b r)))) d)=.nx (eE T (.au (P.map tN)) m j i g (.pu (tI r)) f (.ow ((a++if P.all (b r)then[r]else[]).map tI)) (.pu (.bl (P.all (b r)))) d):=by
   show(ce.ok _).then _=_;cases E:P.all (b r)with
   |false=>rw[show(a++if _=c_ then[r]else[])=a by simp];rfl
   |true=>show(if(a.map tI).length<16777216 then _ else _)=_;rw[iH (by rw[iD];lia),iH _6,kQ];rfl
  have B:PB F (eE T (.au (P.map tN)) m j i g (.pu (tI r)) f (.ow (a.map tI)) l c)=.nx (eE T (.au (P.map tN)) m j i g (.pu (tI r)) f (.ow ((a++if P.all (b r)then[r]else[]).map tI)) (.pu (.bl (P.all (b r)))) d):=by unfold PB;rw[b0,x];dsimp only;rw[b0,w];exact v
  rw[B];dsimp only;obtain⟨u,s,n,e⟩:=y (a++if P.all (b r)then[r]else[]) _ _ d (λq z=>h q (.tail _ z)) (by split<;>simp<;>lia);refine⟨u,s,n,?_⟩;rw[e,pJ,kF];cases P.all (b r)<;>rfl
def Hd(V:g_->b_ j_)(c:g_):∀b L,tj V (b++[c]) L=yn V (tj V b L) c:=by
 intro b;induction b with
 |nil=>intro L;rfl
 |cons a b d=>intro L;exact d _
def QC:∀{q c:b_ j_} s d,_7 q=_7 c->q<c->q++s<c++d:=by
 intro q;induction q with
 |nil=>
  intro c s d e h;cases c with
  |nil=>exact t_ h (rX _)
  |cons=>cases e
 |cons a q f=>
  intro c s d e h;cases c with
  |nil=>cases e
  |cons b c=>
   rcases N_.mp h with h|⟨i,g⟩
   .exact N_.mpr (.inl h)
   .exact N_.mpr (.inr ⟨i,f s d (by simpa using e) g⟩)
def QB(q:b_ j_)(h:v<b):q++[v]<q++[b]:=by
 induction q with
 |nil=>exact N_.mpr (.inl h)
 |cons a q c=>exact N_.mpr (.inr ⟨_6,c⟩)
def KQ(w:∀c,(V c).Pairwise (· <·)):∀k,(tj V (jD k) [[]]).Pairwise (· <·)/\∀r,r∈tj V (jD k) [[]]↔(_7 r)=k/\∀c,c<k->r.getD c 0∈V c:=by
 intro k;induction k with
 |zero=>refine⟨tD _ _,λr=>?_⟩;show r∈[[]]↔_;rw[pN];exact⟨λh=>by rw[h];exact⟨_6,λc g=>by lia⟩,λh=>H_.mp h.1⟩
 |succ k l=>
  obtain⟨m,d⟩:=l;rw[List.range_succ,Hd];constructor
  .unfold yn;rw[List.pairwise_flatMap];constructor
   .intro q _;rw[qD];exact(w k).imp λh=>QB q h
   .refine(_t.mp m).imp ?_
    rintro a b ⟨u,s,i⟩ x o y n
    obtain⟨v,_,rfl⟩:=k_.mp o;obtain⟨z,_,rfl⟩:=k_.mp n;exact QC _ _ (by rw[((d a).mp u).1,((d b).mp s).1]) i
  .intro r;rw[Ly];constructor
   .rintro⟨q,p,v,A,rfl⟩
    obtain⟨j,f⟩:=(d q).mp p;refine⟨by rw[iO,nC,j],λc g=>?_⟩;rw[iK]
    by_cases e:c<k
    .rw[kI (by lia),<-iK];exact f c e
    .obtain rfl:c=k:=by lia
     rwa[kW (by lia),j,Nat.sub_self]
   .rintro⟨j,f⟩
    refine⟨r.take k,(d _).mpr ⟨by rw[lX];lia,λc g=>?_⟩,r.getD k 0,f k (iF _),?_⟩
    .rw[iK,a!,iH g,<-iK];exact f c (by lia)
    .rw[iK,iR (by lia)];have:=lA k r;rw[lG (by lia),pH (by lia)]at this;exact this.symm
def Nb(n:g_){P:b_ (b_ g_)}(H:∀t∈T,_7 t=m)(g:∀p∈P,lf m p)(v:m<=5)(y:_7 T<=7)(l:∀c,c<m->∃p∈P,c∈p):
  ∃R:b_ (b_ j_),R.Pairwise (· <·)/\(∀r,r∈R↔(_7 r)=m/\∀p∈P,Ei T p r)/\ae (tab (n+2)) ju [.au (T.map tI),.au (P.map tN),.int (m:j_)]=.ok (.au (R.map tI)):=by
 obtain⟨V,q⟩:=Classical.axiomOfChoice λc:g_=>Aq (P:=T.map λt=>t.getD c 0) (by rw[iD];lia);have o:∀c,(V c).length<=7:=λc=>by
  have:=(q c).2.2.2.1;rw[iD]at this
  lia
 obtain⟨O,G⟩:=KQ (λc=>(q c).2.2.2.2) m;have U:=BM m v;obtain⟨j,d,b,f,a,e1,e2⟩:=GY _ v H y (λc W=>(q c).1) o .no .no .no _ [[]] _ .no .no .no .no (.inl _6) (λc x=>v_.mp x) (λr u=>by rw[q_.mp u,kG];simp;lia) (by simpa using U);have N:∀k,(tj V (jD k) [[]]).length<=7^k:=λk=>by
  induction k with
  |zero=>exact iF _
  |succ k ih=>
   rw[List.range_succ,Hd,xP];have:=M7 o (tj V (jD k) [[]]) k
   lia
 obtain⟨B,A,i,I⟩:=GA _ _ (.int _) (P:=P) _ _ d b a _ [] f .no .no (λr u p h=>IM n H ((G r).mp u).1 (g p h) v) (by have:=N m;simp;lia);refine⟨(tj V _ [[]]).filter λr=>P.all λp=>B3 T p r,uW _ O,λr=>?_,?_⟩
 .rw[vG,G,w_];constructor
  .rintro⟨⟨z,_⟩,s⟩
   exact⟨z,λp h=>Gy.mp (s p h)⟩
  .rintro⟨z,s⟩
   refine⟨⟨z,λc x=>?_⟩,λp h=>Gy.mpr (s p h)⟩;obtain⟨p,h,w⟩:=l c x;obtain⟨t,Q,e⟩:=s p h;exact((q c).2.1 _).mpr (k_.mpr ⟨t,Q,(e c w).symm⟩)
 .have M:de 3 (b9 (Pu.am (Pu.h8 af) af)) [.bo _,.bo _,.bo _,.no,.no,.no,.no,.no,.no,.no,.no]=.nx (eE (.au (T.map tI)) (.au (P.map tN)) (.int (m:j_)) (.ow [tI []]) .no .no .no .no .no .no .no):=rfl;have E:di (aq 4) (cy (Pu.am (aa 2) af)) WH (eE (.au (T.map tI)) (.au (P.map tN)) (.int m) (.ow [tI []]) .no .no .no .no .no .no .no)=.nx (eE (.au (T.map tI)) (.au (P.map tN)) (.int m) j d b f a .no .no .no):=by rwa[f6 ((j9 _ _ (j':=m) _6 (by lia)).trans _6)]
  have L:de 8 (b9 af) (eE _ _ (.int _) j d b f a .no .no .no)=.nx (eE (.au (T.map tI)) (.au (P.map tN)) (.int (m:j_)) j d b f a (.ow []) .no .no):=rfl;have C:fz [3] (di (aq 6) (ak (vo 3)) (PB (ae (tab (n+1)) ox))) (eE (.au (T.map tI)) (.au (P.map tN)) (.int (m:j_)) j d b f a (.ow []) .no .no)=.nx (eE (.au (T.map tI)) (.au (P.map tN)) (.int (m:j_)) (.pu (.au ((tj V (jD m) [[]]).map tI))) d b B a (.ow (((tj V (jD m) [[]]).filter λr=>P.all λp=>B3 T p r).map tI)) A i):=by
   generalize ae _ ox=F at I⊢;have Y:fz [3] (di (aq 6) (ak (vo 3)) (PB F)) (eE (.au (T.map tI)) (.au (P.map tN)) (.int (m:j_)) j d b f a (.ow []) .no .no)=di (aq 6) (ak (vo 3)) (PB F) (eE (.au (T.map tI)) (.au (P.map tN)) (.int (m:j_)) (.pu (.au ((tj V (jD m) [[]]).map tI))) d b f a (.ow []) .no .no):=by rcases e1 with rfl|rfl<;>rfl
   rw[Y,f6 _6];exact I
  have J:∀R,fz [8] (cj (a0 8)) (eE (.au (T.map tI)) (.au (P.map tN)) (.int (m:j_)) (.pu (.au ((tj V (jD m) [[]]).map tI))) d b B a (.ow R) A i)=.rt (.au R):=λR=>rfl;show fe (wk (n+1) [.bo (.au (T.map tI)),.bo (.au (P.map tN)),.bo (.int (m:j_)),.no,.no,.no,.no,.no,.no,.no,.no])=_;unfold WH NR XU at E;unfold PB NQ at C;unfold wk;rw[b0,M];dsimp only;rw[b0,E];dsimp only;rw[b0,L];dsimp only;rw[b0,C];dsimp only;rw[J,Ng]
def EY(a:b_ g_):tI (bq a)=.ci (a.map λ(c:g_)=>Pu.D.int (c:j_)):=(Cg a).symm
noncomputable def Ul(a b:b_ j_)(c:g_):r_:= !(a.getD c 0==b.getD c 0)
def Um(a b:b_ j_)(d:b_ g_):(d.filter (Ul a b)).isEmpty=decide (pick a d=pick b d):=by
 induction d with
 |nil=>rfl
 |cons c d e=>
  rw[pJ];have f:∀x,pick x (c::d)=x.getD c 0::pick x d:=λq=>rfl;rw[f,f];unfold Ul at e⊢
  by_cases h:a.getD c 0=b.getD c 0
  .rw[h,W_,iG (by simp),e];simp
  .have:(a.getD c 0==b.getD c 0)=e_:=by simpa using h
   rw[this,iH (show(!false)=c_ from rfl),i_ (λz=>h (Y? z).1)];rfl
def Zy(n:g_):En->fc:=oj (g2 gu (ao (ak (g2 az (aa 1) (gC (.int 0)))) [2,3] (g2 e8 (g2 az (aa 1) (aa 0)) (g2 az (aa 2) (aa 0))) (a0 0)) (b9 af)) (oj (g2 e8 (ao (ak (g2 az (aa 1) (gC (.int 1)))) [2,3] (g2 e8 (g2 az (aa 1) (aa 0)) (g2 az (aa 2) (aa 0))) (a0 0)) (b9 af)) (cj (gC (.bl e_))) gw) gw
def j5(L R:b_ g_):Pu.D:=.ci [tI (bq L),tI (bq R)]
def Kk{L R cs:b_ g_}{k:j_}{a b:b_ j_}{v0:Sl}(e:az (j5 L R) (.int k)=a_ (tI (bq cs)))(g:∀c∈cs,c<_7 a)(f:∀c∈cs,c<_7 b)(h:_7 cs<=1000):
  ao (ak (g2 az (aa 1) (gC (.int k)))) [2,3] (g2 e8 (g2 az (aa 1) (aa 0)) (g2 az (aa 2) (aa 0))) (a0 0) [v0,.bo (j5 L R),.pu (tI a),.pu (tI b)]=.ok (.au ((cs.filter (Ul a b)).map λ(c:g_)=>Pu.D.int (c:j_))):=
 cm (by simp[e,EY]) (by lia) λc d=>by unfold Ul;simp[fq,(Af a c (g c d)),(Af b c (f c d))]
def Nk(L R:b_ g_)(a b:b_ j_):r_:=decide (pick a L=pick b L)&&!decide (pick a R=pick b R)
def QE(n:g_)(x:∀c∈L,c<_7 a)(w:∀c∈L,c<_7 b)(v:∀c∈R,c<_7 a)(u:∀c∈R,c<_7 b)(q:_7 L<=1000)(p:_7 R<=1000):
  Zy n [h,.bo (j5 L R),.pu (tI a),.pu (tI b)]=if Nk L R a b=c_ then .rt (.bl e_)else .nx [h,.bo (j5 L R),.pu (tI a),.pu (tI b)]:=by
 have i:=Kk (R:=R) (cs:=L) (k:=0) (a:=a) (b:=b) (v0:=h) _6 x w q;have o:=Kk (L:=L) (R:=R) (cs:=R) (k:=1) (a:=a) (b:=b) (v0:=h) _6 v u p;have j:∀e:b_ g_,SmpL (e.map λ(c:g_)=>Pu.D.int (c:j_)):=λe=>Wo λd s=>by obtain⟨c,_,rfl⟩:=k_.mp s;exact LG _
 have f:=(n9 (j (L.filter (Ul a b)))).1;have g:=(n9 (j (R.filter (Ul a b)))).2;have r:∀e:b_ g_,(e.map λ(c:g_)=>Pu.D.int (c:j_)).isEmpty=e.isEmpty:=λe=>by cases e<;>rfl
 rw[r,Um]at f g;unfold Nk
 by_cases m:pick a L=pick b L
 .rw[m_ m]at f⊢
  by_cases l:pick a R=pick b R
  .rw[m_ l]at g⊢;simp -implicitDefEqProofs [Zy,i,o,f,g]
  .rw[i_ l]at g⊢;simp -implicitDefEqProofs [Zy,i,o,f,g]
 .rw[i_ m]at f⊢;simp -implicitDefEqProofs [Zy,i,f]
structure Tab(m:g_)(L R:b_ g_)(rows:b_ (b_ j_)):Prop where
 w:∀a∈rows,_7 a=m
 l:∀c∈L,c<m
 r:∀c∈R,c<m
 ll:_7 L<=1000
 rl:_7 R<=1000
def Ig(L R:b_ g_)(d c:b_ (b_ j_)):r_:=d.any λa=>c.any λb=>Nk L R a b
section
def Y7(n:g_)(g:Sl)(j:_7 a=m)(l:∀c∈L,c<m)(r:∀c∈R,c<m)(q:_7 L<=1000)(p:_7 R<=1000):∀(bs:b_ (b_ j_)) f,(∀b∈bs,_7 b=m)->
  ((bs.any λb=>Nk L R a b)=e_/\∃o,turns (aq 3) (Zy n) (bs.map tI) [g,.bo (j5 L R),.pu (tI a),f]=.nx [g,.bo (j5 L R),.pu (tI a),o])\/((bs.any λb=>Nk L R a b)=c_/\turns (aq 3) (Zy n) (bs.map tI) [g,.bo (j5 L R),.pu (tI a),f]=.rt (.bl e_)):=by
 intro bs;induction bs with
 |nil=>intro f _;exact .inl ⟨_6,f,_6⟩
 |cons b bs s=>
  intro f h;have i:=h b iM;rw[iJ,bu (δ1:=[g,.bo _,.pu (tI a),.pu (tI b)]) _6,QE n (λc d=>by rw[j];exact l c d) (λc d=>by rw[i];exact l c d) (λc d=>by rw[j];exact r c d) (λc d=>by rw[i];exact r c d) q p,mZ];cases e:Nk L R a b with
  |true=>exact .inr ⟨_6,_6⟩
  |false=>exact s _ λc d=>h c (iI _ d)
def IL(n:g_):En->fc:=fz [0] (di (aq 3) (ak (vo 0)) (Zy n))
def cc(n:g_)(T:Tab m L R b):∀f g d,(∀a∈f,_7 a=m)->
  (Ig L R f b=e_/\∃p h,turns (aq 2) (IL n) (f.map tI) [.bo (.au (b.map tI)),.bo (j5 L R),g,d]=.nx [.bo (.au (b.map tI)),.bo (j5 L R),p,h])\/(Ig L R f b=c_/\turns (aq 2) (IL n) (f.map tI) [.bo (.au (b.map tI)),.bo (j5 L R),g,d]=.rt (.bl e_)):=by
 intro f;induction f with
 |nil=>intro g d _;exact .inl ⟨_6,g,d,_6⟩
 |cons a f j=>
  intro g d o;have i:∀d,IL n [.bo _,.bo _,.pu (tI a),d]=turns _ (Zy n) (b.map tI) [.bo (.au (b.map tI)),.bo (j5 L R),.pu (tI a),d]:=λd=>by unfold IL;simp only[Ax,i7];exact f6 (by simp)
  rw[iJ,bu (δ1:=[.bo _,.bo _,.pu (tI a),d]) _6,i];unfold Ig at j⊢;rw[mZ];rcases Y7 n _ (o a iM) T.l T.r T.ll T.rl b d T.w with⟨e,h,t⟩|⟨e,t⟩
  .rw[t,e,Bool.false_or];exact j _ h λc q=>o c (iI _ q)
  .rw[t,e];exact .inr ⟨_6,_6⟩
def Gz(n:g_){rows:b_ (b_ j_)}(T:Tab m L R rows):ae (tab (n+1)) g9 [.au (rows.map tI),j5 L R]=.ok (.bl (!Ig L R rows rows)):=by
 rw[Ky];have a:di _ (ak (vo 0)) (IL n) [.bo _,.bo _,.no,.no]=turns (aq 2) (IL n) (rows.map tI) [.bo (.au (rows.map tI)),.bo (j5 L R),.no,.no]:=f6 (by simp);unfold IL Zy at a;rcases cc n T rows .no .no T.w with⟨e,c,b,t⟩|⟨e,t⟩
 .unfold IL Zy at t;rw[t]at a;simp -implicitDefEqProofs [wg,a,e]
 .unfold IL Zy at t;rw[t]at a;simp -implicitDefEqProofs [wg,a,e]
end
set_option tactic.hygienic true in
def cw{fn:b_ Pu.D->ce}{r:En->f8}{δ:En}{ds:b_ Pu.D}{x:ce}(a:r δ=.ok ds)(b:fn ds=x):ah fn r δ=x:=by unfold ah;rwa[a]
def Ae(n:g_)(i:j_):ae (tab (n+1)) nc [.int i]=.ok (.bl c_):=by rw[Kw];simp[Bl]
def IV(m:j_):Pu.D:=.obj lj [("many",.int m)]
def QG(n:g_)(m i:j_)(b:0<=i)(a:i<m):(tab (n+3)).lam lj [("many",.int m)] [.int i]=.ok (.bl c_):=by rw[F0 (n+1)];simp -implicitDefEqProofs [zu,(Ae n i),b,a]
def Tz(n:g_)(m i:j_)(b:0<=i)(a:i<m):Iz (tab (n+3)) 1 [(aa 0,a0 0)] [.pu (.int i),.bo (IV m)]=.ok (.bl c_):=by
 show ah (λc=>fK _) (DT [e_] [(aa 0,a0 0)]) [.pu _,.bo (IV m)]=_;refine cw (ds:=[.int i]) ?_ ?_
 .simp[DT]
 .rw[(QG n m i b a)];rfl
def zm(l:b_ α):xf (.au (l.map λz=>Pu.D.bl c_))=a_ (.bl c_):=by rw[Q5 _ l];simp
def Nf(n:g_)(m:j_){cs:b_ g_}(h:∀c∈cs,(c:j_)<m)(b:(cs.length:j_)<=m)(d:m<=1000):ae (tab (n+3)) m6 [tI (bq cs),.int 0,.int m,IV m]=.ok (.bl c_):=by
 rw[Fx (n+2),EY];have a:ao (ak (aa 0)) [3] _ _ [.bo (.ci (cs.map λ(c:g_)=>Pu.D.int (c:j_))),.bo (.int 0),.bo (.int m),.bo _]=.ok (.au (cs.map λz=>Pu.D.bl c_)):=
  f9 (f:=λ(c:g_)=>Pu.D.int (c:j_)) (by simp) (by lia) λc a=>by have:=Tz n m _ (by lia) (h c a);exact this
 simp -implicitDefEqProofs [yg,a,(zm cs),b]
def Wj(n:g_)(h:a.Pairwise (· <·))(o:_7 a<=1000):ae (tab (n+1)) n6 [tI (bq a)]=.ok (.bl c_):=by
 rw[Ir];have len:(bq a).length=_7 a:=by unfold bq;simp
 have get:∀j,j<_7 a->(bq a).getD j 0=((a.getD j 0:g_):j_):=λj b=>by unfold bq;simp[b]
 have i:ao (cy (Pu.am (g2 Mp (g1 i6 (aa 0)) (gC (.int 1))) af)) [0] (gC (.bl c_)) (g2 Ak (g2 az (aa 1) (aa 0)) (g2 az (aa 1) (g2 bj (aa 0) (gC (.int 1))))) [.bo (tI (bq a))]=.ok (.au ((jD (_7 a-1)).map λz=>Pu.D.bl c_)):=by
  refine uc ?_ (by lia) λj b=>?_
  .have:((a.length:j_)-1).toNat=_7 a-1:=by lia
   rw[<-this];exact j9 _ _ (by simp[tI,len]) (by lia)
  .have g:=Af (bq a) j (by lia);have f:=Af (bq a) (j+1) (by lia);rw[get j (by lia)]at g;rw[get (j+1) (by lia)]at f;have lt:a.getD j 0<a.getD (j+1) 0:=by
    have e:j<_7 a:=by lia
    have c:j+1<_7 a:=by lia
    have:=F_.mp h j (j+1) e c (mH j);simpa[e,c]using this
   have m:(0+(j:j_))+1=((j+1:g_):j_):=by push_cast;lia
   have l:(0+(j:j_))=((j:g_):j_):=by lia
   have d:decide (((a.getD j 0:g_):j_)<((a.getD (j+1) 0:g_):j_))=c_:=m_ (by lia);show(g2 Ak _ _) [.pu _,.bo _]=_;simp only[yb,aZ,gA,kA,kB,bz,om,ZC,m];rw[l,g,f];simp only[om,bz,fU,d]
 simp -implicitDefEqProofs [zq,i,(zm (jD (_7 a-1)))]
def yu(n:g_)(g:lf m a)(e:m<=1000):ae (tab (n+4)) fy [tI (bq a),.int (m:j_)]=.ok (.bl c_):=by rw[Iu (n+3)];have b:Ro lj ["many"] [1] [.bo (tI (bq a)),.pu _]=.ok (IV (m:j_)):=rfl;simp -implicitDefEqProofs [zr,b,(Nf n (m:j_) (cs:=a) (λc d=>by have:=g.lt c d;lia) (by have:=g.len;lia) (by lia)),(Wj (n+2) g.ris (by have:=g.len;lia))]
structure jo(m:g_)(b:b_ g_×b_ g_):Prop where
 l:lf m b.1
 r:lf m b.2
def FF(n:g_)(g:jo m b)(a:m<=1000):ae (tab (n+5)) sr [j5 b.1 b.2,.int (m:j_)]=.ok (.bl c_):=by
 rw[Up (n+4)];have c:ae (tab (n+4)) xm [j5 b.1 b.2]=.ok (.bl c_):=by rw[Uq (n+3)];unfold j5;simp -implicitDefEqProofs [Gb]
 unfold j5 at c⊢;simp -implicitDefEqProofs [Ga,(yu n g.l a),(yu n g.r a),c]
def OF(bs:b_ (b_ g_×b_ g_)):Pu.D:=.au (bs.map λb=>j5 b.1 b.2)
def A1(n:g_)(g:∀b∈bs,jo m b)(j:1<=m)(i:m<=6)(c:_7 bs<=10):ae (tab (n+6)) i8 [OF bs,.int (m:j_)]=.ok (OF bs):=by
 rw[Cq (n+5)];have a:ao (ak (aa 0)) [1] _ _ [.pu (OF bs),.pu _]=.ok (.au (bs.map λz=>Pu.D.bl c_)):=
  f9 (f:=λb=>j5 b.1 b.2) (by simp[OF]) (by lia) λb c=>by show ah (ae (tab (n+5)) sr) (Pu.am (aa 0) (Pu.am (a0 1) af)) [.pu _,.pu (.int (m:j_))]=_;exact cw (by simp) (FF n (g b c) (by lia))
 have h:(1:j_)<=m:=by lia
 have e:(m:j_)<=6:=by lia
 have d:¬(10:j_)<(bs.length:j_):=by lia
 unfold OF at a⊢;simp -implicitDefEqProofs [vd,(Ae (n+4) (m:j_)),a,(zm bs),h,e,d]
def Hm(S:b_ g_):tI (bq S)=tN S:=(Cg S).symm
abbrev Bd:=b_ g_×b_ g_
def Fq(b:Bd):Pu.D:=.ci [tN b.1,tN b.2]
def Dr(b:Bd):j5 b.1 b.2=Fq b:=by unfold j5 Fq;rw[(Hm),(Hm)]
def fh(bs:b_ Bd):Pu.D:=.au (bs.map Fq)
def OE(bs:b_ Bd):OF bs=fh bs:=by
 unfold OF fh
 congr 1
 exact jY λb z=>Dr b
def uw(m:g_):b_ j_:=(jD m).map λ(i:g_)=>0+(i:j_)
def Mq(m:g_):j0 0 m=(uw m).map Pu.D.int:=by unfold j0 uw;rw[jV];rfl
def Hg(h:i∈uw m):0<=i/\i<m:=by
 obtain⟨j,a,rfl⟩:=k_.mp h;have:=v_.mp a
 lia
def XM(n:g_):En->fc:=qi 3 (Pu.h8 (Pu.am (ah (ae (tab n) d5) (Pu.am (aa 0) (Pu.am (g2 bj (g2 bj (aa 1) (gC (.int 1))) (g2 j7 (gC (.int 12)) (aa 4))) (Pu.am (aa 2) (Pu.am (gC (.int 3)) af))))) (Pu.am (ah (ae (tab n) d5) (Pu.am (aa 0) (Pu.am (g2 bj (g2 bj (aa 1) (gC (.int 7))) (g2 j7 (gC (.int 12)) (aa 4))) (Pu.am (aa 2) (Pu.am (gC (.int 3)) af))))) af)))
def IQ(n:g_)(c:b_ j_)(k:j_)(C:0<=k)(m:g_)(B:m<=6):∀(l:b_ j_) e (bs:b_ Bd),(∀i∈l,0<=i/\i<1000)->(∀b∈bs,jo m b)->_7 bs+_7 l<=1000->
  ∃a:b_ Bd,_7 a=_7 bs+_7 l/\(∀b∈a,jo m b)/\∃f,turns (aq 4) (XM (n+3)) (l.map Pu.D.int) [.bo (jj c),.bo (.int k),.bo (.int (m:j_)),.ow (bs.map Fq),e]=.nx [.bo (jj c),.bo (.int k),.bo (.int (m:j_)),.ow (a.map Fq),f]:=by
 intro l;induction l with
 |nil=>intro e bs _ h _;exact⟨bs,by simp,h,e,_6⟩
 |cons i l w=>
  intro e bs o h x;rw[iC]at x;obtain⟨A,z⟩:=o i iM;have q:=yt n c (k+1+12*i) m 3 (by lia) (by lia) (by decide);have p:=yt n c (k+7+12*i) m 3 (by lia) (by lia) (by decide);have g1:=yr c (k+1+12*i) m 3;have g2:=yr c (k+7+12*i) m 3;generalize Du c _ m 3=s at q g1;generalize Du c _ m 3=r at p g2;have em:=Cm 12 i (.inl (by decide));have st:XM (n+3) [.bo (jj c),.bo (.int k),.bo (.int m),.ow (bs.map Fq),.pu (.int i)]=.nx [.bo (jj c),.bo (.int k),.bo (.int m),.ow ((bs++[(s,r)]).map Fq),.pu (.int i)]:=by
   have g:_7 bs<16777216:=by lia
   unfold XM;rw[NC];rw[EB,nt,(cw (ds:=_) (by simp[em]) q),nt,(cw (ds:=_) (by simp[em]) p)];simp[g,Fq]
  rw[iJ,bu (δ1:=[.bo _,.bo _,.bo _,.ow _,.pu _]) _6,st];obtain⟨a,v,u,f,t⟩:=w _ (bs++[(s,r)]) (λj y=>o j (iI _ y)) (λb d=>by
   rcases s_.mp d with d|d
   .exact h b d
   .rw[q_.mp d];exact⟨g1,g2⟩) (by simp;lia)
  exact⟨a,by rw[v,iO];simp;lia,u,f,t⟩
def Jd(n:g_)(a:b_ j_)(k:j_)(d:0<=k)(m:g_)(j:m<=6):∃bs,(∀b∈bs,jo m b)/\_7 bs<=5/\ae (tab (n+4)) nh [jj a,.int k,.int (m:j_)]=.ok (fh bs):=by
 obtain⟨q,p⟩:=ui a k 6 (by decide);obtain⟨bs,h,g,e,t⟩:=IQ n a k d m j (uw (x8 a k 6).toNat) .no [] (λi l=>by have:=Hg l;lia) (λb o=>by simp at o) (by unfold uw;simp;lia);have f:(uw (x8 a k 6).toNat).length=(x8 a k 6).toNat:=by unfold uw;simp
 refine⟨bs,g,by rw[h,f];simp;lia,?_⟩;rw[Kx (n+3)];have c:di (aq 4) (cy (Pu.am (ah (ae (tab (n+3)) cb) (Pu.am (aa 0) (Pu.am (aa 1) (Pu.am (gC (.int 6)) af)))) af)) (XM (n+3)) [.bo (jj a),.bo (.int k),.bo (.int m),.ow [],.no]=.nx [.bo (jj a),.bo (.int k),.bo (.int m),.ow (bs.map Fq),e]:=by
  rw[f6]
  .exact t
  .rw[<-Mq];refine j9 _ _ ?_ (by lia);rw[nt,cw (by simp) (sy (n+1) a k 6 d (by decide))];rfl
 unfold XM at c;unfold Bn;simp only[iC,lB,Hq,Cj,iT,mI,oX];rw[b0,J4];simp only[NA,EE,lB,jW,_g,cx,mL,nN];rw[b0,c];simp[fh]
def Jv(r:b_ j_):pa 1 (tI r):=Mz λd a=>by obtain⟨i,_,rfl⟩:=k_.mp a;exact Fg i
def Tj(r:b_ j_):e9 (tI r)=a_ (.tuple (r.map lK)):=by unfold tI e9;rw[kn]
def Qq(R:b_ (b_ j_)):fu (R.map tI)=a_ (R.map λr=>.tuple (r.map lK)):=by
 induction R with
 |nil=>rfl
 |cons r R a=>rw[iJ,fu,Tj,a];rfl
def Zw(R:b_ (b_ j_)):jN (R.map λr=>.tuple (r.map lK))=c_:=by
 induction R with
 |nil=>rfl
 |cons r R a=>rw[iJ,jN,a,show mY (.tuple _)=c_ from fx r];rfl
def Xk(a:b_ j_)(R:b_ (b_ j_)):((R.map λr=>PyData.tuple (r.map lK)).any λy=>lC y (.tuple (a.map lK)))=decide (a∈R):=by
 induction R with
 |nil=>rfl
 |cons r R b=>
  rw[iJ,mZ,b];have e:lC (.tuple _) (.tuple _)=decide _:=C2 r a;rw[e]
  by_cases h:r=a
  .subst h;simp
  .have c:¬a=r:=λz=>h z.symm;simp[h,c]
def Y3(a:b_ j_)(R:b_ (b_ j_)):yk (tI a) (.au (R.map tI))=a_ (decide (a∈R)):=by
 show(match fu _,e9 _ with
   |some b,a_ q=>if jN b&&jZ q then a_ _ else d_
   |_,_=>d_)=_
 rw[Qq,Tj];dsimp only;rw[Zw,qm (p:=.tuple _) (fx a) (by have:=ud a;show lF _+1<=63;lia),Xk];rfl
def Ja(b:b_ j_)(a:b_ (b_ j_)):Jq (tI b) (.au (a.map tI))=a_ (.bl (decide (b∈a)))/\og (tI b) (.au (a.map tI))=a_ (.bl (!decide (b∈a))):=by unfold Jq og;rw[Y3];exact⟨_6,_6⟩
def DI(b:Bd):pa 2 (Fq b):=Mz λd hd=>by
 rcases l_.mp hd with rfl|hd
 .rw[<-Hm];exact Jv _
 .rw[q_.mp hd,<-Hm];exact Jv _
def LH(bs:b_ Bd):SmpL (bs.map Fq):=Wo λd a=>by obtain⟨b,_,rfl⟩:=k_.mp a;obtain⟨p,e,c,f⟩:=DI b;exact⟨p,e,c,by lia⟩
def PN(bs:b_ Bd):gu (.au (bs.map Fq)) (.au [])=a_ (.bl bs.isEmpty):=by have:=(n9 (LH bs)).1;rw[this];cases bs<;>rfl
structure Rows(m:g_)(bs:b_ Bd)(rows:b_ (b_ j_)):Prop where
 w:∀a∈rows,_7 a=m
 k:∀b∈bs,Ig b.1 b.2 rows rows=e_
 nd:rows.Nodup
def Rows.tab{m:g_}{bs:b_ Bd}{c:b_ (b_ j_)}(w:∀a∈c,_7 a=m){b:Bd}(g:jo m b)(d:m<=6):Tab m b.1 b.2 c:=⟨w,g.l.lt,g.r.lt,by have:=g.l.len;lia,by have:=g.r.len;lia⟩
def bQ(n:g_):En->ce:=g1 gm (ao (cy (Pu.am (aa 2) af)) [1,5,0] (gC (.bl c_)) (ah (ae (tab n) cb) (Pu.am (aa 3) (Pu.am (g2 bj (g2 bj (g2 bj (aa 1) (gC (.int 1))) (g2 j7 (gC (.int 6)) (aa 2))) (aa 0)) (Pu.am (gC (.int 3)) af)))))
def fZ(n:g_):En->ce:=ao (ak (aa 3)) [4,6] (jg (jq (ah (ae (tab n) g9) (Pu.am (g2 bj (aa 1) (b9 (Pu.am (a0 2) af))) (Pu.am (aa 0) af))))) (a0 0)
def VC(n:g_):En->fc:=(a9 (dq 6 (bQ n))
 (a9 (fz [6] (de 7 (fZ n)))
 (oj (vy (g2 fj (aa 6) (aa 4)) (g2 gu (aa 7) (b9 af))) (fz [6] (qi 4 (a0 6))) gw)))
section
def VP(n:g_)(p:0<=k)(o:m<=6){i:j_}(r:0<=i){c v4 v6 v7:Sl}:∃a:b_ j_,_7 a=m/\bQ (n+2) [.bo (jj b),.bo (.int k),.bo (.int (m:j_)),c,v4,.pu (.int i),v6,v7]=.ok (tI a):=by
 refine⟨(jD m).map λ(j:g_)=>x8 b (k+1+6*i+(0+(j:j_))) 3,by simp,?_⟩;have d:=j9 [.bo (jj b),.bo (.int k),.bo (.int (m:j_)),c,v4,.pu (.int i),v6,v7] (Pu.am (aa 2) af) (j':=m) (by simp) (by lia);unfold bQ;have h:=uc (g:=ah _ (Pu.am (aa 3) (Pu.am (g2 bj (g2 bj (g2 bj (aa 1) (gC (.int 1))) (g2 j7 (gC (.int 6)) (aa 2))) (aa 0)) (Pu.am (gC (.int 3)) af)))) (f:=λj=>Pu.D.int (x8 b (k+1+6*i+(0+_)) 3)) d (by lia) λj q=>by have e:=sy n b (k+1+6*i+(0+(j:j_))) 3 (by lia) (by decide);have l:fq [1,5,0] [.bo _,.bo _,.bo (.int m),c,v4,.pu _,v6,v7] _=[.pu (.int (0+(j:j_))),.bo (.int k),.pu (.int i),.bo (jj b)]:=rfl;rw[l];generalize (0+(j:j_))=z at e⊢;exact cw (by simp[(Cm 6 i (.inl (by decide)))]) e
 rw[Fo,h];unfold tI;rw[jV];rfl
def VQ(n:g_)(g:∀b∈bs,jo m b)(q:_7 bs<=10)(j:m<=6)(i:∀a∈c,_7 a=m)(p:_7 c<=1000){d:b_ j_}(o:_7 d=m){v0 v1 v2 v5 v7:Sl}:
  fZ (n+1) [v0,v1,v2,.bo (fh bs),.ow (c.map tI),v5,.pu (tI d),v7]=.ok (.au ((bs.filter λb=>Ig b.1 b.2 (c++[d]) (c++[d])).map Fq)):=by
 refine cm (by simp[fh]) (by lia) λb h=>?_;have l:fq [4,6] [v0,v1,v2,.bo (fh bs),.ow _,v5,.pu _,v7] _=[.pu (Fq b),.ow (c.map tI),.pu (tI d)]:=rfl;have e:=Gz n (Rows.tab (bs:=bs) (λa f=>by
  rcases s_.mp f with f|f
  .exact i a f
  .rwa[q_.mp f]) (g b h) j)
 rw[Dr]at e;have ad:bj (.au (c.map tI)) (.au [tI d])=a_ (.au ((c++[d]).map tI)):=by show(if(c.map tI).length+[tI d].length<=iN then a_ _ else d_)=_;rw[iH (by rw[iD,kP];simp;lia),kQ];rfl
 rw[l,ED,EC,(cw (ds:=[.au ((c++[d]).map tI),Fq b]) (by simp[ad]) e)];simp
def VR(n:g_)(C:0<=k)(s:m<=6){i:j_}(E:0<=i)(g:∀b∈bs,jo m b)(o:_7 bs<=10)(R:Rows m bs c)(B:_7 c<=1000){v6 v7:Sl}:
  ∃e,Rows m bs e/\_7 e<=_7 c+1/\∃y x,VC (n+2) [.bo (jj j),.bo (.int k),.bo (.int (m:j_)),.bo (fh bs),.ow (c.map tI),.pu (.int i),v6,v7]=.nx [.bo (jj j),.bo (.int k),.bo (.int (m:j_)),.bo (fh bs),.ow (e.map tI),.pu (.int i),y,x]:=by
 obtain⟨d,r,H⟩:=VP n C s E (v4:=.ow _) (v6:=v6) (v7:=v7);have p:=(Ja d c).2;generalize A:(!decide (d∈c))=t at p;have l:=PN (bs.filter λb=>Ig b.1 b.2 (c++[d]) (c++[d]));have st:VC (n+2) [.bo (jj j),.bo (.int k),.bo (.int m),.bo (fh bs),.ow (c.map tI),.pu (.int i),v6,v7]=if t&&(bs.filter λb=>Ig b.1 b.2 (c++[d]) (c++[d])).isEmpty then .nx [.bo (jj j),.bo (.int k),.bo (.int m),.bo (fh bs),.ow ((c++[d]).map tI),.pu (.int i),.pu (tI d),.ow ((bs.filter λb=>Ig b.1 b.2 (c++[d]) (c++[d])).map Fq)]else .nx [.bo (jj j),.bo (.int k),.bo (.int m),.bo (fh bs),.ow (c.map tI),.pu (.int i),.pu (tI d),.ow ((bs.filter λb=>Ig b.1 b.2 (c++[d]) (c++[d])).map Fq)]:=by
  unfold VC;rw[b0,vw,H];simp only[cx,mL,nN];rw[b0];simp only[Ax,i7,Ck,kA,kB];rw[J4,(VQ (n+1) g o s R.w B r (v0:=.bo (jj j)) (v1:=.bo (.int k)) (v2:=.bo (.int (m:j_))) (v5:=.pu (.int i)) (v7:=v7))];simp only[cx,mL,nN];generalize (bs.filter λb=>Ig b.1 b.2 _ _)=G at l⊢;cases t with
  |false=>simp[p]
  |true=>
   cases u:G.isEmpty with
   |true=>rw[u]at l;simp[p,l,show _7 c<16777216 by lia]
   |false=>rw[u]at l;simp[p,l]
 rw[st]
 by_cases h:(t&&(bs.filter λb=>Ig b.1 b.2 (c++[d]) (c++[d])).isEmpty)=c_
 .rw[iH h];rw[iQ,sA,V_]at h;refine⟨c++[d],⟨λa f=>?_,λb q=>?_,?_⟩,by simp,_,_,_6⟩
  .rcases s_.mp f with f|f
   .exact R.w a f
   .rw[q_.mp f];exact r
  .have:=h.2 b q;simpa using this
  .have v:=h.1;rw[<-A,qC,X_]at v;exact O_.mpr ⟨R.nd,by simp,λa f b o z=>v (by rw[pN]at o;rwa[<-o,<-z])⟩
 .rw[iG h];exact⟨c,R,by lia,_,_,_6⟩
def MZ(n:g_)(E:0<=k)(B:m<=6)(g:∀b∈bs,jo m b)(H:_7 bs<=10):∀(l:b_ j_) a f e d,(∀i∈l,0<=i)->Rows m bs a->_7 a+_7 l<=900->
  ∃c,Rows m bs c/\_7 c<=_7 a+_7 l/\∃q o h,turns (aq 5) (VC (n+2)) (l.map Pu.D.int) [.bo (jj z),.bo (.int k),.bo (.int (m:j_)),.bo (fh bs),.ow (a.map tI),f,e,d]=.nx [.bo (jj z),.bo (.int k),.bo (.int (m:j_)),.bo (fh bs),.ow (c.map tI),q,o,h]:=by
 intro l;induction l with
 |nil=>intro a f e d _ R _;exact⟨a,R,by simp,f,e,d,_6⟩
 |cons i l A=>intro a f e d p R C;rw[iC]at C;obtain⟨y,I,L,o,h,w⟩:=VR n E B (p i iM) g H R (by lia) (v6:=e) (v7:=d);obtain⟨x,R2,J,u,s,r,v⟩:=A y _ o h (λj G=>p j (iI _ G)) I (by lia);refine⟨x,R2,by rw[iC];lia,u,s,r,?_⟩;rw[iJ,bu (δ1:=[.bo _,.bo _,.bo _,.bo _,.ow _,.pu _,e,d]) _6,w];exact v
def EX(n:g_)(e:0<=k)(o:m<=6)(g:∀b∈bs,jo m b)(r:_7 bs<=10):∃a,Rows m bs a/\_7 a<=7/\ae (tab (n+3)) kr [jj c,.int k,.int (m:j_),fh bs]=.ok (.au (a.map tI)):=by
 obtain⟨u,s⟩:=ui c k 8 (by decide);have l:(uw (x8 c k 8).toNat).length=(x8 c k 8).toNat:=by unfold uw;simp
 obtain⟨a,R,p,j,h,f,t⟩:=MZ (k:=k) n e o g r _ [] .no .no .no (λi q=>(Hg q).1) ⟨(by simp),λb z=>rfl,nE⟩ (by rw[l];simp;lia);refine⟨a,R,by simp at p;lia,?_⟩;rw[K1 (n+2)];have d:di (aq 5) (cy (Pu.am (ah (ae (tab (n+2)) cb) (Pu.am (aa 0) (Pu.am (aa 1) (Pu.am (gC (.int 8)) af)))) af)) (VC (n+2)) [.bo (jj c),.bo (.int k),.bo (.int m),.bo (fh bs),.ow [],.no,.no,.no]=.nx [.bo (jj c),.bo (.int k),.bo (.int m),.bo (fh bs),.ow (a.map tI),j,h,f]:=by
  rw[f6]
  .exact t
  .rw[<-Mq];refine j9 _ _ ?_ (by lia);rw[nt,cw (by simp) (sy n c k 8 e (by decide))];rfl
 unfold VC bQ fZ at d;unfold Bp;simp only[iC,lB,Hq,Cj,iT,mI,oX];rw[b0,J4];simp only[NA,EE,lB,jW,_g,cx,mL,nN];rw[b0,d];simp
end
def nK(r:b_ g_):L2.fm:=r.map λ(c:g_)=>.inl (.inl (c:j_))
def Vv:∀r,y9 (bf r)=a_ (nK r):=by
 intro a;induction a with
 |nil=>exact _6
 |cons c r b=>
  show(match Ji _,y9 (bf r)with
   |some k,a_ d=>a_ _
   |_,_=>d_)=_
  rw[b];rfl
theorem AX:∀{a b},nK a=nK b->a=b
 |[],[],_=>rfl
 |[],_::_,h=>by cases h
 |_::_,[],h=>by cases h
 |x::a,y::b,h=>by
  injection h with c d
  injection c with c
  injection c with c
  rw[AX d,wU c]
theorem Gr:∀{kvs}{j},yx kvs j=(dj kvs j).isSome
 |[],_=>rfl
 |(k,d)::r,j=>by
  have a:=Gr (kvs:=r) (j:=j);unfold yx at a⊢;rw[mZ,a];show _=(if bx k=a_ j then a_ d else dj r j).isSome
  by_cases h:bx k=a_ j
  .rw[m_ h,iH h];rfl
  .rw[i_ h,iG h];rfl
def CT(h:dj a j=d_):Cy a j v=a++[(kT j,v)]:=by unfold Cy;rw[Gr,h];rfl
def y6:∀{c}{j a}{v},dj c j=d_->dj (c++[(kT j,v)]) a=if a=j then a_ v else dj c a:=by
 intro b;induction b with
 |nil=>
  rintro j a v _
  show(if bx (kT j)=a_ a then a_ v else d_)=_;rw[oh j]
  by_cases h:a=j
  .rw[iH h,iH (by rw[h])]
  .rw[iG h,iG (λz=>h (jM z).symm)];rfl
 |cons b r g=>
  obtain⟨k,d⟩:=b
  rintro j a v h
  have f:(if bx k=a_ j then a_ d else dj r j)=d_:=h
  by_cases i:bx k=a_ j
  .rw[iH i]at f;cases f
  .rw[iG i]at f;show(if bx k=a_ a then a_ d else dj (r++[_]) a)=if a=j then a_ v else(if bx k=a_ a then a_ d else dj r a)
   rw[g f]
   by_cases e:bx k=a_ a
   .rw[iH e,iH e,iG (λz=>i (by rw[<-z];exact e))]
   .rw[iG e,iG e]
def ip(a:b_ g_)(b:b_ g_):b_ g_:=b.map λc=>a.getD c 0
def Sb{c:g_}(h:c<_7 a):az (tN a) (.int (c:j_))=a_ (.int ((a.getD c 0:g_):j_)):=by refine L2.Ia ?_;unfold bf;rw[jF,iR h,iK,iR h];rfl
def Pr(n:g_)(h:∀c∈b,c<_7 a)(g:_7 b<=1000):ae (tab (n+1)) d7 [tN a,tN b]=.ok (tN (ip a b)):=by
 rw[Ye];have d:ao (ak (aa 1)) [0] _ (g2 az (aa 1) (aa 0)) [.bo (tN a),.bo (tN b)]=.ok (.au (b.map λc=>Pu.D.int ((a.getD c 0:g_):j_))):=
  f9 (f:=λ(c:g_)=>Pu.D.int (c:j_)) (by simp[bf]) (by lia) λc d=>by simp[fq,(Sb (h c d))]
 have e:tN (ip a b)=.ci (b.map λc=>Pu.D.int ((a.getD c 0:g_):j_)):=by unfold tN bf ip;rw[jV];rfl
 rw[e];simp -implicitDefEqProofs [sj,d]
def Ql(h:tN a=tN b):a=b:=by
 have h:=D.ci.inj h;unfold bf at h;induction a generalizing b with
 |nil=>cases b with
  |nil=>rfl
  |cons=>cases h
 |cons x a d=>cases b with
  |nil=>cases h
  |cons y b=>
   injection h with e c
   rw[wU (D.int.inj e),d (u_ D.ci c) c]
def W6:En->fc:=oj (g2 e8 (g2 az (aa 6) (aa 7)) (g2 az (aa 5) (aa 7))) (fz [7] (cj (Pu.h8 (Pu.am (a0 7) (Pu.am (g2 E4 (g2 az (aa 6) (aa 7)) (g2 az (aa 5) (aa 7))) (Pu.am (g2 E3 (g2 az (aa 6) (aa 7)) (g2 az (aa 5) (aa 7))) af)))))) gw
def PX(c x y:g_):Pu.D:=.ci [.int (c:j_),.int (x:j_),.int (y:j_)]
def OB{c:g_}(p:c<_7 a)(o:c<_7 k)(g f e d b:Sl):W6 [g,f,e,d,b,.pu (tN a),.pu (tN k),.pu (.int (c:j_))]=if a.getD c 0=k.getD c 0 then .nx [g,f,e,d,b,.pu (tN a),.pu (tN k),.pu (.int (c:j_))]else .rt (PX c (min (k.getD c 0) (a.getD c 0)) (max (k.getD c 0) (a.getD c 0))):=by
 have j:g2 az (aa 6) (aa 7) [g,f,e,d,b,.pu (tN a),.pu (tN k),.pu (.int c)]=.ok (.int ((k.getD c 0:g_))):=by show ce.of _=_;rw[Sb o];rfl
 have i:g2 az (aa 5) (aa 7) [g,f,e,d,b,.pu (tN a),.pu (tN k),.pu (.int c)]=.ok (.int ((a.getD c 0:g_))):=by show ce.of _=_;rw[Sb p];rfl
 unfold W6;generalize a.getD c 0=x at i⊢;generalize k.getD c 0=y at j⊢;have l:e8 (.int (y:j_)) (.int (x:j_))=a_ (.bl (!decide (x=y))):=by
  have:e8 (.int (y:j_)) (.int (x:j_))=a_ (.bl (!(y==(x:j_)))):=by simp
  rw[this]
  congr 3
  by_cases h:x=y
  .rw[h];simp
  .rw[i_ h];exact G_.mpr λz=>h (by lia)
 rw[Fp,yb,j,i];dsimp only[bz];rw[l,om,cx]
 by_cases h:x=y
 .rw[m_ h,iH h];rfl
 .rw[i_ h,iG h];have n:g2 E4 (g2 az (aa 6) (aa 7)) (g2 az (aa 5) (aa 7)) [g,f,e,d,b,.pu (tN a),.pu (tN k),.pu (.int c)]=.ok (.int ((min y x:g_))):=by
   rw[yb,j,i];show ce.ok _=_
   congr 2
   split<;>lia
  have m:g2 E3 (g2 az (aa 6) (aa 7)) (g2 az (aa 5) (aa 7)) [g,f,e,d,b,.pu (tN a),.pu (tN k),.pu (.int c)]=.ok (.int ((max y x:g_))):=by
   rw[yb,j,i];show ce.ok _=_
   congr 2
   split<;>lia
  simp only[Ax,i7,Ck,kA,kB];rw[t6,EB,nt,nt,nt,n,m];rfl
def FB{a k:b_ g_}(m l j i g:Sl):∀e f,(∀c∈e,c<_7 a/\c<_7 k)->
  ((∀c∈e,a.getD c 0=k.getD c 0)/\∃p,turns (aq 7) W6 (bf e) [m,l,j,i,g,.pu (tN a),.pu (tN k),f]=.nx [m,l,j,i,g,.pu (tN a),.pu (tN k),p])\/
  ∃c∈e,a.getD c 0≠k.getD c 0/\turns (aq 7) W6 (bf e) [m,l,j,i,g,.pu (tN a),.pu (tN k),f]=.rt (PX c (min (k.getD c 0) (a.getD c 0)) (max (k.getD c 0) (a.getD c 0))):=by
 intro o;induction o with
 |nil=>rintro f _;exact .inl ⟨(λc u=>by cases u),f,_6⟩
 |cons c e s=>
  rintro f h
  obtain⟨w,v⟩:=h c iM;have x:turns _ W6 (bf (c::e)) [m,l,j,i,g,.pu (tN a),.pu (tN k),f]=match W6 [m,l,j,i,g,.pu (tN a),.pu (tN k),.pu _]with
   |.nx b=>turns _ W6 _ b
   |.ct b=>turns (aq 7) W6 _ b
   |.bk b=>.nx b
   |.rt d=>.rt d
   |.er c=>.er c
   |.st=>.st:=bu _6
  rw[x,(OB w v m l j i g)]
  by_cases n:a.getD c 0=k.getD c 0
  .rw[iH n];rcases s _ (λd hd=>h d (iI _ hd))with⟨r,p,q⟩|⟨d,hd,r,q⟩
   .refine .inl ⟨λd hd=>?_,p,q⟩;rcases l_.mp hd with rfl|hd
    .exact n
    .exact r d hd
   .exact .inr ⟨d,iI _ hd,r,q⟩
  .rw[iG n];exact .inr ⟨c,iM,n,_6⟩
def B2(L R:b_ g_)(T:b_ (b_ g_)):Prop:=∀a∈T,∀b∈T,ip a L=ip b L->∀c∈R,a.getD c 0=b.getD c 0
structure CInv(L R:b_ g_)(kvs:b_ (Pu.D×Pu.D))(pre:b_ (b_ g_)):Prop where
 a:∀x∈pre,∃y∈pre,dj kvs (nK (ip x L))=a_ (tN y)/\∀c∈R,x.getD c 0=y.getD c 0
 b:∀j d,dj kvs j=a_ d->∃y∈pre,d=tN y/\j=nK (ip y L)
def PZ(n:g_):En->fc:=(a9 (fz [5] (ym 6 (gi 4 (ah (ae (tab n) d7) (Pu.am (aa 5) (Pu.am (aa 2) af))) (a0 5))))
 (fz [3] (di (aq 7) (ak (vo 3)) W6)))
section
def PY(n:g_){a:b_ g_}(v:∀c∈L,c<_7 a)(s:_7 L<=1000){kvs:b_ (Pu.D×Pu.D)}(u:_7 kvs<16777216)(i g l f:Sl):
  ∃y b,((dj kvs (nK (ip a L))=a_ (tN y)/\b=kvs)\/(dj kvs (nK (ip a L))=d_/\y=a/\b=kvs++[(kT (nK (ip a L)),tN a)])\/∃d,dj kvs (nK (ip a L))=a_ d/\∀y,d≠tN y)/\
  ((∃z,dj kvs (nK (ip a L))=a_ (tN z))\/dj kvs (nK (ip a L))=d_->PZ (n+1) [i,g,.pu (tN L),.pu (tN R),.od c_ kvs,.pu (tN a),l,f]=turns (aq 7) W6 (bf R) [i,g,.pu (tN L),.pu (tN R),.od c_ b,.pu (tN a),.pu (tN y),f]):=by
 have j:_7 kvs<iN:=u;have p:bx (tN (ip a L))=a_ _:=Vv _;have r:ah _ (Pu.am (aa 5) (Pu.am (aa 2) af)) [i,g,.pu (tN L),.pu (tN R),.od c_ kvs,.pu (tN a),l,f]=.ok _:=cw _6 (Pr n v s);have o:∀b y,fz [3] (di _ (ak (vo 3)) W6) [i,g,.pu (tN L),.pu (tN R),.od c_ b,.pu (tN a),.pu (tN y),f]=turns (aq 7) W6 _ [i,g,.pu (tN L),.pu (tN R),.od c_ b,.pu (tN a),.pu (tN y),f]:=λb y=>by exact f6 _6
 cases e:dj kvs _ with
 |none=>
  refine⟨a,kvs++[_],.inr (.inl ⟨_6,_6,_6⟩),λY=>?_⟩;have m:ym 6 (gi 4 (ah (ae (tab (n+1)) d7) (Pu.am (aa 5) (Pu.am (aa 2) af))) (a0 5)) [i,g,.pu (tN L),.pu (tN R),.od c_ kvs,.pu (tN a),l,f]=.nx [i,g,.pu (tN L),.pu (tN R),.od c_ (kvs++[(kT (nK (ip a L)),tN a)]),.pu (tN a),.pu (tN a),f]:=by unfold ym gi;simp only[kB,kA,r,OZ,p,j,_g,e,CT e,mL,nN]
  unfold PZ;rw[b0];simp only[Ax,i7,Ck,kA,kB];rw[m];exact o _ _
 |some d=>
  by_cases h:∃y,d=tN y
  .obtain⟨y,rfl⟩:=h;refine⟨y,kvs,.inl ⟨_6,_6⟩,λY=>?_⟩;have m:ym 6 (gi 4 (ah (ae (tab (n+1)) d7) (Pu.am (aa 5) (Pu.am (aa 2) af))) (a0 5)) [i,g,.pu (tN L),.pu (tN R),.od c_ kvs,.pu (tN a),l,f]=.nx [i,g,.pu (tN L),.pu (tN R),.od c_ kvs,.pu (tN a),.pu (tN y),f]:=by unfold ym gi;simp only[kB,kA,r,OZ,p,j,_g,e,mL,nN]
   unfold PZ;rw[b0];simp only[Ax,i7,Ck,kA,kB];rw[m];exact o _ _
  .refine⟨a,kvs,.inr (.inr ⟨d,_6,λy z=>h ⟨y,z⟩⟩),λz=>?_⟩;obtain ⟨z,q⟩|q:=z
   .cases q;exact t_ ⟨z,_6⟩ h
   .cases q
def fQ(B:b_ Bd)(T:b_ (b_ g_))(c x y:g_):Prop:=∃b∈B,c∈b.2/\∃a∈T,∃k∈T,ip a b.1=ip k b.1/\a.getD c 0=x/\k.getD c 0=y
def Hit(B:b_ Bd)(m:g_)(T:b_ (b_ g_))(d:Pu.D):Prop:=∃c x y,d=PX c x y/\c<m/\x<y/\(∃a∈T,a.getD c 0=y)/\fQ B T c x y
def Hit.be(h:Hit B m T d)(s:∀b∈B,b∈l):Hit l m T d:=by obtain⟨c,x,y,e,j,i,g,b,a,f⟩:=h;exact⟨c,x,y,e,j,i,g,b,s b a,f⟩
def QX(f:c<m)(d:a∈T)(b:k∈T)(h:a.getD c 0≠k.getD c 0)(g:c∈R)(e:ip a L=ip k L):Hit [(L,R)] m T (PX c (min (k.getD c 0) (a.getD c 0)) (max (k.getD c 0) (a.getD c 0))):=by
 refine⟨c,_,_,_6,f,by lia,?_,(L,R),.head _,g,?_⟩
 .rcases sS h with z|z
  .exact⟨k,b,by lia⟩
  .exact⟨a,d,by lia⟩
 .rcases sS h with z|z
  .exact⟨a,d,k,b,e,by lia,by lia⟩
  .exact⟨k,b,a,d,e.symm,by lia,by lia⟩
def FA(n:g_)(M J:Sl)(hT:∀a∈T,_7 a=m)(l:∀c∈L,c<m)(r:∀c∈R,c<m)(ll:_7 L<=1000):∀A i f N C u,i++A=T->CInv L R f i->_7 f+_7 A<=1000->
  (∃h w5 w6 w7,turns (aq 5) (PZ (n+1)) (A.map tN) [M,J,.pu (tN L),.pu (tN R),.od c_ f,N,C,u]=.nx [M,J,.pu (tN L),.pu (tN R),.od c_ h,w5,w6,w7]/\CInv L R h T)\/
  ∃d,turns (aq 5) (PZ (n+1)) (A.map tN) [M,J,.pu (tN L),.pu (tN R),.od c_ f,N,C,u]=.rt d/\Hit [(L,R)] m T d:=by
 intro A;induction A with
 |nil=>intro i f N C u e I _;rw[jX]at e;subst e;exact .inl ⟨f,N,C,u,_6,I⟩
 |cons a A ih=>
  intro i f N C u e I hl;rw[iC]at hl;have Q:a∈T:=by rw[<-e];simp
  have ha:=hT a Q;have e':(i++[a])++A=T:=by rw[<-e];simp
  obtain⟨y,h,H,hb⟩:=PY n (R:=R) (a:=a) (λc H=>by rw[ha];exact l c H) ll (kvs:=f) (by lia) M J C u;rw[iJ,bu (δ1:=[M,J,.pu (tN L),.pu (tN R),.od c_ f,.pu (tN a),C,u]) _6];have Y:_->y∈i++[a]->CInv L R h (i++[a])/\_7 h<=_7 f+1:=λhR hy=>by
   obtain ⟨g,o⟩|⟨g,o,q3⟩|⟨d,g,o⟩:=H
   .subst o;obtain⟨z,hz,B,z2⟩:=I.b _ _ g;have:=Ql B;refine⟨⟨λx p=>?_,λj d G=>?_⟩,oO _⟩
    .rcases s_.mp p with p|p
     .obtain⟨w,E,s,U⟩:=I.a x p;exact⟨w,kE _ E,s,U⟩
     .rw[q_.mp p];exact⟨y,hy,g,hR⟩
    .obtain⟨w,E,s⟩:=I.b j d G;exact⟨w,kE _ E,s⟩
   .subst o q3;refine⟨⟨λx p=>?_,λj d G=>?_⟩,by simp⟩
    .rcases s_.mp p with p|p
     .obtain⟨w,E,s,U⟩:=I.a x p;refine⟨w,kE _ E,?_,U⟩;rw[y6 g]
      by_cases z:nK (ip x L)=nK (ip y L)
      .rw[z,g]at s;cases s
      .rwa[iG z]
     .rw[q_.mp p];exact⟨y,hy,by rw[y6 g,iH _6],hR⟩
    .rw[y6 g]at G
     by_cases z:j=nK (ip y L)
     .rw[iH z]at G;exact⟨y,by simp,(jM G).symm,z⟩
     .rw[iG z]at G;obtain⟨w,E,s⟩:=I.b j d G;exact⟨w,kE _ E,s⟩
   .obtain⟨z,_,B,_⟩:=I.b _ _ g;exact t_ B (o z)
  have q:(y∈i++[a]/\ip a L=ip y L)/\((∃z,dj f (nK (ip a L))=a_ (tN z))\/dj f (nK (ip a L))=d_):=by
   obtain ⟨g,o⟩|⟨g,o,q3⟩|⟨d,g,o⟩:=H
   .obtain⟨z,hz,B,z2⟩:=I.b _ _ g;have:=Ql B;subst this;exact⟨⟨kE _ hz,AX z2⟩,.inl ⟨y,g⟩⟩
   .rw[o];exact⟨⟨by simp,_6⟩,.inr g⟩
   .obtain⟨z,_,B,_⟩:=I.b _ _ g;exact t_ B (o z)
  have v:y∈T:=by rw[<-e'];exact kE _ q.1.1
  rw[hb q.2];rcases FB (k:=y) M J _ _ _ R u (λc H=>⟨by rw[ha];exact r c H,by rw[hT y v];exact r c H⟩)with⟨g,w7,o⟩|⟨c,O,g,o⟩
  .rw[o];obtain⟨I',ρ⟩:=Y g q.1.1;exact ih _ h _ _ _ e' I' (by lia)
  .rw[o];exact .inr ⟨_,_6,QX (r c O) Q v g O q.1.2⟩
def CInv.h7(I:CInv L R j T):B2 L R T:=λa m b l h c e=>by obtain⟨y,_,d,i⟩:=I.a a m;obtain⟨z,_,g,f⟩:=I.a b l;rw[h,g]at d;rw[i c e,f c e,Ql (jM d)]
end
section
variable{T:b_ (b_ g_)}
def VG(n:g_):En->fc:=a9 (sf 4) (fz [1] (di (aq 5) (ak (vo 1)) (PZ n)))
def GZ(n:g_)(s:Sl)(U:∀a∈T,_7 a=m)(hl:_7 T<=900):∀B v u p i f e,(∀b∈B,jo m b)->m<=100->
  ((∀b∈B,B2 b.1 b.2 T)/\∃N M L A z y,turns (nu [2,3]) (VG (n+1)) (B.map Fq) [s,.bo (.au (T.map tN)),v,u,p,i,f,e]=.nx [s,.bo (.au (T.map tN)),N,M,L,A,z,y])\/
  ∃d,turns (nu [2,3]) (VG (n+1)) (B.map Fq) [s,.bo (.au (T.map tN)),v,u,p,i,f,e]=.rt d/\Hit B m T d:=by
 intro w;induction w with
 |nil=>rintro v u p i f e _ _;exact .inl ⟨(λb H=>by cases H),v,u,p,i,f,e,_6⟩
 |cons b B G=>
  rintro v u p i f e hB Q
  have g:=hB b iM;have H:VG (n+1) [s,.bo (.au (T.map tN)),.pu (tN b.1),.pu (tN b.2),p,i,f,e]=turns (aq 5) (PZ (n+1)) (T.map tN) [s,.bo (.au (T.map tN)),.pu (tN b.1),.pu (tN b.2),.od c_ [],i,f,e]:=by unfold VG;rw[b0];exact f6 _6
  rw[iJ,bu (δ1:=[s,.bo _,.pu _,.pu _,p,i,f,e]) _6,H];have Y:=g.l.len;rcases FA n s _ U g.l.lt g.r.lt (by lia) T [] [] i f e rfl ⟨(by intro x O;cases O),(by intro j d h;cases h)⟩ (by simp;lia)with⟨J,A,z,y,q,I⟩|⟨d,q,h⟩
  .rw[q];rcases G _ _ _ A z y (λc o=>hB c (iI _ o)) Q with⟨E,C⟩|k
   .refine .inl ⟨λc o=>?_,C⟩;rcases l_.mp o with rfl|o
    .exact I.h7
    .exact E c o
   .obtain⟨d,E,C⟩:=k;exact .inr ⟨d,E,C.be λc o=>iI _ o⟩
  .rw[q];exact .inr ⟨d,_6,h.be λc o=>by rw[q_.mp o];exact iM⟩
def Ki(n:g_)(l:∀a∈T,_7 a=m)(i:_7 T<=900)(g:∀b∈bs,jo m b)(f:m<=100):
  (ae (tab (n+2)) q8 [fh bs,.au (T.map tN)]=.ok .fD/\∀b∈bs,B2 b.1 b.2 T)\/∃d,ae (tab (n+2)) q8 [fh bs,.au (T.map tN)]=.ok d/\Hit bs m T d:=by
 show(fe (Ib (n+1) [.bo _,.bo _,.no,.no,.no,.no,.no,.no])=_/\_)\/∃d,fe (Ib (n+1) [.bo _,.bo _,.no,.no,.no,.no,.no,.no])=_/\_;have j:Ib (n+1) [.bo (fh bs),.bo (.au (T.map tN)),.no,.no,.no,.no,.no,.no]=match turns (nu [2,3]) (VG (n+1)) (bs.map Fq) [.bo (fh bs),.bo (.au (T.map tN)),.no,.no,.no,.no,.no,.no]with
   |.nx c=>cj (gC .fD) c
   |o=>o:=by
  show(a9 (fz [0] (di _ _ (VG (n+1)))) _) _=_;rw[b0];simp only[Ax,i7,Ck,kA];rw[f6 _6]<;>(cases turns _ _ _ _<;>rfl)
 rw[j];rcases GZ n _ l i bs .no .no .no .no .no .no g f with⟨e,w,v,u,s,r,p,q⟩|⟨d,q,h⟩
 .rw[q];exact .inl ⟨_6,e⟩
 .rw[q];exact .inr ⟨d,_6,h⟩
noncomputable def p0(c x y:g_)(a:b_ g_):b_ g_:=a.set c (if a.getD c 0=y then x else a.getD c 0)
def IJ(c x y:g_)(a:b_ g_):(p0 c x y a).length=_7 a:=by unfold p0;simp
def Si(d:c<_7 a)(e:g_):(p0 c x y a).getD e 0=if e=c/\a.getD c 0=y then x else a.getD e 0:=by
 unfold p0;rw[iK,List.getElem?_set]
 by_cases h:c=e
 .subst h;rw[iH _6,iH d,d!]
  by_cases b:a.getD c 0=y
  .rw[iH b,iH ⟨_6,b⟩]
  .rw[iG b,iG (λz=>b z.2)]
 .rw[iG h,iG (λz=>h z.1.symm),iK]
def GS{p:g_}:xw (.ci a) d_ (a_ (p:j_))=a_ (.ci (a.take p)):=by
 show a_ _=_;unfold Km;rw[HT.E8,HT.Jr,vX,vL]
 congr 2
 rw[<-List.take_eq_take_min]
def Uh{p:g_}(h:p<_7 a):xw (.ci a) (a_ ((p:j_)+1)) d_=a_ (.ci (a.drop (p+1))):=by
 have e:((p:j_)+1)=((p+1:g_):j_):=by lia
 show a_ _=_;unfold Km;rw[e,HT.E8,HT.Jr]
 congr 2
 rw[xY ‹_›,lJ (by rw[lD];lia)]
def Q4(h:_7 a+_7 b<=1000):bj (tN a) (tN b)=a_ (tN (a++b)):=by show(if(bf a).length+(bf b).length<=iN then a_ _ else d_)=_;rw[iH (by rw[pq,pq,kP];lia)];unfold tN;rw[L8]
def aN:En->fc:=(a9 (fz [2] (dq 6 (Of (g2 gu (g2 az (aa 5) (aa 1)) (aa 3)) (a0 2) (g2 az (aa 5) (aa 1)))))
 (fz [6] (qi 4 (g2 bj (g2 bj (Uu (aa 5) d_ (a_ (a0 1))) (Pu.h8 (Pu.am (a0 6) af))) (Uu (aa 5) (a_ (g2 bj (aa 1) (gC (.int 1)))) d_)))))
def VH{c x y:g_}(i:c<_7 a)(s:_7 a<=100)(u:_7 P<=1000)(b f:Sl):aN [b,.pu (.int (c:j_)),.pu (.int (x:j_)),.bo (.int (y:j_)),.ow (P.map tN),.pu (tN a),f]=.nx [b,.pu (.int (c:j_)),.pu (.int (x:j_)),.bo (.int (y:j_)),.ow ((P++[p0 c x y a]).map tN),.pu (tN a),.pu (.int (((if a.getD c 0=y then x else a.getD c 0):g_):j_))]:=by
 generalize e:(if a.getD c 0=y then x else a.getD c 0)=z;have j:Of (g2 gu (g2 az (aa 5) (aa 1)) (aa 3)) (a0 2) (g2 az (aa 5) (aa 1)) [b,.pu (.int c),.pu (.int x),.bo (.int y),.ow (P.map tN),.pu (tN a),f]=.ok (.int z):=by
  have m:g2 az (aa 5) (aa 1) [b,.pu (.int (c:j_)),.pu (.int x),.bo (.int y),.ow (P.map tN),.pu (tN a),f]=.ok (.int ((a.getD c 0:g_))):=by show ce.of _=_;rw[Sb i];rfl
  have l:g2 gu (g2 az (aa 5) (aa 1)) (aa 3) [b,.pu (.int c),.pu (.int x),.bo (.int y),.ow (P.map tN),.pu (tN a),f]=.ok (.bl (decide (a.getD c 0=y))):=by
   rw[yb,m];have:gu (.int ((a.getD c 0:g_):j_)) (.int (y:j_))=a_ (.bl (((a.getD c 0:g_):j_)==y)):=by simp
   show ce.of (gu (.int _) (.int _))=_;rw[this];show ce.ok _=_
   congr 2
   by_cases h:a.getD c 0=y
   .rw[m_ h,h];simp
   .rw[i_ h];exact G_.mpr λw=>h (by lia)
  rw[NB,l,bz]
  by_cases h:a.getD c 0=y
  .rw[iH h]at e;rw[m_ h,<-e];rfl
  .rw[iG h]at e;rwa[i_ h,<-e]
 unfold aN;rw[b0];simp only[Ax,i7,Ck,kA,kB];rw[vw,j,cx];show fz [6] (qi 4 _) [b,.pu _,.pu _,.bo _,.ow _,.pu (tN a),.pu _]=_;simp only[Ax,i7,Ck,kA,kB];have r:=pq a;have q:Uu (aa 5) d_ (a_ (a0 1)) [b,.pu (.int (c:j_)),.pu (.int x),.bo (.int y),.ow (P.map tN),.pu (tN a),.pu (.int z)]=.ok (tN (a.take c)):=by show ce.of (xw (.ci _) d_ _)=_;rw[GS];unfold tN bf;rw[List.map_take];rfl
 have p:Uu (aa 5) (a_ (g2 bj (aa 1) (gC (.int 1)))) d_ [b,.pu (.int c),.pu (.int x),.bo (.int y),.ow (P.map tN),.pu (tN a),.pu (.int z)]=.ok (tN (a.drop (c+1))):=by show ce.of (xw (.ci _) (a_ _) d_)=_;rw[Uh (by lia)];unfold tN bf;rw[List.map_drop];rfl
 have o:Pu.h8 (Pu.am (a0 6) af) [b,.pu (.int c),.pu (.int x),.bo (.int y),.ow (P.map tN),.pu (tN a),.pu _]=.ok (tN [z]):=rfl;have n:g2 bj (g2 bj (Uu (aa 5) d_ (a_ (a0 1))) (Pu.h8 (Pu.am (a0 6) af))) (Uu (aa 5) (a_ (g2 bj (aa 1) (gC (.int 1)))) d_) [b,.pu (.int c),.pu (.int x),.bo (.int y),.ow (P.map tN),.pu (tN a),.pu (.int z)]=.ok (tN (p0 c x y a)):=by rw[yb,yb,q,o];dsimp only[bz];rw[Q4 (by simp;lia),om,bz,p,bz,Q4 (by simp;lia)];unfold p0;rw[e,List.set_eq_take_append_cons_drop,iH i,kF];rfl
 have g:qi 4 (g2 bj (g2 bj (Uu (aa 5) d_ (a_ (a0 1))) (Pu.h8 (Pu.am (a0 6) af))) (Uu (aa 5) (a_ (g2 bj (aa 1) (gC (.int 1)))) d_)) [b,.pu (.int c),.pu (.int x),.bo (.int y),.ow (P.map tN),.pu (tN a),.pu (.int z)]=(ce.ok (tN (p0 c x y a))).then λd=>if(P.map tN).length<iN then fc.nx [b,.pu (.int c),.pu (.int x),.bo (.int y),.ow (P.map tN++[d]),.pu (tN a),.pu (.int z)]else .st:=by rw[<-n];rfl
 rw[g,cx,iH (by rw[iD,kP];lia),kQ];rfl
theorem Tr{x y:g_}(i:Sl):∀(d P:b_ (b_ g_)) g f,(∀a∈d,_7 a=m)->c<m->m<=100->_7 P+_7 d<=1000->
  ∃l j,turns (aq 5) aN (d.map tN) [i,.pu (.int (c:j_)),.pu (.int (x:j_)),.bo (.int (y:j_)),.ow (P.map tN),g,f]=.nx [i,.pu (.int (c:j_)),.pu (.int (x:j_)),.bo (.int (y:j_)),.ow ((P++d.map (p0 c x y)).map tN),l,j]
 |[],P,g,f,_,_,_,_=>⟨g,f,by rw[nI,nI,jX];rfl⟩
 |a::d,P,g,f,h,p,n,o=>by
  rw[iC]at o;have s:=h a iM;rw[iJ,bu (δ1:=[i,.pu _,.pu _,.bo _,.ow _,.pu (tN a),f]) _6,VH (by lia) (by lia) (by lia)];obtain⟨l,j,q⟩:=Tr (y:=y) i d (P++[p0 c x y a]) _ (.pu _) (λb r=>h b (iI _ r)) p n (by simp;lia);refine⟨l,j,?_⟩;have e:P++(a::d).map (p0 c x y)=P++[p0 c x y a]++d.map (p0 c x y):=by simp
  rwa[e]
def RQ(n:g_){x y:g_}(i:∀a∈T,_7 a=m)(h:c<m)(g:m<=100)(j:_7 T<=900):ae (tab (n+1)) ic [.au (T.map tN),.int (c:j_),.int (x:j_),.int (y:j_)]=.ok (.au ((T.map (p0 c x y)).map tN)):=by
 obtain⟨d,b,q⟩:=Tr (y:=y) _ T [] .no .no i h g (by simp;lia);have e:fz [0] (di (aq 5) (ak (vo 0)) aN) [.bo (.au (T.map tN)),.pu (.int c),.pu (.int x),.bo (.int y),.ow [],.no,.no]=.nx [.bo (.au (T.map tN)),.pu (.int c),.pu (.int x),.bo (.int y),.ow ((T.map (p0 c x y)).map tN),d,b]:=by simp only[Ax];exact q
 have f:de 4 (b9 af) [.bo _,.pu _,.pu _,.bo _,.no,.no,.no]=.nx [.bo (.au (T.map tN)),.pu (.int (c:j_)),.pu (.int (x:j_)),.bo (.int (y:j_)),.ow [],.no,.no]:=rfl;show fe ((a9 (de 4 (b9 af)) (a9 (fz [0] (di _ (ak (vo 0)) aN)) _)) [.bo _,.pu _,.pu _,.bo _,.no,.no,.no])=_;rw[b0,f];dsimp only;rw[b0,e];rfl
structure ZI(m:g_)(W T:b_ (b_ g_)):Prop where
 len:_7 T=_7 W
 w:∀a∈T,_7 a=m
 z:∀(i:g_) p a,W[i]?=a_ p->T[i]?=a_ a->∀c∈p,a.getD c 0=0
def ZI.p0{W:b_ (b_ g_)}{c x y:g_}(I:ZI m W T)(q:c<m)(h:x<y):ZI m W (T.map (p0 c x y)):=by
 refine⟨by rw[iD];exact I.len,λa d=>?_,λi p a l d e n=>?_⟩
 .obtain⟨b,f,rfl⟩:=k_.mp d;rw[IJ];exact I.w b f
 .rw[jF]at d;cases f:T[i]? with
  |none=>rw[f]at d;cases d
  |some b=>
   rw[f]at d;cases d;have o:=I.w b (jT f);have j:=I.z i p b l f e n;rw[Si (by lia)]
   by_cases g:e=c/\b.getD c 0=y
   .rw[g.1,g.2]at j;lia
   .rw[iG g];exact j
def Nc(T:b_ (b_ g_)):g_:=(T.map List.sum).sum
theorem Th:∀(a:b_ g_) c v,c<_7 a->(a.set c v).sum+a.getD c 0=a.sum+v
 |[],c,v,h=>by simp at h
 |x::a,0,v,_=>by simp;lia
 |x::a,c+1,v,h=>by
  have b:=Th a c v (by simpa using h);rw[mL,f?,f?,List.getD_cons_succ]
  lia
def II(b:c<_7 a)(h:x<y):(p0 c x y a).sum<=a.sum/\(a.getD c 0=y->(p0 c x y a).sum<a.sum):=by
 unfold p0;have:=Th a c (if a.getD c 0=y then x else a.getD c 0) b
 by_cases e:a.getD c 0=y
 .exact⟨by lia,λq=>by lia⟩
 .exact⟨by lia,λz=>t_ z e⟩
theorem Tn(i:c<m)(h:x<y):∀T,(∀a∈T,_7 a=m)->Nc (T.map (p0 c x y))<=Nc T/\((∃a∈T,a.getD c 0=y)->Nc (T.map (p0 c x y))<Nc T)
 |[],_=>⟨iF _,λ⟨a,d,_⟩=>by cases d⟩
 |b::T,e=>by
  obtain⟨n,f⟩:=Tn i h T λa d=>e a (iI _ d);obtain⟨l,j⟩:=II (by rwa[e b iM]) h;have p:Nc ((b::T).map (p0 c x y))=(p0 c x y b).sum+Nc (T.map (p0 c x y)):=by unfold Nc;simp
  have o:Nc (b::T)=b.sum+Nc T:=by unfold Nc;simp
  refine⟨by lia,λ⟨a,d,g⟩=>?_⟩;rcases l_.mp d with rfl|d
  .lia
  .have:=f ⟨a,d,g⟩;lia
def bU:En->ce:=g2 jw (aa 2) (gC .fD)
def bV(n:g_):En->fc:=(a9 (dq 1 (ah (ae (tab n) ic) (Pu.am (aa 1) (Pu.am (g2 az (aa 2) (gC (.int 0))) (Pu.am (g2 az (aa 2) (gC (.int 1))) (Pu.am (g2 az (aa 2) (gC (.int 2))) af))))))
 (dq 2 (ah (ae (tab n) q8) (Pu.am (aa 0) (Pu.am (aa 1) af)))))
inductive Ch(Bs:b_ Bd)(w:g_):b_ (b_ g_)->b_ (b_ g_)->Prop
 |refl (P):Ch Bs w P P
 |step {P P':b_ (b_ g_)} {c x y:g_} (_:∀a∈P,_7 a=w) (_:c<w) (_:fQ Bs P c x y) (_:Ch Bs w (P.map (p0 c x y)) P'):Ch Bs w P P'
def Jw{P:b_ (b_ g_)}(m:_7 P<=76):∃G:b_ (b_ g_),dh (.au (P.map tN))=a_ (.au (G.map tN))/\(∀r,r∈G↔r∈P)/\G.Nodup/\_7 G<=_7 P:=by
 obtain⟨g,d,b,f,a,_⟩:=Ar (P:=P.map bq) (by rw[iD];lia);obtain⟨G,rfl⟩:∃G:b_ _,g=G.map bq:=by
  refine⟨g.map λr=>r.map yK,?_⟩;rw[jV]
  conv=>lhs;rw[<-yE g]
  refine jY λr j=>?_;obtain⟨p,_,rfl⟩:=k_.mp ((b r).mp j);show bq p=bq ((bq p).map yK)
  congr 1
  unfold bq;rw[jV]
  conv=>lhs;rw[<-yE p]
  exact jY λc z=>rfl
 rw[iD,iD]at a;have i:∀L:b_ _,(L.map bq).map tI=L.map tN:=λL=>by rw[jV];exact jY λp z=>(Cg p).symm
 rw[i,i]at d;refine⟨G,d,λp=>?_,(List.pairwise_map.mp f).imp λh e=>h (u_ bq e),a⟩;have:=b (bq p);rw[oA,oA]at this;constructor
 .intro h;obtain⟨q,l,e⟩:=this.mp ⟨p,h,_6⟩;rwa[<-oq e]
 .intro h;obtain⟨q,l,e⟩:=this.mpr ⟨p,h,_6⟩;rwa[<-oq e]
theorem IY(n:g_)(g:∀b∈bs,jo m b)(E:m<=100)(G:_7 W<=900):∀k T j d a,ZI m W T->Nc T<=k->k<a->(j=.bo (.au (T.map tN))\/j=.pu (.au (T.map tN)))->(d=.fD/\(∀b∈bs,B2 b.1 b.2 T)\/Hit bs m T d)->
  ∃i l,(ZI m W i/\Ch bs m T i)/\(∀b∈bs,B2 b.1 b.2 i)/\(l=.bo (.au (i.map tN))\/l=.pu (.au (i.map tN)))/\xj bU (bV (n+2)) a [.bo (fh bs),j,.pu d]=.nx [.bo (fh bs),l,.pu .fD]:=by
 intro k;induction k using Nat.strongRecOn with
 |_ k B=>
  intro T j d a I Y hf C h;obtain ⟨N,M⟩|h:=h
  .obtain⟨f,rfl⟩:∃f,a=f+1:=⟨a-1,by lia⟩;subst N;exact⟨T,j,⟨I,.refl _⟩,M,C,_6⟩
  .obtain⟨f,rfl⟩:∃f,a=f+1:=⟨a-1,by lia⟩;obtain⟨c,x,y,rfl,p,o,O,hB⟩:=h;have L:=(Tn p o T I.w).2 O;have q:=I.p0 p o;have Q:aa 1 [.bo (fh bs),j,.pu (PX c x y)]=.ok (.au (T.map tN)):=by rcases C with rfl|rfl<;>rfl
   have J:ah (ae (tab (n+2)) ic) (Pu.am (aa 1) (Pu.am (g2 az (aa 2) (gC (.int 0))) (Pu.am (g2 az (aa 2) (gC (.int 1))) (Pu.am (g2 az (aa 2) (gC (.int 2))) af)))) [.bo (fh bs),j,.pu (PX c x y)]=.ok (.au ((T.map (LK.p0 c x y)).map tN)):=by refine cw (ds:=_) ?_ (RQ (n+1) I.w p E (by rw[I.len];exact G));rw[nt,Q];rfl
   unfold xj;have U:bU [.bo (fh bs),j,.pu (PX c x y)]=.ok (.bl c_):=rfl;rw[U,cx];dsimp only;have H:∀{A},ae (tab (n+2)) q8 _=.ok A->bV (n+2) _=.nx _:=λ{A} e=>by unfold bV;rw[b0,vw,J,cx];show dq 2 _ _=_;rw[vw,cw (ds:=_) _6 e];rfl
   rcases Ki n (bs:=bs) q.w (by rw[q.len];exact G) g E with⟨z,v⟩|⟨A,z,v⟩
   .rw[H z];obtain⟨i,l,⟨u,s⟩,r⟩:=B (k-1) (by lia) _ _ _ f q (by lia) (by lia) (.inr _6) (.inl ⟨_6,v⟩);exact⟨i,l,⟨u,.step I.w p hB s⟩,r⟩
   .rw[H z];obtain⟨i,l,⟨u,s⟩,r⟩:=B (k-1) (by lia) _ _ _ f q (by lia) (by lia) (.inr _6) (.inr v);exact⟨i,l,⟨u,.step I.w p hB s⟩,r⟩
termination_by k=>k
def HI(n:g_)(g:∀b∈bs,jo m b)(E:1<=m)(j:m<=100)(C:_7 W<64)(I:ZI m W T)(v:Nc T<1000000):
  ∃c G:b_ (b_ g_),(ZI m W c/\Ch bs m T c)/\(∀b∈bs,B2 b.1 b.2 c)/\(∀r,r∈G↔r∈c)/\(_7 G<=_7 W/\G.Nodup)/\ae (tab (n+3)) n8 [fh bs,.au (T.map tN)]=.ok (.au (G.map tN)):=by
 have a:∀d,ae _ q8 _=.ok d->_->∃c G:b_ _,_/\_/\_/\(_7 G<=_7 W/\G.Nodup)/\fe (Ic (n+2) [.bo (fh bs),.bo (.au (T.map tN)),.no])=.ok _:=λd e z=>by
  obtain⟨c,s,i,y,x,q⟩:=IY n g j (by lia) (Nc T) T _ d Hs I (iF _) v (.inl _6) z;obtain⟨G,p,o,l,B⟩:=Jw (by rw[i.1.len];lia);refine⟨c,G,i,y,o,⟨by have:=i.1.len;lia,l⟩,?_⟩;show fe ((a9 _ (a9 (fz [] (NJ bU (bV (n+2)))) _)) _)=_;rw[b0,vw,(cw (ds:=_) _6 e),cx];show fe (a9 _ _ [.bo _,.bo _,.pu d])=_;rw[b0];simp only[i7];have u:NJ bU _ _=.nx _:=q;rw[u];dsimp only;have A:aa 1 [.bo (fh bs),s,.pu .fD]=.ok (.au (c.map tN)):=by rcases x with rfl|rfl<;>rfl
  rw[t6,Fo,A,bz,p];rfl
 rcases Ki n I.w (by rw[I.len];lia) g j with⟨h,f⟩|⟨H,h,f⟩
 .exact a _ h (.inl ⟨_6,f⟩)
 .exact a _ h (.inr f)
end
def qf(P:b_ (b_ g_)):P.map tN=(P.map bq).map tI:=by rw[jV];exact jY λp z=>Cg p
def xk(m:g_)(p:b_ g_)(i:g_):b_ g_:=(jD m).map λc=>if c∈p then 0 else i
def jx(m:g_):g_->b_ (b_ g_)->b_ (b_ g_)
 |_,[]=>[]
 |i,p::W=>xk m p i::jx m (i+1) W
def bS:En->fc:=fz [4] (qi 3 (g1 gm (ao (cy (Pu.am (aa 1) af)) [5,4] (gC (.bl c_)) (Of (g2 iq (aa 0) (aa 1)) (gC (.int 0)) (a0 2)))))
def UF{m i:g_}(r:m<=1000)(u:_7 P<=1000)(e b a:Sl):bS [e,.pu (.int (m:j_)),b,.ow (P.map tN),.pu (.int (i:j_)),.pu (tN p),a]=.nx [e,.pu (.int (m:j_)),b,.ow ((P++[xk m p i]).map tN),.pu (.int (i:j_)),.pu (tN p),a]:=by
 have n:ao (cy (Pu.am (aa 1) af)) [5,4] (gC (.bl c_)) (Of (g2 iq (aa 0) (aa 1)) (gC (.int 0)) (a0 2)) [e,.pu (.int m),b,.ow (P.map tN),.pu (.int i),.pu (tN p),a]=.ok (.au ((jD m).map λc=>Pu.D.int (((if c∈p then 0 else i):g_):j_))):=by
  refine uc (f:=λc=>Pu.D.int _) ((j9 (j':=(m:j_)) (hr:=rfl) (h:=⟨by lia,by lia⟩)).trans (by simp)) (by lia) λj s=>?_;have q:(0+(j:j_))=(j:j_):=by lia
  rw[q];have o:g2 iq (aa 0) (aa 1) [.pu (.int (j:j_)),.pu (tN p),.pu (.int i)]=.ok (.bl (decide (j∈p))):=by show ce.of _=_;rw[Y5 j p];rfl
  show Of _ _ _ [.pu _,.pu (tN p),.pu _]=_;rw[NB,o,bz]
  by_cases h:j∈p
  .rw[m_ h,iH h];rfl
  .rw[i_ h,iG h];rfl
 have l:g1 gm (ao (cy (Pu.am (aa 1) af)) [5,4] (gC (.bl c_)) (Of (g2 iq (aa 0) (aa 1)) (gC (.int 0)) (a0 2))) [e,.pu (.int m),b,.ow (P.map tN),.pu (.int i),.pu (tN p),a]=.ok (tN (xk m p i)):=by rw[Fo,n];unfold xk tN bf;rw[jV];rfl
 unfold bS;simp only[Ax,i7,Ck,kA,kB];have g:qi 3 (g1 gm (ao (cy (Pu.am (aa 1) af)) [5,4] (gC (.bl c_)) (Of (g2 iq (aa 0) (aa 1)) (gC (.int 0)) (a0 2)))) [e,.pu (.int m),b,.ow (P.map tN),.pu (.int i),.pu (tN p),a]=(ce.ok (tN (xk m p i))).then λd=>if(P.map tN).length<iN then fc.nx [e,.pu (.int m),b,.ow (P.map tN++[d]),.pu (.int i),.pu (tN p),a]else .st:=by rw[<-l];rfl
 rw[g,cx,iH (by rw[iD,kP];lia),kQ];rfl
def LF{m:g_}(n:m<=1000)(j h g:Sl):∀W P i b a,_7 P+_7 W<=1000->
  ∃f d,turns (nu [4,5]) bS (lg i (W.map tN)) [j,.pu (.int (m:j_)),h,.ow (P.map tN),b,a,g]=.nx [j,.pu (.int (m:j_)),h,.ow ((P++jx m i W).map tN),f,d,g]:=by
 intro c;induction c with
 |nil=>rintro P i b a _;exact⟨b,a,by rw[jx,jX];rfl⟩
 |cons p W l=>
  rintro P i b a o
  rw[iC]at o;rw[iJ,show lg i (tN p::W.map tN)=.ci _::lg (i+1) (W.map tN)from rfl,bu (δ1:=[j,.pu (.int (m:j_)),h,.ow (P.map tN),.pu (.int (i:j_)),.pu (tN p),g]) _6,UF n (by lia)];obtain⟨f,d,q⟩:=l (P++[xk m p i]) (i+1) (.pu (.int (i:j_))) (.pu (tN p)) (by rw[iO];simp;lia);refine⟨f,d,?_⟩;have e:P++jx m i (p::W)=P++[xk m p i]++jx m (i+1) W:=by rw[jx];simp
  rw[e];exact q
theorem Mu(m:g_):∀i W,(jx m i W).length=_7 W
 |_,[]=>rfl
 |i,p::W=>by rw[jx,iC,iC,Mu m]
def Tb(a:c<m):(xk m p i).getD c 0=if c∈p then 0 else i:=by unfold xk;rw[iK,jF,qN a];rfl
theorem Dd:∀i W j a,(jx m i W)[j]?=a_ a->∃p,W[j]?=a_ p/\a=xk m p (i+j)
 |_,[],j,a,h=>by simp[jx]at h
 |i,p::W,0,a,h=>by rw[jx]at h;simp at h;exact⟨p,_6,h.symm⟩
 |i,p::W,j+1,a,h=>by rw[jx,kB]at h;obtain⟨q,c,b⟩:=Dd (i+1) W j a h;exact⟨q,by simpa using c,by rw[b];congr 1;lia⟩
def LU{m:g_}{W:b_ (b_ g_)}(h:∀p∈W,∀c∈p,c<m):ZI m W (jx m 1 W):=by
 refine⟨Mu m 1 W,λa b=>?_,λi p a d b c e=>?_⟩
 .obtain⟨j,g⟩:=_h.mp b;obtain⟨p,_,rfl⟩:=Dd 1 W j a g;unfold xk;rw[iD,kG]
 .obtain⟨q,f,l⟩:=Dd 1 W i a b;rw[d]at f;cases f;rw[l,Tb (h p (jT d) c e),iH e]
def UA:∀(l:b_ g_),(∀x∈l,x<=k)->l.sum<=_7 l*k:=by
 intro a;induction a with
 |nil=>rintro _;exact jW _
 |cons x l b=>
  rintro h
  have:=b λy c=>h y (iI _ c);have:=h x iM;rw[f?,iC,yC,yD]
  lia
def CF{m:g_}(l:m<=100):∀W i,i+_7 W<=100->Nc (jx m i W)<=_7 W*10000:=by
 intro a;induction a with
 |nil=>rintro i _;exact jW _
 |cons p W b=>
  rintro i h
  rw[iC]at h;have j:=b (i+1) (by lia);have e:Nc (jx m i (p::W))=(xk m p i).sum+Nc (jx m (i+1) W):=by rw[jx];unfold Nc;simp
  have f:(xk m p i).sum<=(xk m p i).length*100:=UA _ λx d=>by unfold xk at d;obtain⟨c,_,rfl⟩:=k_.mp d;split<;>lia
  have g:(xk m p i).length=m:=by unfold xk;rw[iD,kG]
  rw[g]at f;rw[e,iC,yC,yD]
  lia
def Ug(n:g_){P:b_ (b_ g_)}(o:m<=5)(g:∀p∈P,lf m p)(i:_7 P<=5)(a:∀c,c<m->∃p∈P,c∈p):ae (tab (n+5)) i9 [.au (P.map tN),.int (m:j_)]=.ok (.au (P.map tN)):=by
 rw[Cr (n+4)];have j:ao (ak (aa 0)) [1] (gC (.bl c_)) (ah (ae (tab (n+4)) fy) (Pu.am (aa 0) (Pu.am (a0 1) af))) [.pu (.au (P.map tN)),.pu (.int (m:j_))]=.ok (.au (P.map λz=>Pu.D.bl c_)):=
  f9 (f:=tN) _6 (by lia) λp h=>by have e:=yu n (g p h) (by lia);rw[Hm]at e;show ah (ae (tab (n+4)) fy) (Pu.am (aa 0) (Pu.am (a0 1) af)) _=_;exact cw (ds:=_) _6 e
 have l:=zm P;have q:=Q6 (n+3) g o i a;have lt:Ak (.int (m:j_)) (.int (m:j_))=a_ (.bl e_):=by show a_ (Pu.D.bl (decide ((m:j_)<(m:j_))))=_;rw[i_ (by lia)]
 show fe (nq (n+4) _)=_;have b:ae (tab (n+4)) j6 [.au (P.map tN)]=.ok (.au (bf (jD m))):=by rw[Es];exact q
 have d:(bf (jD m)).length=m:=by rw[pq,kG]
 simp -implicitDefEqProofs [nq,j,l,b,d]
def UR{m:g_}(g:m<=6)(f e d c b a:Sl):g1 gm (Og (b9 (Pu.am (gC (.int 0)) af)) (aa 1)) [f,.pu (.int (m:j_)),e,d,c,b,a]=.ok (tN (iT m 0)):=by
 match m,g with
 |0,_=>rfl
 |1,_=>rfl
 |2,_=>rfl
 |3,_=>rfl
 |4,_=>rfl
 |5,_=>rfl
 |6,_=>rfl
def XS(r:b_ g_)(R:b_ (b_ g_)):iq (tN r) (.au (R.map tN))=a_ (.bl (decide (r∈R))):=by
 have e:=(Ja (bq r) (R.map bq)).1;rw[Hm,<-qf]at e;rw[show iq (tN r) (.au (R.map tN))=Jq (tN r) (.au (R.map tN))from rfl,e]
 congr 2
 rw[b?,oA];exact⟨by rintro⟨q,a,e⟩;exact oq e▸a,λh=>⟨r,h,_6⟩⟩
def Rj(h:g δ=.ok d):Cd g δ=.nx δ:=by unfold Cd;rw[h];rfl
section
variable{P:b_ (b_ g_)}
def DE(n:g_)(g:∀b∈bs,jo m b)(o:1<=m)(l:m<=5)(I:bs.length<=10)(gP:∀p∈P,lf m p)(j:P.length<=5)(Q:∀c,c<m->∃p∈P,c∈p):
  ∃W a H:b_ (b_ g_),(∀w∈W,w∈P)/\(∀p∈P,∃w∈W,∀c∈p,c∈w)/\ZI m W a/\Ch bs m (jx m 1 W) a/\(∀b∈bs,B2 b.1 b.2 a)/\(∀r,r∈H↔r∈a)/\H.length<=5/\ae (tab (n+7)) zx [fh bs,.int (m:j_),.au (P.map tN)]=.ok (if iT m 0∈H then .ci [.str "sound",.fD]else .ci [.str "rows",.au (H.map tN)]):=by
 have s:=A1 n g o (by lia) I;rw[OE]at s;have M:=Ug (n+1) l gP j Q;obtain⟨W,i,N,T,v⟩:=Hu (n+4) gP l j;have Z:=LU (m:=m) (W:=W) λp E c G=>(gP p (i p E)).lt c G;have U:=CF (m:=m) (by lia) W 1 (by lia);obtain⟨a,H,u,keep,J,f,L⟩:=HI (n+3) g o (by lia) (by lia) Z (by lia);refine⟨W,a,H,i,N,u.1,u.2,keep,J,by have:=f.1;lia,?_⟩;rw[GM (n+6)];show fe (Ie (n+6) [.pu (fh bs),.pu (.int (m:j_)),.pu (.au (P.map tN)),.no,.no,.no,.no])=_;unfold Ie;have A:fz [0,1] (Cd (ah (ae (tab (n+6)) i8) (Pu.am (a0 0) (Pu.am (a0 1) af)))) [.pu (fh bs),.pu (.int (m:j_)),.pu (.au (P.map tN)),.no,.no,.no,.no]=.nx [.pu (fh bs),.pu (.int (m:j_)),.pu (.au (P.map tN)),.no,.no,.no,.no]:=by simp only[Ax];exact Rj (cw (ds:=_) _6 s)
 have z:fz [2,1] (Cd (ah (ae (tab (n+6)) i9) (Pu.am (a0 2) (Pu.am (a0 1) af)))) [.pu (fh bs),.pu (.int (m:j_)),.pu (.au (P.map tN)),.no,.no,.no,.no]=.nx [.pu (fh bs),.pu (.int (m:j_)),.pu (.au (P.map tN)),.no,.no,.no,.no]:=by simp only[Ax];exact Rj (cw (ds:=_) _6 M)
 have y:de 3 (b9 af) [.pu (fh bs),.pu (.int (m:j_)),.pu (.au (P.map tN)),.no,.no,.no,.no]=.nx [.pu (fh bs),.pu (.int (m:j_)),.pu (.au (P.map tN)),.ow [],.no,.no,.no]:=rfl;obtain⟨e,d,q⟩:=LF (m:=m) (by lia) (.pu (fh bs)) (.pu (.au (P.map tN))) .no W [] 1 .no .no (by simp;lia);rw[oX]at q;have B:ah (ae (tab (n+6)) o8) (Pu.am (aa 2) af) [.pu (fh bs),.pu (.int (m:j_)),.pu (.au (P.map tN)),.ow [],.no,.no,.no]=.ok (.au (W.map tN)):=cw (ds:=_) _6 v;have x:di (nu [4,5]) (K8 (ah (ae (tab (n+6)) o8) (Pu.am (aa 2) af))) bS [.pu (fh bs),.pu (.int (m:j_)),.pu (.au (P.map tN)),.ow [],.no,.no,.no]=.nx [.pu (fh bs),.pu (.int (m:j_)),.pu (.au (P.map tN)),.ow ((jx m 1 W).map tN),e,d,.no]:=by rw[f6 (ds:=lg 1 (W.map tN)) (by unfold K8;rw[B])];exact q
 have C:ah (ae (tab (n+6)) n8) (Pu.am (aa 0) (Pu.am (aa 3) af)) [.pu (fh bs),.pu (.int (m:j_)),.pu (.au (P.map tN)),.ow ((jx m 1 W).map tN),e,d,.no]=.ok (.au (H.map tN)):=cw (ds:=_) _6 L;rw[b0,A];dsimp only;rw[b0,z];dsimp only;rw[b0,y];dsimp only;rw[b0];rw[show di (nu [4,5]) (K8 (ah (ae (tab (n+6)) o8) (Pu.am (aa 2) af))) (fz [4] (qi 3 (g1 gm (ao (cy (Pu.am (aa 1) af)) [5,4] (gC (.bl c_)) (Of (g2 iq (aa 0) (aa 1)) (gC (.int 0)) (a0 2)))))) _=_ from x];dsimp only;rw[b0,vw,C,cx];show fe (a9 _ _ [.pu (fh bs),.pu (.int (m:j_)),.pu (.au (P.map tN)),.ow ((jx m 1 W).map tN),e,d,.pu (.au (H.map tN))])=_;have O:g2 iq (g1 gm (Og (b9 (Pu.am (gC (.int 0)) af)) (aa 1))) (aa 6) [.pu (fh bs),.pu (.int (m:j_)),.pu (.au (P.map tN)),.ow ((jx m 1 W).map tN),e,d,.pu (.au (H.map tN))]=.ok (.bl (decide (iT m 0∈H))):=by rw[yb,UR (by lia)];show ce.of (iq (tN (iT m 0)) (.au (H.map tN)))=_;rw[XS];rfl
 rw[b0,Fp,O,cx]
 by_cases h:iT m 0∈H
 .rw[m_ h,iH h];rfl
 .rw[i_ h,iG h];rfl
end
def Zm(h:Ig L R U U=e_)(c:t∈U)(b:u∈U)(e:pick t L=pick u L):pick t R=pick u R:=by have a:=(Z_.mp (Bool.not_eq_true _▸((Z_.mp h) t c))) u b;unfold Nk at a;rw[m_ e]at a;simpa using a
def OL(h:∀t∈U,∀u∈U,pick t L=pick u L->pick t R=pick u R):Ig L R U U=e_:=by refine Z_.mpr λt b z=>?_;obtain⟨u,a,v⟩:=List.any_eq_true.mp z;unfold Nk at v;rw[iQ,n_,qC,X_]at v;exact v.2 (h t b u a v.1)
def c5(m:g_)(φ:g_->g_->j_)(U:b_ (b_ j_))(T:b_ (b_ g_)):Prop:=∀a∈T,∃t∈U,∀c,c<m->φ c (a.getD c 0)=t.getD c 0
def OD(g:∀b∈bs,jo m b)(hU:∀b∈bs,Ig b.1 b.2 U U=e_)(h:Ch bs m T w):c5 m φ U T->c5 m φ U w:=by
 induction h with
 |refl=>exact id
 |@step T w c x y E i L _ A=>
  intro I;apply A;obtain⟨b,o,f,a,Y,k,O,N,C,B⟩:=L;obtain⟨t,J,s⟩:=I a Y;obtain⟨u,H,p⟩:=I k O;have e1:pick t b.1=pick u b.1:=jY λe n=>by have l:=(g b o).l.lt e n;rw[<-s e l,<-p e l,(_e.mp N e n)]
  have e2:=Zm (hU b o) J H e1;have e4:φ c x=φ c y:=by rw[<-C,<-B,s c i,p c i,(_e.mp e2 c f)]
  intro r M;obtain⟨q,j,rfl⟩:=k_.mp M;obtain⟨v,G,ev⟩:=I q j;refine⟨v,G,λd Q=>?_⟩;rw[Si (by rw[E q j];exact i) d,<-ev d Q]
  by_cases z:d=c/\q.getD c 0=y
  .rw[iH z,z.1,z.2,e4]
  .rw[iG z]
def MT{P W:b_ (b_ g_)}(g:∀b∈bs,jo m b)(G:∀w∈W,w∈P)(gP:∀p∈P,lf m p)(H:∀b∈bs,Ig b.1 b.2 U U=e_)(v:∀t∈U,_7 t=m)(h:Ch bs m (jx m 1 W) J)(u:iT m 0∈J)(y:_7 r=m)(A:∀p∈P,Ei U p r):r∈U:=by
 obtain⟨τ,f⟩:∃τ:b_ g_->b_ j_,∀p∈P,τ p∈U/\∀c∈p,r.getD c 0=(τ p).getD c 0:=by
  have:∀p,∃t,p∈P->t∈U/\∀c∈p,r.getD c 0=t.getD c 0:=λp=>by
   by_cases d:p∈P
   .obtain⟨t,n,l⟩:=A p d;exact⟨t,λY=>⟨n,l⟩⟩
   .exact⟨[],λz=>t_ z d⟩
  exact⟨λp=>(this p).choose,λp d=>(this p).choose_spec d⟩
 have I:c5 m (λc s=>if s=0 then r.getD c 0 else(τ (W.getD (s-1) [])).getD c 0) U _:=λa E=>by
  obtain⟨j,B⟩:=_h.mp E;obtain⟨p,d,rfl⟩:=Dd 1 W j a B;obtain⟨q,o⟩:=f p (G p (jT d));refine⟨τ p,q,λc C=>?_⟩;rw[Tb C]
  by_cases z:c∈p
  .rw[iH z];show(if 0=0 then r.getD c 0 else _)=_;rw[iH _6,o c z]
  .rw[iG z];show(if 1+j=0 then r.getD c 0 else(τ _).getD c 0)=_;have e:W.getD j []=p:=by rw[iK,d];rfl
   rw[iG (by lia),show 1+j-1=j by lia,e]
 obtain⟨t,x,e⟩:=OD g H h I _ u;have:r=t:=by refine qQ (by rw[y,v t x]) λi n l=>?_;have:=e i (by lia);rw[show(iT m 0).getD i 0=0 by rw[iK,sV];split<;>rfl]at this;have:r.getD i 0=t.getD i 0:=this;rw[iK,iK,iR n,iR l]at this;exact this
 rwa[this]
def W3{P W H:b_ (b_ g_)}(o:∀p∈P,∃w∈W,∀c∈p,c∈w)(Z:ZI m W b)(n:∀r,r∈H↔r∈b)(i:p∈P):Ei (H.map bq) p (bq (iT m 0)):=by
 obtain⟨w,g,h⟩:=o p i;obtain⟨j,e⟩:=_h.mp g;have d:j<_7 b:=by rw[Z.len];exact(h_.mp e).1
 refine⟨bq b[j],vJ ((n _).mpr (oG d)),λc l=>?_⟩;have f:∀a,(bq a).getD c 0=((a.getD c 0:g_):j_):=λa=>by unfold bq;rw[iK,iK,jF];cases a[c]?<;>rfl
 rw[f,f,(Z.z j w _ e (iR d) c (h c l))]
 congr 1
 rw[iK,sV];split<;>rfl
def Zl{bs:b_ Bd}{i H:b_ (b_ g_)}{b:Bd}(h:B2 b.1 b.2 i)(g:∀r,r∈H↔r∈i):Ig b.1 b.2 (H.map bq) (H.map bq)=e_:=by
 refine OL λt l u j e=>?_;obtain⟨a,n,rfl⟩:=k_.mp l;obtain⟨k,m,rfl⟩:=k_.mp j;have d:∀a c,(bq a).getD c 0=((a.getD c 0:g_):j_):=λa c=>by unfold bq;rw[iK,iK,jF];cases a[c]?<;>rfl
 have o:ip a b.1=ip k b.1:=jY λc f=>by have:=_e.mp e c f;rw[d,d]at this;exact wU this
 refine jY λc f=>?_;rw[d,d,h a ((g a).mp n) k ((g k).mp m) o c f]
def x4(L:b_ (b_ j_)):pa 2 (.au (L.map tI)):=Fh λd a=>by obtain⟨r,_,rfl⟩:=k_.mp a;exact Jv r
def DH(bs:b_ Bd)(P:b_ (b_ g_)):pa 4 (.au [fh bs,.au (P.map tN)]):=Fh λd hd=>by
 rcases l_.mp hd with rfl|hd
 .exact Fh λd hd=>by obtain⟨b,_,rfl⟩:=k_.mp hd;exact DI b
 .rw[q_.mp hd,qf];exact Wp (x4 _) (by decide)
def ZY(n:g_):En->fc:=(a9 (oj (Fs (jg (jq (g1 (cf "tuple") (aa 7)))) (g2 e8 (g1 i6 (aa 7)) (aa 1))) (cj (gC (.bl e_))) gw)
 (oj (g2 e8 (ao (ak (aa 7)) [] (jg (jq (ah (ae (tab n) ni) (Pu.am (aa 0) af)))) (a0 0)) (b9 af)) (cj (gC (.bl e_))) gw))
def UO(n:g_){m:g_}{r:b_ g_}(l:_7 r=m)(s:m<=5)(i h g e d a:Sl):ZY (n+1) [i,.pu (.int (m:j_)),h,g,e,d,a,.pu (tN r)]=.nx [i,.pu (.int (m:j_)),h,g,e,d,a,.pu (tN r)]:=by
 have p:g2 e8 (g1 i6 (aa 7)) (aa 1) [i,.pu (.int m),h,g,e,d,a,.pu (tN r)]=.ok (.bl e_):=by
  have:((bf r).length:j_)=(m:j_):=by rw[pq,l]
  show ce.of (e8 (.int _) (.int _))=_;rw[this,(q9 (Fg _) (by decide)).2];rfl
 have q:jg (jq (g1 (cf "tuple") (aa 7))) [i,.pu (.int m),h,g,e,d,a,.pu (tN r)]=.ok (.bl e_):=rfl;have j:ao (ak (aa 7)) [] (jg (jq (ah (ae (tab (n+1)) ni) (Pu.am (aa 0) af)))) (a0 0) [i,.pu (.int m),h,g,e,d,a,.pu (tN r)]=.ok (.au ((r.filter λY=>e_).map λ(c:g_)=>Pu.D.int (c:j_))):=by refine cm (f:=λ(c:g_)=>Pu.D.int _) (b:=λY=>e_) _6 (by lia) λc u=>?_;rfl
 rw[V_.mpr λY Y z=>D_ z,nI]at j;have ne:e8 (.au []) (.au [])=a_ _:=(q9 (x4 []) (by decide)).2;have o:g2 e8 (ao (ak (aa 7)) [] (jg (jq (ah (ae (tab (n+1)) ni) (Pu.am (aa 0) af)))) (a0 0)) (b9 af) [i,.pu (.int m),h,g,e,d,a,.pu (tN r)]=.ok (.bl e_):=by rw[yb,j];show ce.of (e8 (.au []) (.au []))=_;rfl
 unfold ZY;rw[b0,Fp,W2,q,bz];rw[p,cx];show oj _ _ _ [i,.pu _,h,g,e,d,a,.pu (tN r)]=_;rw[Fp,o];rfl
def LS(n:g_){m:g_}(s:m<=5)(l j i g f e:Sl):∀(H:b_ (b_ g_)) a,(∀r∈H,_7 r=m)->(a=.no\/∃d,a=.pu d)->
  ∃c,(c=.no\/∃d,c=.pu d)/\turns (aq 7) (ZY (n+1)) (H.map tN) [l,.pu (.int (m:j_)),j,i,g,f,e,a]=.nx [l,.pu (.int (m:j_)),j,i,g,f,e,c]:=by
 intro b;induction b with
 |nil=>rintro a _ h;exact⟨a,h,_6⟩
 |cons r H o=>
  rintro a h _
  rw[iJ,bu (δ1:=[l,.pu _,j,i,g,f,e,.pu (tN r)]) _6,UO n (h r iM) s];exact o _ (λq p=>h q (iI _ p)) (.inr ⟨_,_6⟩)
section
def Wk(n:g_)(e:∀b∈bs,jo m b)(u:m<=5)(H:bs.length<=5)(gP:∀p∈P,lf m p)(E:∀c,c<m->∃p∈P,c∈p)(G:P≠[])(g:∀U,(∀b∈bs,Ig b.1 b.2 U U=e_)->(∀t∈U,t.length=m)->∀r,r.length=m->(∀p∈P,Ei U p r)->r∈U){v7:Sl}:
   (a9 (dq 6 (ah (ae (tab (n+7)) kr) (Pu.am (aa 0) (Pu.am (gC (.int 120)) (Pu.am (aa 1) (Pu.am (aa 2) af))))))
 (a9 (oj (g2 jw (g2 az (aa 5) (gC (.int 1))) (gC .fD)) (cj (gC (.bl e_))) gw)
 (cj (Fs (g2 gu (aa 6) (b9 af)) (g2 gu (ah (ae (tab (n+7)) ju) (Pu.am (aa 6) (Pu.am (aa 3) (Pu.am (aa 1) af)))) (g1 j8 (aa 6))))))) [.pu (jj ns),.pu (.int (m:j_)),.pu (fh bs),.pu (.au (P.map tN)),.ow [fh bs,.au (P.map tN)],.pu (.ci [.str "sound",.fD]),.no,v7]=.rt (.bl c_):=by
 obtain⟨U,d,v,A⟩:=EX (k:=120) (m:=m) (bs:=bs) (n+4) (by decide) (by lia) e (by lia);obtain⟨R,s,q,o⟩:=Nb (n+5) d.w gP u v E;obtain⟨S,l,j,i⟩:=ze d.nd (by lia);have f:=Mt (λa=>rX a) (λa b c=>sM) s i λx=>by rw[j.mem_iff,q];exact⟨λh=>g U d.k d.w x h.1 h.2,λh=>⟨d.w x h,λp Y=>⟨x,h,λc Y=>rfl⟩⟩⟩
 have z:dq 6 (ah (ae (tab (n+7)) kr) (Pu.am (aa 0) (Pu.am (gC (.int 120)) (Pu.am (aa 1) (Pu.am (aa 2) af))))) [.pu (jj ns),.pu (.int m),.pu (fh bs),.pu (.au (P.map tN)),.ow [fh bs,.au (P.map tN)],.pu (.ci [.str "sound",.fD]),.no,v7]=.nx [.pu (jj ns),.pu (.int m),.pu (fh bs),.pu (.au (P.map tN)),.ow [fh bs,.au (P.map tN)],.pu (.ci [.str "sound",.fD]),.pu (.au (U.map tI)),v7]:=by rw[vw,cw _6 A];rfl
 have y:oj (g2 jw (g2 az (aa 5) (gC (.int 1))) (gC .fD)) (cj (gC (.bl e_))) gw [.pu _,.pu _,.pu _,.pu _,.ow [fh bs,.au _],.pu (.ci [.str "sound",.fD]),.pu _,v7]=.nx [.pu (jj ns),.pu (.int (m:j_)),.pu (fh bs),.pu (.au (P.map tN)),.ow [fh bs,.au (P.map tN)],.pu _,.pu (.au (U.map tI)),v7]:=rfl;have C:g2 gu (aa 6) (b9 af) [.pu (jj ns),.pu (.int m),.pu (fh bs),.pu (.au (P.map tN)),.ow [fh bs,.au (P.map tN)],.pu (.ci [.str "sound",.fD]),.pu (.au (U.map tI)),v7]=.ok (.bl (U.map tI).isEmpty):=by show ce.of _=_;rw[(n9 (M0 U)).1];rfl
 have B:g2 gu (ah (ae (tab (n+7)) ju) (Pu.am (aa 6) (Pu.am (aa 3) (Pu.am (aa 1) af)))) (g1 j8 (aa 6)) [.pu (jj ns),.pu (.int m),.pu (fh bs),.pu (.au (P.map tN)),.ow [fh bs,.au (P.map tN)],.pu (.ci [.str "sound",.fD]),.pu (.au (U.map tI)),v7]=.ok (.bl c_):=by rw[yb,cw _6 o,bz];show(ce.of ((jn _).map Pu.D.au)).bind _=_;rw[l,f];show ce.of _=_;rw[(q9 (x4 S) (by decide)).1];rfl
 rw[b0,z];dsimp only;rw[b0,y];dsimp only;rw[t6,W2,C,bz];cases (U.map tI).isEmpty
 .rw[B];rfl
 .rfl
end
section
def CB(n:g_)(s:∀b∈bs,jo m b)(v:m<=5)(hb:bs.length<=5)(gP:∀p∈P,lf m p)(I:P.length<=5)(aP:∀c,c<m->∃p∈P,c∈p)(nP:P≠[])(l:∀r∈H,r.length=m)(lH:H.length<=5)(o:H≠[])(J:∀b∈bs,Ig b.1 b.2 (H.map bq) (H.map bq)=e_)(zH:∀p∈P,Ei (H.map bq) p (bq (iT m 0)))(G:iT m 0∉H):
  fe ((a9 (oj (Fs (g2 e8 (g2 az (aa 5) (gC (.int 0))) (gC (.str "rows"))) (Fs (jg (jq (g1 (cf "list") (g2 az (aa 5) (gC (.int 1)))))) (g2 gu (g2 az (aa 5) (gC (.int 1))) (b9 af)))) (cj (gC (.bl e_))) gw)
 (a9 (di (aq 7) (ak (g2 az (aa 5) (gC (.int 1)))) (ZY (n+7)))
 (a9 (oj (g2 e8 (ao (ak (aa 2)) [5] (jg (jq (ah (ae (tab (n+7)) g9) (Pu.am (g2 az (aa 1) (gC (.int 1))) (Pu.am (aa 0) af))))) (a0 0)) (b9 af)) (cj (gC (.bl e_))) gw)
 (fz [7] (cj (g2 e8 (ao (ak (ah (ae (tab (n+7)) gd) (Pu.am (g2 az (aa 5) (gC (.int 1))) (Pu.am (aa 3) af)))) [5] (g2 fj (aa 0) (g2 az (aa 1) (gC (.int 1)))) (a0 0)) (b9 af))))))) [.pu (jj ns),.pu (.int (m:j_)),.pu (fh bs),.pu (.au (P.map tN)),.ow [fh bs,.au (P.map tN)],.pu (.ci [.str "rows",.au (H.map tN)]),.no,.no])=.ok (.bl c_):=by
 obtain⟨R,r1,E,rl,u⟩:=UZ (n+1) (T:=H.map bq) (P:=P) (λt M=>by
  obtain⟨a,j,rfl⟩:=k_.mp M;unfold bq;rw[iD];exact l a j) gP v (by rw[iD];lia) I aP
 rw[<-qf]at u;have y:bq (iT m 0)∉H.map bq:=λh=>by obtain⟨a,j,e⟩:=k_.mp h;exact G (oq e▸j)
 have C:oj (Fs (g2 e8 (g2 az (aa 5) (gC (.int 0))) (gC (.str "rows"))) (Fs (jg (jq (g1 (cf "list") (g2 az (aa 5) (gC (.int 1)))))) (g2 gu (g2 az (aa 5) (gC (.int 1))) (b9 af)))) (cj (gC (.bl e_))) gw [.pu (jj ns),.pu (.int m),.pu (fh bs),.pu (.au (P.map tN)),.ow [fh bs,.au (P.map tN)],.pu (.ci [.str "rows",.au (H.map tN)]),.no,.no]=.nx [.pu (jj ns),.pu (.int m),.pu (fh bs),.pu (.au (P.map tN)),.ow [fh bs,.au (P.map tN)],.pu (.ci [.str "rows",.au (H.map tN)]),.no,.no]:=by
  have c0:g2 e8 (g2 az (aa 5) (gC (.int 0))) (gC (.str "rows")) [.pu (jj ns),.pu (.int m),.pu (fh bs),.pu (.au (P.map tN)),.ow [fh bs,.au (P.map tN)],.pu (.ci [.str "rows",.au (H.map tN)]),.no,.no]=.ok (.bl e_):=by show ce.of _=_;rw[(q9 (d:=.str "rows") ⟨.str "rows",_6,by decide+kernel,iF _⟩ (by decide)).2];rfl
  have Y:jg (jq (g1 (cf "list") (g2 az (aa 5) (gC (.int 1))))) [.pu (jj ns),.pu (.int m),.pu (fh bs),.pu (.au (P.map tN)),.ow [fh bs,.au (P.map tN)],.pu (.ci [.str "rows",.au (H.map tN)]),.no,.no]=.ok (.bl e_):=rfl;have U:g2 gu (g2 az (aa 5) (gC (.int 1))) (b9 af) [.pu (jj ns),.pu (.int m),.pu (fh bs),.pu (.au (P.map tN)),.ow [fh bs,.au (P.map tN)],.pu (.ci [.str "rows",.au (H.map tN)]),.no,.no]=.ok (.bl e_):=by show ce.of _=_;rw[(n9 (Hj H)).1,su,i_ o];rfl
  rw[Fp,W2,c0,bz];rw[W2,Y,bz];rw[U];rfl
 obtain⟨g,L,q⟩:=LS (n+6) v _ _ _ _ _ .no H .no l (.inl _6);have B:di (aq 7) (ak (g2 az (aa 5) (gC (.int 1)))) (ZY (n+7)) [.pu (jj ns),.pu (.int m),.pu (fh bs),.pu (.au (P.map tN)),.ow [fh bs,.au (P.map tN)],.pu (.ci [.str "rows",.au (H.map tN)]),.no,.no]=.nx [.pu (jj ns),.pu (.int m),.pu (fh bs),.pu (.au (P.map tN)),.ow [fh bs,.au (P.map tN)],.pu (.ci [.str "rows",.au (H.map tN)]),.no,g]:=by exact q
 have x:ao (ak (aa 2)) [5] (jg (jq (ah (ae (tab (n+7)) g9) (Pu.am (g2 az (aa 1) (gC (.int 1))) (Pu.am (aa 0) af))))) (a0 0) [.pu (jj ns),.pu (.int m),.pu (fh bs),.pu (.au (P.map tN)),.ow [fh bs,.au (P.map tN)],.pu (.ci [.str "rows",.au (H.map tN)]),.no,g]=.ok (.au ((bs.filter λW=>e_).map Fq)):=by
  refine cm (f:=Fq) (b:=λW=>e_) _6 (by lia) λb i=>?_;have e:=Gz (n+6) (rows:=H.map bq) (Rows.tab (bs:=bs) (λa j=>by
   obtain⟨r,w,rfl⟩:=k_.mp j;unfold bq;rw[iD];exact l r w) (s b i) (by lia))
  rw[Dr,<-qf,J b i]at e;rw[ED,EC,cw _6 e];rfl
 rw[V_.mpr λW W z=>D_ z,nI]at x;have A:oj (g2 e8 (ao (ak (aa 2)) [5] (jg (jq (ah (ae (tab (n+7)) g9) (Pu.am (g2 az (aa 1) (gC (.int 1))) (Pu.am (aa 0) af))))) (a0 0)) (b9 af)) (cj (gC (.bl e_))) gw [.pu (jj ns),.pu (.int m),.pu (fh bs),.pu (.au (P.map tN)),.ow [fh bs,.au (P.map tN)],.pu (.ci [.str "rows",.au (H.map tN)]),.no,g]=.nx [.pu (jj ns),.pu (.int m),.pu (fh bs),.pu (.au (P.map tN)),.ow [fh bs,.au (P.map tN)],.pu (.ci [.str "rows",.au (H.map tN)]),.no,g]:=by have ne:e8 (.au []) (.au [])=a_ _:=(q9 (x4 []) (by decide)).2;rw[Fp,yb,x];show(ce.of (e8 (.au []) (.au []))).then _=_;rfl
 have N:il 7 [.pu (jj ns),.pu (.int (m:j_)),.pu (fh bs),.pu (.au (P.map tN)),.ow [fh bs,.au (P.map tN)],.pu (.ci [.str "rows",.au (H.map tN)]),.no,g]=[.pu (jj ns),.pu (.int m),.pu (fh bs),.pu (.au (P.map tN)),.ow [fh bs,.au (P.map tN)],.pu (.ci [.str "rows",.au (H.map tN)]),.no,g]:=by rcases L with rfl|⟨d,rfl⟩<;>rfl
 have Q:ao (ak (ah (ae (tab (n+7)) gd) (Pu.am (g2 az (aa 5) (gC (.int 1))) (Pu.am (aa 3) af)))) [5] (g2 fj (aa 0) (g2 az (aa 1) (gC (.int 1)))) (a0 0) [.pu (jj ns),.pu (.int m),.pu (fh bs),.pu (.au (P.map tN)),.ow [fh bs,.au (P.map tN)],.pu (.ci [.str "rows",.au (H.map tN)]),.no,g]=.ok (.au ((R.filter λr=> !decide (r∈H.map bq)).map tI)):=by
  refine cm (f:=tI) (b:=λr=> !decide _) ?_ (by lia) λr w=>?_
  .rw[EA,cw _6 u];rfl
  .show ce.of (og (tI r) _)=_;rw[qf,(Ja r _).2];rfl
 have O:g2 e8 (ao (ak (ah (ae (tab (n+7)) gd) (Pu.am (g2 az (aa 5) (gC (.int 1))) (Pu.am (aa 3) af)))) [5] (g2 fj (aa 0) (g2 az (aa 1) (gC (.int 1)))) (a0 0)) (b9 af) [.pu (jj ns),.pu (.int m),.pu (fh bs),.pu (.au (P.map tN)),.ow [fh bs,.au (P.map tN)],.pu (.ci [.str "rows",.au (H.map tN)]),.no,g]=.ok (.bl c_):=by
  rw[yb,Q];show ce.of _=_;rw[(n9 (M0 _)).2,su,i_ (λz=>by
   have:bq _∈R.filter λr=> !decide _:=z_.mpr ⟨((E _).mpr ⟨by unfold bq;rw[iD,lQ],zH⟩),by rw[i_ y];rfl⟩;rw[z]at this;cases this)]
  rfl
 rw[b0,C];dsimp only;rw[b0,B];dsimp only;rw[b0,A];dsimp only;rw[Ax,N,i7,t6,O];rfl
end
def IR(n:g_)(a:b_ j_):ae (tab (n+8)) wt [.au (a.map Pu.D.int)]=.ok (.bl c_):=by
 obtain⟨r0,r1⟩:=ui a 0 5 (by decide);obtain⟨m,T⟩:∃m:g_,1+x8 a 0 5=(m:j_):=⟨(1+x8 a 0 5).toNat,by lia⟩;have h:m<=5:=by lia
 obtain⟨bs,c,y,eb⟩:=Jd (n+3) a 1 (by decide) m (by lia);obtain⟨P,gP,l,x,v,ep⟩:=AC (n+3) a 80 (by decide) h;obtain⟨W,T',H,O,C,Z,ch,keep,g,Q,B⟩:=DE n c (by lia) h (by lia) gP x v;rw[WC (n+7)];show fe (Xm (n+7) [.pu _,.no,.no,.no,.no,.no,.no,.no])=_;unfold Xm;have M:dq 1 (g2 bj (gC (.int 1)) (ah (ae (tab (n+7)) cb) (Pu.am (aa 0) (Pu.am (gC (.int 0)) (Pu.am (gC (.int 5)) af))))) [.pu (jj a),.no,.no,.no,.no,.no,.no,.no]=.nx [.pu (jj a),.pu (.int m),.no,.no,.no,.no,.no,.no]:=by rw[vw,yb,cw _6 (sy (n+5) a 0 5 (by decide) (by decide))];simp[T]
 have L:dq 2 (ah (ae (tab (n+7)) nh) (Pu.am (aa 0) (Pu.am (gC (.int 1)) (Pu.am (aa 1) af)))) [.pu (jj a),.pu (.int m),.no,.no,.no,.no,.no,.no]=.nx [.pu (jj a),.pu (.int m),.pu (fh bs),.no,.no,.no,.no,.no]:=by rw[vw,cw _6 eb];rfl
 have J:dq 3 (ah (ae (tab (n+7)) kq) (Pu.am (aa 0) (Pu.am (gC (.int 80)) (Pu.am (aa 1) af)))) [.pu (jj a),.pu (.int m),.pu (fh bs),.no,.no,.no,.no,.no]=.nx [.pu (jj a),.pu (.int m),.pu (fh bs),.pu (.au (P.map tN)),.no,.no,.no,.no]:=by rw[vw,cw _6 ep];rfl
 have I:de 4 (b9 (Pu.am (g1 iu (aa 2)) (Pu.am (g1 iu (aa 3)) af))) [.pu _,.pu _,.pu (fh bs),.pu (.au _),.no,.no,.no,.no]=.nx [.pu (jj a),.pu (.int (m:j_)),.pu _,.pu _,.ow [fh bs,.au (P.map tN)],.no,.no,.no]:=rfl;generalize f:(if iT m 0∈H then Pu.D.ci _ else .ci _)=d at B;have G:fz [1] (dq 5 (ah (ae (tab (n+7)) zx) (Pu.am (g2 az (aa 4) (gC (.int 0))) (Pu.am (a0 1) (Pu.am (g2 az (aa 4) (gC (.int 1))) af))))) [.pu (jj a),.pu (.int m),.pu (fh bs),.pu (.au (P.map tN)),.ow [fh bs,.au (P.map tN)],.no,.no,.no]=.nx [.pu (jj a),.pu (.int m),.pu (fh bs),.pu (.au (P.map tN)),.ow [fh bs,.au (P.map tN)],.pu d,.no,.no]:=by show dq 5 _ _=_;rw[vw,cw _6 B];rfl
 have c6:g2 e8 (aa 4) (b9 (Pu.am (a0 2) (Pu.am (a0 3) af))) [.pu (jj a),.pu (.int m),.pu (fh bs),.pu (.au (P.map tN)),.ow [fh bs,.au (P.map tN)],.pu d,.no,.no]=.ok (.bl e_):=by show ce.of _=_;rw[(q9 (DH bs P) (by decide)).2];rfl
 have E:fz [2,3] (oj (Fs (jg (jq (g1 (cf "tuple") (aa 5)))) (Fs (g2 e8 (g1 i6 (aa 5)) (gC (.int 2))) (g2 e8 (aa 4) (b9 (Pu.am (a0 2) (Pu.am (a0 3) af)))))) (cj (gC (.bl e_))) gw) [.pu (jj a),.pu (.int m),.pu (fh bs),.pu (.au (P.map tN)),.ow [fh bs,.au (P.map tN)],.pu d,.no,.no]=.nx [.pu (jj a),.pu (.int m),.pu (fh bs),.pu (.au (P.map tN)),.ow [fh bs,.au (P.map tN)],.pu d,.no,.no]:=by
  show oj _ _ _ [.pu _,.pu _,.pu _,.pu _,.ow _,.pu d,.no,.no]=_;have c0:jg (jq (g1 (cf "tuple") (aa 5))) [.pu (jj a),.pu (.int m),.pu (fh bs),.pu (.au (P.map tN)),.ow [fh bs,.au (P.map tN)],.pu d,.no,.no]=.ok (.bl e_):=by rw[<-f];split<;>rfl
  have c1:g2 e8 (g1 i6 (aa 5)) (gC (.int 2)) [.pu (jj a),.pu (.int m),.pu (fh bs),.pu (.au (P.map tN)),.ow [fh bs,.au (P.map tN)],.pu d,.no,.no]=.ok (.bl e_):=by
   have:g1 i6 (aa 5) [.pu (jj a),.pu (.int (m:j_)),.pu (fh bs),.pu (.au (P.map tN)),.ow [fh bs,.au (P.map tN)],.pu d,.no,.no]=.ok (.int 2):=by rw[<-f];split<;>rfl
   rw[yb,this];show ce.of (e8 (.int 2) (.int 2))=_;rw[((q9 (Fg 2) (by decide)).2)];rfl
  rw[Fp,W2,c0,bz];rw[W2,c1,bz];rw[c6];rfl
 rw[b0,M];dsimp only;rw[b0,L];dsimp only;rw[b0,J];dsimp only;rw[b0,I];dsimp only;rw[b0,G];dsimp only;rw[b0,E];dsimp only
 by_cases i:iT m 0∈H
 .rw[iH i]at f;subst f;have u:g2 gu (g2 az (aa 5) (gC (.int 0))) (gC (.str "sound")) [.pu (jj a),.pu (.int m),.pu (fh bs),.pu (.au (P.map tN)),.ow [fh bs,.au (P.map tN)],.pu (.ci [.str "sound",.fD]),.no,.no]=.ok (.bl c_):=by show ce.of _=_;rw[(q9 (d:=.str "sound") ⟨.str "sound",_6,by decide+kernel,iF _⟩ (by decide)).1];rfl
  rw[b0,Fp,u,cx];rw[(Wk (ns:=a) (m:=m) (bs:=bs) (P:=P) n c h y gP v l (λU hU o r q Y=>MT c O gP hU o ch ((g _).mp i) q Y) (v7:=.no))];rfl
 .rw[iG i]at f;subst f;have j:H≠[]:=λz=>by obtain⟨p,s⟩:=d? _ l;obtain⟨w,o,_⟩:=C p s;have A:=p? o;rw[<-Z.len]at A;have:=(g _).mpr (oG A);rw[z]at this;cases this
  have N:=CB (ns:=a) (m:=m) (bs:=bs) (P:=P) n c h y gP x v l (λr q=>Z.w r ((g r).mp q)) Q j (λb hb=>Zl (bs:=bs) (keep b hb) g) (λp s=>W3 C Z g s) i;have u:g2 gu (g2 az (aa 5) (gC (.int 0))) (gC (.str "sound")) [.pu (jj a),.pu (.int m),.pu (fh bs),.pu (.au (P.map tN)),.ow [fh bs,.au (P.map tN)],.pu (.ci [.str "rows",.au (H.map tN)]),.no,.no]=.ok (.bl e_):=by
   have e:gu (.str "rows") (.str "sound")=a_ (.bl e_):=by kernel_rfl
   show ce.of _=_;rw[e];rfl
  rw[b0,Fp,u,cx];exact N
def Zv(a:b_ j_)(b:_7 a<=63):ae (tab 29) wt [.au (a.map Pu.D.int)]=.ok (.bl c_):=IR 21 a
end LK
end
section
namespace LK
open L2 Pu
def fE{b:b_ jB}(h:_7 b=1):∃a,b=[a]:=List.length_eq_one_iff.mp h
def fC{c:b_ jB}(h:_7 c=2):∃a b,c=[a,b]:=by
 obtain _|⟨a,c⟩:=c
 .cases h
 .obtain⟨b,rfl⟩:=fE (_P h);exact⟨a,b,_6⟩
def fW{d:b_ jB}(h:_7 d=3):∃a b c,d=[a,b,c]:=by
 obtain _|⟨a,d⟩:=d
 .cases h
 .obtain⟨b,c,rfl⟩:=fC (_P h);exact⟨a,b,c,_6⟩
def gF{e:b_ jB}(h:_7 e=4):∃a b c d,e=[a,b,c,d]:=by
 obtain _|⟨a,e⟩:=e
 .cases h
 .obtain⟨b,c,d,rfl⟩:=fW (_P h);exact⟨a,b,c,d,_6⟩
def dZ(K:iL)(d:fo):Prop:=∃f g kV h e a ct od i b,sD K mB d.x=a_ (a_ (.ref f))/\K.lookup f=a_ ⟨g,od,.func (lI d.x d.x (ig d.st) (d8 d.st) (bp d.st) .none kV h e i a ct),b⟩/\nD K a d.x=c_/\mC K (.ref f)=c_/\(d.lm=c_->∃c P,a=.ref c/\(c,P,d.x++".<locals>."++"<lambda>")∈Na/\sC K c P=c_)
def dJ{K:iL}{d:fo}{f g kV h e c P ct od j b}(a:sD K mB d.x=a_ (a_ (.ref f)))(l:K.lookup f=a_ ⟨g,od,.func (lI d.x d.x (ig d.st) (d8 d.st) (bp d.st) .none kV h e j (.ref c) ct),b⟩)(i:nD K (.ref c) d.x=c_)(k:mC K (.ref f)=c_)(y:(c,P,d.x++".<locals>."++"<lambda>")∈Na)(u:sC K c P=c_):dZ K d:=⟨_,_,_,_,_,_,_,_,_,_,a,l,i,k,λz=>⟨c,P,_6,y,u⟩⟩
def gS{K:iL}{d:fo}{f h kV i g b ct od j e}(a:sD K mB d.x=a_ (a_ (.ref f)))(l:K.lookup f=a_ ⟨h,od,.func (lI d.x d.x (ig d.st) (d8 d.st) (bp d.st) .none kV i g j b ct),e⟩)(c:nD K b d.x=c_)(k:mC K (.ref f)=c_)(z:d.lm=e_):dZ K d:=⟨_,_,_,_,_,_,_,_,_,_,a,l,c,k,λy=>by rw[z]at y;cases y⟩
def HV{K:iL}(kV c a:jB)(e:f_ o_)(d ct:jB):lv K (lI "__init__" "Fits.__init__" (ig On) (d8 On) (bp On) .none kV c a e d ct) ["self","columns","rows"] []:=by refine .all λf b=>?_;obtain⟨_,_,_,rfl⟩:=fW b;rfl
def YX:∀d∈Ko,Eu d=c_:=by decide+kernel
def WK:∀d∈Ko,Hv d.st d.x:=by
 intro d b;simp only[Ko,mF,uK,_3]at b;obtain rfl|rfl|rfl|rfl|rfl|rfl|rfl|rfl|rfl|rfl|rfl|rfl|rfl|rfl|rfl|rfl|rfl|rfl|rfl|rfl|rfl|rfl|rfl|rfl|rfl|rfl|rfl|rfl|rfl|rfl|rfl|rfl|rfl|rfl|rfl|rfl|rfl|rfl:=b
 all_goals (intro _ _ _ _ _ _ c a;first|(obtain⟨_,rfl⟩:=fE a;rfl)|(obtain⟨_,_,rfl⟩:=fC a;rfl)|(obtain⟨_,_,_,rfl⟩:=fW a;rfl)|(obtain⟨_,_,_,_,rfl⟩:=gF a;rfl))
def OQ{l:_m}{w:mG}{K:iL}{h:C_}{mg:x_->f_ jB}{J:o_}{n:g_}{s:FS}(X:K.In h)(G:h.Ns mB mg)(E:mg "law"=a_ (.ref J))(T:(tab n).fns "law"=a_ s)(Q:s.ms=[e_])(C:∀H:b_ j_,H.length<=63->s.f [.au (H.map D.int)]=.ok (.bl c_))
  {b g:o_} {p q z m i A:jB} {o B:f_ o_} {j:p_ (f_ jB)}
  (hD:∀d∈Ko,dZ K d)
  (hB:∀x∈t8,sD K mB x=a_ d_)
  (fc0_0:sD K mB "Fits"=a_ (a_ (.ref b)))
  (fc0_1:uD K b Str.empty=c_)
  (fc0_2:tF K b=c_)
  (fc0_3:wB K b=c_)
  (fc0_4:nV K (.ref b) "__setattr__"=a_ (a_ (.builtin "object.__setattr__")))
  (fc0_5:nV K (.ref b) "columns"=a_ d_)
  (fc0_6:nV K (.ref b) "rows"=a_ d_)
  (fc0_7:xS K b=c_)
  (fc0_8:nV K (.ref b) "__init__"=a_ (a_ (.ref g)))
  (fc0_9:O! K (.ref g)=c_)
  (fc0_10:mC K (.ref b)=c_)
  (fc0_11:K.lookup g=a_ ⟨p,o,.func (lI "__init__" "Fits.__init__" (ig On) (d8 On) (bp On) .none q z m B i A),j⟩)
  (fc0_12:nD K i "Fits.__init__"=c_):
  ∃I:vT,(∀(s:jP)(v:jB),i! s I ⟨[v],[]⟩ [("_law_script",v)])/\∀base:C_,K.In base->base.Ns mB mg->Bm mg base->ky l.prog w K mg base W8 n J I ["_law_script"] (Te K):=by
 obtain⟨_,_,kV,dc,L,cd,ct,_,an,_,a,l,c,k,_⟩:=hD wt (by simp only[Ko,mF,true_or,or_true]);cases E.symm.trans (_G X G a);have r:∀d∈Ko,DefIn K mg d:=by intro d r;obtain⟨_,_,_,_,_,_,_,_,_,_,a,l,c,k,y⟩:=hD d r;exact PU X G (YX d r) (WK d r) a l c k y
 have O:∀x y,gs x=a_ y->∃t,mg x=a_ (.str y t):=by intro x y e;unfold gs at e;cases e
 have U:∀x∈t8,mg x=d_:=λx N=>PySem.W.mg_none_of X G (hB x N);have Y:XsIn K mg xs:=by
  refine⟨λc n1 n2 h=>?_⟩
  .by_cases u:c="Fits"
   .subst u;cases h;refine λP w base=>⟨b,g,_,_G X G fc0_0,⟨fc0_1,fc0_2,fc0_3,fc0_4⟩,fc0_5,fc0_6,by decide,⟨fc0_7,fc0_8,fc0_9,fc0_10⟩,HV _ _ _ _ _ _,HU fc0_11 fc0_12 (w8 (d:=⟨"__init__",On,[e_,e_,e_],e_⟩) (by decide+kernel)).1 _6 (by decide) (by decide+kernel) ⟨fc0_1,fc0_2,fc0_3,fc0_4⟩ fc0_5 fc0_6⟩
   .simp only[xs,iG u]at h;cases h
 refine⟨lI wt.x wt.x (ig wt.st) (d8 wt.st) (bp wt.st) .none kV dc L an cd ct,λs v=>.of_eq _6,λbase M S bm=>?_⟩;exact QF RS _6 a l c k M bm r O U Y T Q C
end LK
namespace PySem.W.Fast
def Z!:True:=⟨⟩
def tw7777879364699511428:=Z!
def tw17886620888719626427:=Z!
def tw11977371514551726634:=Z!
def tw7541551432454788118:=Z!
def tw4513930004546205032:=Z!
def tw17430398471086840031:=Z!
def tw10080630858705779036:=Z!
def tw6912196005031320080:=Z!
def tw4925983428101191134:=Z!
def tw1698258675447204316:=Z!
def tw8845855250763712123:=Z!
def tw5398262586770495961:=Z!
def tw1001294579634660902:=Z!
def tw14492396591478151573:=Z!
def tw14977243554800273177:=Z!
def tw4985685190479933814:=Z!
def tw12970217499534926587:=Z!
def tw5300457945443338969:=Z!
def tw4423150646991908405:=Z!
def tw9424746800120790608:=Z!
def tw12018295250604167647:=Z!
def tw12641033454325758845:=Z!
def tw10960553609442075799:=Z!
def tw5237781624484464608:=Z!
def tw11793377685401780416:=Z!
def tw15538777121724449030:=Z!
def tw11914904700822446111:=Z!
def tw717299575924899528:=Z!
def tw11393157022911699832:=Z!
def tw12820089652139307187:=Z!
def tw9067151735424890851:=Z!
def tw7787172155585899620:=Z!
def tw10087685497315994549:=Z!
def tw16096881201378897881:=Z!
def tw2132845840423651123:=Z!
def tw15741395459801419347:=Z!
def tw17464198682954027021:=Z!
def tw14482095671880382799:=Z!
def tw8068454578189894073:=Z!
def tw658673017941579608:=Z!
def tw1827319806204281588:=Z!
def tw10272518180688229529:=Z!
def tw9348939893333795541:=Z!
def tw10792144468674458226:=Z!
def tw7257608661126703404:=Z!
def tw9770877031217961592:=Z!
def tw16274639629494060050:=Z!
def tw6808857289523408134:=Z!
def tw17744744146339697744:=Z!
def tw10973704894587802832:=Z!
def tw13995906604463561536:=Z!
def tw6173539942053042999:=Z!
def tw7062471989664774225:=Z!
def tw17231396701390907265:=Z!
def tw4523779261798910679:=Z!
def tw742144953609195307:=Z!
def tw16126901378537287224:=Z!
def tw2070272644370332903:=Z!
def tw676494493514385583:=Z!
def tw11456558571128356273:=Z!
def tw5111099405172850722:=Z!
def tw16186971799030848582:=Z!
def tw12687965190267585708:=Z!
def tw1704608897127431506:=Z!
def tw5660579508732611292:=Z!
def tw7572223988196346247:=Z!
def tw5225006437636807564:=Z!
def tw16445404478539605787:=Z!
def tw14960281196620008289:=Z!
def tw17176047843129012213:=Z!
def tw13045832868896516134:=Z!
def tw2347231478930715435:=Z!
def tw15952249014166789704:=Z!
def tw6270484404377142204:=Z!
def tw4110129238792153528:=Z!
def tw15806797227340310478:=Z!
def tw1612335733592666203:=Z!
def tw18057638607958463799:=Z!
def tw16167173918001863180:=Z!
def tw2731448777053847217:=Z!
def tw7264824653799791844:=Z!
def tw10569692259243090731:=Z!
def tw8645046323656684733:=Z!
def tw171845367476438956:=Z!
def tw16460938363444950994:=Z!
def tw15689401998957798662:=Z!
def tw4415027679155478802:=Z!
def tw8234983027406312254:=Z!
def tw18164996312265712086:=Z!
def tw6388931396376740111:=Z!
def tw4599656412731713855:=Z!
def tw11436838211749107294:=Z!
def tw2266012944196045202:=Z!
def tw17535769844447695765:=Z!
def tw5067119669567614287:=Z!
def tw10896028903975919040:=Z!
def tw2936610675733534816:=Z!
def tw12440584609701499954:=Z!
def tw2067649977589307091:=Z!
def tw13912771282663247303:=Z!
def tw16996109040674641835:=Z!
def tw2212425195799098183:=Z!
def tw14270161859309919284:=Z!
def tw6693777264432239592:=Z!
end PySem.W.Fast
set_option tactic.hygienic true
open PySem PySem.W PyProof.Rows
set_option maxRecDepth 100000 in
set_option maxHeartbeats 0 in
theorem PySem.Challenge.cw_askbook_k16_whole_sound_parts_holds : PySem.Challenge.rw_askbook_k16_whole_sound_parts.Holds := by
 w_on;o_law;k_head;(case hw=>w_witness2)
 k_fill
 refine Pu.aO (l:=PySem.Challenge.rw_askbook_k16_whole_sound_parts) (k:=30) rfl rfl ⟨rfl,by decide,by decide⟩ (by decide) (λw h Y=>PySem.W.km_in_of Y) ?hNt ?hTb ?hFn
 case hNt=>intro w;kernel_rfl
 case hTb=>
  intro w h Y p g
  obtain rfl:=List.mem_singleton.mp g
  exact⟨PySem.W.codeHd_of_K (PySem.W.km_in_of Y) (by kernel_rfl),PySem.W.km_tabs_of Y _ (by decide)⟩
 case hFn=>
  intro w mg j h i G b
  refine' LK.OQ (n:=30) i G b (Pu.VV 29 rfl) rfl LK.Zv ?hD ?hB ?fc0_0 ?fc0_1 ?fc0_2 ?fc0_3 ?fc0_4 ?fc0_5 ?fc0_6 ?fc0_7 ?fc0_8 ?fc0_9 ?fc0_10 ?fc0_11 ?fc0_12
  case hD=>
   intro d f
   simp only[LK.Ko,List.mem_cons,List.not_mem_nil,or_false]at f
   rcases f with rfl|rfl|rfl|rfl|rfl|rfl|rfl|rfl|rfl|rfl|rfl|rfl|rfl|rfl|rfl|rfl|rfl|rfl|rfl|rfl|rfl|rfl|rfl|rfl|rfl|rfl|rfl|rfl|rfl|rfl|rfl|rfl|rfl|rfl|rfl|rfl|rfl|rfl
   all_goals first
    |(refine' LK.gS ?a ?l ?c ?k rfl;(case a=>k_is);(case l=>k_is);(case c=>k_is);(case k=>k_is))
    |(refine' LK.dJ ?a ?l ?c ?k ?y ?u;(case a=>k_is);(case l=>k_is);(case c=>k_is);(case k=>k_is);(case y=>exact List.Mem.head _);(case u=>kernel_rfl))
  case hB=>
   intro x e
   simp only[Pu.t8,List.mem_cons,List.not_mem_nil,or_false]at e
   rcases e with rfl|rfl|rfl|rfl|rfl|rfl|rfl|rfl|rfl|rfl|rfl|rfl|rfl|rfl|rfl|rfl|rfl|rfl|rfl|rfl
   all_goals k_is
  (case fc0_0=>k_is)
  (case fc0_1=>k_is)
  (case fc0_2=>k_is)
  (case fc0_3=>k_is)
  (case fc0_4=>k_is)
  (case fc0_5=>k_is)
  (case fc0_6=>k_is)
  (case fc0_7=>k_is)
  (case fc0_8=>k_is)
  (case fc0_9=>k_is)
  (case fc0_10=>k_is)
  (case fc0_11=>k_is)
  (case fc0_12=>k_is)
end
