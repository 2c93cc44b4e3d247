import PyProof.Rows.All
import Wide.All
import OpenK.AllK
import Wide.FinOn
import Lean
import PyProof.EqAt
import PyProof.EqKinds
import PyProof.TupleCall
import KE.KTryMore
import KE.KIsNot
import PyProof.ExcArgsOwn
import PyProof.ExcAttrAll.ValueError
import KE.KDictLaws
import KE.KDictList
import KE.KDictOf
import PyProof.AttrMiss
import PyProof.SetScanFacts
import PyProof.SetKind
import PyProof.ZipIter
import PyProof.WalkInts
import KE.KMinKey
import KE.KIntText
import KE.KRevIter
import PyProof.Draws
import PyProof.DictUpdate
import PySem.Challenge.RW_askbook_k21_askings_refused
import KE.RegKTryMore
set_option Elab.async false
set_option linter.all false
set_option maxRecDepth 100000
set_option maxHeartbeats 4000000
set_option tactic.hygienic false
open PySem renaming wpAny_bind->aA,Value->aC,wpAny_pure->aD,Shared->aE,sizeLine->aG,wpAny->aP,starEach->aU,Program->aV,model->aW,World->bP,Around->bT,wpAny_field->bU,wpAny_setField_rec->bZ,wpAny_mono->cA,mainGlobals->cD,compareOp->cI,wpAny_callSpecial?_slot->cJ,wpAny_holding->cK,wpAny_call_entry->cL,cLine->cP,wpAny_newObj_type->cR,wpAny_seqItems->cV,rawInt->cX,sysModules->dD,wpAny_truthy_bool->dG,wpAny_dictEntries->dI,backTo->dW,Scope->eL,wpAny_attempt->eO,swapsWith->eR,sizeLine_eq->eS,bootBuiltins->eX,pyNext->eY,FuncData->fA,call_meets->fC,wpAny_notOrdered_dict->fK,wpAny_isInstance->fL,wpAny_Call_Name_kw->fM,wpAny_typeNameOfWhole_itemiter->fO,Keyword->fP,binaryOp->fS,wpAny_typeNameOfWhole_keyiter->fU,foldedSetIterable->fW,wpAny_dictEpoch->gG,codeAny_builtin->gJ,NameKind->gK,mem_of_lookup->gL,PyData->gN,behindInMarks->gO,attributeBase->gQ,plainId_quiet->gR,wpAny_rule->gV,wpAny_setField->gW,codeAny->gX,wpAny_binaryOp_repeat_ref->gZ,wpAny_typeNameOf_itemiter->hG,wpAny_passesOwn->hJ,keywordEach->iA,wpAny_pyIter_list->iD,wpAny_typeNameOf_keyiter->iI,wpAny_forIn_list->iK,wpAny_letGo->iQ,call_meetsIn->iT,wpAny_execs_nil->iU,fresh->iV,wpAny_loadPart'->iX,assignEach->jH,typeIs_int->jJ,firstArgMember->jQ,IsItemIter->jR,wpAny_tryCatch->jS,cellsFrom->jT,Operator->jZ,wpAny_specialOf->kL,wpAny_updateSeq->kN,wpAny_tupleItemsOf->kP,builtinsNs->kQ,getattributeRaised->kS,PassesOwn->kU,sliceBounds->kY,wpAny_Call_method0_late->kZ,codeAny_mono->lD,backToKw->lG,wpAny_newTuple->lK,atKey_none_of_get->lL,wpAny_pyIter_enum->lM,wpAny_nextOf_list_item->lN,wpAny_isOneOf_itemiter->lP,wpAny_typeOf->lR,isSubtype_tuple_tuple->lV,isInstance->lX,DictEntry->mE,holding->mK,relabel->mL,CmpOp->mR,wpAny_of_eq->mS,ZipApart->mV,wpAny_updateSeq_pair->mW,letOwnedTupleGo->mY,evalArgs_none->nC,storedH->nG,notedBy->nH,wpAny_letOwnedTupleGo_items->nJ,noteFrame->nN,entryOfKey->nP,typeLookup->nQ,wpAny_fieldsOf->nS,isSubtype_stop->nT,IsEnum->nU,field->nV,wpAny_Call_method->oE,argBest->oK,IsPair->oR,wpAny_onRaise->oS,Comprehension->oU,dictSetHashed->oV,wpAny_execs_cons->oX,noFill_tuple_add->oZ,atKey->pA,setField->pB,wpAny_pyIter_zip->pG,pairTrees_length->pI,IsTupleKey->pK,concat_meets->pL,size_of_entries->pS,getAttr?->pW,richCompare->pX,eqIsQuiet->pZ,lastMarks->qA,valueAt->qB,callerA->qC,pushCells->qD,seqItems?->qF,Addr->g_,Str->k_,Heap->r_,Stmt->s_,Pos->v_,Builtin->z_,Obj->D_,eval->I_,Env->T_,Meets->_g,Model->_q,Result->_G,Reads->_M,Within->_O,HeapKind->_Y,recursionLimit->d?,wpAny_call->e?,wpAny_newFunctionEnv_cells->g?,typeOf->i?,fitsIndex_both->j?,newFunctionEnv->k?,dictSetDefault->n?,newTuple->o?,wpAny_letOwnedTupleGo_enum->p?,callType_codes->q?,seq_tuple_add->C?,wpAny_standAt->D?,wpAny_comprehension_free->E?,wpAny_handled->K?,IsItemIterOut->L?,ExceptHandler->N?,bindL->O?,bindC->P?,seqIndex?->Q?,setFlight->S?,IsEnumOut->Y?,Tok->Z?,pyIter->a!,BindsTo->d!,richCompare_meets_room->o!,seqSlot_of->q!,newExc->y!,callType_new->A!,codeAny_call_function->C!,builtinLookup_eq_fast->F!,wpAny_isOneOf_keyiter->G!,wpAny_nextOf_list_end->H!,GenState->M!,Sem->N!,wpAny_raiseAttrError->R!,wpAny_updateDictKeys->U!,storedH_new->V!,wpAny_throw->W!,wpAny_pyIter_keyiter->X!,loadIfAlive->_3
open PySem.Heap renaming get?_push_of_some->aB,get?_push_size->aI,lt_size->aM,SameBut->bN,size_push->bX,get?_update_other->cF,get?_update_self->dR,ExtBut->lB,get?_none_of_le->mP,size_update->pC,get?_update_ne->H?,IsListIter->_0
open PySem.W renaming mg_of->aF,Frag->aK,exmOne->aS,findIn->bW,subIn->cH,keepIn->cT,fnOf->cY,excIn->dH,nsIn->dM,emptyDict->eJ,kitOne->eN,codeIn->fB,kia_one->fI,kitMeta->fJ,instObj->fZ,kitCls->iN,callWith_K->kR,hasDictIn->lC,cellsFrom_some->lE,plainGet->lZ,mroIn->mM,tabObj->nY,methodObj->oA,plainOver->oB,Looks->oO,codeHdIn->pJ,takerIn->pP,makesIn->pQ,OpenLaw->_d,lookIn->_k,notCls->_m,clsIn->_t,looks_findIn->_H,findObj->_P,kdu_collect->_W,codeRec_of->f?,kitx_dict->t?,specialIn->u?,handedIn->B?,kcp_self->M?,takesIn->T?,kas_place->V?,InstAt->b!,CodeHd->n!,kas_rev->u!,KdlSrc->z!,noTabs->B!,isFn->O!,kas_desc->S!
open Bool renaming and_eq_true->aH,or_eq_true->dN,not_true->iF,not_eq_true'->lJ,true->d_,false->e_,false_eq_true->m_,false_ne_true->p_,and_false->_A,or_eq_false_iff->w?
open Nat renaming le_refl->aL,ne_of_lt->bE,lt_of_lt_of_le->bM,le_trans->cB,ne_of_gt->cE,zero_le->cM,lt_irrefl->cQ,le_of_eq->eZ,le_add_right->gS,le_succ->hW,lt_succ_self->iM,le_of_not_lt->mC,le_antisymm->nB,lt_succ_of_lt->oH,add_assoc->oM,mul_comm->pN,lt_trans->pO,le_add_left->pU,add_sub_cancel_left->_T,le_of_lt->b?,lt_of_succ_lt_succ->l?,lt_of_le_of_lt->l!,lt_or_gt_of_ne->t!,succ_ne_self->_4
open List renaming length->_7,getElem?_set_ne->aN,getElem?_set_self->aQ,length_cons->aR,replicate->aT,size_toArray->aX,length_map->bB,getElem?_eq_getElem->bF,mem_cons_self->bI,mem_cons_of_mem->bJ,map_cons->bK,length_set->bL,all_cons->bO,length_append->bS,getElem?_map->bY,drop_eq_getElem_cons->cU,lookup_cons->dA,mem_append_right->dB,length_replicate->dC,getElem?_cons_succ->dE,cons_lt_cons_iff->dS,getElem?_append_right->dX,append_nil->dZ,getElem?_append_left->eD,mem_of_getElem?->eT,not_mem_nil->eU,range->eW,replicate_succ->fH,mem_cons->fR,length->fT,getElem?_cons_zero->fX,length_nil->gD,find?_cons->hU,flatten_cons->iC,foldl->iS,forIn_cons->iW,any_cons->iY,getElem?_eq_none->jB,nodup_append->jE,mem_append_left->jG,lookup->jI,forIn_nil->jK,getD_eq_getElem?_getD->jN,length_drop->jU,drop_length->jV,filterMap_cons->jX,nil_append->kM,append_assoc->lH,of_mem_zip->mZ,map_nil->nF,map_map->nI,nodup_nil->nR,ext_getElem?->oI,lt_trans->oP,length_take->oY,cons_append->pF,map_append->pT,getElem?_eq_some_iff->i_,mem_cons->o_,nodup_cons->G_,all_eq_true->J_,mem_singleton->N_,mem_append->O_,isEmpty_iff->Q_,pairwise_iff_getElem->R_,mem_filterMap->V_,length_eq_zero_iff->X_,mem_map->Y_,mem_filter->Z_,mem_range->_a,pairwise_cons->_c,lt_irrefl->_D,drop_of_length_le->_U,toArray->_V,getElem?_of_mem->y?,map_congr_left->F?,mem_map_of_mem->J?,forIn_toArray->X?,length_range->i!,nodup_append->j!,filter_cons->D!,ext_getElem->E!,zipIdx_cons->I!,range'_succ->L!,zipIdx_nil->_1
open Option.some renaming inj->aZ,injEq->_L
open PySem.PyData renaming canLayAll0->bA,depthAll->cN,eqv->cO,int->gF,depth->iE,canLay0->jO,eqvAll->mO,strOk->_N
open Option renaming bind_eq_some_iff->bC,map_eq_some_iff->lT,isSome_map->oC,bind_some->pE,some->a_,none->c_,map_eq_some_iff->x_,bind_eq_some_iff->B_,isSome_iff_exists->E_,isSome_some->s?,isNone_some->z?,getD_none->R?,map_some->k!
open PySem.Value renaming ref->bH,none->bV,bool->iR,type->jF,notImplemented->jM,builtin->mJ,int->nM,str->oW,isStrOf->_5
open PySem.Builtin.SmallTypes renaming ownedTupleIsFree->bQ,nextOf->bR,ownedTupleHandOut->eI
open Array renaming getElem?_eq_getElem->cC,length_toList->eE,getElem?_toList->eK,forIn_toList->nO,perm_iff_toList_perm->_u,getElem?_eq_none->_Q,toArray_toList->r?,toList_inj->w!
open PySem.SeqAt renaming shaped->cG,canLay_of_shaped->fE,readOf->jW,readsAll_map->G?,items_eqAt->p!
open False renaming elim->cS
open Ne renaming symm->cW
open PySem.F renaming plainAttrs_dict->cZ,plainAttrs_list->dF,slot_dict_setdefault->dO,slot_dict_itemiterator_next->fV,slot_int_rmul->gA,type_dict_setdefault->gE,slot_dict_keyiterator_next->gH,slot_zip_next->gI,plain_min_loop->gU,slot_dict_items->iP,slot_enumerate_next->jC,args_tuple_add_2->kA,slot_list_append->kB,type_list_append->kC,slot_list_extend->kE,type_list_extend->kF,entry_tuple_add->kX,slot_tuple_add->lF,args_int_rmul_2->lI,args_zip_next_1->lO,args_dict_itemiterator_next_1->lU,slot_dict_get->lW,entry_int_rmul->mB,args_dict_setdefault_3->mD,args_dict_keyiterator_next_1->mF,entry_zip_next->mG,entry_dict_itemiterator_next->mH,entry_dict_setdefault->mT,entry_dict_keyiterator_next->mU,fills_int_mul->nA,entry_min_loop->pH,excBase_ValueError->_n,args_dict_items_1->_p,entry_dict_items->_v,slot_dict_values->_w,slot_dict_update->_y,args_dict_get_3->_z,slot_list_index->_B,slot_list_count->_C,type_dict_items->_E,entry_dict_get->_I
open PySem.Builtin.Tuple renaming tupleHashOf->dJ,tupleExact->iH,tupleTooMany->_b
open PySem.Builtin.List renaming listTooLong->dP
open PySem.Heap.SameBut renaming update->dQ
open PyProof.Rows renaming callWith_type1->dU,IsTupIter->fY,IsTup->iJ,room_in_shaped->jL,slot_tupleiter_next->jY,boot_tuple->lA,AllBare->nE,iter_tuple->nW,envOfC->oN,seqObj->oQ,boot_isinstance->pR,lt_int->_e,boot_list->_h,boot_dict->_i,boot_int->_l,listUpdate_at->I?,subscriptTail_builtinR->g!,IntsAre->h!,seqEpoch_at->T!,entry_tupleiter_next->Y!
open PySem.Around renaming under_plainId->dY,under->_K
open PySem.Paired renaming length->eA
open PySem.Calls renaming callWith_builtin->eB,spliced_cons->eQ,evalArgs_plain->iB,spliced_nil->jD,Name_function_global->_s,Constant_str->A?
open True renaming intro->eF
open PySem.NameKind renaming cell->eM,free->fQ
open PySem.Builtin.Dict_items renaming ownsTuple->eP,ownedTupleFields->kG,ownedTupleIsFree->kI,pairFromOwner->lQ,dictOf->J!,newIterator->K!
open PySem.Builtin.Dict renaming updateFrom->eV,showsAll->gY,addKeywords->kJ,selfAndRest->kK,pairItems->lS,mergeDict->_j
open PySem.Str renaming ofString->fF
open Int renaming toNat_natCast->fG,ofNat->iO,emod_lt_of_pos->nZ,emod_nonneg->pV,natCast_nonneg->v!
open PySem.Obj renaming data_mapFields->fN,mapFields->iZ,isFreed_of_fields->jA,data_mapDictKeys->jP,cls_mapFields->oG,mapSeq->pM,isFreed_of_dict->W?
open ForInStep renaming yield->hV
open PySem.AutoSeq1 renaming wpAny_loadPart'->iG,sub_tuple_tuple->_o
open PySem.Shared renaming TypeIs->kH,heap->oJ
open PySem.Builtin.Str renaming occurrences->kW
open PySem.Data renaming cell->lY,fields->mQ,seq->v?
open Sum renaming inr->mI,inl->nD
open PySem.Builtin.Builtins renaming bindParams->nL
open PUnit renaming unit->nX
open List.Pairwise renaming nil->oF
open PySem.W.Looks renaming ld->pD
open ToString renaming toString->pY
open _root_ renaming rfl->_6,List->b_,Option->f_,Nat->h_,decide_eq_true_eq->j_,Bool->l_,Int->n_,Array->q_,decide_eq_false->t_,absurd->u_,beq_eq_false_iff_ne->w_,of_decide_eq_true->y_,if_false->A_,congrArg->C_,String->F_,decide_eq_true->H_,if_true->K_,False->L_,decide_eq_false_iff_not->M_,DecidableEq->P_,or_false->S_,beq_self_eq_true->U_,beq_iff_eq->W_,Unit->_r,True->_Z
open Decidable renaming isFalse->_x
open Nat.succ renaming inj->_F
open PySem.EntryCells renaming newEntry->_J
open PySem.Code renaming isFrame->_R
open PySem.Heap.DictOf renaming new->_S
open PySem.PassesOwn renaming leaving->_X
open Function renaming comp_def->m?
open PyProof.Rows.SortSt renaming mk'->x?
open PySem.Value.ref renaming inj->U?
open PyProof.Rows.IsTup renaming new->e!
open Std renaming lt_of_le_of_ne->x!
open Min renaming min->P!
open MonadExcept renaming tryCatch->_2
abbrev aJ.{u}:=@if_neg.{u}
abbrev aO.{u}:=@if_pos.{u}
set_option bootstrap.genMatcherCode false
set_option compiler.extract_closed false
set_option compiler.maxRecSpecialize 0
noncomputable section
local macro_rules|`(tactic|cases $x:ident)=>`(tactic|first|contradiction|(replace $x:ident:=Option.some.inj $x;subst $x:ident)|(injection $x with q r;subst q r)|(injection $x with q;subst q)|subst $x:ident|cases ($x))
open _root_ renaming autoParam->Q!
open PySem PySem.Spec PyProof.Rows
theorem Qx0(_:0=0:=by first|exact .inl _6|exact .inr _6|assumption):True:=⟨⟩
def Q0!:=Qx0._auto_1
theorem Qx1(_:0=0:=by decide):True:=⟨⟩
def Q1!:=Qx1._auto_1
theorem Qx2(_:0=0:=by rfl):True:=⟨⟩
def Q2!:=Qx2._auto_1
theorem Qx3(_:0=0:=by intro _;rfl):True:=⟨⟩
def Q3!:=Qx3._auto_1
theorem Qx4(_:0=0:=by with_unfolding_all rfl):True:=⟨⟩
def Q4!:=Qx4._auto_1
set_option genInjectivity false
set_option genSizeOf false
namespace L2
def qg:b_ k_:=["many"]
end L2
namespace L2
abbrev cj:=Sum n_ k_
noncomputable def wy:cj->aC->l_
 |.inl k,v=>Value.isInt k v
 |.inr x,v=>_5 x v
noncomputable def PY(w:bP):cj->n_
 |.inl k=>hashInt k
 |.inr x=>hashStr w x
def b9:∀{k:cj}{v:aC},wy k v=d_->(∃i t,k=nD i/\v=nM i t)\/(∃x t,k=mI x/\v=oW x t)
 |.inl i,v,h=>by obtain⟨t,e⟩:=Value.isInt_shape (k:=i) (v:=v) h;exact .inl ⟨i,t,_6,e⟩
 |.inr x,v,h=>by obtain⟨t,e⟩:=Value.isStrOf_shape (x:=x) (v:=v) h;exact .inr ⟨x,t,_6,e⟩
def O7(i:n_)(t:Z?):wy (.inl i) (.int i t)=d_:=by simp[wy,Value.isInt]
def O8(x:k_)(t:Z?):wy (.inr x) (.str x t)=d_:=by simp[wy,_5]
def CG(a b:n_):decide ((nD a:cj)=nD b)=(a==b):=by
 by_cases e:a=b
 .subst e;simp
 .have h:¬(nD a:cj)=nD b:=λq=>e (Sum.inl.inj q);rw[t_ h];exact(w_.mpr e).symm
def CB(a b:k_):decide ((mI a:cj)=mI b)=decide (a=b):=by
 by_cases e:a=b
 .subst e;simp
 .have h:¬(mI a:cj)=mI b:=λq=>e (Sum.inr.inj q);rw[t_ h,t_ e]
def CF(a:n_)(b:k_):decide ((nD a:cj)=mI b)=e_:=t_ (λq=>nomatch q)
def CC(a:k_)(b:n_):decide ((mI a:cj)=nD b)=e_:=t_ (λq=>nomatch q)
def ao(c:aV)(w:bP):PySem.KeyKind c w cj where
 is:=wy
 hash:=PY w
 inj:=λv a b m g=>by
  rcases b9 m with⟨i,t,rfl,rfl⟩|⟨x,t,rfl,rfl⟩
  .rcases b9 g with⟨j,u,rfl,e⟩|⟨y,u,rfl,e⟩
   .injection e with d _;rw[d]
   .exact nomatch e
  .rcases b9 g with⟨j,u,rfl,e⟩|⟨y,u,rfl,e⟩
   .exact nomatch e
   .injection e with d _;rw[d]
 byValue:=λk v h=>by rcases b9 h with⟨i,t,rfl,rfl⟩|⟨x,t,rfl,rfl⟩<;>rfl
 pyHash:=λf h=>by
  rcases b9 f with⟨i,t,rfl,rfl⟩|⟨x,t,rfl,rfl⟩
  .exact wpAny_pyHash_int h
  .exact wpAny_pyHash_str h
 eqBool:=λl f h=>by
  rcases b9 l with⟨i,t,rfl,rfl⟩|⟨x,t,rfl,rfl⟩
  .rcases b9 f with⟨j,u,rfl,rfl⟩|⟨y,u,rfl,rfl⟩
   .rw[CG]at h;exact wpAny_eqBool_int h
   .rw[CF]at h;exact SeqAt.EqAt.int_str i t y u _ _ _ _ h
  .rcases b9 f with⟨j,u,rfl,rfl⟩|⟨y,u,rfl,rfl⟩
   .rw[CC]at h;exact SeqAt.EqAt.str_int x t j u _ _ _ _ h
   .rw[CB]at h;exact wpAny_eqBool_str h
 «strs»:=λk x t v h=>by
  rcases b9 h with⟨i,u,rfl,e⟩|⟨y,u,rfl,e⟩
  .exact nomatch e
  .injection e with d _
   subst d;cases v<;>rfl
def Ge(a:aV)(w:bP)(i:n_)(t:Z?):(ao a w).is (.inl i) (.int i t)=d_:=O7 i t
def Gf(a:aV)(w:bP)(x:k_)(t:Z?):(ao a w).is (.inr x) (.str x t)=d_:=O8 x t
abbrev NK:=Sum cj (b_ cj)
abbrev ah:=b_ NK
def Gh(a:aV)(w:bP)(h:r_):NK->aC->Prop
 |.inl k,v=>(ao a w).is k v=d_
 |.inr c,v=>∃b,v=.ref b/\pK (ao a w) h c b
def hZ(a:aV)(w:bP)(h:r_):ah->b_ aC->Prop
 |[],b=>b=[]
 |k::r,b=>∃v t,b=v::t/\Gh a w h k v/\hZ a w h r t
def il(c:aV)(w:bP)(h:r_)(d:ah)(a:g_):Prop:=∃o b n,h.get? a=a_ o/\o.cls=.type "tuple"/\o.data=.seq b n/\hZ c w h d b.toList
section
variable{prog:aV}{w:bP}
def Tf{h:r_}:∀{x y:NK}{v:aC},Gh prog w h x v->Gh prog w h y v->x=y
 |.inl a,.inl b,v,f,d=>by rw[(ao prog w).inj v a b f d]
 |.inl a,.inr g,v,f,⟨b,e,_⟩=>by subst e;exact u_ ((ao prog w).byValue _ _ f) (by intro z;cases z)
 |.inr xs,.inl b,v,⟨c,e,_⟩,d=>by subst e;exact u_ ((ao prog w).byValue _ _ d) (by intro z;cases z)
 |.inr xs,.inr g,v,⟨b,e,q⟩,⟨c,j,i⟩=>by subst e;cases j;rw[q.inj i]
theorem hZ.inj{h:r_}:∀{x y:ah}{c:b_ aC},hZ prog w h x c->hZ prog w h y c->x=y
 |[],[],_,_,_=>rfl
 |[],_::_,c,i,⟨v,t,e,_⟩=>by rw[show c=[]from i]at e;cases e
 |_::_,[],c,⟨v,t,e,_⟩,f=>by rw[show c=[]from f]at e;cases e
 |a::x,b::y,c,⟨v,t,e,i,f⟩,⟨l,m,j,g,d⟩=>by subst e;cases j;rw[Tf i g,hZ.inj f d]
def Kl{h a:r_}{d:g_}{o:D_}{es i}(f:h.get? d=a_ o)(g:o.data=.dict es i)(c:bN d h a):∀{k:NK}{v:aC},Gh prog w h k v->Gh prog w a k v
 |.inl k,v,e=>e
 |.inr j,v,⟨b,e,q⟩=>⟨b,e,q.keeps f g c⟩
theorem hZ.keeps{h i:r_}{d:g_}{o:D_}{es m}(f:h.get? d=a_ o)(g:o.data=.dict es m)(c:bN d h i):∀{b:ah}{a:b_ aC},hZ prog w h b a->hZ prog w i b a
 |[],_,e=>e
 |_::_,_,⟨v,t,e,l,j⟩=>⟨v,t,e,Kl f g c l,hZ.keeps f g c j⟩
def oq(w:bP)(prog:aV):NK->n_
 |.inl k=>(ao prog w).hash k
 |.inr a=>tupleKeyHash (ao prog w) a
noncomputable def Mt:NK->h_
 |.inl _=>1
 |.inr a=>_7 a+1
def u4(k:ah):h_:=(k.map Mt).sum
variable{A:bT}{E:aC->aE->Prop}{s:aE}
def P0{k:NK}{v:aC}{Q:n_->aE->Prop}(c:A.units<cP)(a:Gh prog w s.1 k v)(h:Q (oq w prog k) {s with toks:=s.toks+Mt k}):aP (aW prog w) A (pyHash v) Q E s:=by
 cases k with
 |inl k=>exact(ao prog w).pyHash a h
 |inr d=>obtain⟨b,rfl,q⟩:=a;exact wpAny_pyHash_tuple c q h
def P1{d:ah}{a:g_}{Q:n_->aE->Prop}(C:A.units+4<cP)(r:il prog w s.1 d a)(h:Q (reduceHash (dJ (d.map (oq w prog)))) {s with toks:=s.toks+(u4 d+1)}):
  aP (aW prog w) A (pyHash (.ref a)) Q E s:=by
 obtain⟨o,p,n,q,z,y,u⟩:=r;have l:s.TypeIs (.ref a) "tuple":=⟨o,q,z⟩;unfold pyHash
 first|unfold pyHashByItsType|skip
 first|refine aA (wpAny_cRoomFor_or (.inr (by lia)) ?_)|skip
 refine aA (kL l F.slot_tuple_hash.lookup ?_);show aP _ _ (if(a_ (mJ "tuple.__hash__")==a_ bV)=d_ then _ else _) Q E s;rw[aJ (by rw[beq_builtin_none];exact p_)];refine aA (kL l F.slot_tuple_hash.lookup ?_);show aP _ _ (callSpecialIfBoundUnlessNone? (.ref a) "__hash__" _>>=_) Q E s;refine aA (wpAny_callSpecialIfBoundUnlessNone?_slot l F.slot_tuple_hash (cL F.slot_tuple_hash l F.entry_tuple_hash ?_ (F.args_tuple_hash_1 _)));show aP _ _ (Builtin.Tuple.tupleItemsOf (.ref a)>>=_) _ _ s;refine aA (kP q y ?_);refine aA ?_;rw[<-nO];refine iK _
  (λbc (b:q_ n_) m=>∃done left,d=done++left/\hZ prog w s.1 left bc/\b.toList=done.map (oq w prog)/\m={s with toks:=s.toks+u4 done})
  _ ?_ ?_ _ _ ⟨[],d,_6,u,_6,_6⟩
 .rintro x bc b m ⟨done,left,rfl,i,j,rfl⟩
  cases left with
  |nil=>cases (show x::bc=[]from i)
  |cons k c=>
   obtain⟨v,t,e,B,f⟩:=i;cases e;refine aA (P0 (by show A.units+_<cP;lia) B ?_)
   first
    |exact aD ⟨done++[k],c,by simp,f,by simp[j],by simp[u4,oM]⟩
    |exact aA (aD (aD ⟨done++[k],c,by simp,f,by simp[j],by simp[u4,oM]⟩))
 .rintro b m ⟨done,left,rfl,i,j,rfl⟩
  cases left with
  |cons k c=>obtain⟨v,t,e,_⟩:=i;cases e
  |nil=>
  rw[dZ]at h;show aP _ _ (retInt (dJ b.toList)) _ _ _;rw[j];refine wpAny_ret_mkInt ?_;show aP _ _ (if(decide (-(2:n_)^63<=dJ (done.map (oq w prog)))&&decide (dJ (done.map (oq w prog))<2^63))=d_ then _ else _) Q E _;unfold reduceHash at h
  by_cases g:(decide (-(2:n_)^63<=dJ (done.map (oq w prog)))&&decide (dJ (done.map (oq w prog))<2^63))=d_
  .rw[aO g];rw[aO g]at h;exact aD (by simpa[oM]using h)
  .rw[aJ g];rw[aJ g]at h;exact aA (gV (aD (by simpa[oM]using h)))
def P2{j:b_ cj}{a:g_}{n:h_}{Q:l_->aE->Prop}(g:pK (ao prog w) s.1 j a)(h:Q d_ s):aP (aW prog w) A (pZ (n+1) (.ref a)) Q E s:=by
 have i:=g.typeIs;obtain⟨o,c,n,l,_,p,m⟩:=g;unfold pZ;refine aA (kL i F.slot_tuple_eq.lookup ?_);show aP _ _ (lX (.ref a) (.type "tuple")>>=_) _ _ s;refine aA (fL i lV ?_);simp only[iF,m_,A_];refine aA (cV l p ?_);refine aA ?_;show aP _ _ (forIn c _ _) _ _ s;rw[<-nO];refine iK _ (λbc r d=>r.1=c_/\d=s/\∀v∈bc,carriedByValue v=d_) _ ?_ ?_ _ _ ⟨_6,_6,m.byValue⟩
 .rintro v bc r d ⟨f,rfl,b⟩
  rw[eqIsQuiet_byValue _ (b v bI)];refine aA (aD ?_);simp only[iF,m_,A_];exact aD ⟨_6,_6,λu e=>b u (bJ _ e)⟩
 .rintro⟨x,q⟩ d ⟨f,rfl,_⟩
  simp only at f;subst f;exact aD h
def Ux{l:ah}{a:g_}{Q:l_->aE->Prop}(y:il prog w s.1 l a)(h:Q d_ s):aP (aW prog w) A (pZ 8 (.ref a)) Q E s:=by
 obtain⟨o,c,n,m,C,B,z⟩:=y;have u:s.TypeIs (.ref a) "tuple":=⟨o,m,C⟩;unfold pZ;refine aA (kL u F.slot_tuple_eq.lookup ?_);show aP _ _ (lX (.ref a) (.type "tuple")>>=_) _ _ s;refine aA (fL u lV ?_);simp only[iF,m_,A_];refine aA (cV m B ?_);refine aA ?_;show aP _ _ (forIn c _ _) _ _ s;rw[<-nO];refine iK _ (λbc r f=>r.1=c_/\f=s/\∃left,hZ prog w s.1 left bc) _ ?_ ?_ _ _ ⟨_6,_6,l,z⟩
 .rintro v bc r f ⟨i,rfl,left,p⟩
  cases left with
  |nil=>cases (show v::bc=[]from p)
  |cons k g=>
   obtain⟨L,t,e,x,j⟩:=p;cases e;refine aA ?_;have G:aP (aW prog w) A (pZ 7 v) (λb d=>b=d_/\d=f) E f:=by
    cases k with
    |inl k=>rw[eqIsQuiet_byValue _ ((ao prog w).byValue _ _ x)];exact aD ⟨_6,_6⟩
    |inr J=>obtain⟨b,rfl,q⟩:=x;exact P2 q ⟨_6,_6⟩
   refine cA G (λb d ⟨I,H⟩=>?_) λZ Z q=>q;subst I H;simp only[iF,m_,A_];exact aD ⟨_6,_6,g,j⟩
 .rintro⟨N,M⟩ f ⟨i,rfl,_⟩
  simp only at i;subst i;exact aD h
def Bw{k:cj}{v:aC}{b:g_}{d:q_ aC}{Q:l_->aE->Prop}(a:A.units<cP)(e:wy k v=d_)(c:s.1.IsTuple b d)(h:Q e_ s):aP (aW prog w) A (eqBool v (.ref b)) Q E s/\aP (aW prog w) A (eqBool (.ref b) v) Q E s:=by
 rcases b9 e with⟨i,t,rfl,rfl⟩|⟨x,t,rfl,rfl⟩
 .exact⟨SeqAt.EqAt.int_tuple i t c a _ _ _ _ h,SeqAt.EqAt.tuple_int i t c a _ _ _ _ h⟩
 .exact⟨SeqAt.EqAt.str_tuple x t c a _ _ _ _ h,SeqAt.EqAt.tuple_str x t c a _ _ _ _ h⟩
def Ov{x y:NK}{u v:aC}{Q:l_->aE->Prop}(j:A.units<cP)(g:Gh prog w s.1 x u)(f:Gh prog w s.1 y v)(h:Q (decide (x=y)) s):aP (aW prog w) A (eqBool u v) Q E s:=by
 cases x with
 |inl a=>
  cases y with
  |inl b=>exact(ao prog w).eqBool g f (by
    have e:decide (a=b)=decide ((nD a:NK)=nD b):=by by_cases q:a=b<;>simp[q]
    rw[e];exact h)
  |inr d=>obtain⟨b,rfl,o,i,n,p,m,l,_⟩:=f;exact(Bw j g ⟨o,p,m,n,l⟩ h).1
 |inr xs=>
  cases y with
  |inl b=>obtain⟨c,rfl,o,i,n,p,m,l,_⟩:=g;exact(Bw j f ⟨o,p,m,n,l⟩ h).2
  |inr d=>
   obtain⟨b,rfl,q⟩:=g;obtain⟨c,rfl,r⟩:=f;exact wpAny_eqBool_tuple j q r (by
    have e:decide (xs=d)=decide ((mI xs:NK)=mI d):=by by_cases q:xs=d<;>simp[q]
    rw[e];exact h)
theorem hZ.length{h:r_}:∀{x:ah}{a:b_ aC},hZ prog w h x a->_7 x=_7 a
 |[],a,e=>by rw[show a=[]from e];rfl
 |_::_,_,⟨v,t,e,_,b⟩=>by rw[e,aR,aR,hZ.length b]
def La{x y:ah}{a b:g_}{P:Fin->aE->Prop}(hu:A.units+2<cP)(hx:il prog w s.1 x a)(hy:il prog w s.1 y b)(h:P (.done (.ret (.bool (decide (x=y))))) s):
  aP (aW prog w) A (z_.«tuple.__eq__» ⟨[.ref a,.ref b],[]⟩) P E s:=by
 obtain⟨oa,xs,na,M,η,U,Q⟩:=hx;obtain⟨ob,I,nb,G,Y,T,O⟩:=hy;have hTb:s.TypeIs (.ref b) "tuple":=⟨ob,G,Y⟩;show aP _ _ (lX (.ref b) (.type "tuple")>>=_) _ _ s;refine aA (fL hTb lV ?_);simp only[iF,m_,A_];refine aA (kP M U ?_);refine aA (kP G T ?_);refine aA ?_;refine iK _
  (λbc r J=>r.1=c_/\J=s/\∃m l e d,bc=List.zip e d/\hZ prog w s.1 m e/\hZ prog w s.1 l d/\decide (m=l)=decide (x=y)/\(_7 e==_7 d)=(xs.size==I.size))
  _ ?_ ?_ _ _ ⟨_6,_6,x,y,xs.toList,I.toList,_6,Q,O,_6,by simp⟩
 .rintro⟨u,v⟩ bc r J ⟨L,rfl,m,l,e,d,j,g,f,c,i⟩
  cases m with
  |nil=>rw[show e=[]from g]at j;simp at j
  |cons k1 q=>
   cases l with
   |nil=>rw[show d=[]from f]at j;simp at j
   |cons k2 o=>
    obtain⟨u',p,rfl,h1,C⟩:=g;obtain⟨v',n,rfl,h2,z⟩:=f;simp only[List.zip_cons_cons,List.cons.injEq,Prod.mk.injEq]at j;obtain⟨⟨rfl,rfl⟩,rfl⟩:=j;refine aA (Ov (by lia) h1 h2 ?_)
    by_cases N:k1=k2
    .subst N;rw[H_ _6];simp only[iF,m_,A_];refine aD ⟨_6,_6,q,o,p,n,_6,C,z,?_,by simpa using i⟩;rw[<-c]
     by_cases B:q=o
     .simp[B]
     .simp[B]
    .rw[t_ N];simp only[Bool.not_false,K_];have hf:decide (x=y)=e_:=by rw[<-c];simp[N]
     rw[hf]at h;exact aA (aD (aD (aD h)))
 .rintro⟨r1,r2⟩ J ⟨L,rfl,m,l,e,d,j,g,f,c,i⟩
  simp only at L;subst L;refine aD ?_;have H:(xs.size==I.size)=decide (x=y):=by
   rw[<-c,<-i,<-g.length,<-f.length];cases m with
   |nil=>
    cases l with
    |nil=>simp
    |cons _ _=>simp
   |cons _ _=>
    cases l with
    |nil=>simp
    |cons _ _=>obtain⟨_,_,rfl,_⟩:=g;obtain⟨_,_,rfl,_⟩:=f;simp at j
  show P (.done (.ret (.bool (xs.size==I.size)))) J;rw[H];exact h
def Ow{x y:ah}{a b:g_}{Q:l_->aE->Prop}(G:A.units+4<cP)(l:il prog w s.1 x a)(j:il prog w s.1 y b)(h:Q (decide (x=y)) s):
  aP (aW prog w) A (eqBool (.ref a) (.ref b)) Q E s:=by
 have r:s.TypeIs (.ref a) "tuple":=let ⟨o,_,_,f,q,_⟩:=l;⟨o,f,q⟩;have ty:s.TypeIs (.ref b) "tuple":=let ⟨o,_,_,f,q,_⟩:=j;⟨o,f,q⟩;unfold eqBool
 try with_reducible refine cK ?_
 show aP _ _ (if(bH a==bH b)=d_ then _ else _) Q E s
 by_cases c:(bH a==bH b)=d_
 .rw[aO c];have e:a=b:=by have:=eq_of_beq c;injection this
  subst e;obtain⟨o,i,n,v,_,B,z⟩:=l;obtain⟨u,g,C,m,_,d,p⟩:=j;obtain rfl:o=u:=aZ (v.symm.trans m);rw[B]at d;injection d with f _
  subst f;obtain rfl:=z.inj p;exact aA (gV (aD (by simpa using h)))
 .rw[aJ c];exact aA (wpAny_richCompare_same_room (op:=.Eq) r ty F.slot_tuple_eq
   (cL F.slot_tuple_eq r F.entry_tuple_eq (La (by show A.units+1+2<cP;lia) l j ⟨_,_6,(λe=>nomatch e),dG h⟩) (F.args_tuple_eq_2 _ _)) (by lia))
end
noncomputable def bw(b:aV)(w:bP):_Y b w ah where
 is:=il b w
 hash:=λk=>reduceHash (dJ (k.map (oq w b)))
 draws:=λk=>u4 k+1
 room:=λA=>A.units+4<cP
 inj:=λl j=>by
  obtain⟨o,c,n,f,_,g,r⟩:=l;obtain⟨i,e,y,d,_,a,q⟩:=j;obtain rfl:o=i:=aZ (f.symm.trans d);rw[g]at a;injection a with v _
  subst v;exact r.inj q
 keeps:=λx f g s=>by
  obtain⟨i,c,n,d,u,a,r⟩:=x;refine⟨i,c,n,(s.2 _ ?_).trans d,u,a,r.keeps f g s⟩
  rintro rfl
  obtain rfl:=aZ (d.symm.trans f);rw[g]at a;exact nomatch a
 pyHash:=λm p h=>P1 m p h
 eqBool:=λm l j h=>Ow m l j h
 quiet:=λp h=>Ux p h
def b8{a:aV}{w:bP}{A:bT}(h:A.units+5<cP):(bw a w).room A.in1:=by show A.units+1+4<cP;lia
inductive V where
 |fm|bl (b:l_)|int (i:n_)|str (x:k_)|byt (b:q_ UInt8)|flt (b:UInt64)|ref (a:g_)|ty (n:F_)
 deriving P_
def eu:V->aC->Prop
 |.fm,u=>u=bV
 |.bl b,u=>u=iR b
 |.int i,u=>∃t,u=nM i t
 |.str x,u=>∃t,u=oW x t
 |.byt b,u=>∃t,u=Value.bytes b t
 |.flt b,u=>∃t,u=Value.float b t
 |.ref a,u=>u=bH a
 |.ty n,u=>u=jF n
abbrev dg:b_ V->b_ aC->Prop:=Paired eu
def dg.length{xs:b_ V}{a:b_ aC}(r:dg xs a):_7 xs=_7 a:=eA r
theorem dg.get:∀{xs:b_ V}{a:b_ aC}{i:h_}{x:V},dg xs a->xs[i]?=a_ x->∃u,a[i]?=a_ u/\eu x u
 |_,_,_,_,.nil,e=>by simp at e
 |_,_,0,_,.cons r _,e=>by simp at e;subst e;exact⟨_,_6,r⟩
 |_,_,i+1,x,.cons _ t,e=>by obtain⟨u,c,b⟩:=dg.get (i:=i) (x:=x) t (by simpa using e);exact⟨u,by simpa using c,b⟩
theorem dg.set{x:V}{u:aC}(r:eu x u):∀{xs:b_ V}{a:b_ aC}(i:h_),dg xs a->dg (xs.set i x) (a.set i u)
 |_,_,_,.nil=>.nil
 |_,_,0,.cons _ t=>.cons r t
 |_,_,i+1,.cons q t=>.cons q (dg.set r i t)
theorem dg.append:∀{xs a:b_ V}{c b:b_ aC},dg xs c->dg a b->dg (xs++a) (c++b)
 |_,_,_,_,.nil,s=>s
 |_,_,_,_,.cons r t,s=>.cons r (dg.append t s)
theorem dg.take:∀{xs:b_ V}{a:b_ aC}(n:h_),dg xs a->dg (xs.take n) (a.take n)
 |_,_,0,_=>.nil
 |_,_,_+1,.nil=>.nil
 |_,_,n+1,.cons r t=>.cons r (dg.take n t)
theorem dg.drop:∀{xs:b_ V}{a:b_ aC}(n:h_),dg xs a->dg (xs.drop n) (a.drop n)
 |_,_,0,r=>r
 |_,_,_+1,.nil=>.nil
 |_,_,n+1,.cons _ t=>dg.drop n t
def qH:f_ V->f_ aC->Prop
 |some v,a_ u=>eu v u
 |none,c_=>_Z
 |_,_=>L_
def KV{κ:Type}:b_ (κ×V)->b_ (κ×aC)->Prop:=Paired λ(p:κ×V)(q:κ×aC)=>p.1=q.1/\eu p.2 q.2
noncomputable def kV:cj->V
 |.inl i=>.int i
 |.inr x=>.str x
inductive HO where
 |a8 (xs:b_ V)
 |ci (xs:b_ V)
 |dK (kvs:b_ (cj×V))|dT (kvs:b_ (ah×V))
 |set (S:n_->l_) (n:h_)
 |rK (C dx:g_) (fs:b_ (k_×V))
 |own (x:g_)
 |xd (fs:b_ (k_×V))
 |met (f x:g_)
 |rng (lo hi:n_)
 |n4 (o:D_) (u:HO)
 |tbl (q:k_)
 |ext (φ:r_->Prop)
abbrev Hp:=g_->f_ HO
noncomputable def c0(H:Hp)(a:g_)(o:HO):Hp:=λb=>if b=a then a_ o else H b
def ae{H:Hp}{a:g_}{o:HO}:c0 H a o a=a_ o:=by unfold c0;rw[aO _6]
def aa{H:Hp}{a b:g_}{o:HO}(h:b≠a):c0 H a o b=H b:=by unfold c0;rw[aJ h]
def ya{H:Hp}{a:g_}{o u:HO}:c0 (c0 H a o) a u=c0 H a u:=by funext b;unfold c0;split<;>rfl
def Ms{H:Hp}{a b:g_}{o u:HO}(h:H a=a_ o)(c:H b=a_ u)(d:o≠u):a≠b:=by intro e;subst e;rw[h]at c;exact d (aZ c)
def ak{H:Hp}{a b:g_}{o:HO}(h:H a=a_ o)(c:H b=c_):a≠b:=by intro e;subst e;rw[h]at c;cases c
def nkAt(H:Hp):NK->V->Prop
 |.inl k,v=>v=kV k
 |.inr a,v=>∃b,v=.ref b/\H b=a_ (.ci (a.map kV))
def NkL(H:Hp):ah->b_ V->Prop
 |[],a=>a=[]
 |k::r,a=>∃v t,a=v::t/\nkAt H k v/\NkL H r t
inductive p0(H:Hp)(k:ah)(b:g_):Prop
 |mk (vs) (_:H b=a_ (.ci vs)) (_:NkL H k vs):p0 H k b
def nkAt.am{H a:Hp}(c:∀b xs,H b=a_ (.ci xs)->a b=a_ (.ci xs)):∀{k:NK}{v:V},nkAt H k v->nkAt a k v
 |.inl _,_,e=>e
 |.inr _,_,⟨b,e,q⟩=>⟨b,e,c _ _ q⟩
theorem NkL.am{H d:Hp}(c:∀b xs,H b=a_ (.ci xs)->d b=a_ (.ci xs)):∀{k:ah}{a:b_ V},NkL H k a->NkL d k a
 |[],_,e=>e
 |_::_,_,⟨v,t,e,q,r⟩=>⟨v,t,e,nkAt.am c q,NkL.am c r⟩
def p0.am{H c:Hp}(a:∀b xs,H b=a_ (.ci xs)->c b=a_ (.ci xs)){k:ah}{b:g_}(h:p0 H k b):p0 c k b:=
 let ⟨d,f,e⟩:=h
 ⟨d,a _ _ f,e.am a⟩
def Trip(H:Hp)(q:k_):b_ aC->Prop
 |[]=>_Z
 |.int _ _::.int _ _::.ref c::r=>(∃(b:D_) (a:q_ aC) (t:Z?),H c=a_ (.n4 b (.own 0))/\b.data=.fields a/\a[1]?=a_ (.str q t))/\Trip H q r
 |_=>L_
def Trip.am{H a:Hp}{q:k_}(hz:∀b o u,H b=a_ (.n4 o u)->a b=a_ (.n4 o u))(l:b_ aC)(h:Trip H q l):Trip a q l:=by
 fun_induction Trip H q l with
 |case1=>unfold Trip;trivial
 |case2 _ _ _ _ j r e=>obtain⟨⟨d,c,t,i,g⟩,f⟩:=h;unfold Trip;exact⟨⟨d,c,t,hz _ _ _ i,g⟩,e f⟩
 |case3=>exact h.elim
section
variable(P:aV)(w:bP)
def fb(H:Hp)(h:r_)(a:g_):HO->Prop
 |.a8 xs=>xs.length<=aG/\∃(c:b_ aC) (n:h_),dg xs c/\h.get? a=a_ {cls:=.type "list",data:=.seq c.toArray n}
 |.ci xs=>xs.length<=aG/\∃c:b_ aC,dg xs c/\iJ h a c.toArray
 |.dK b=>b.length<=aG/\(a==dD)=e_/\∃g,KV b g/\h.DictOf (ao P w) a g
 |.dT b=>b.length<=aG/\(a==dD)=e_/\∃xs:b_ (ah×g_×aC),
   Paired (λ(p:ah×V)(q:ah×g_×aC)=>p.1=q.1/\p0 H p.1 q.2.1/\eu p.2 q.2.2) b xs/\
   ∃o l r,h.get? a=a_ o/\o.ExactDict/\o.data=.dict l r/\l.toList=xs.map (nP (bw P w))/\(xs.map (·.1)).Nodup
 |.set S n=>h.SetOf (intKind P w) a S n
 |.rK C e fs=>H e=a_ (.own a)/\fs.length<=1000/\e≠a/\h.get? a=a_ (fZ C e)/\
   ∃d,h.Ns1 e d/\(∀f,qH (fs.lookup f) (d f))/\_O d (fs.map (·.1))
 |.own _=>∃o,h.get? a=a_ o
 |.xd fs=>∃d,h.Ns1 a d/\∀f,qH (fs.lookup f) (d f)
 |.rng lo m=>∃t u v,h.get? a=a_ {cls:=.type "range",data:=.fields #[.int lo t,.int m u,.int 1 v]}
 |.n4 o u=>h.get? a=a_ o/\fb H h a u
 |.tbl q=>∃ps:q_ aC,h.get? a=a_ {cls:=.none,data:=.fields ps}/\Trip H q ps.toList
 |.met f x=>h.get? a=a_ (oA (.ref f) (.ref x))
 |.ext φ=>φ h/\(∃o,h.get? a=a_ o)/\∀j i:r_,φ j->(∀o,j.get? a=a_ o->i.get? a=a_ o)->φ i
def qb(H:Hp)(h:r_):Prop:=∀a o,H a=a_ o->fb P w H h a o
end
section
variable{P:aV}{w:bP}{H H':Hp}{h h':r_}{a:g_}{o:HO}
def fb.lt(x:fb P w H h a o):a<h.objs.size:=by
 cases o with
 |a8 xs=>obtain⟨_,_,_,_,e⟩:=x;exact aM e
 |ci xs=>obtain⟨_,_,_,p⟩:=x;exact p.lt
 |dK b=>obtain⟨_,_,_,_,o,_,_,e,_⟩:=x;exact aM e
 |dT b=>obtain⟨_,_,_,_,o,_,_,e,_⟩:=x;exact aM e
 |set S n=>obtain⟨o,_,_,_,e,_⟩:=x;exact aM e
 |rK C g fs=>obtain⟨_,_,_,e,_⟩:=x;exact aM e
 |own y=>obtain⟨_,e⟩:=x;exact aM e
 |xd fs=>obtain⟨_,⟨_,_,_,e,_⟩,_⟩:=x;exact aM e
 |rng lo d=>obtain⟨_,_,_,e⟩:=x;exact aM e
 |n4 c u=>obtain⟨e,_⟩:=x;exact aM e
 |tbl q=>obtain⟨ps,e,_⟩:=x;exact aM e
 |met f y=>exact aM (show h.get? a=a_ _ from x)
 |ext φ=>obtain⟨_,⟨_,e⟩,_⟩:=x;exact aM e
theorem Paired.mapP{α β:Type}{F G:α->β->Prop}:∀{d:b_ α}{c:b_ β},Paired F d c->(∀a b,F a b->G a b)->Paired G d c
 |_,_,.nil,_=>.nil
 |_,_,.cons r t,f=>.cons (f _ _ r) (Paired.mapP t f)
def fb.qZ(x:fb P w H h a o)(k:∀b u,(b=a\/H b=a_ (.own a))->h.get? b=a_ u->h'.get? b=a_ u)
  (G:∀b,H b=a_ (.own a)->H' b=a_ (.own a))(E:∀b xs,H b=a_ (.ci xs)->H' b=a_ (.ci xs))(hz:∀b o u,H b=a_ (.n4 o u)->H' b=a_ (.n4 o u):=by exact λZ Z Z q=>q):fb P w H' h' a o:=by
 induction o with
 |a8 xs=>obtain⟨z,l,n,r,e⟩:=x;exact⟨z,l,n,r,k _ _ (.inl _6) e⟩
 |ci xs=>obtain⟨z,l,r,g,e,c⟩:=x;exact⟨z,l,r,g,k _ _ (.inl _6) e,c⟩
 |dK s=>obtain⟨z,y,A,r,g,i,j,e,c⟩:=x;exact⟨z,y,A,r,g,i,j,k _ _ (.inl _6) e,c⟩
 |dT s=>obtain⟨z,y,xs,r,g,i,j,e,c⟩:=x;exact⟨z,y,xs,Paired.mapP r λp q z=>⟨z.1,z.2.1.am E,z.2.2⟩,g,i,j,k _ _ (.inl _6) e,c⟩
 |set S n=>obtain⟨g,i,j,t,e,c⟩:=x;exact⟨g,i,j,t,k _ _ (.inl _6) e,c⟩
 |rK C L fs=>obtain⟨d,z,ne,e,m,⟨od,i,j,I,c⟩,r⟩:=x;exact⟨G _ d,z,ne,k _ _ (.inl _6) e,m,⟨od,i,j,k _ _ (.inr d) I,c⟩,r⟩
 |own y=>obtain⟨g,e⟩:=x;exact⟨g,k _ _ (.inl _6) e⟩
 |xd fs=>obtain⟨m,⟨od,i,j,e,c⟩,r⟩:=x;exact⟨m,⟨od,i,j,k _ _ (.inl _6) e,c⟩,r⟩
 |rng lo J=>obtain⟨t,u,v,e⟩:=x;exact⟨t,u,v,k _ _ (.inl _6) e⟩
 |n4 g u B=>obtain⟨e,q⟩:=x;exact⟨k _ _ (.inl _6) e,B q⟩
 |tbl q=>obtain⟨ps,e,r⟩:=x;exact⟨ps,k a _ (.inl _6) e,r.am hz⟩
 |met f y=>have e:h.get? a=a_ (oA (.ref f) (.ref y)):=x;show h'.get? a=a_ (oA (.ref f) (.ref y));exact k a _ (.inl _6) e
 |ext φ=>obtain⟨p,⟨o,e⟩,st⟩:=x;exact⟨st _ _ p λo q=>k _ _ (.inl _6) q,⟨o,k _ _ (.inl _6) e⟩,st⟩
def qb.lt(x:qb P w H h)(e:H a=a_ o):a<h.objs.size:=(x a o e).lt
def qb.fresh(x:qb P w H h)(e:h.objs.size<=a):H a=c_:=by
 cases q:H a with
 |none=>rfl
 |some u=>exact u_ (bM (x.lt q) e) (cQ _)
def qb.kd(x:qb P w H h)(k:∀b u,h.get? b=a_ u->h'.get? b=a_ u):qb P w H h':=λa o e=>
 (x a o e).qZ (λb u z q=>k b u q) (λz q=>q) λz z q=>q
def qb.nn(x:qb P w H h)(k:∀b u,h.get? b=a_ u->h'.get? b=a_ u)(g:h.objs.size<=a)(new:fb P w (c0 H a o) h' a o):qb P w (c0 H a o) h':=λb u e=>by
 have d:=x.fresh g
 by_cases f:b=a
 .subst f;rw[ae]at e;cases e;exact new
 .rw[aa f]at e;exact(x b u e).qZ (λc v z q=>k c v q) (λc q=>by rw[aa (ak q d)];exact q) (λc xs q=>by rw[aa (ak q d)];exact q) λc i u q=>by rw[aa (ak q d)];exact q
end
def Rd(H:Hp)(a:g_)(u:HO):Prop:=H a=a_ u\/∃o,H a=a_ (.n4 o u)
def Rd.of{H:Hp}{a:g_}{u:HO}(h:H a=a_ u):Rd H a u:=.inl h
def Rd.ok{P:aV}{w:bP}{H:Hp}{h:r_}{a:g_}{u:HO}(r:Rd H a u)(x:qb P w H h):fb P w H h a u:=by
 obtain r|⟨o,r⟩:=r
 .exact x a u r
 .obtain⟨_,q⟩:=x a _ r;exact q
def HJ:f_ HO->Prop
 |some (.a8 _)=>_Z
 |some (.dK _)=>_Z
 |some (.dT _)=>_Z
 |some (.set _ _)=>_Z
 |some (.rK _ _ _)=>_Z
 |some (.ext _)=>_Z
 |_=>L_
section
variable{P:aV}{w:bP}{H:Hp}{h h':r_}{x e:g_}{o':HO}
def qb.rB(ok:qb P w H h)(f:HJ (H x))(p:e=x\/H e=a_ (.own x))(k:∀b u,b≠e->h.get? b=a_ u->h'.get? b=a_ u)(n:∃u,h'.get? e=a_ u)
  (new:fb P w (c0 H x o') h' x o'):qb P w (c0 H x o') h':=λb u q=>by
 have d:∀c y,H c=a_ (.own y)->c≠x:=λc y r z=>by subst z;rw[r]at f;exact f
 have g:∀c xs,H c=a_ (.ci xs)->c≠x:=λc xs r z=>by subst z;rw[r]at f;exact f
 have i:∀c j v,H c=a_ (.n4 j v)->c≠x:=λc j v r z=>by subst z;rw[r]at f;exact f
 by_cases m:b=x
 .subst m;rw[ae]at q;cases q;exact new
 .rw[aa m]at q
  by_cases a:b=e
  .have o:H b=a_ (.own x):=by
    obtain z|z:=p
    .exact u_ (a.trans z) m
    .rw[a];exact z
   rw[q]at o;cases o;obtain⟨v,s⟩:=n;exact⟨v,by rw[a];exact s⟩
  .refine(ok b u q).qZ (λc v l r=>k c v ?_ r) (λc r=>by rw[aa (d c b r)];exact r) (λc xs r=>by rw[aa (g c xs r)];exact r) λc j v r=>by rw[aa (i c j v r)];exact r
   obtain rfl|l:=l
   .exact a
   .rintro rfl
    obtain z|z:=p
    .exact d c b l z
    .rw[l]at z;cases z;exact m _6
end
structure Un(fs ex:b_ g_)(H H':Hp)(h h':r_):Prop where
 keep:∀b o,h.get? b=a_ o->H b=c_->b∉fs->b∉ex->h'.get? b=a_ o
 slot:∀b o,h.get? b=a_ o->H b=c_->b∈fs->b∉ex->∃sl,h'.get? b=a_ {o with slots:=sl}
 free:∀b o,h.get? b=a_ o->H b=c_->b∉ex->H' b=c_
 there:∀b o,h.get? b=a_ o->b∉ex->∃o',h'.get? b=a_ o'
 qM:∀b xs,H b=a_ (.ci xs)->H' b=a_ (.ci xs)
 nw:∀b o u,H b=a_ (.n4 o u)->H' b=a_ (.n4 o u)
 qw:∀b q,H b=a_ (.tbl q)->H' b=a_ (.tbl q)
section
variable{fs fs' ex ex':b_ g_}{H H1 H2:Hp}{h h1 h2 h':r_}{a x e:g_}{o:HO}
def Un.any(u:Un fs ex H H1 h h1){b:g_}{c:D_}(q:h.get? b=a_ c)(n:H b=c_)(d:b∉ex):∃g,h1.get? b=a_ {c with slots:=g}:=by
 by_cases f:b∈fs
 .exact u.slot b c q n f d
 .exact⟨c.slots,u.keep b c q n f d⟩
def Un.trans(a:Un fs ex H H1 h h1)(b:Un fs ex H1 H2 h1 h2):Un fs ex H H2 h h2 where
 keep:=λc d q n g f=>b.keep c d (a.keep c d q n g f) (a.free c d q n f) g f
 slot:=λc d q n g f=>by obtain⟨r,i⟩:=a.slot c d q n g f;obtain⟨j,m⟩:=b.slot c _ i (a.free c d q n f) g f;exact⟨j,m⟩
 free:=λc d q n f=>by obtain⟨l,i⟩:=a.there c d q f;exact b.free c l i (a.free c d q n f) f
 there:=λc d q f=>by obtain⟨l,i⟩:=a.there c d q f;exact b.there c l i f
 qM:=λc xs q=>b.qM c xs (a.qM c xs q)
 nw:=λc d xs q=>b.nw c d xs (a.nw c d xs q)
 qw:=λp q z=>b.qw p q (a.qw p q z)
def Un.kd(k:∀b u,h.get? b=a_ u->h'.get? b=a_ u):Un fs ex H H h h':=
 ⟨λb c q z z z=>k b c q,λb c q z z z=>⟨c.slots,k b c q⟩,λz z z n z=>n,λb c q z=>⟨c,k b c q⟩,λz z q=>q,λz z z q=>q,λz z q=>q⟩
def Un.refl:Un fs ex H H h h:=Un.kd λz z q=>q
def Un.nn(k:∀b u,h.get? b=a_ u->h'.get? b=a_ u)(d:h.objs.size<=a)(c:H a=c_):Un fs ex H (c0 H a o) h h' where
 keep:=λb u q z z z=>k b u q
 slot:=λb u q z z z=>⟨u.slots,k b u q⟩
 free:=λb u q n z=>by rw[aa (bE (bM (aM q) d))];exact n
 there:=λb u q z=>⟨u,k b u q⟩
 qM:=λb xs q=>by rw[aa (ak q c)];exact q
 nw:=λb u xs q=>by rw[aa (ak q c)];exact q
 qw:=λb z q=>by rw[aa (ak q c)];exact q
def Un.rB(d:HJ (H x))(m:e=x\/H e=a_ (.own x))(k:∀b u,b≠e->h.get? b=a_ u->h'.get? b=a_ u)(g:∃u,h'.get? e=a_ u):Un fs ex H (c0 H x o) h h':=by
 have i:∀b,H b=c_->b≠x:=λb n z=>by subst z;rw[n]at d;exact d
 have j:∀b,H b=c_->b≠e:=λb n z=>by
  subst z;obtain r|r:=m
  .exact i b n r
  .rw[n]at r;cases r
 have f:∀b u,H b=a_ u->¬HJ (a_ u)->b≠x:=λb u q l z=>by subst z;rw[q]at d;exact l d
 refine⟨λb u q n y y=>k b u (j b n) q,λb u q n y y=>⟨u.slots,k b u (j b n) q⟩,λb u q n y=>by rw[aa (i b n)];exact n,λb u q y=>?_,
  λb xs q=>by rw[aa (f b _ q λz=>z)];exact q,λb u xs q=>by rw[aa (f b _ q λz=>z)];exact q,λb y q=>by rw[aa (f b _ q λz=>z)];exact q⟩
 by_cases c:b=e
 .subst c;exact g
 .exact⟨u,k b u c q⟩
def Un.am(u:Un fs ex H H1 h h1)(g:∀b∈fs,b∈fs')(f:∀b∈ex,b∈ex'):Un fs' ex' H H1 h h1:=
 ⟨λb d q n i c=>u.keep b d q n (λz=>i (g b z)) λz=>c (f b z),λy y q n y c=>u.any q n λz=>c (f _ z),λb d q n c=>u.free b d q n λz=>c (f b z),λb d q c=>u.there b d q λz=>c (f b z),u.qM,u.nw,u.qw⟩
end
def LC(h:r_)(H:Hp):b_ g_:=(eW h.objs.size).filter λa=>(H a).isSome
def A8(h:r_)(H:Hp):r_:=PySem.W.hideAll h (LC h H)
def O1(h:r_)(H:Hp):(A8 h H).objs.size=h.objs.size:=PySem.W.hideAll_size _ _
def Sf{h:r_}{H:Hp}{b:g_}{o:D_}(e:h.get? b=a_ o)(n:H b=c_):(A8 h H).get? b=a_ o:=
 PySem.W.hideAll_get _ e λa=>by have q:(H b).isSome=d_:=(Z_.mp a).2;rw[n]at q;simp at q
def Xs{h:r_}{H:Hp}{b:g_}{o:D_}(e:(A8 h H).get? b=a_ o):h.get? b=a_ o/\H b=c_:=by
 have a:h.get? b=a_ o:=PySem.W.of_hideAll (LC h H) e;refine⟨a,?_⟩;cases q:H b with
 |none=>rfl
 |some x=>have c:b∈LC h H:=Z_.mpr ⟨_a.mpr (aM a),by simp[q]⟩;have z:(A8 h H).get? b=c_:=PySem.W.hideAll_none (LC h H) c;rw[z]at e;cases e
def Wd(g h:r_)(L:g_):b_ (g_×D_):=(eW h.objs.size).filterMap λa=>if a=L\/(g.get? a).isSome=d_ then c_ else(h.get? a).map λo=>(a,o)
def bc(g h:r_)(L d:g_):b_ (g_×D_):=(Wd g h L).filter λp=>decide (p.1≠d)
structure Mod(K:aK)(mg:k_->f_ aC)(base:r_):Prop where
 kin:K.In base
 rC:base.Ns cD mg
 blt:∃mb,base.Ns kQ mb/\∀x:k_,x≠"__name__"->mb x=eX x
 nolimit:base.NoLimit
structure Cx where
 prog:aV
 w:bP
 K:aK
 mg:k_->f_ aC
 base:r_
 A:bT
 N:b_ k_
 kt:aE
 qP:Hp
 env:T_
 g8:b_ T_
 stack:b_ T_
 ex:b_ g_
 fn:k_->l_
 calm:l_
 pn:b_ (g_×D_)
 xe:aC->aE->Prop
def vp(l:b_ T_):b_ g_:=l.filterMap (·.frame)
abbrev Cx.fs(X:Cx):b_ g_:=vp X.g8
def BY(a:eL)(x:k_):Prop:=a.names.lookup x=a_ .local\/a.names.lookup x=a_ .cell\/a.names.lookup x=a_ .free
def N1(a:eL)(x:k_):Prop:=a.names.lookup x=a_ .local\/a.names.lookup x=a_ .cell
def OU(a:T_)(h:r_)(m:k_->f_ aC)(x:k_)(u:aC):Prop:=
 (a.kindOf x=a_ .local/\m x=a_ u)\/((a.kindOf x=a_ .cell\/a.kindOf x=a_ .free)/\∃c,a.cells.lookup x=a_ c/\h.IsCell c (a_ u))
structure Cx.Ok(X:Cx):Prop where
 q7:Mod X.K X.mg X.base
 kind:X.env.scope.kind=.function
 rC:X.env.globals=cD
 blt:X.env.builtins=kQ
 above:X.kt.1.1.size<=X.env.locals
 inj:∀x y c,X.env.cells.lookup x=a_ c->X.env.cells.lookup y=a_ c->x=y
 has:∀x,(X.env.kindOf x=a_ .cell\/X.env.kindOf x=a_ .free)->∃c,X.env.cells.lookup x=a_ c
 cab:∀x c,X.fn x=d_->X.env.cells.lookup x=a_ c->X.kt.1.1.size<=c
 hd:X.calm=d_->X.A.handled=c_
 frames:X.A.frames=a_ X.stack
 stk:X.stack=X.g8\/(X.stack=X.env::X.g8/\X.env.frame=a_ X.env.locals)
 exf:∀b∈X.ex,b≠X.env.locals/\∀x c,X.env.cells.lookup x=a_ c->c≠b
 bs:∀b o,X.base.get? b=a_ o->X.kt.1.get? b=a_ o/\X.qP b=c_
 bsz:X.base.objs.size<=X.kt.1.1.size
 noex:∀b o,X.base.get? b=a_ o->b∉X.ex
 exfs:∀b∈X.ex,b∉X.fs
 qN:X.kt.1.FunFrames X.base X.g8
 frf:∀b∈X.fs,X.qP b=c_
structure a9(X:Cx)(au:b_ (g_×D_))(σ:b_ (f_ V))(H:Hp)(s:aE):Prop where
 ok:X.Ok
 os:s.os=X.kt.os
 ln:nE s.gens
 base:Un X.fs X.ex X.qP H X.kt.1 s.1
 qX:∃m,s.1.Ns X.env.locals m/\∀(i:h_)(x:k_)(v:V),X.N[i]?=a_ x->σ[i]?=a_ (a_ v)->BY X.env.scope x->∃u,eu v u/\OU X.env s.1 m x u
 cell:∀x c,X.env.cells.lookup x=a_ c->∃v,s.1.IsCell c v
 free:H X.env.locals=c_
 oD:∀x c,X.env.cells.lookup x=a_ c->H c=c_\/(X.fn x=e_/\∃o,H c=a_ (.n4 o (.own 0)))
 q0:∀p∈X.pn++au,s.1.get? p.1=a_ p.2/\H p.1=c_/\p.1≠X.env.locals/\p.1∉X.fs/\∀v,p.2.data≠.cell v
 e6:qb X.prog X.w H s.1
 len:_7 σ=_7 X.N
section
variable{X:Cx}{au:b_ (g_×D_)}{σ:b_ (f_ V)}{H H':Hp}{s:aE}{h':r_}
def Cx.Ok.nofr(ok:X.Ok){b:g_}{o:D_}(e:X.base.get? b=a_ o):b∉X.fs:=λa=>by have:=(ok.qN.mem a).1;rw[e]at this;cases this
def a9.bs(I:a9 X au σ H s):∀b o,X.base.get? b=a_ o->s.1.get? b=a_ o/\H b=c_:=λb o e=>
 ⟨I.base.keep b o (I.ok.bs b o e).1 (I.ok.bs b o e).2 (I.ok.nofr e) (I.ok.noex b o e),I.base.free b o (I.ok.bs b o e).1 (I.ok.bs b o e).2 (I.ok.noex b o e)⟩
def a9.bk(I:a9 X au σ H s):∀b o,X.base.get? b=a_ o->s.1.get? b=a_ o:=λb o e=>(I.bs b o e).1
def a9.q7(I:a9 X au σ H s):Mod X.K X.mg X.base:=I.ok.q7
def a9.qY(I:a9 X au σ H s):X.K.In s.1:=I.ok.q7.kin.keeps I.bk
def a9.lt(I:a9 X au σ H s):X.env.locals<s.1.1.size:=let ⟨_,a,_⟩:=I.qX;a.lt
def a9.sz(I:a9 X au σ H s):X.kt.1.1.size<=s.1.1.size:=cB I.ok.above (b? I.lt)
def a9.nofs(I:a9 X au σ H s){a:g_}(h:s.1.1.size<=a):a∉X.fs:=λc=>by obtain⟨_,o,b,_⟩:=I.ok.qN.mem c;exact u_ (bM (aM b) (cB I.sz h)) (cQ _)
def a9.cne(I:a9 X au σ H s):∀x c,X.env.cells.lookup x=a_ c->c≠X.env.locals:=λx c e z=>by obtain⟨v,o,d,f⟩:=I.cell x c e;obtain⟨m,⟨g,h,i,a,b,_⟩,_⟩:=I.qX;rw[z,a]at d;cases d;rw[b]at f;cases f
def a9.qN(I:a9 X au σ H s):s.1.FunFrames X.base X.g8:=by
 have all:∀(l:b_ T_),(∀b∈vp l,b∈X.fs)->X.kt.1.FunFrames X.base l->s.1.FunFrames X.base l:=by
  intro l;induction l with
  |nil=>intro _ _;trivial
  |cons q r g=>intro f m;obtain⟨n,⟨L,o,a,j,i,p⟩,h⟩:=m;have d:L∈X.fs:=f L (by unfold vp;rw[jX,a];exact bI);obtain⟨u,e⟩:=I.base.slot L o i (I.ok.frf L d) d λz=>I.ok.exfs L z d;exact⟨n,⟨L,_,a,j,e,p⟩,g (λb c=>f b (by unfold vp;rw[jX,a];exact bJ _ c)) h⟩
 exact all X.g8 (λy c=>c) I.ok.qN
def a9.stack(I:a9 X au σ H s):s.1.FunFrames X.base X.stack:=by
 obtain e|⟨e,b⟩:=I.ok.stk
 .rw[e];exact I.qN
 .rw[e];obtain⟨m,a,_⟩:=I.qX;refine .cons (by rw[I.ok.kind];decide) b a ?_ I.qN;exact mP (cB I.ok.bsz I.ok.above)
def a9.qS(I:a9 X au σ H s):∀b∈vp X.stack,b∈X.env.locals::X.fs:=λb a=>by
 obtain e|⟨e,c⟩:=I.ok.stk
 .rw[e]at a;exact bJ _ a
 .rw[e]at a;unfold vp at a;rw[jX,c]at a;exact a
def a9.stkFree(I:a9 X au σ H s):∀b∈vp X.stack,H b=c_:=λb a=>by
 rcases o_.mp (I.qS b a)with e|a
 .rw[e];exact I.free
 .obtain⟨_,o,c,_⟩:=I.ok.qN.mem a;exact I.base.free b o c (I.ok.frf b a) λz=>I.ok.exfs b z a
def a9.step{g':q_ M!}{t':h_}{d':Drawn}{ch:b_ g_}(I:a9 X au σ H s)
  (g:∀b∈ch,(b∈X.ex\/X.kt.1.1.size<=b)/\b≠X.env.locals/\(∀x c,X.env.cells.lookup x=a_ c->c≠b)/\∀p∈X.pn++au,p.1≠b)
  (keep:∀b o,b≠X.env.locals->b∉X.fs->b∉ch->s.1.get? b=a_ o->H b=c_->h'.get? b=a_ o)
  (slot:∀b o,b≠X.env.locals->b∈X.fs->b∉ch->s.1.get? b=a_ o->H b=c_->∃T,h'.get? b=a_ {o with slots:=T}) (free:∀b o,b∉ch->s.1.get? b=a_ o->H b=c_->H' b=c_)
  (there:∀b o,b∉ch->s.1.get? b=a_ o->∃J,h'.get? b=a_ J)
  (E:∀b xs,H b=a_ (.ci xs)->H' b=a_ (.ci xs)) (nw:∀b o u,H b=a_ (.n4 o u)->H' b=a_ (.n4 o u)) (G:∀b q,H b=a_ (.tbl q)->H' b=a_ (.tbl q))
  (ns:∀m,s.1.Ns X.env.locals m->h'.Ns X.env.locals m) (M:qb X.prog X.w H' h') (hg:nE g'):
  a9 X au σ H' {s with heap:=h',gens:=g',drawn:=d',toks:=t'}:=by
 have L:∀b o,X.kt.1.get? b=a_ o->b≠X.env.locals:=λb o e=>bE (bM (aM e) I.ok.above);have j:∀b o,X.kt.1.get? b=a_ o->b∉X.ex->b∉ch:=λb o e a B=>by
  rcases(g b B).1 with z|z
  .exact a z
  .exact u_ (bM (aM e) z) (cQ _)
 have h:∀x c,X.env.cells.lookup x=a_ c->∀v,s.1.IsCell c v->h'.IsCell c v:=λx c e v ⟨o,A,O⟩=>by
  have f:c∉ch:=λz=>(g c z).2.2.1 x c e _6;rcases I.oD x c e with y|⟨_,N,y⟩
  .by_cases hc:c∈X.fs
   .obtain⟨T,q⟩:=slot c o (I.cne x c e) hc f A y;exact⟨_,q,O⟩
   .exact⟨o,keep c o (I.cne x c e) hc f A y,O⟩
  .obtain⟨Y,_⟩:=I.e6 c _ y;obtain⟨q2,_⟩:=M c _ (nw c N _ y);rw[A]at Y;cases Y;exact⟨o,q2,O⟩
 refine⟨I.ok,I.os,hg,⟨λb o e n B a=>?_,λb o e n B a=>?_,λb o e n a=>?_,λb o e a=>?_,λb xs e=>E b xs (I.base.qM b xs e),λb o xs e=>nw b o xs (I.base.nw b o xs e),λb q e=>G b q (I.base.qw b q e)⟩,?_,λx c e=>?_,?_,λx c e=>?_,λp hp=>?_,M,I.len⟩
 .exact keep b o (L b o e) B (j b o e a) (I.base.keep b o e n B a) (I.base.free b o e n a)
 .obtain⟨T,C⟩:=I.base.slot b o e n B a;obtain⟨Q,U⟩:=slot b _ (L b o e) B (j b o e a) C (I.base.free b o e n a);exact⟨Q,U⟩
 .obtain⟨J,C⟩:=I.base.there b o e a;exact free b J (j b o e a) C (I.base.free b o e n a)
 .obtain⟨J,C⟩:=I.base.there b o e a;exact there b J (j b o e a) C
 .obtain⟨m,hn,hl⟩:=I.qX;refine⟨m,ns m hn,λi x v C U e3=>?_⟩;obtain⟨u,r,l⟩:=hl i x v C U e3;refine⟨u,r,?_⟩;obtain l|⟨k,c,e,z⟩:=l
  .exact .inl l
  .exact .inr ⟨k,c,e,h x c e _ z⟩
 .obtain⟨v,z⟩:=I.cell x c e;exact⟨v,h x c e v z⟩
 .obtain⟨m,⟨o,_,_,A,_⟩,_⟩:=I.qX;exact free _ o (λz=>(g _ z).2.1 _6) A I.free
 .obtain⟨v,o,A,O⟩:=I.cell x c e;rcases I.oD x c e with y|⟨hf,N,y⟩
  .exact .inl (free c o (λz=>(g c z).2.2.1 x c e _6) A y)
  .exact .inr ⟨hf,N,nw c N _ y⟩
 .obtain⟨e,n,ne,nf,d⟩:=I.q0 p hp;have f:p.1∉ch:=λz=>(g p.1 z).2.2.2 p hp _6;exact⟨keep p.1 p.2 ne nf f e n,free p.1 p.2 f e n,ne,nf,d⟩
def a9.un{t':h_}(I:a9 X au σ H s)(u:Un X.fs [] H H' s.1 h')(c:qb X.prog X.w H' h'):a9 X au σ H' {s with heap:=h',toks:=t'}:=by
 obtain⟨m,⟨o,x,y,h,r⟩,_⟩:=id I.qX;obtain⟨p,l⟩:=u.any h I.free (by simp);exact I.step (g':=s.gens) (d':=s.drawn) (ch:=[]) (λt z=>nomatch z) (λb o t d t e n=>u.keep b o e n d (by simp)) (λb o t d t e n=>u.slot b o e n d (by simp)) (λb o t e n=>u.free b o e n (by simp)) (λb o t e=>u.there b o e (by simp)) u.qM u.nw u.qw (λv j=>by
  obtain⟨q,f,g,a,i⟩:=j;rw[h]at a;cases a;exact⟨_,f,g,l,i⟩) c I.ln
def a9.call{g':q_ M!}{t':h_}{d':Drawn}{ch:b_ g_}(I:a9 X au σ H s)(u:Un (vp X.stack) ch H H' s.1 h')(g:qb X.prog X.w H' h')(y:nE g')
  (f:∀b∈ch,(b∈X.ex\/X.kt.1.1.size<=b)/\b≠X.env.locals/\(∀x c,X.env.cells.lookup x=a_ c->c≠b)/\∀p∈X.pn++au,p.1≠b):
  a9 X au σ H' {s with heap:=h',gens:=g',drawn:=d',toks:=t'}:=by
 obtain⟨m,⟨o,G,J,l,r⟩,_⟩:=id I.qX;obtain⟨B,h⟩:=u.any l I.free λz=>(f _ z).2.1 _6;exact I.step (ch:=ch) f (λb o h A a e n=>u.keep b o e n (λz=>(o_.mp (I.qS b z)).elim h A) a) (λb o t t a e n=>u.any e n a) (λb o a e n=>u.free b o e n a) (λb o a e=>u.there b o e a) u.qM u.nw u.qw (λE v=>by
  obtain⟨C,i,j,d,q⟩:=v;rw[l]at d;cases d;exact⟨_,i,j,h,q⟩) g y
def a9.ii{t':h_}{it:g_}(I:a9 X au σ H s)(k:∀b o,b≠it->s.1.get? b=a_ o->h'.get? b=a_ o)(h:H it=c_)(f:it≠X.env.locals)
  (y:it∈X.ex\/X.kt.1.1.size<=it)(w:∀x c,X.env.cells.lookup x=a_ c->c≠it)(l:∀p∈X.pn++au,p.1≠it):a9 X au σ H {s with heap:=h',toks:=t'}:=by
 have d:∀b u,H b=a_ u->b≠it:=λb u e z=>by rw[z,h]at e;cases e
 refine I.step (g':=s.gens) (d':=s.drawn) (ch:=[it]) (λb j=>?_) (λb o t t a e t=>k b o (λz=>a (by simp[z])) e) (λb o t t a e t=>⟨o.slots,k b o (λz=>a (by simp[z])) e⟩) (λt t t t n=>n)
  (λb o a e=>⟨o,k b o (λz=>a (by simp[z])) e⟩) (λt t e=>e) (λt t t e=>e) (λt t e=>e) (λm i=>?_) (λb u e=>?_) I.ln
 .have e:b=it:=by simpa using j
  subst e;exact⟨y,f,w,l⟩
 .obtain⟨o,A,B,g,r⟩:=i;exact⟨o,A,B,k _ o (cW f) g,r⟩
 .refine(I.e6 b u e).qZ (λc v a q=>k c v ?_ q) (λt q=>q) λt t q=>q;obtain z|z:=a
  .rw[z];exact d b u e
  .exact d c _ z
def a9.qs(I:a9 X au σ H s)(t:h_):a9 X au σ H {s with toks:=t}:=I.un (h':=s.1) (t':=t) Un.refl I.e6
def a9.kd{t':h_}(I:a9 X au σ H s)(k:∀b u,s.1.get? b=a_ u->h'.get? b=a_ u):a9 X au σ H {s with heap:=h',toks:=t'}:=I.un (Un.kd k) (I.e6.kd k)
def a9.nn{a:g_}{o:HO}{t':h_}(I:a9 X au σ H s)(k:∀b u,s.1.get? b=a_ u->h'.get? b=a_ u)(c:s.1.1.size<=a)(new:fb X.prog X.w (c0 H a o) h' a o):
  a9 X au σ (c0 H a o) {s with heap:=h',toks:=t'}:=I.un (Un.nn k c (I.e6.fresh c)) (I.e6.nn k c new)
def a9.rB{x e:g_}{o:HO}{f:h_}(I:a9 X au σ H s)(c:HJ (H x))(d:e=x\/H e=a_ (.own x))(k:∀b u,b≠e->s.1.get? b=a_ u->h'.get? b=a_ u)(a:∃u,h'.get? e=a_ u)
  (new:fb X.prog X.w (c0 H x o) h' x o):a9 X au σ (c0 H x o) {s with heap:=h',toks:=f}:=I.un (Un.rB c d k a) (I.e6.rB c d k a new)
def a9.pins_of{a:b_ (g_×D_)}(I:a9 X au σ H s)(h:∀p∈a,s.1.get? p.1=a_ p.2/\H p.1=c_/\p.1≠X.env.locals/\p.1∉X.fs/\∀v,p.2.data≠.cell v):a9 X a σ H s:=
 ⟨I.ok,I.os,I.ln,I.base,I.qX,I.cell,I.free,I.oD,λp b=>(O_.mp b).elim (λz=>I.q0 p (jG _ z)) (h p),I.e6,I.len⟩
def zq{N:b_ k_}(c:N.Nodup){i j:h_}{x:k_}(a:N[i]?=a_ x)(b:N[j]?=a_ x):i=j:=by obtain⟨g,e⟩:=i_.mp a;obtain⟨f,d⟩:=i_.mp b;exact(List.getElem_inj c).mp (e.trans d.symm)
def v9{M:_q}{A:bT}{E:aC->aE->Prop}{i:h_}{x:k_}{v:V}{u:aC}{Q:_r->aE->Prop}(I:a9 X au σ H s)(hN:X.N.Nodup)(hi:X.N[i]?=a_ x)(C:N1 X.env.scope x)(r:eu v u)
  (h:∀s',a9 X au (σ.set i (a_ v)) H s'->(∃a,bN a s.1 s'.1/\(a=X.env.locals\/X.env.cells.lookup x=a_ a))->Q () s')(hf:Q! (X.fn x=d_\/X.env.scope.names.lookup x=a_ .local) Q0!):aP M A (storeName X.env x u) Q E s:=by
 obtain⟨m,hn,hl⟩:=id I.qX;have δ:(X.env.scope.kind==.class||(X.env.scope.kind==.module&&X.env.locals !=X.env.globals))=e_:=by rw[I.ok.kind];rfl
 have T:i<_7 σ:=by rw[I.len];exact(i_.mp hi).1
 have cne:=I.cne;have g:∀{a:g_}{h':r_},(∃o,s.1.get? a=a_ o/\H a=c_)->bN a s.1 h'->qb X.prog X.w H h':=λ{a h'} ha f b ob e=>by
  obtain⟨_,_,G⟩:=ha;refine(I.e6 b ob e).qZ (λc w' B q=>(f.2 c ?_).trans q) (λt q=>q) λt t q=>q
  rintro rfl
  obtain rfl|B:=B
  .rw[G]at e;cases e
  .rw[G]at B;cases B
 obtain O|O:=C
 .refine wpAny_storeName_local O hn (λh' χ f=>?_) δ;obtain⟨oL,_,_,φ,_⟩:=id hn;refine h _ ⟨I.ok,I.os,I.ln,⟨λb o e n Y C=>?_,λb o e n Y C=>?_,I.base.free,λb o e C=>?_,I.base.qM,I.base.nw,I.base.qw⟩,⟨_,χ,λj y v' l L e3=>?_⟩,λy c e=>?_,I.free,I.oD,λp hp=>?_,g ⟨oL,φ,I.free⟩ f,by simpa using I.len⟩ ⟨_,f,.inl _6⟩
  .exact(f.2 b (bE (bM (aM e) I.ok.above))).trans (I.base.keep b o e n Y C)
  .obtain⟨sl,l⟩:=I.base.slot b o e n Y C;exact⟨sl,(f.2 b (bE (bM (aM e) I.ok.above))).trans l⟩
  .obtain⟨o',l⟩:=I.base.there b o e C;exact⟨o',(f.2 b (bE (bM (aM e) I.ok.above))).trans l⟩
  .by_cases U:j=i
   .subst U;rw[hi]at l;cases l;rw[aQ T]at L;cases L;exact⟨u,r,.inl ⟨O,by simp⟩⟩
   .rw[aN (cW U)]at L;obtain⟨u',r',q⟩:=hl j y v' l L e3;refine⟨u',r',?_⟩;obtain ⟨k,e⟩|⟨k,c,e,z⟩:=q
    .refine .inl ⟨k,?_⟩;have:y≠x:=λe=>U (zq hN l (e▸hi));simp[this,e]
    .exact .inr ⟨k,c,e,z.sameBut f (cne y c e)⟩
  .obtain⟨w',z⟩:=I.cell y c e;exact⟨w',z.sameBut f (cne y c e)⟩
  .obtain⟨e,n,ne,nf,d⟩:=I.q0 p hp;exact⟨(f.2 p.1 ne).trans e,n,ne,nf,d⟩
 .have J:X.fn x=d_:=by
   obtain z|z:=hf
   .exact z
   .rw[z]at O;cases O
  obtain⟨c,B⟩:=I.ok.has x (.inl O);obtain⟨w',z⟩:=I.cell x c B;refine wpAny_storeName_cell I.ok.kind O B z (λh' ζ f=>?_);obtain⟨oc,β,α⟩:=id z;have ω:H c=c_:=(I.oD x c B).elim (λz=>z) λz=>by rw[J]at z;exact u_ z.1 (by decide)
  refine h {s with heap:=h'} ⟨I.ok,I.os,I.ln,⟨λb o e n Y C=>?_,λb o e n Y C=>?_,I.base.free,λb o e C=>?_,I.base.qM,I.base.nw,I.base.qw⟩,⟨m,hn.sameBut f (cW (cne x c B)),λj y v' l L e3=>?_⟩,λy c' e=>?_,I.free,I.oD,λp hp=>?_,g ⟨oc,β,ω⟩ f,by simpa using I.len⟩ ⟨c,f,.inr B⟩
  .exact(f.2 b (bE (bM (aM e) (I.ok.cab x c J B)))).trans (I.base.keep b o e n Y C)
  .obtain⟨sl,l⟩:=I.base.slot b o e n Y C;exact⟨sl,(f.2 b (bE (bM (aM e) (I.ok.cab x c J B)))).trans l⟩
  .obtain⟨o',l⟩:=I.base.there b o e C;exact⟨o',(f.2 b (bE (bM (aM e) (I.ok.cab x c J B)))).trans l⟩
  .by_cases U:j=i
   .subst U;rw[hi]at l;cases l;rw[aQ T]at L;cases L;exact⟨u,r,.inr ⟨.inl O,c,B,ζ⟩⟩
   .rw[aN (cW U)]at L;obtain⟨u',r',q⟩:=hl j y v' l L e3;refine⟨u',r',?_⟩;obtain q|⟨k,c',e,z'⟩:=q
    .exact .inl q
    .refine .inr ⟨k,c',e,z'.sameBut f ?_⟩
     rintro rfl
     exact U (zq hN l (I.ok.inj _ _ _ e B▸hi))
  .by_cases ε:c'=c
   .subst ε;exact⟨_,ζ⟩
   .obtain⟨w2,z2⟩:=I.cell y c' e;exact⟨w2,z2.sameBut f ε⟩
  .obtain⟨e,n,ne,nf,d⟩:=I.q0 p hp;refine⟨(f.2 p.1 ?_).trans e,n,ne,nf,d⟩;intro q;rw[q,β]at e;have q':oc=p.2:=aZ e;exact d w' (by rw[<-q'];exact α)
def Hy{M:_q}{A:bT}{E:aC->aE->Prop}{i:h_}{x:k_}{v:V}{u:aC}{Q:_r->aE->Prop}(I:a9 X au σ H s)(e:X.N.Nodup)(c:X.N[i]?=a_ x)(b:N1 X.env.scope x)(r:eu v u)
  (h:∀a,a9 X au (σ.set i (a_ v)) H a->Q () a)(d:Q! (X.fn x=d_\/X.env.scope.names.lookup x=a_ .local) Q0!):aP M A (storeName X.env x u) Q E s:=
 v9 I e c b r (λa f z=>h a f) d
def a9.call'{a:aE}{g:b_ g_}(I:a9 X au σ H s)(j:a.os=s.os)(u:Un (vp X.stack) g H H' s.1 a.1)(d:qb X.prog X.w H' a.1)(l:nE a.gens)
  (f:∀b∈g,(b∈X.ex\/X.kt.1.1.size<=b)/\b≠X.env.locals/\(∀x c,X.env.cells.lookup x=a_ c->c≠b)/\∀p∈X.pn++au,p.1≠b):a9 X au σ H' a:=by
 obtain⟨h',m,n,h,i⟩:=a;have e:i=s.os:=j;subst e;exact I.call (g':=m) (t':=h) (d':=n) u d l f
end
abbrev XK:=aC->f_ g_->Hp->Prop
abbrev St:=b_ (f_ V)
abbrev VK:=V->Hp->Prop
abbrev TE:=St->Hp->VK->Prop
abbrev TT:=St->Hp->(l_->Hp->Prop)->Prop
abbrev TA:=St->Hp->(b_ V->Hp->Prop)->Prop
structure qh where
 nx:St->Hp->Prop
 rt:VK
 bk:St->Hp->Prop:=λ_ _=>L_
 ct:St->Hp->Prop:=λ_ _=>L_
abbrev TS:=qh->St->Hp->Prop
inductive EP(X:Cx)(au:b_ (g_×D_))(σ:St)(Q:VK)(u:aC)(s':aE):Prop
 |mk (v H') (_:a9 X au σ H' s') (_:eu v u) (_:Q v H'):EP X au σ Q u s'
def TP(X:Cx)(a:b_ (g_×D_))(σ:St)(Q:l_->Hp->Prop)(b:l_)(d:aE):Prop:=∃c,a9 X a σ c d/\Q b c
inductive AP(X:Cx)(au:b_ (g_×D_))(σ:St)(Q:b_ V->Hp->Prop)(us:b_ aC)(s':aE):Prop
 |mk (vs H') (_:a9 X au σ H' s') (_:dg vs us) (_:Q vs H'):AP X au σ Q us s'
def SP(X:Cx)(b:b_ (g_×D_))(D:qh)(f:Flow)(d:aE):Prop:=
 match f with
 |.next=>∃a c,a9 X b a c d/\D.nx a c
 |.brk=>∃a c,a9 X b a c d/\D.bk a c
 |.cont=>∃a c,a9 X b a c d/\D.ct a c
 |.ret u=>∃v a c,a9 X b a c d/\eu v u/\D.rt v c
def PE(X:Cx)(e:Expr)(t:TE):Prop:=
 ∀(a:b_ (g_×D_))(s:aE)(σ:St)(H:Hp)(Q:VK),a9 X a σ H s->t σ H Q->aP (aW X.prog X.w) X.A (I_ e X.env) (EP X a σ Q) X.xe s
def PT(X:Cx)(e:Expr)(t:TT):Prop:=
 ∀(a:b_ (g_×D_))(s:aE)(σ:St)(H:Hp)(Q:l_->Hp->Prop),a9 X a σ H s->t σ H Q->aP (aW X.prog X.w) X.A (isTrue e X.env (I_ e X.env)) (TP X a σ Q) X.xe s
def PW(X:Cx)(e:Expr)(t:TT):Prop:=
 ∀(b:N! aC)(a:b_ (g_×D_))(s:aE)(σ:St)(H:Hp)(Q:l_->Hp->Prop),a9 X a σ H s->t σ H Q->aP (aW X.prog X.w) X.A (isTrue e X.env b) (TP X a σ Q) X.xe s
def PW.pt{X:Cx}{e:Expr}{t:TT}(h:PW X e t):PT X e t:=h _
def PA(X:Cx)(es:b_ Expr)(t:TA):Prop:=
 ∀(b:v_)(a:b_ (g_×D_))(s:aE)(σ:St)(H:Hp)(Q:b_ V->Hp->Prop),a9 X a σ H s->t σ H Q->aP (aW X.prog X.w) X.A (spliced (dW b (aU es X.env))) (AP X a σ Q) X.xe s
def PS(X:Cx)(st:s_)(t:TS):Prop:=
 ∀(a:b_ (g_×D_))(s:aE)(σ:St)(H:Hp)(D:qh),a9 X a σ H s->t D σ H->aP (aW X.prog X.w) X.A (exec st X.env) (SP X a D) X.xe s
def qR(X:Cx)(st:b_ s_)(t:TS):Prop:=
 ∀(a:b_ (g_×D_))(s:aE)(σ:St)(H:Hp)(D:qh),a9 X a σ H s->t D σ H->aP (aW X.prog X.w) X.A (execs st X.env) (SP X a D) X.xe s
def c9{α:Type}{t:N! α}{Q b:α->aE->Prop}{M:_q}{A:bT}{E:aC->aE->Prop}{s:aE}(h:aP M A t Q E s)(c:∀a s,Q a s->b a s):aP M A t b E s:=cA h c λz z x=>x
section
variable{X:Cx}
def fh(i:h_):TE:=λσ H Q=>∃v,σ[i]?=a_ (a_ v)/\Q v H
def tC(v:V):TE:=λz H Q=>Q v H
def o4{i:h_}{x:k_}{pos:v_}(y:X.N[i]?=a_ x)(o:BY X.env.scope x)(g:Q! ((x==("__debug__":k_))=e_) Q1!)(j:Q! ((x==("__classdict__":k_))=e_) Q1!):PE X (.Name x pos) (fh i):=by
 intro f s σ H Q I h;obtain⟨v,e,h⟩:=h;obtain⟨m,p,w⟩:=I.qX;obtain⟨u,r,l⟩:=w i x v y e o;have d:EP X f σ Q u s:=⟨v,H,I,r,h⟩;obtain ⟨b,q⟩|⟨b,c,n,a⟩:=l
 .exact wpAny_Name (wpAny_loadName_local I.ok.kind b p q d) g
 .obtain b|b:=b
  .exact wpAny_Name (wpAny_loadName_cell I.ok.kind b n a d) g
  .exact wpAny_Name (wpAny_loadName_free I.ok.kind b n a d j) g
def DD{i j a}:PE X (.Constant (.int i) j a) (tC (.int i)):=λz z z H z I h=>wpAny_Constant_int ⟨.int i,H,I.qs _,⟨_,_6⟩,h⟩
def JY{b j a}:PE X (.Constant (.bool b) j a) (tC (.bl b)):=λz z z H z I h=>Constant_bool ⟨.bl b,H,I,_6,h⟩
def DB{j a}:PE X (.Constant .none j a) (tC .fm):=λz z z H z I h=>Constant_none ⟨.fm,H,I,_6,h⟩
def EY{x j a}:PE X (.Constant (.str x) j a) (tC (.str x)):=λz z z H z I h=>A? ⟨.str x,H,I.qs _,⟨_,_6⟩,h⟩
def Gl(X:Cx)(x:k_):Prop:=X.env.kindOf x=a_ .globalImplicit
def ma{E:aC->aE->Prop}{a:b_ (g_×D_)}{s:aE}{σ:St}{H:Hp}{x:k_}{u:aC}{b:v_}{Q:aC->aE->Prop}(I:a9 X a σ H s)(d:Gl X x)(c:X.mg x=a_ u)(h:Q u s)
  (e:Q! ((x==("__debug__":k_))=e_) Q1!):aP (aW X.prog X.w) X.A (I_ (.Name x b) X.env) Q E s:=
 _s I.ok.kind d (Calls.loadGlobal_global (by rw[I.ok.rC];exact I.q7.rC.keeps I.bk) c h) e
def n6{E:aC->aE->Prop}{a:b_ (g_×D_)}{s:aE}{σ:St}{H:Hp}{x:k_}{u:aC}{b:v_}{Q:aC->aE->Prop}(I:a9 X a σ H s)(f:Gl X x)(e:X.mg x=c_)(c:eX x=a_ u)(h:Q u s)
  (d:Q! (x≠"__name__") Q1!)(g:Q! ((x==("__debug__":k_))=e_) Q1!):aP (aW X.prog X.w) X.A (I_ (.Name x b) X.env) Q E s:=by
 obtain⟨l,j,i⟩:=I.q7.blt;exact _s I.ok.kind f (Calls.loadGlobal_builtin (by rw[I.ok.rC];exact I.q7.rC.keeps I.bk) e (by rw[I.ok.blt];exact j.keeps I.bk) ((i x d).trans c) h) g
def Dw{x:k_}{v:V}{u:aC}{pos:v_}(b:Gl X x)(a:X.mg x=a_ u)(r:eu v u)(c:Q! ((x==("__debug__":k_))=e_) Q1!):PE X (.Name x pos) (tC v):=
 λz z z H z I h=>ma I b a ⟨v,H,I,r,h⟩ c
def My{x:k_}{v:V}{u:aC}{pos:v_}(d:Gl X x)(c:X.mg x=c_)(a:eX x=a_ u)(r:eu v u)(b:Q! (x≠"__name__") Q1!)(e:Q! ((x==("__debug__":k_))=e_) Q1!):PE X (.Name x pos) (tC v):=
 λz z z H z I h=>n6 I d c a ⟨v,H,I,r,h⟩ b e
def SM(b a:TE)(k:n_->n_->Hp->Prop):St->Hp->Prop:=λσ H=>b σ H λx d=>a σ d λy c=>∃i j,x=.int i/\y=.int j/\k i j c
variable{a b:Expr}{ta tb:TE}{pos:v_}
def QX(p:n_->n_->l_)(ta tb:TE):TE:=λσ H Q=>SM ta tb (λi j c=>Q (.bl (p i j)) c) σ H
abbrev tLe:TE->TE->TE:=QX λi j=>decide (i<=j)
variable{tA tB':TT}{bc:b_ Expr}
def PB(t u:TT):TT:=λσ H Q=>t σ H λc d=>if c=d_ then u σ d Q else Q e_ d
def SK(t u:TT):TT:=λσ H Q=>t σ H λc d=>if c=d_ then Q d_ d else u σ d Q
def QT(t:TT):TT:=λσ H Q=>t σ H λc d=>Q (!c) d
def Yl(f:PT X a tA):PW X (.BoolOp .And [a] pos) tA:=by
 intro g d s σ H Q I h;refine isTrue_and (c9 (f d s σ H Q I h) λc i e=>?_);cases c with
 |true=>exact isTrue_and_nil e
 |false=>exact e
def FR(f:PT X a tA):PW X (.BoolOp .Or [a] pos) tA:=by
 intro g d s σ H Q I h;refine isTrue_or (c9 (f d s σ H Q I h) λc i e=>?_);cases c with
 |false=>exact isTrue_or_nil e
 |true=>exact e
def Uq(m:PT X a tA)(l:PW X (.BoolOp .And (b::bc) pos) tB'):PW X (.BoolOp .And (a::b::bc) pos) (PB tA tB'):=by
 intro i d s σ H Q I h;refine isTrue_and (c9 (m d s σ H _ I h) λc j ⟨g,f,e⟩=>?_);cases c with
 |true=>exact l i d j σ g Q f e
 |false=>exact⟨g,f,e⟩
def JP(m:PT X a tA)(l:PW X (.BoolOp .Or (b::bc) pos) tB'):PW X (.BoolOp .Or (a::b::bc) pos) (SK tA tB'):=by
 intro i d s σ H Q I h;refine isTrue_or (c9 (m d s σ H _ I h) λc j ⟨g,f,e⟩=>?_);cases c with
 |true=>exact⟨g,f,e⟩
 |false=>exact l i d j σ g Q f e
def ER(e:PT X a tA):PT X (.UnaryOp .Not a pos) (QT tA):=by intro d s σ H Q I h;exact isTrue_not (e d s σ H (λc f=>Q (!c) f) I h)
def KY(ta tb:TE):TE:=λσ H Q=>ta σ H λx d=>∃c,x=.bl c/\if c=d_ then tb σ d Q else Q (.bl e_) d
def QS(ta tb:TE):TE:=λσ H Q=>ta σ H λx d=>∃c,x=.bl c/\if c=d_ then Q (.bl d_) d else tb σ d Q
def KS(ta:TE):TE:=λσ H Q=>ta σ H λx d=>∃c,x=.bl c/\Q (.bl (!c)) d
def EZ{d}{t:TE}(h:PE X a t):PE X (.BoolOp d [a] pos) t:=λc s σ H Q I e=>BoolOp_one (h c s σ H Q I e)
def DG(m:PE X a ta)(l:PE X (.BoolOp .And (b::bc) pos) tb):PE X (.BoolOp .And (a::b::bc) pos) (KY ta tb):=by
 intro d s σ H Q I h;refine BoolOp_and (c9 (m d s σ H _ I h) λv i ⟨x,g,f,j,e⟩=>?_);obtain⟨c,rfl,e⟩:=e;cases j;refine dG ?_;cases c with
 |true=>exact l d i σ g Q f e
 |false=>exact⟨.bl e_,g,f,_6,e⟩
def JW(m:PE X a ta)(l:PE X (.BoolOp .Or (b::bc) pos) tb):PE X (.BoolOp .Or (a::b::bc) pos) (QS ta tb):=by
 intro d s σ H Q I h;refine BoolOp_or (c9 (m d s σ H _ I h) λv i ⟨x,g,f,j,e⟩=>?_);obtain⟨c,rfl,e⟩:=e;cases j;refine dG ?_;cases c with
 |false=>exact l d i σ g Q f e
 |true=>exact⟨.bl d_,g,f,_6,e⟩
def DA(g:PE X a ta):PE X (.UnaryOp .Not a pos) (KS ta):=by intro d s σ H Q I h;refine UnaryOp_ (c9 (g d s σ H _ I h) λv l ⟨x,j,i,f,e⟩=>?_);obtain⟨c,rfl,e⟩:=e;cases f;exact not_of (dG ⟨.bl (!c),j,i,_6,e⟩)
def SL(t:TT)(ta tb:TE):TE:=λσ H Q=>t σ H λc d=>if c=d_ then ta σ d Q else tb σ d Q
def zw{c:Expr}(l:PT X c tA)(n:PE X a ta)(m:PE X b tb):PE X (.IfExp c a b pos) (SL tA ta tb):=by
 intro e s σ H Q I h;refine wpAny_IfExp (c9 (l e s σ H _ I h) λd f ⟨j,i,g⟩=>?_);cases d with
 |true=>exact n e f σ j Q i g
 |false=>exact m e f σ j Q i g
end
def h8(K:aK)(H:Hp)(a:g_)(xs:b_ V):Prop:=
 Rd H a (.a8 xs)\/
  ∃(o:D_) (b:q_ aC) (n:h_),K.lookup a=a_ o/\o.cls=.type "list"/\o.dict=c_/\o.data=.seq b n/\b.size<=aG/\dg xs b.toList
def ng(K:aK)(H:Hp)(a:g_)(xs:b_ V):Prop:=
 Rd H a (.ci xs)\/
  ∃(o:D_) (b:q_ aC) (n:h_),K.lookup a=a_ o/\o.cls=.type "tuple"/\o.data=.seq b n/\b.size<=aG/\dg xs b.toList
noncomputable def OS:aC->f_ V
 |.none=>a_ .fm
 |.bool b=>a_ (.bl b)
 |.int i _=>a_ (.int i)
 |.str x _=>a_ (.str x)
 |.bytes b _=>a_ (.byt b)
 |.float b _=>a_ (.flt b)
 |.ref a=>a_ (.ref a)
 |.type n=>a_ (.ty n)
 |_=>c_
def eu.abs{x:V}{u:aC}(r:eu x u):OS u=a_ x:=by
 cases x with
 |fm=>cases r;rfl
 |bl _=>cases r;rfl
 |int _=>obtain⟨t,rfl⟩:=r;rfl
 |str _=>obtain⟨t,rfl⟩:=r;rfl
 |byt _=>obtain⟨t,rfl⟩:=r;rfl
 |flt _=>obtain⟨t,rfl⟩:=r;rfl
 |ref _=>cases r;rfl
 |ty _=>cases r;rfl
def eu.inj{x y:V}{u:aC}(r:eu x u)(q:eu y u):x=y:=aZ (r.abs.symm.trans q.abs)
theorem dg.inj:∀{xs a:b_ V}{b:b_ aC},dg xs b->dg a b->xs=a
 |_,_,_,.nil,.nil=>rfl
 |_,_,_,.cons r t,.cons d c=>by rw[r.inj d,dg.inj t c]
section
variable{X:Cx}{au:b_ (g_×D_)}{σ:St}{H:Hp}{s:aE}{a:g_}{xs ys:b_ V}
def h8.of{K:aK}(h:H a=a_ (.a8 xs)):h8 K H a xs:=.inl (.inl h)
def ng.of{K:aK}(h:H a=a_ (.ci xs)):ng K H a xs:=.inl (.inl h)
def a9.list(I:a9 X au σ H s)(h:h8 X.K H a xs):∃b:b_ aC,dg xs b/\PlainL s.1 a b.toArray/\_7 xs<=aG:=by
 obtain h|⟨o,b,n,d,g,f,c,i,r⟩:=h
 .obtain⟨z,b,n,r,e⟩:=h.ok I.e6;exact⟨b,r,⟨_,n,e,_6,_6,_6⟩,z⟩
 .refine⟨b.toList,r,⟨o,n,I.qY a o d,g,f,by simpa using c⟩,?_⟩;have e:=r.length;simp only[eE]at e
  lia
def a9.tuple(I:a9 X au σ H s)(h:ng X.K H a xs):∃b:b_ aC,dg xs b/\iJ s.1 a b.toArray/\_7 xs<=aG:=by
 obtain h|⟨o,b,n,d,f,c,g,r⟩:=h
 .obtain⟨z,b,r,p⟩:=h.ok I.e6;exact⟨b,r,p,z⟩
 .refine⟨b.toList,r,⟨o,I.qY a o d,f,n,by simpa using c⟩,?_⟩;have e:=r.length;simp only[eE]at e
  lia
def a9.list_inj(I:a9 X au σ H s)(h:h8 X.K H a xs)(j:h8 X.K H a ys):xs=ys:=by
 obtain⟨c,r,⟨o,n,e,_,_,d⟩,_⟩:=I.list h;obtain⟨b,i,⟨m,p,f,_,_,g⟩,_⟩:=I.list j;rw[e]at f;cases f;rw[d]at g;injection g with l _
 have:c=b:=by simpa using C_ Array.toList l
 subst this;exact r.inj i
def a9.ql(I:a9 X au σ H s)(h:ng X.K H a xs)(j:ng X.K H a ys):xs=ys:=by
 obtain⟨c,r,⟨o,e,_,n,d⟩,_⟩:=I.tuple h;obtain⟨b,i,⟨m,f,_,p,g⟩,_⟩:=I.tuple j;rw[e]at f;cases f;rw[d]at g;injection g with l _
 have:c=b:=by simpa using C_ Array.toList l
 subst this;exact r.inj i
end
noncomputable abbrev Cx.qK(X:Cx)(E:aC->aE->Prop):Cx:={X with xe:=E}
abbrev Cx.qd(X:Cx):Cx:=X.qK λz z=>L_
def Cx.Ok.qK{X:Cx}(ok:X.Ok)(E:aC->aE->Prop):(X.qK E).Ok:=
 ⟨ok.q7,ok.kind,ok.rC,ok.blt,ok.above,ok.inj,ok.has,ok.cab,ok.hd,ok.frames,ok.stk,ok.exf,ok.bs,ok.bsz,ok.noex,ok.exfs,ok.qN,ok.frf⟩
def Cx.Ok.o0{X:Cx}{E:aC->aE->Prop}(ok:(X.qK E).Ok):X.Ok:=
 ⟨ok.q7,ok.kind,ok.rC,ok.blt,ok.above,ok.inj,ok.has,ok.cab,ok.hd,ok.frames,ok.stk,ok.exf,ok.bs,ok.bsz,ok.noex,ok.exfs,ok.qN,ok.frf⟩
section
variable{X:Cx}{au:b_ (g_×D_)}{σ:St}{H:Hp}{s:aE}{E:aC->aE->Prop}
def a9.qK(I:a9 X au σ H s)(E:aC->aE->Prop):a9 (X.qK E) au σ H s:=⟨I.ok.qK E,I.os,I.ln,I.base,I.qX,I.cell,I.free,I.oD,I.q0,I.e6,I.len⟩
def a9.o0(I:a9 (X.qK E) au σ H s):a9 X au σ H s:=⟨I.ok.o0,I.os,I.ln,I.base,I.qX,I.cell,I.free,I.oD,I.q0,I.e6,I.len⟩
def SP.o0{D:qh}{f:Flow}{c:aE}(h:SP (X.qK E) au D f c):SP X au D f c:=by
 cases f with
 |next=>obtain⟨a,b,I,q⟩:=h;exact⟨a,b,I.o0,q⟩
 |brk=>obtain⟨a,b,I,q⟩:=h;exact⟨a,b,I.o0,q⟩
 |cont=>obtain⟨a,b,I,q⟩:=h;exact⟨a,b,I.o0,q⟩
 |ret u=>obtain⟨v,a,b,I,r,q⟩:=h;exact⟨v,a,b,I.o0,r,q⟩
def qR.qd{st:b_ s_}{t:TS}(h:qR X.qd st t):qR X st t:=λau s σ H D I a=>
 cA (h au s σ H D (I.qK _) a) (λy y q=>q.o0) λy y z=>cS z
end
section
variable{X:Cx}{st:s_}{bc:b_ s_}{t u:TS}{e:Expr}{te:TE}{pos:v_}
def AM:TS:=λD σ H=>D.nx σ H
def KO(t u:TS):TS:=λD σ H=>t {D with nx:=u D} σ H
def Yd:qR X [] AM:=λz z σ H z I h=>iU ⟨σ,H,I,h⟩
def jn(g:PS X st t)(d:qR X bc u):qR X (st::bc) (KO t u):=by
 intro a s σ H D I h;refine oX (c9 (g a s σ H {D with nx:=u D} I h) λf c q=>?_);cases f with
 |next=>obtain⟨b,j,i,q⟩:=q;exact d a c b j D i q
 |ret v=>exact q
 |brk=>exact q
 |cont=>exact q
def mf(b:PS X st t):qR X [st] t:=by
 intro a s σ H D I h;refine oX (c9 (b a s σ H D I h) λf c q=>?_);cases f with
 |next=>exact iU q
 |ret v=>exact q
 |brk=>exact q
 |cont=>exact q
def a9.quiet{a:b_ (g_×D_)}{σ:St}{H:Hp}{s:aE}(I:a9 X a σ H s):interactive X.env=e_:=by simp[interactive,I.ok.kind]
def ET{x j pos a}:PS X (.Expr (.Constant (.str x) j pos) a) AM:=λz s σ H z I h=>wpAny_Expr (A? (show SP X _ _ .next {s with toks:=s.toks+1}from⟨σ,H,I.qs _,h⟩)) I.quiet
def KW(te:TE):TS:=λD σ H=>te σ H λz a=>D.nx σ a
def je(d:PE X e te)(c:Q! (eR e c_ pos.line X.env=pure e_) Q2!):PS X (.Expr e pos) (KW te):=by intro a s σ H D I h;exact wpAny_Expr_any (c9 (d a s σ H _ I h) λv i ⟨x,g,f,j,b⟩=>⟨σ,g,f,b⟩) I.quiet c
def QR(te:TE):TS:=λD σ H=>te σ H D.rt
def ES(d:PE X e te):PS X (.Return (a_ e) pos) (QR te):=by intro a s σ H D I h;exact wpAny_Return_some (c9 (d a s σ H _ I h) λv i ⟨x,g,f,b,c⟩=>⟨x,σ,g,f,b,c⟩)
def KP:TS:=λD z H=>D.rt .fm H
def Yb:PS X (.Return c_ pos) KP:=λz z σ H z I h=>wpAny_Return_none ⟨.fm,σ,H,I,_6,h⟩
def QU(c:TT)(t u:TS):TS:=λD σ H=>c σ H λb a=>if b=d_ then t D σ a else u D σ a
def Ua{c:Expr}{a b:b_ s_}{g:TT}(n:PT X c g)(p:qR X a t)(o:qR X b u):PS X (.If c a b pos) (QU g t u):=by
 intro f s σ H D I h;refine wpAny_If (c9 (n f s σ H _ I h) λd i ⟨m,l,j⟩=>?_);cases d with
 |true=>exact p f i σ m D l j
 |false=>exact o f i σ m D l j
end
abbrev TG:=V->St->Hp->(St->Hp->Prop)->Prop
abbrev AA:=b_ V->St->Hp->(St->Hp->Prop)->Prop
def PG(X:Cx)(a:Expr)(t:TG):Prop:=
 ∀(b:b_ (g_×D_))(s:aE)(σ:St)(H:Hp)(v:V)(u:aC)(Q:St->Hp->Prop),a9 X b σ H s->eu v u->t v σ H Q->
  aP (aW X.prog X.w) X.A (assign a X.env u) (λz e=>∃c d,a9 X b c d e/\Q c d) X.xe s
def HI(X:Cx)(f:b_ Expr)(t:AA):Prop:=
 ∀(a:b_ (g_×D_))(s:aE)(σ:St)(H:Hp)(c:b_ V)(d:b_ aC)(Q:St->Hp->Prop),a9 X a σ H s->dg c d->t c σ H Q->
  aP (aW X.prog X.w) X.A (assignInOrder ((jH f X.env).map (·.2)) d) (λz g=>∃b e,a9 X a b e g/\Q b e) X.xe s
section
variable{X:Cx}{pos:v_}
def ij(i:h_):TG:=λv σ H Q=>Q (σ.set i (a_ v)) H
def xw{i:h_}{x:k_}(e:X.N.Nodup)(c:X.N[i]?=a_ x)(b:N1 X.env.scope x)(d:Q! (X.fn x=d_\/X.env.scope.names.lookup x=a_ .local) Q0!):PG X (.Name x pos) (ij i):=by intro a s σ H v u Q I r h;exact wpAny_assign_Name (Hy I e c b r (λg f=>⟨_,H,f,h⟩) d)
noncomputable def af:AA:=λa σ H Q=>a=[]/\Q σ H
inductive ac(t:TG)(u:AA)(vs:b_ V)(σ:St)(H:Hp)(Q:St->Hp->Prop):Prop
 |mk (v r) (_:vs=v::r) (_:t v σ H λσ' H'=>u r σ' H' Q):ac t u vs σ H Q
def Dy:HI X [] af:=by intro a s σ H b c Q I r h;obtain⟨e,h⟩:=h;subst e;cases r;exact assignInOrder_nil ⟨σ,H,I,h⟩
def o6{e:Expr}{es:b_ Expr}{t:TG}{u:AA}(j:PG X e t)(i:HI X es u)
  (g:Q! ((jH (e::es) X.env).map (·.2)=assign e X.env::(jH es X.env).map (·.2)) Q2!):HI X (e::es) (ac t u):=by
 intro a s σ H o q Q I r h;obtain⟨v,p,l,h⟩:=h;subst l;cases r with
 |cons r d=>rw[g];refine assignInOrder_cons (c9 (j a s σ H _ _ _ I r h) λz c ⟨b,n,m,f⟩=>?_);exact i a c b n _ _ Q m d f
inductive cr(K:aK)(n:h_)(t:AA)(v:V)(σ:St)(H:Hp)(Q:St->Hp->Prop):Prop
 |mk (a xs) (_:v=.ref a) (_:ng K H a xs) (_:_7 xs=n) (_:t xs σ H Q):cr K n t v σ H Q
def Kr{es:b_ Expr}{k:h_}{t:AA}{n:h_}(w:X.calm=d_)(h:HI X es t)
  (p:Q! ((jH es X.env).length=n) Q2!)(f:Q! ((jH es X.env).findIdx? (·.1)=c_) Q2!):PG X (.Tuple es k pos) (cr X.K n t):=by
 intro c s σ H v u Q I r d;obtain⟨a,xs,y,m,q,d⟩:=d;subst y;cases r;obtain⟨i,g,l,A⟩:=I.tuple m;refine assign_Tuple_tuple (I.ok.hd w) l (by simp[p,<-q,g.length]) f λx j=>?_;have z:a9 X c σ H {s with heap:=x}:=I.kd (t':=s.toks) λb o e=>j b o (bE (aM e)) e;exact h c _ σ H xs _ Q z (by simpa using g) d
def Ba(a:TE)(g:TG):TS:=λD σ H=>a σ H λx b=>g x σ b D.nx
def Ku{i:h_}{x:k_}{e:Expr}{b:TE}{pos':v_}(n:X.N.Nodup)(j:X.N[i]?=a_ x)(f:N1 X.env.scope x)(m:PE X e b)(g:Q! (eR e (a_ (.Name x pos')) pos.line X.env=pure e_) Q2!)(l:Q! (X.fn x=d_\/X.env.scope.names.lookup x=a_ .local) Q0!):
  PS X (.Assign [.Name x pos'] e pos) (Ba b (ij i)):=by
 intro a s σ H D I h;refine wpAny_Assign_Name (c9 (m a s σ H _ I h) λv u ⟨y,q,p,c,d⟩=>?_) g;exact Hy p n j f c (λr o=>⟨_,q,o,d⟩) l
end
section
variable{X:Cx}{pos:v_}
inductive tWhile(c:TT)(tb:TS)(D:qh)(σ:St)(H:Hp):Prop
 |mk (W:h_->St->Hp->Prop) (_:(∃m,W m σ H)) (_:∀m σ H,W m σ H->c σ H λb H1=>if b=d_ then∃N:St->Hp->Prop,(∀σ' H',N σ' H'->∃m',m'<m/\W m' σ' H')/\tb {D with nx:=N,ct:=N,bk:=D.nx} σ H1 else D.nx σ H1):tWhile c tb D σ H
def Gz{c:Expr}{g:b_ s_}{y:TT}{z:TS}(B:kU (aW X.prog X.w) X.A X.env X.xe)(hc:PT X c y)(hb:qR X g z):PS X (.While c g [] pos) (tWhile y z):=by
 intro d s σ H D I h;obtain⟨W,⟨Y,O⟩,j⟩:=h;refine wpAny_While (codeAny_whileLoop (λn U=>∃i L,a9 X d i L U/\W n i L) ?_ Y ⟨σ,H,I,O⟩)
 rintro n T ⟨e,J,I1,M⟩
 refine hJ B (c9 (hc d T e J _ I1 (j n e J M)) λb Q ⟨G,E,o⟩=>?_);cases b with
 |true=>
  obtain⟨N,C,o⟩:=o;rw[aO _6];refine hJ B (c9 (hb d Q e G _ E o) λf s3 m=>?_);cases f with
  |next=>obtain⟨a,l,x,q⟩:=m;obtain⟨r,u,p⟩:=C a l q;exact⟨r,u,a,l,x,p⟩
  |cont=>obtain⟨a,l,x,q⟩:=m;obtain⟨r,u,p⟩:=C a l q;exact⟨r,u,a,l,x,p⟩
  |brk=>exact m
  |ret v=>exact m
 |false=>rw[aJ p_];exact iU ⟨e,G,E,o⟩
end
structure It where
 go:h_->Hp->Prop
 yld:h_->Hp->V->Hp->Prop
 stop:h_->Hp->Prop
inductive qI(X:Cx)(au:b_ (g_×D_))(H:Hp)(b:g_):Prop
 |mk (_:H b=c_) (_:b≠X.env.locals) (_:b∉X.fs) (_:(b∈X.ex\/X.kt.1.1.size<=b)) (_:(∀x c,X.env.cells.lookup x=a_ c->c≠b)) (_:∀p∈X.pn++au,p.1≠b):qI X au H b
def a9.qU{X:Cx}{a:b_ (g_×D_)}{σ:St}{H f:Hp}{s:aE}{b:g_}(I:a9 X a σ H s)(d:s.1.1.size<=b)(h:f b=c_):qI X a f b:=by
 refine⟨h,cE (bM I.lt d),I.nofs d,.inr (cB I.sz d),λx c e z=>?_,λp g z=>?_⟩
 .obtain⟨v,q⟩:=I.cell x c e;exact u_ (bM q.lt (by rw[z];exact d)) (cQ _)
 .exact u_ (bM (aM (I.q0 p g).1) (by rw[z];exact d)) (cQ _)
structure qO(P:aV)(w:bP)(K:aK)(tg:Expr)(J:It)(fp:b_ g_)(it:g_)(tn:h_->r_->Prop):Prop where
 mem:it∈fp
 obj:∀i h,tn i h->∀b∈fp,∃o,h.get? b=a_ o/\∀v,o.data≠.cell v
 keep:∀i h h',tn i h->(∀b∈fp,∀o,h.get? b=a_ o->h'.get? b=a_ o)->tn i h'
 item:∀(X:Cx),X.prog=P->X.w=w->X.K=K->X.calm=d_->∀(i:h_)(au:b_ (g_×D_))(s:aE)(σ:St)(H:Hp)(E:aC->aE->Prop),a9 X au σ H s->(∀b∈fp,qI X au H b)->tn i s.1->J.go i H->
  aP (aW P w) X.A (eY (.ref it)) (λr s1=>∃u,r=a_ u/\
   aP (aW P w) X.A (mY tg (.ref it) u) (λ_ s2=>∃x H',a9 X au σ H' s2/\eu x u/\J.yld i H x H'/\tn (i+1) s2.1/\∀b∈fp,H' b=c_) E s1) E s
 done:∀(X:Cx),X.prog=P->X.w=w->X.K=K->X.calm=d_->∀(i:h_)(au:b_ (g_×D_))(s:aE)(σ:St)(H:Hp)(E:aC->aE->Prop),a9 X au σ H s->(∀b∈fp,qI X au H b)->tn i s.1->J.stop i H->
  aP (aW P w) X.A (eY (.ref it)) (λr s1=>r=c_/\a9 X au σ H s1) E s
 self:∀(A:bT)(i:h_)(s:aE)(Q:aC->aE->Prop)(E:aC->aE->Prop),tn i s.1->Q (.ref it) s->aP (aW P w) A (a! (.ref it)) Q E s
abbrev TI:=St->Hp->(It->Hp->Prop)->Prop
inductive PIE(X:Cx)(au:b_ (g_×D_))(σ:St)(tg:Expr)(R:It->Hp->Prop)(itv:aC)(s2:aE):Prop
 |mk (it:g_) (fp:b_ g_) (tn:h_->r_->Prop) (J:It) (H':Hp) (_:itv=.ref it) (_:a9 X au σ H' s2) (_:qO X.prog X.w X.K tg J fp it tn) (_:tn 0 s2.1) (_:(∀b∈fp,qI X au H' b)) (_:R J H'):PIE X au σ tg R itv s2
def PI(X:Cx)(tg iter:Expr)(b:TI):Prop:=
 ∀(a:b_ (g_×D_))(s:aE)(σ:St)(H:Hp)(R:It->Hp->Prop),a9 X a σ H s->b σ H R->
  aP (aW X.prog X.w) X.A (I_ iter X.env) (λv c=>aP (aW X.prog X.w) X.A (a! v) (PIE X a σ tg R) X.xe c) X.xe s
def Bs{M:_q}{A:bT}{E:aC->aE->Prop}{s:aE}{tg:Expr}{c:g_}{u:aC}{o:D_}{n:F_}{b:q_ aC}{Q:_r->aE->Prop}(d:s.1.get? c=a_ o)(g:o.cls=.type n)(f:o.data=.fields b)
  (e:["enumerate","zip","dict_itemiterator","dict_reverseitemiterator","odict_iterator","itertools.zip_longest","itertools.pairwise"].contains n=e_)(a:Q () s):aP M A (mY tg (.ref c) u) Q E s:=by
 unfold mY;cases tg<;>first
  |exact aD a
  | (cases u <;> first
    |exact aD a
    | (refine aA (wpAny_load d ?_)
       rw[g,f];show aP M A (if(["enumerate","zip","dict_itemiterator","dict_reverseitemiterator","odict_iterator","itertools.zip_longest","itertools.pairwise"].contains n&&b[0]?==a_ (cX _))=d_ then _ else _) Q E s;rw[aJ (by intro h;rw[e,Bool.false_and]at h;cases h)];exact aD a))
def LU(K:aK)(a:g_):It:=
 ⟨λi H=>∃xs x,h8 K H a xs/\xs[i]?=a_ x,λi H x b=>b=H/\∀xs,h8 K H a xs->xs[i]?=a_ x,λi H=>∃xs,h8 K H a xs/\_7 xs<=i⟩
def LQ(K:aK)(a:g_):It:=
 ⟨λi H=>∃xs x,ng K H a xs/\xs[i]?=a_ x,λi H x b=>b=H/\∀xs,ng K H a xs->xs[i]?=a_ x,λi H=>∃xs,ng K H a xs/\_7 xs<=i⟩
def LS(lo:n_)(n:h_):It:=⟨λi z=>i<n,λi H x a=>a=H/\x=.int (lo+i),λi z=>n<=i⟩
def B8{P:aV}{w:bP}{K:aK}{tg:Expr}(a g:g_):qO P w K tg (LU K a) [g] g (λi h=>h.IsListIter g a i) where
 mem:=by simp
 obj:=λi h st b j=>by
  have e:b=g:=by simpa using j
  subst e;obtain⟨o,e,c,d⟩:=st;exact⟨o,e,λv z=>by rw[d]at z;cases z⟩
 keep:=λi h q st k=>st.at λo e=>k g (by simp) o e
 item:=by intro X G B J T i f s σ H E I n st C;subst G B J;obtain⟨xs,x,m,A⟩:=C;obtain⟨y,r,p,hz⟩:=I.list m;obtain⟨u,hu,Y⟩:=r.get A;obtain⟨Q,O,f2,N,M,L⟩:=n g (by simp);refine wpAny_pyNext_list_item st p.isList (x:=u) (by simpa using hu) λq l U=>?_;have I1:a9 X f σ H {s with heap:=q}:=I.ii (t':=s.toks) (λb o j e=>(U.2 b j).trans e) Q O N M L;obtain⟨o,e,c,d⟩:=id l;exact⟨u,_6,Bs (s:={s with heap:=q}) e c d (by decide) ⟨x,H,I1,Y,⟨_6,λys hy=>by rw[I.list_inj hy m];exact A⟩,l,λb j=>(n b j).1⟩⟩
 done:=by intro X G B J T i f s σ H E I n st C;subst G B J;obtain⟨xs,m,A⟩:=C;obtain⟨y,r,p,hz⟩:=I.list m;obtain⟨Q,O,f2,N,M,L⟩:=n g (by simp);have hl:=r.length;exact wpAny_pyNext_list_end (I.ok.hd T) st p.isList (by simp;lia) λq eb=>⟨_6,I.ii (t':=s.toks) (λb o j e=>eb b o j e) Q O N M L⟩
 self:=λZ Z Z Z Z st h=>wpAny_pyIter_listiter st h
def Ar{P:aV}{w:bP}{K:aK}{tg:Expr}(a j:g_):qO P w K tg (LQ K a) [j] j (λi h=>h.IsTupleIter j a i) where
 mem:=by simp
 obj:=λi h st b l=>by
  have e:b=j:=by simpa using l
  subst e;obtain⟨o,e,c,d⟩:=st;exact⟨o,e,λv z=>by rw[d]at z;cases z⟩
 keep:=λi h r st k=>st.at λo e=>k j (by simp) o e
 item:=by intro X G B J T i f s σ H E I q st C;subst G B J;obtain⟨xs,x,n,A⟩:=C;obtain⟨g,y,p,hz⟩:=I.tuple n;obtain⟨u,hu,Y⟩:=y.get A;obtain⟨Q,O,f2,N,M,L⟩:=q j (by simp);refine wpAny_pyNext_tuple_item st (show s.1.IsTuple a g.toArray from p) (x:=u) (by simpa using hu) λr m U=>?_;have I1:a9 X f σ H {s with heap:=r}:=I.ii (t':=s.toks) (λb o l e=>(U.2 b l).trans e) Q O N M L;obtain⟨o,e,c,d⟩:=id m;exact⟨u,_6,Bs (s:={s with heap:=r}) e c d (by decide) ⟨x,H,I1,Y,⟨_6,λys hy=>by rw[I.ql hy n];exact A⟩,m,λb l=>(q b l).1⟩⟩
 done:=by intro X G B J T i f s σ H E I q st C;subst G B J;obtain⟨xs,n,A⟩:=C;obtain⟨g,y,p,hz⟩:=I.tuple n;obtain⟨Q,O,f2,N,M,L⟩:=q j (by simp);have hl:=y.length;exact wpAny_pyNext_tuple_end (I.ok.hd T) st (show s.1.IsTuple a g.toArray from p) (by simp;lia) λr eb=>⟨_6,I.ii (t':=s.toks) (λb o l e=>eb b o l e) Q O N M L⟩
 self:=λZ Z Z Z Z st h=>wpAny_pyIter_tupleiter st h
def Le{P:aV}{w:bP}{K:aK}{tg:Expr}(c:g_)(lo:n_)(n:h_):qO P w K tg (LS lo n) [c] c (λi h=>IsRangeIter h c (lo+(i:h_)*1) ((n:n_)-(i:h_)) 1) where
 mem:=by simp
 obj:=λi h st b d=>by
  have e:b=c:=by simpa using d
  subst e;exact⟨_,st,λv z=>by
   have G:mQ _=lY v:=z;cases G⟩
 keep:=λi h j st k=>k c (by simp) _ st
 item:=by intro X q l r p i a s σ H E I g st m;subst q l r;obtain⟨B,A,M,y,x,u⟩:=g c (by simp);have W:=Walks.range (prog:=X.prog) (w:=X.w) (I.ok.hd p) c lo 1 n;refine W.item i s _ _ m st λv j C L f J=>?_;obtain⟨t,rfl⟩:=L;have O:a9 X a σ H {s with heap:=j,toks:=C}:=I.ii (λb o d e=>J b o (by simpa using d) e) B A y x u;refine⟨_,_6,Bs (s:={s with heap:=j,toks:=C}) (n:="range_iterator") f _6 _6 (by decide) ⟨.int (lo+i),H,O,⟨t,?_⟩,⟨_6,_6⟩,f,λb d=>(g b d).1⟩⟩;rw[Int.mul_one]
 done:=by intro X q l r p i a s σ H E I g st m;subst q l r;obtain⟨B,A,M,y,x,u⟩:=g c (by simp);exact wpAny_pyNext_range_end (I.ok.hd p) st (by have:n<=i:=m;lia) λj N=>⟨_6,I.ii (t':=s.toks) (λb o d e=>N b o d e) B A y x u⟩
 self:=λZ Z Z Z Z st h=>wpAny_pyIter_rangeiter st h
section
variable{X:Cx}{tg:Expr}
def U0{c:b_ (g_×D_)}{σ:St}{H:Hp}{s:aE}{R:It->Hp->Prop}{E:aC->aE->Prop}{lo a:n_}{t u v:Z?}{d:h_}(I:a9 X c σ H s)(l:-(2^62)<=lo)(j:lo<2^62)(i:-(2^62)<=a)(h:a<2^62)
  (q:R (LS lo (a-lo).toNat) H):aP (aW X.prog X.w) X.A (a! (.ref s.1.1.size)) (PIE X c σ tg R) E {s with heap:=s.1.push {cls:=.type "range",data:=.fields #[.int lo t,.int a u,.int 1 v]},toks:=d}:=by
 refine wpAny_pyIter_range (IsRange.new ..) (small_one l j i h) ?_;have f:a9 X c σ H {s with heap:=s.1.push {cls:=.type "range",data:=.fields #[.int lo t,.int a u,.int 1 v]},toks:=d}:=I.kd λb o e=>aB _ e;refine⟨(s.1.push {cls:=.type "range",data:=.fields #[.int lo t,.int a u,.int 1 v]}).objs.size,[(s.1.push {cls:=.type "range",data:=.fields #[.int lo t,.int a u,.int 1 v]}).objs.size],_,_,H,_6,
  f.kd (t':=d) λb o e=>aB _ e,Le _ lo (a-lo).toNat,?_,λb g=>?_,q⟩
 .have n:lo+((0:h_):n_)*1=lo:=by simp
  have m:(((a-lo).toNat:h_):n_)-((0:h_):n_)=Builtin.Range.rangeSize lo a 1:=by rw[rangeSize_one];split<;>lia
  show IsRangeIter _ _ (lo+((0:h_):n_)*1) ((((a-lo).toNat:h_):n_)-((0:h_):n_)) 1;rw[n,m];exact aI _ _6
 .have e:b=(s.1.push {cls:=.type "range",data:=.fields #[.int lo t,.int a u,.int 1 v]}).objs.size:=by simpa using g
  subst e;exact f.qU (aL _) (f.e6.fresh (aL _))
def IQ(b:TA):TI:=λσ H R=>b σ H λa c=>∃j:n_,a=[.int j]/\-(2^62)<=j/\j<2^62/\R (LS 0 j.toNat) c
def Pp{a:Expr}{f:TA}{p b:v_}(o:Gl X "range")(n:X.mg "range"=c_)(u:PA X [a] f)(m:Q! (aU [a] X.env=[(e_,I_ a X.env)]) Q2!):PI X tg (.Call (.Name "range" p) [a] [] b) (IQ f):=by
 intro c s σ H R I h;refine Call_ (n6 I o n boot_range (dU (c9 (u b c s σ H _ I h) λx y ⟨w,z,v,i,d⟩=>?_) m _6));obtain⟨j,e,d,l,q⟩:=d;subst e;cases i with
 |cons r g=>cases g;obtain⟨t,rfl⟩:=r;exact call_range_1 (U0 v (by lia) (by lia) d l (by simpa using q))
def QV(e:TI)(g:TG)(f:TS):TS:=λD σ H=>e σ H λJ j=>∃W:h_->h_->St->Hp->Prop,(∃m,W 0 m σ j)/\∀i m σ H,W i m σ H->
 (J.stop i H/\D.nx σ H)\/(J.go i H/\∃N:St->Hp->Prop,(∀a b,N a b->∃d,d<m/\W (i+1) d a b)/\∀x b,J.yld i H x b->g x σ b λc h=>f {D with nx:=N,ct:=N,bk:=D.nx} c h)
def v5(a:b_ g_)(h:r_):b_ (g_×D_):=a.filterMap λb=>(h.get? b).map λo=>(b,o)
def sf{a:b_ g_}{h:r_}{b:g_}{o:D_}(c:b∈a)(e:h.get? b=a_ o):(b,o)∈v5 a h:=V_.mpr ⟨b,c,by rw[e];rfl⟩
def Pk{a:b_ g_}{h:r_}{p:g_×D_}(c:p∈v5 a h):p.1∈a/\h.get? p.1=a_ p.2:=by
 obtain⟨b,d,e⟩:=V_.mp c;cases q:h.get? b with
 |none=>rw[q]at e;cases e
 |some o=>rw[q]at e;have f:(b,o)=p:=aZ e;subst f;exact⟨d,q⟩
def a9.pinned{a:b_ (g_×D_)}{σ:St}{H:Hp}{s:aE}{c:b_ g_}(I:a9 X a σ H s)(j:∀b∈c,qI X a H b)(i:∀b∈c,∃o,s.1.get? b=a_ o/\∀v,o.data≠.cell v):a9 X (a++v5 c s.1) σ H s:=
 I.pins_of λp h=>(O_.mp h).elim (λz=>I.q0 p (dB _ z)) λz=>by obtain⟨f,e⟩:=Pk z;obtain⟨n,m,l,_⟩:=j p.1 f;obtain⟨o,g,d⟩:=i p.1 f;rw[e]at g;cases g;exact⟨e,n,m,l,d⟩
def a9.qL{a b:b_ (g_×D_)}{σ:St}{H:Hp}{s:aE}(I:a9 X (a++b) σ H s):a9 X a σ H s:=I.pins_of λp c=>I.q0 p (dB _ (jG _ c))
def D2{iter:Expr}{G:b_ s_}{wi:TI}{g:TG}{tb:TS}{pos:v_}(Y:kU (aW X.prog X.w) X.A X.env X.xe)(hc:X.calm=d_)(hi:PI X tg iter wi)(hg:PG X tg g)(q:qR X G tb)
  (hs:Q! (∀x,fW iter X.env x=pure x) Q3!):PS X (.For tg iter G [] pos) (QV wi g tb):=by
 intro c s σ H D I h;refine wpAny_For (c9 (hi c s σ H _ I h) λv s1 h1=>c9 h1 λitv s2 h2=>?_) hs;obtain⟨it,fp,tn,J,H2,e,I2,T,ε,f2,W,⟨m0,w0⟩,M⟩:=h2;subst e;have p:∀{C:Hp},(∀b∈fp,C b=c_)->∀b∈fp,qI X c C b:=λhn b q=>have z:=f2 b q;⟨hn b q,z.2,z.3,z.4,z.5,z.6⟩;refine codeAny_forLoop_any (λn s'=>∃i l C,a9 X c l C s'/\tn i s'.1/\(∀b∈fp,C b=c_)/\W i n l C) ?_ m0 ⟨0,σ,H2,I2,ε,λb q=>(f2 b q).1,w0⟩
 rintro n s3 ⟨i,j,H3,I3,Q,α,w3⟩
 rcases M i n j H3 w3 with⟨O,qn⟩|⟨go,N,hN,step⟩
 .refine hJ Y (c9 (T.done X _6 _6 _6 hc i c s3 j H3 X.xe I3 (p α) Q O) λr s4 ⟨hr,I4⟩=>?_);subst hr;exact iU ⟨j,H3,I4,qn⟩
 .refine hJ Y (c9 (T.item X _6 _6 _6 hc i c s3 j H3 X.xe I3 (p α) Q go) λr s4 ⟨u,hr,h4⟩=>?_);subst hr;refine hJ Y (c9 h4 λk s5 ⟨x,H5,I5,r5,y5,L,θ⟩=>?_);have ι:=I5.pinned (p θ) (T.obj _ _ L);refine hJ Y (c9 (hg _ s5 j H5 x u _ ι r5 (step x H5 y5)) λk s6 ⟨δ,H6,I6,q6⟩=>?_);refine hJ Y (c9 (q _ s6 δ H6 _ I6 q6) λf s7 E=>?_);have again:∀{a:St}{B:Hp},a9 X (c++v5 fp s5.1) a B s7->N a B->∃m,m<n/\∃i l C,a9 X c l C s7/\tn i s7.1/\(∀b∈fp,C b=c_)/\W i m l C:=λ{a B} y U=>by obtain⟨m',hm,w7⟩:=hN a B U;refine⟨m',hm,i+1,a,B,y.qL,T.keep _ _ _ L λb q o e=>(y.q0 (b,o) (dB _ (dB _ (sf q e)))).1,λb q=>?_,w7⟩;obtain⟨o,e,d⟩:=T.obj _ _ L b q;exact(y.q0 (b,o) (dB _ (dB _ (sf q e)))).2.1
  cases f with
  |next=>obtain⟨a,B,y,U⟩:=E;exact again y U
  |cont=>obtain⟨a,B,y,U⟩:=E;exact again y U
  |brk=>obtain⟨a,B,y,E⟩:=E;exact⟨a,B,y.qL,E⟩
  |ret v=>obtain⟨x7,a,B,y,r7,E⟩:=E;exact⟨x7,a,B,y.qL,r7,E⟩
end
abbrev R2:=V->V->Hp->VK->Prop
def n5(X:Cx)(f:aC->aC->N! aC)(r:R2):Prop:=
 ∀(a:b_ (g_×D_))(s:aE)(σ:St)(H:Hp)(x y:V)(v u:aC)(Q:VK),a9 X a σ H s->eu x v->eu y u->r x y H Q->
  aP (aW X.prog X.w) X.A (f v u) (EP X a σ Q) X.xe s
def lf(X:Cx)(f:aC)(r:b_ V->Hp->VK->Prop):Prop:=
 ∀(a:b_ (g_×D_))(s:aE)(σ:St)(H:Hp)(xs:b_ V)(b:b_ aC)(Q:VK),a9 X a σ H s->dg xs b->r xs H Q->
  aP (aW X.prog X.w) X.A (call f b) (EP X a σ Q) X.xe s
def OT(X:Cx)(r:V->Hp->(l_->Hp->Prop)->Prop):Prop:=
 ∀(a:b_ (g_×D_))(s:aE)(σ:St)(H:Hp)(x:V)(v:aC)(Q:l_->Hp->Prop),a9 X a σ H s->eu x v->r x H Q->
  aP (aW X.prog X.w) X.A (truthy v) (TP X a σ Q) X.xe s
def KR(r:R2)(b a:TE):TE:=λσ H Q=>b σ H λx d=>a σ d λy c=>r x y c Q
inductive rI(C:n_->n_->Prop)(g:n_->n_->V)(x:V)(y:V)(H:Hp)(Q:VK):Prop
 |mk (i j) (_:x=.int i) (_:y=.int j) (_:C i j) (_:Q (g i j) H):rI C g x y H Q
inductive rI0(g:n_->n_->V)(x:V)(y:V)(H:Hp)(Q:VK):Prop
 |mk (i j) (_:x=.int i) (_:y=.int j) (_:Q (g i j) H):rI0 g x y H Q
section
variable{X:Cx}{a b c:Expr}{ta tb tc:TE}{pos:v_}
def BR(B:PE X a ta)(z:PE X b tb){d:b_ (g_×D_)}{s:aE}{σ:St}{H:Hp}{R:V->V->Hp->Prop}(I:a9 X d σ H s)
  (h:ta σ H λx l=>tb σ l λy e=>R x y e){Q:aC->aE->Prop}{f:aC->aC->N! aC}
  (r:∀v u j x y e,a9 X d σ e j->eu x v->eu y u->R x y e->aP (aW X.prog X.w) X.A (f v u) Q X.xe j):
  aP (aW X.prog X.w) X.A (I_ a X.env) (λv i=>aP (aW X.prog X.w) X.A (I_ b X.env) (λu g=>aP (aW X.prog X.w) X.A (f v u) Q X.xe g) X.xe i) X.xe s:=by
 refine c9 (B d s σ H _ I h) λv m ⟨x,l,E,o,q⟩=>?_;refine c9 (z d m σ l _ E q) λu j ⟨y,e,C,n,p⟩=>?_;exact r v u j x y e C o n p
def Z5{e:jZ}{r:R2}(j:n5 X (fS e) r)(m:PE X a ta)(l:PE X b tb):PE X (.BinOp a e b pos) (KR r ta tb):=by intro d s σ H Q I h;exact wpAny_BinOp (BR m l I h λv u f x y o n i g q=>j d f σ o x y v u Q n i g q)
def LF{f:aC->aC->N! aC}{C:n_->n_->Prop}{g:n_->n_->n_}
  (rule:∀(i j:n_)(t u:Z?)(s:aE)(Q:aC->aE->Prop)(E:aC->aE->Prop),C i j->Q (.int (g i j) s.toks) {s with toks:=s.toks+1}->aP (aW X.prog X.w) X.A (f (.int i t) (.int j u)) Q E s):
  n5 X f (rI C λi j=>.int (g i j)):=by
 intro d s σ H x y v u Q I m l h;obtain⟨i,j,rfl,rfl,n,q⟩:=h;obtain⟨t,rfl⟩:=m;obtain⟨e,rfl⟩:=l;exact rule i j t e s _ _ n ⟨.int (g i j),H,I.qs _,⟨_,_6⟩,q⟩
def IF{f:aC->aC->N! aC}{g:n_->n_->n_}
  (rule:∀(i j:n_)(t u:Z?)(s:aE)(Q:aC->aE->Prop)(E:aC->aE->Prop),Q (.int (g i j) s.toks) {s with toks:=s.toks+1}->aP (aW X.prog X.w) X.A (f (.int i t) (.int j u)) Q E s):
  n5 X f (rI0 λi j=>.int (g i j)):=by
 intro d s σ H x y v u Q I m l h;obtain⟨i,j,rfl,rfl,q⟩:=h;obtain⟨t,rfl⟩:=m;obtain⟨e,rfl⟩:=l;exact rule i j t e s _ _ ⟨.int (g i j),H,I.qs _,⟨_,_6⟩,q⟩
def DU{f:aC->aC->N! aC}{g:n_->n_->l_}
  (rule:∀(i j:n_)(t u:Z?)(s:aE)(Q:aC->aE->Prop)(E:aC->aE->Prop),Q (.bool (g i j)) s->aP (aW X.prog X.w) X.A (f (.int i t) (.int j u)) Q E s):
  n5 X f (rI0 λi j=>.bl (g i j)):=by
 intro d s σ H x y v u Q I m l h;obtain⟨i,j,rfl,rfl,q⟩:=h;obtain⟨t,rfl⟩:=m;obtain⟨e,rfl⟩:=l;exact rule i j t e s _ _ ⟨.bl (g i j),H,I,_6,q⟩
def NC(i j:n_):Prop:=0<j/\j<1073741824
def NB(i j:n_):Prop:=0<=j/\j<=1000000/\i.natAbs<2^64
def CMul(i j:n_):Prop:=(-(2^64)<i/\i<2^64)\/(-(2^64)<j/\j<2^64)
def CMul.ok{i j:n_}(h:CMul i j):IntMulOk i j:=by
 obtain ⟨e,d⟩|⟨e,d⟩:=h
 .exact .of_left (intBits_le_64 e d)
 .exact .of_right (intBits_le_64 e d)
def DT:n5 X (fS .Add) (rI0 λi j=>.int (i+j)):=IF λz z z z z z z q=>add_int q
def DK:n5 X (fS .Sub) (rI0 λi j=>.int (i-j)):=IF λz z z z z z z q=>sub_int q
def DO:n5 X (fS .Mult) (rI CMul λi j=>.int (i*j)):=LF λz z z z z z z d q=>mul_int q d.ok
def Xv:n5 X (fS .FloorDiv) (rI NC λi j=>.int (i / j)):=LF λi j z z z z z d q=>by have f:(0:n_)<j:=d.1;have e:j<1073741824:=d.2;exact floordiv_int (by lia) (by rw[Int.fdiv_eq_ediv_of_nonneg i (by lia)];exact q) (.inl (PyProof.noPylong_small (by lia)))
def DP:n5 X (fS .Mod) (rI (λz j=>0<j) λi j=>.int (i%j)):=LF λi j z z z z z d q=>by have e:(0:n_)<j:=d;exact mod_int' (by lia) (by rw[Int.fmod_eq_emod_of_nonneg i (by lia)];exact q)
def DM:n5 X (fS .Pow) (rI NB λi j=>.int (i^j.toNat)):=LF λz z z z z z z d q=>pow_int_small d.1 d.2.1 d.2.2 q
end
section
variable{X:Cx}{a b c:Expr}{ta tb tc:TE}{pos:v_}
def Da{d:b_ (g_×D_)}{σ:St}{H:Hp}{s:aE}{Q:VK}{k f:l_}(I:a9 X d σ H s)(q:Q (.bl k) H)(e:k=f):EP X d σ Q (.bool f) s:=by subst e;exact⟨.bl k,H,I,_6,q⟩
def IC:n5 X (cI .Lt) (rI0 λi j=>.bl (decide (i<j))):=DU λz z z z z z z q=>_e q
def ID:n5 X (cI .LtE) (rI0 λi j=>.bl (decide (i<=j))):=DU λz z z z z z z q=>le_int q
def IE:n5 X (cI .Gt) (rI0 λi j=>.bl (decide (j<i))):=DU λz z z z z z z q=>gt_int q
def Pm:n5 X (cI .In) (λx y H Q=>∃i j,x=.str i/\y=.str j/\Q (.bl (!(kW j i 0 j.length 1).isEmpty)) H):=by intro d s σ H x y v u Q I f e h;obtain⟨i,j,rfl,rfl,q⟩:=h;obtain⟨t,rfl⟩:=f;obtain⟨g,rfl⟩:=e;exact in_str (Da I q _6)
def DR:n5 X (cI .Is) (λx y H Q=>y=.fm/\Q (.bl (decide (x=.fm))) H):=by
 intro e s σ H x y v u Q I d f h;obtain⟨rfl,q⟩:=h;cases f;refine is_none_gen (Da I q ?_);cases x<;>first
  |(cases d;rfl)
  |(obtain⟨t,rfl⟩:=d;rfl)
def Xy:n5 X (cI .IsNot) (λx y H Q=>y=.fm/\Q (.bl (!decide (x=.fm))) H):=by
 intro e s σ H x y v u Q I d f h;obtain⟨rfl,q⟩:=h;cases f;refine isnot_none_gen (Da I q ?_);cases x<;>first
  |(cases d;rfl)
  |(obtain⟨t,rfl⟩:=d;rfl)
def Du:n5 X (cI .NotIn) (λx y H Q=>∃i j,x=.str i/\y=.str j/\Q (.bl (!(!(kW j i 0 j.length 1).isEmpty))) H):=by intro d s σ H x y v u Q I f e h;obtain⟨i,j,rfl,rfl,q⟩:=h;obtain⟨t,rfl⟩:=f;obtain⟨g,rfl⟩:=e;exact notIn_str (Da I q _6)
def n5.or{f:aC->aC->N! aC}{r i:R2}(h:n5 X f r)(j:n5 X f i):n5 X f (λx y H Q=>r x y H Q\/i x y H Q):=by
 intro d s σ H x y v u Q I g e q;obtain q|q:=q
 .exact h d s σ H x y v u Q I g e q
 .exact j d s σ H x y v u Q I g e q
def DW(b:Expr){d:mR}(h:Q! (d≠.In) Q1!)(e:Q! (d≠.NotIn) Q1!):gO d b=e_:=by
 have g:(d==CmpOp.In)=e_:=by cases d<;>first|rfl|exact u_ _6 h
 have f:(d==CmpOp.NotIn)=e_:=by cases d<;>first|rfl|exact u_ _6 e
 cases b<;>simp[gO,g,f]
def X3{e:mR}{r:R2}(j:n5 X (cI e) r)(n:PE X a ta)(m:PE X b tb)(l:gO e b=e_):PE X (.Compare a [e] [b] pos) (KR r ta tb):=by intro d s σ H Q I h;exact wpAny_Compare1 (BR n m I h λv u f x y p o i g q=>j d f σ p x y v u Q o i g q) l
def AL(t:TE):TT:=λσ H Q=>t σ H λx d=>∃k,x=.bl k/\Q k d
def M7{f:mR}{r:R2}(q:n5 X (cI f) r)(B:PE X a ta)(A:PE X b tb)(w:gO f b=e_):PT X (.Compare a [f] [b] pos) (AL (KR r ta tb)):=by
 intro d s σ H Q I h;refine wpAny_isTrue_Compare1 (c9 (B d s σ H _ I h) λv i ⟨x,M,G,m,p⟩=>c9 (A d i σ M _ G p) λu g ⟨y,L,E,l,o⟩=>
  c9 (q d g σ L x y v u _ E m l o) λc N ⟨z,J,C,j,k,e,n⟩=>?_) w
 subst e;cases j;exact dG ⟨J,C,n⟩
def K6(r f:R2)(ta tb tc:TE):TE:=λσ H Q=>ta σ H λx i=>tb σ i λy h=>r x y h λz d=>∃k,z=.bl k/\
 (if k=d_ then tc σ d λe g=>f y e g Q else Q (.bl e_) d)
def Tx{i g:mR}{r m:R2}(T:n5 X (cI i) r)(j:n5 X (cI g) m)(ha:PE X a ta)(hb:PE X b tb)(Y:PE X c tc)
  (U:Q! (qA [i,g] [b,c]=e_) Q4!):PE X (.Compare a [i,g] [b,c] pos) (K6 r m ta tb tc):=by
 intro f s σ H Q I h;refine Compare_chain (c9 (ha f s σ H _ I h) λv E ⟨x,H1,I1,L,O⟩=>chain_link (c9 (hb f E σ H1 _ I1 O) λu C ⟨y,H2,I2,l,N⟩=>
  c9 (T f C σ H2 x y v u _ I2 L l N) λd B ⟨z,p,o,J,k,e,n⟩=>?_)) U
 subst e;cases J;refine dG ?_;cases k with
 |false=>exact ite_ff ⟨.bl e_,p,o,_6,n⟩
 |true=>exact ite_tt (chain_last (c9 (Y f B σ p _ o n) λw A ⟨q,H4,I4,G,M⟩=>j f A σ H4 y q u w Q I4 l G M))
def Uc{i g:mR}{r m:R2}(ho:n5 X (cI i) r)(j:n5 X (cI g) m)(ha:PE X a ta)(hb:PE X b tb)(hc:PE X c tc)
  (hm:Q! (qA [i,g] [b,c]=e_) Q4!):PT X (.Compare a [i,g] [b,c] pos) (AL (K6 r m ta tb tc)):=by
 intro f s σ H Q I h;refine isTrue_chain (c9 (ha f s σ H _ I h) λv E ⟨x,H1,I1,M,U⟩=>test_link (c9 (hb f E σ H1 _ I1 U) λu C ⟨y,H2,I2,l,T⟩=>
  c9 (ho f C σ H2 x y v u _ I2 M l T) λd B ⟨z,p,o,L,k,e,n⟩=>?_)) hm
 subst e;cases L;refine dG ?_;cases k with
 |false=>obtain⟨k',e',Y⟩:=n;cases e';exact ite_ff ⟨p,o,Y⟩
 |true=>refine ite_tt (test_last (c9 (hc f B σ p _ o n) λw A ⟨q,H4,I4,J,O⟩=>c9 (j f A σ H4 y q u w _ I4 l J O) λd' s5 ⟨z2,H5,I5,G,k2,e2,N⟩=>?_));subst e2;cases G;exact dG ⟨H5,I5,N⟩
def BZ(K:aK)(x:V)(H:Hp)(k:l_):Prop:=
 match x with
 |.fm=>k=e_
 |.bl b=>k=b
 |.int i=>k=(i !=0)
 |.str y=>y.length<=aG/\k=((y.length:n_) !=0)
 |.byt y=>y.size<=aG/\k=((y.size:n_) !=0)
 |.ref p=>(∃xs,h8 K H p xs/\k= !xs.isEmpty)\/(∃xs,ng K H p xs/\k= !xs.isEmpty)\/∃d,H p=a_ (.dK d)/\k= !d.isEmpty
 |_=>L_
def J7{κ:Type}{d:b_ (κ×V)}{e:b_ (κ×aC)}(r:KV d e):(!e.isEmpty)= !d.isEmpty:=by cases r<;>rfl
def y8{xs:b_ V}{d:b_ aC}(r:dg xs d):(!d.toArray.isEmpty)= !xs.isEmpty:=by cases r<;>simp
def zf:(aG:h_)<2^63:=by rw[eS];decide
def Ei:OT X (λx H Q=>∃k,BZ X.K x H k/\Q k H):=by
 intro z s σ H x v Q I j h;obtain⟨k,e,q⟩:=h;have G:=zf;have E:aG=16777216:=eS;cases x with
 |fm=>cases j;have d:k=e_:=e;subst d;exact truthy_none ⟨H,I,q⟩
 |bl b=>cases j;have d:k=b:=e;subst d;exact dG ⟨H,I,q⟩
 |int i=>obtain⟨t,rfl⟩:=j;have d:k=(i !=0):=e;subst d;exact PySem.P.truthy_int ⟨H,I,q⟩
 |str y=>obtain⟨t,rfl⟩:=j;obtain⟨B,d⟩:y.length<=aG/\k=((y.length:n_) !=0):=e;subst d;exact PySem.P.truthy_str (by lia) ⟨H,I.qs _,q⟩
 |byt y=>obtain⟨t,rfl⟩:=j;obtain⟨B,d⟩:y.size<=aG/\k=((y.size:n_) !=0):=e;subst d;exact PySem.W.truthy_bytes (by lia) ⟨H,I.qs _,q⟩
 |ref p=>
  cases j;have d:(∃xs,h8 X.K H p xs/\k= !xs.isEmpty)\/(∃xs,ng X.K H p xs/\k= !xs.isEmpty)\/∃f,H p=a_ (.dK f)/\k= !f.isEmpty:=e;obtain ⟨xs,l,d⟩|⟨xs,l,d⟩|⟨f,l,d⟩:=d
  .subst d;obtain⟨u,r,o,A⟩:=I.list l;have g:=r.length;exact wpAny_truthy_list o.isList (by simp only[aX];lia) ⟨H,I.qs _,by rw[y8 r];exact q⟩
  .subst d;obtain⟨u,r,o,A⟩:=I.tuple l;have g:=r.length;exact truthy_tuple o (by simp only[aX];lia) ⟨H,I.qs _,by rw[y8 r];exact q⟩
  .subst d;obtain⟨A,C,n,r,m⟩:f.length<=aG/\(p==dD)=e_/\∃n,KV f n/\s.1.DictOf (ao X.prog X.w) p n:=I.e6 p _ l;have g:f.length=n.length:=eA r;exact wpAny_truthy_dict C m (by lia) ⟨H,I.qs _,by rw[J7 r];exact q⟩
 |_=>exact(show L_ from e).elim
def G8(m:PE X a ta)(l:∀d,isTrue a X.env d=(do let v <-d;standAt a.pos;mK [v] (truthy v))):
  PT X a (λσ H Q=>ta σ H λx f=>∃k,BZ X.K x f k/\Q k f):=by
 intro e s σ H Q I h;exact isTrue_plain (c9 (m e s σ H _ I h) λv g ⟨x,o,n,i,j⟩=>Ei e g σ o x v Q n i j) (l _)
def Ko:n5 X (fS .Add) (λx y H Q=>∃i j,x=.str i/\y=.str j/\i.length+j.length<=aG/\Q (.str (i++j)) H):=by intro d s σ H x y v u Q I g f h;obtain⟨i,j,rfl,rfl,l,q⟩:=h;obtain⟨t,rfl⟩:=g;obtain⟨e,rfl⟩:=f;exact add_str (λe m=>⟨.str (i++j),H,I.qs _,⟨_,_6⟩,q⟩) l
def ik{x:V}{d:b_ aC}(r:dg [x] d):∃u,d=[u]/\eu x u:=by
 cases r with
 |cons f e=>cases e;exact⟨_,_6,f⟩
def V4{x y:V}{e:b_ aC}(r:dg [x,y] e):∃u d,e=[u,d]/\eu x u/\eu y d:=by
 cases r with
 |cons i h=>
  cases h with
  |cons g f=>cases f;exact⟨_,_,_6,i,g⟩
def N5:lf X (.type "int") (λxs H Q=>(∃i,xs=[.int i]/\Q (.int i) H)\/∃k,xs=[.bl k]/\Q (.int (if k then 1 else 0)) H):=by
 intro d s σ H xs f Q I r h;obtain ⟨i,rfl,q⟩|⟨k,rfl,q⟩:=h
 .obtain⟨u,rfl,t,rfl⟩:=ik r;exact call_int_int ⟨.int i,H,I,⟨_,_6⟩,q⟩
 .obtain⟨u,rfl,e⟩:=ik r;cases e;exact call_int_bool ⟨.int (if k then 1 else 0),H,I.qs _,⟨_,_6⟩,q⟩
def OV(K:aK)(x:V)(H:Hp)(n:h_):Prop:=
 match x with
 |.str y=>y.length<=aG/\n=y.length
 |.byt y=>y.size<=aG/\n=y.size
 |.ref p=>(∃xs,h8 K H p xs/\n=xs.length)\/∃xs,ng K H p xs/\n=xs.length
 |_=>L_
def Q1:lf X (.builtin "len") (λxs H Q=>∃x n,xs=[x]/\OV X.K x H n/\Q (.int n) H):=by
 intro o s σ H xs z Q I r h;obtain⟨x,n,rfl,e,q⟩:=h;obtain⟨u,rfl,g⟩:=ik r;have B:=zf;have A:aG=16777216:=eS;cases x with
 |str y=>obtain⟨t,rfl⟩:=g;obtain⟨w,f⟩:y.length<=aG/\n=y.length:=e;subst f;exact len_str (by lia) ⟨.int _,H,I.qs _,⟨_,_6⟩,q⟩
 |byt y=>obtain⟨t,rfl⟩:=g;obtain⟨w,f⟩:y.size<=aG/\n=y.size:=e;subst f;exact PySem.W.len_bytes (by lia) ⟨.int _,H,I.qs _,⟨_,_6⟩,q⟩
 |ref p=>
  cases g;have f:(∃xs,h8 X.K H p xs/\n=xs.length)\/∃xs,ng X.K H p xs/\n=xs.length:=e;obtain ⟨xs,m,f⟩|⟨xs,m,f⟩:=f
  .subst f;obtain⟨l,i,j,v⟩:=I.list m;have d:=i.length;exact Calls.call_len_list j.isList (by simp only[aX];lia) ⟨.int xs.length,H,I.qs _,⟨_,by simp only[aX];rw[d]⟩,q⟩
  .subst f;obtain⟨l,i,j,v⟩:=I.tuple m;have d:=i.length;exact len_tuple j (by simp only[aX];lia) ⟨.int xs.length,H,I.qs _,⟨_,by simp only[aX];rw[d]⟩,q⟩
 |_=>exact(show L_ from e).elim
end
structure ObjM(h:r_)(x dx C:g_)(mA:k_->f_ aC):Prop where
 obj:h.get? x=a_ (fZ C dx)
 ns:h.Ns1 dx mA
 ne:dx≠x
set_option tactic.hygienic true in
def Pe{h:r_}{g:g_}{d:k_->f_ aC}(n:h.Ns1 g d):∃od,h.get? g=a_ od/\∀b,_k b od=a_ (d b):=by
 obtain⟨o,f,s,j,p,m,_,l⟩:=n;refine⟨o,j,λb=>?_⟩;have e:=l b;unfold nsFind findBy at e;rw[<-Array.find?_toList]at e;unfold _k;rw[p];dsimp only;split
 .rename_i y q;rw[q]at e;exact C_ a_ e
 .rename_i q;rw[q]at e;have a:f.toList.any (·.refKey)=e_:=by rw[List.any_eq_false];intro y i;obtain⟨z,t,c⟩:=m y (Array.mem_toList_iff.mp i);simp[DictEntry.refKey,c]
  have r:¬f.toList.any (·.refKey)=d_:=by rw[a];exact p_
  rw[aJ r];exact C_ a_ e
def ObjM.ky{h:r_}{x c C:g_}{b:k_->f_ aC}(I:ObjM h x c C b):∃od,b! h x (fZ C c) C (a_ od)/\∀a,_k a od=a_ (b a):=
 let ⟨od,d,e⟩:=Pe I.ns
 ⟨od,⟨I.obj,_6,_6,d⟩,e⟩
section
variable{prog:aV}{w:bP}{A:bT}{E:aC->aE->Prop}{s:aE}{K:aK}{x dx C f:g_}{mA:k_->f_ aC}{name:k_}{v:aC}
def Wu{a:l_}{Q:aC->aE->Prop}(X:K.In s.1)(I:ObjM s.1 x dx C mA)(g:lZ K C name=d_)(e:lC K C=d_)
  (i:bW K (.ref C) name=a_ c_)(c:mA name=a_ v)(b:B? v=d_)(h:Q v {s with toks:=s.toks+1}):
  aP (aW prog w) A (getAttr (.ref x) name a) Q E s:=by
 obtain⟨od,J,d⟩:=I.ky;exact PySem.W.get_value X J (PySem.W.plainGet_of g).1 (PySem.W.findObj_own e i _6 (by rw[d,c])) b h
def Y0{m:b_ k_}{Q:_r->aE->Prop}(X:K.In s.1)(I:ObjM s.1 x dx C mA)
  (u:bW K (.ref C) "__setattr__"=a_ (a_ (.builtin "object.__setattr__")))(z:oB K C=d_)(p:pP K C name=a_ c_)(B:lC K C=d_)
  (o:_O mA m) (q:_7 m<=aG)
  (h:∀e,ObjM e x dx C (λy=>if y=name then a_ v else mA y)->bN dx s.1 e->Q () {s with heap:=e,toks:=s.toks+2}):
  aP (aW prog w) A (setAttr (.ref x) name v) Q E s:=by
 obtain⟨od,J,N⟩:=I.ky;refine PySem.W.set_plain X J u (PySem.W.osa_open (s:={s with toks:=s.toks+1}) (r:=c_) X J z p λb=>?_);obtain⟨O,G,j⟩:=PySem.W.any_some B;have n:s.1.get? x=a_ ⟨.ref C,a_ dx,.plain,#[]⟩:=I.obj;refine aA (aD (aA (aA (wpAny_loadPart n (aA (PySem.W.Looks.here (s:={s with toks:=s.toks+1}) (PySem.W.looks_clsIn X G) ?_))))));rw[j];refine aD (a:=a_ dx) (aA (aD (aA ?_)));refine wpAny_nsSet1 (s:={s with toks:=s.toks+1}) I.ns λe d c=>?_;obtain⟨M,H,L,g,i,l⟩:=d.count (PySem.Within.cons name v o);refine aA (wpAny_lookBehind g (by rw[i];exact pastItsLine_dict (cB l (by rw[aR];lia))) ?_);exact aD (h _ ⟨(c.2 _ (cW I.ne)).trans I.obj,d,I.ne⟩ c)
def Tb{R:_G->aE->Prop}{b:b_ aC}{c:b_ (k_×aC)}(X:K.In s.1)(e:pQ K C=d_)
  (i:bW K (.ref C) "__init__"=a_ (a_ (.ref f)))(j:PySem.W.typeIn K (.ref f)=a_ (.type "function"))
  (h:gX (aW prog w) (A.under (.builtin "type.__call__" ⟨.ref C::b,c⟩)) (.call (.ref f) ⟨.ref (s.1.1.size+1)::b,c⟩) (PySem.W.InitBack (s.1.1.size+1) R)
   {s with heap:=(s.1.push eJ).push (fZ C s.1.1.size)}):
  gX (aW prog w) A (.call (.ref C) ⟨b,c⟩) R s:=by
 obtain⟨l,g,d,t,os⟩:=s;exact PySem.W.make_core (PySem.W.makes_of X e) (_H X i) (λa=>PySem.W.bind_fn X a j) (.inl _6) h
end
noncomputable def m4(f:k_)(v:V):b_ (k_×V)->b_ (k_×V)
 |[]=>[(f,v)]
 |(g,x)::r=>if g=f then(g,v)::r else(g,x)::m4 f v r
theorem w6(f g:k_)(v:V):∀fs:b_ (k_×V),(m4 f v fs).lookup g=if g=f then a_ v else fs.lookup g
 |[]=>by
  show jI g [(f,v)]=_
  by_cases h:g=f
  .have a:(g==f)=d_:=W_.mpr h;simp only[jI,a,aO h]
  .have a:(g==f)=e_:=w_.mpr h;simp only[jI,a,aJ h]
 |(k,x)::r=>by
  have c:=w6 f g v r;rw[show m4 f v ((k,x)::r)=(if k=f then(k,v)::r else(k,x)::m4 f v r)from rfl]
  by_cases b:k=f
  .rw[aO b]
   by_cases h:g=k
   .have a:(g==k)=d_:=W_.mpr h;simp only[jI,a,aO (h.trans b)]
   .have a:(g==k)=e_:=w_.mpr h;simp only[jI,a,aJ (λe:g=f=>h (e.trans b.symm))]
  .rw[aJ b]
   by_cases h:g=k
   .have a:(g==k)=d_:=W_.mpr h;simp only[jI,a,aJ (λe:g=f=>b (h.symm.trans e))]
   .have a:(g==k)=e_:=w_.mpr h;simp only[jI,a];exact c
theorem vy(f:k_)(v:V):∀fs:b_ (k_×V),f∈(m4 f v fs).map (·.1)/\∀g,g∈fs.map (·.1)->g∈(m4 f v fs).map (·.1)
 |[]=>⟨by simp[m4],λg h=>by simp at h⟩
 |(k,x)::r=>by
  obtain⟨c,b⟩:=vy f v r;rw[show m4 f v ((k,x)::r)=(if k=f then(k,v)::r else(k,x)::m4 f v r)from rfl]
  by_cases a:k=f
  .rw[aO a];subst a;exact⟨by simp,λg h=>by simpa using h⟩
  .rw[aJ a];refine⟨?_,λg h=>?_⟩
   .rw[bK];exact bJ _ c
   .rw[bK]at h⊢;rcases o_.mp h with e|e
    .exact o_.mpr (.inl e)
    .exact bJ _ (b g e)
theorem w5(f:k_)(v:V):∀fs:b_ (k_×V),(m4 f v fs).length<=_7 fs+1
 |[]=>by simp[m4]
 |(k,x)::r=>by
  have b:=w5 f v r;rw[show m4 f v ((k,x)::r)=(if k=f then(k,v)::r else(k,x)::m4 f v r)from rfl]
  by_cases a:k=f
  .rw[aO a,aR,aR];lia
  .rw[aJ a,aR,aR];lia
def qH.some_of{v:V}{o:f_ aC}(r:qH (a_ v) o):∃u,o=a_ u/\eu v u:=by
 cases o with
 |none=>exact(show L_ from r).elim
 |some u=>exact⟨u,_6,r⟩
def O0{v:V}{u:aC}(r:eu v u):B? u=d_:=by
 cases v with
 |fm=>cases (show u=bV from r);rfl
 |bl b=>cases (show u=iR b from r);rfl
 |int i=>obtain⟨t,e⟩:=(show∃t,u=nM i t from r);cases e;rfl
 |str x=>obtain⟨t,e⟩:=(show∃t,u=oW x t from r);cases e;rfl
 |byt b=>obtain⟨t,e⟩:=(show∃t,u=Value.bytes b t from r);cases e;rfl
 |flt b=>obtain⟨t,e⟩:=(show∃t,u=Value.float b t from r);cases e;rfl
 |ref a=>cases (show u=bH a from r);rfl
 |ty n=>cases (show u=jF n from r);rfl
section
variable{P:aV}{w:bP}{H H':Hp}{h h':r_}{a C dx:g_}{fs fs':b_ (k_×V)}
def Mf(c:qb P w H h)(e:H a=a_ (.rK C dx fs)):∃b,ObjM h a dx C b/\(∀f,qH (fs.lookup f) (b f))/\_O b (fs.map (·.1))/\_7 fs<=1000/\H dx=a_ (.own a):=by obtain⟨d,z,ne,g,b,n,r,q⟩:=show fb P w H h a (.rK C dx fs)from c a _ e;exact⟨b,⟨g,n,ne⟩,r,q,z,d⟩
end
structure Cls(K:aK)(C:g_):Prop where
 pg:lZ K C Str.empty=d_
 hd:lC K C=d_
 po:oB K C=d_
 sa:bW K (.ref C) "__setattr__"=a_ (a_ (.builtin "object.__setattr__"))
def Cls.get{K:aK}{C:g_}(c:Cls K C)(f:k_):lZ K C f=d_:=c.pg
def pd(K:aK)(C:g_)(f:k_):Prop:=bW K (.ref C) f=a_ c_
def pd.taker{K:aK}{C:g_}{f:k_}(n:pd K C f):pP K C f=a_ c_:=by unfold pP;rw[show bW K (.ref C) f=a_ c_ from n];rfl
section
variable{X:Cx}{au:b_ (g_×D_)}{σ:St}{H:Hp}{s:aE}{a C dx:g_}{fs:b_ (k_×V)}{f:k_}{v:V}{A:bT}{E:aC->aE->Prop}
def Jy{b:l_}{Q:aC->aE->Prop}(I:a9 X au σ H s)(e:H a=a_ (.rK C dx fs))(c:Cls X.K C)(n:pd X.K C f)(l:fs.lookup f=a_ v)
  (h:∀u d,a9 X au σ H d->eu v u->Q u d):aP (aW X.prog X.w) A (getAttr (.ref a) f b) Q E s:=by
 obtain⟨i,O,r,_,_,_⟩:=Mf I.e6 e;obtain⟨u,j,g⟩:=qH.some_of (v:=v) (o:=i f) (by rw[<-l];exact r f);exact Wu I.qY O (c.get f) c.hd n j (O0 g) (h u _ (I.qs _) g)
def K2{y:V}{u:aC}{Q:_r->aE->Prop}(I:a9 X au σ H s)(e:H a=a_ (.rK C dx fs))(c:Cls X.K C)(n:pd X.K C f)(U:_7 fs<1000)(B:eu y u)
  (h:∀j,a9 X au σ (c0 H a (.rK C dx (m4 f y fs))) j->Q () j):aP (aW X.prog X.w) A (setAttr (.ref a) f u) Q E s:=by
 obtain⟨l,O,r,i,_,m⟩:=Mf I.e6 e;have G:(fs.map (·.1)).length<=aG:=by rw[bB,eS];lia
 refine Y0 I.qY O c.sa c.po n.taker c.hd i G λN d p=>h _ ?_;have L:∃o,N.get? dx=a_ o:=let ⟨o,_,_,T,_⟩:=d.ns;⟨o,T⟩;refine I.rB (x:=a) (e:=dx) (by rw[e];exact eF) (.inr m) (λb q M z=>(p.2 b M).trans z) L ?_;refine⟨by rw[aa O.ne];exact m,?_,O.ne,d.obj,_,d.ns,λg=>?_,λg J=>?_⟩
 .have:=w5 f y fs;lia
 .show qH ((m4 f y fs).lookup g) (if g=f then a_ u else l g);rw[w6]
  by_cases q:g=f
  .rw[aO q,aO q];exact B
  .rw[aJ q,aJ q];exact r g
 .by_cases q:g=f
  .rw[q];exact(vy f y fs).1
  .refine(vy f y fs).2 g (i g λz=>J ?_);show(if g=f then a_ u else l g)=c_;rw[aJ q];exact z
def a9.made(I:a9 X au σ H s):a9 X au σ (c0 (c0 H s.1.1.size (.own (s.1.1.size+1))) (s.1.1.size+1) (.rK C s.1.1.size []))
  {s with heap:=(s.1.push eJ).push (fZ C s.1.1.size)}:=by
 have c:(s.1.push eJ).get? s.1.1.size=a_ eJ:=aI s.1 _6;have i:((s.1.push eJ).push (fZ C s.1.1.size)).get? (s.1.1.size+1)=a_ (fZ C s.1.1.size):=by have:=aI (s.1.push eJ) (o:=fZ C s.1.1.size) _6;rwa[bX]at this
 have h:(s.1.push eJ).Ns s.1.1.size (λz=>c_):=⟨eJ,#[],_,c,_6,(λe g=>u_ g (by simp)),λz=>rfl⟩;have j:=I.nn (a:=s.1.1.size) (o:=.own (s.1.1.size+1)) (h':=s.1.push eJ) (t':=s.toks) (λb u q=>aB _ q) (aL _) ⟨_,c⟩;refine j.nn (a:=s.1.1.size+1) (o:=.rK C s.1.1.size []) (t':=s.toks) (λb u q=>aB _ q) (eZ (bX _ _)) ?_;have ne:s.1.1.size≠s.1.1.size+1:=bE (iM _);refine⟨by rw[aa ne,ae],cM _,ne,i,λz=>c_,(Heap.Ns1.of_empty h).at λo q=>aB _ q,λz=>eF,λy d=>u_ _6 d⟩
def Wh{b:aV}{w:bP}{c:T_}{e:Expr}{f:k_}{g:v_}{s:aE}{Q:aC->aE->Prop}(i:gQ e f c (I_ e c)=I_ e c)
  (h:aP (aW b w) A (I_ e c) (λo d=>aP (aW b w) A (getAttr o f d_) Q E d) E s):aP (aW b w) A (I_ (.Attribute e f g) c) Q E s:=
 Attribute_any_ h (by rw[arm_eval_Attribute,i])
end
inductive FldP(K:aK)(f:k_)(Q:VK)(x:V)(H1:Hp):Prop
 |mk (a C dx fs v) (_:x=.ref a) (_:H1 a=a_ (.rK C dx fs)) (_:Cls K C) (_:pd K C f) (_:fs.lookup f=a_ v) (_:Q v H1):FldP K f Q x H1
def QW(K:aK)(a:TE)(f:k_):TE:=λσ H Q=>a σ H (FldP K f Q)
inductive FldS(K:aK)(f:k_)(D:qh)(σ:St)(y x:V)(H2:Hp):Prop
 |mk (a C dx fs) (_:x=.ref a) (_:H2 a=a_ (.rK C dx fs)) (_:Cls K C) (_:pd K C f) (_:_7 fs<1000) (_:D.nx σ (c0 H2 a (.rK C dx (m4 f y fs)))):FldS K f D σ y x H2
def PL(K:aK)(b a:TE)(f:k_):TS:=λD σ H=>a σ H λy c=>b σ c (FldS K f D σ y)
section
variable{X:Cx}{o e value:Expr}{f:k_}{pos pos' tpos:v_}{ta tv:TE}
def DE(i:PE X e ta)(j:gQ e f X.env (I_ e X.env)=I_ e X.env):PE X (.Attribute e f pos) (QW X.K ta f):=by intro b s σ H Q I h;refine Wh j (c9 (i b s σ H _ I h) λu B ⟨x,y,w,d,a,C,E,fs,v,m,p,c,n,l,q⟩=>?_);subst m;obtain rfl:u=bH a:=d;exact Jy w p c n l λz A r g=>⟨v,y,r,g,q⟩
def T9(v:PE X o ta)(p:PE X value tv)(r:eR value (a_ (.Attribute o f pos')) pos.line X.env=pure e_):PS X (.Assign [.Attribute o f pos'] value pos) (PL X.K ta tv f):=by intro b s σ H D I h;refine plainObj_wpAny_Assign_Attribute (c9 (p b s σ H _ I h) λu d ⟨y,G,E,g,q⟩=>c9 (v b d σ G _ E q) λm L ⟨x,N,B,i,a,C,M,fs,w,z,c,n,l,j⟩=>?_) r;subst w;obtain rfl:m=bH a:=i;exact K2 B z c n l g λJ A=>⟨σ,_,A,j⟩
end
structure io(k:h_)(A:bT):Prop where
 hd:A.handled=c_
 dp:A.depth+3*k+5<d?
 un:A.units+16*k+200<cP
def io.am{j k:h_}{A:bT}(r:io k A)(h:j<=k):io j A:=⟨r.hd,by have:=r.dp;lia,by have:=r.un;lia⟩
def io.deeper{k:h_}{A:bT}(r:io (k+1) A)(a:T_):io k (A.deeper a):=
 ⟨r.hd,by have:=r.dp;show A.depth+1+3*k+5<_;lia,by have:=r.un;show A.units+3+16*k+200<_;lia⟩
def Ke{A:bT}{C:g_}{a:b_ aC}{b:b_ (k_×aC)}:(A.under (.builtin "type.__call__" ⟨.ref C::a,b⟩)).depth=A.depth+1:=by first|rfl|simp[_K,Code.weight,Code.isCreation,Code.isGuard,Code.isCaller,Code.frames,_R,guardIds]
def Kg{A:bT}{C:g_}{a:b_ aC}{b:b_ (k_×aC)}:(A.under (.builtin "type.__call__" ⟨.ref C::a,b⟩)).units=A.units+1:=by first|rfl|simp[_K,Code.cUnits,Code.frames,_R]
def io.make{k:h_}{A:bT}(r:io (k+1) A)(C:g_)(a:b_ aC)(b:b_ (k_×aC)):io k (A.under (.builtin "type.__call__" ⟨.ref C::a,b⟩)):=
 ⟨r.hd,by have:=r.dp;rw[Ke];lia,by have:=r.un;rw[Kg];lia⟩
def io.depth{k:h_}{A:bT}(r:io k A):A.depth<d?:=by have:=r.dp;lia
def u3:TA:=λz H Q=>Q [] H
def lh(a:TE)(tr:TA):TA:=λσ H Q=>a σ H λx c=>tr σ c λxs b=>Q (x::xs) b
section
variable{X:Cx}{e:Expr}{es:b_ Expr}{te:TE}{t:TA}{pos:v_}
def f7:PA X [] u3:=λz z z z H Q I h=>jD ⟨[],H,I,.nil,h⟩
def cg(l:PE X e te)(j:PA X es t)(i:Q! (aU (e::es) X.env=(e_,I_ e X.env)::aU es X.env) Q2!):PA X (e::es) (lh te t):=by intro pos a s σ H Q I h;rw[i];show aP _ _ (spliced ((e_,I_ e X.env)::dW pos (aU es X.env))) _ _ s;refine eQ (c9 (l a s σ H _ I h) λu b ⟨x,p,n,d,g⟩=>?_);exact c9 (j pos a b σ p _ n g) λq r ⟨xs,o,m,c,f⟩=>⟨x::xs,o,m,.cons d c,f⟩
def QQ(t:TA):TE:=λσ H Q=>t σ H λxs a=>_7 xs<=aG/\∀p,a p=c_->Q (.ref p) (c0 a p (.ci xs))
def Vo(t:TA):TE:=λσ H Q=>t σ H λxs a=>_7 xs<=aG/\∀p,a p=c_->Q (.ref p) (c0 a p (.a8 xs))
def EX{g}(h:PA X es t):PE X (.Tuple es g pos) (QQ t):=by intro a s σ H Q I j;refine wpAny_Tuple_spliced (c9 (h pos a s σ H _ I j) λi c ⟨xs,f,d,r,z,q⟩=>⟨by rw[<-r.length];exact z,?_⟩);have l:f c.1.1.size=c_:=d.e6.fresh (aL _);refine⟨.ref c.1.1.size,c0 f c.1.1.size (.ci xs),d.nn (t':=c.toks) (λb u e=>aB _ e) (aL _) ?_,_6,q _ l⟩;exact⟨z,i,r,⟨_,aI _ _6,_6,_,_6⟩⟩
def Dx(h:PA X es t):PE X (.List es pos) (Vo t):=by intro a s σ H Q I i;refine wpAny_List_spliced (c9 (h pos a s σ H _ I i) λg c ⟨xs,f,d,r,z,q⟩=>⟨by rw[<-r.length];exact z,?_⟩);have j:f c.1.1.size=c_:=d.e6.fresh (aL _);refine⟨.ref c.1.1.size,c0 f c.1.1.size (.a8 xs),d.nn (t':=c.toks) (λb u e=>aB _ e) (aL _) ?_,_6,q _ j⟩;exact⟨z,g,0,r,aI _ _6⟩
end
abbrev Sp:=b_ V->Hp->VK->XK->Prop
abbrev Lf:=b_ T_->Hp->aE->XK->aC->aE->Prop
structure Env0(P:aV)(w:bP)(K:aK)(mg:k_->f_ aC)(base:r_)(A:bT)(g8:b_ T_)(s:aE)(H:Hp):Prop where
 frames:A.frames=a_ g8
 q7:Mod K mg base
 bs:∀b o,base.get? b=a_ o->s.1.get? b=a_ o/\H b=c_
 bsz:base.objs.size<=s.1.1.size
 qN:s.1.FunFrames base g8
 frf:∀b∈vp g8,H b=c_
 e6:qb P w H s.1
 ln:nE s.gens
inductive CE(g8:b_ T_)(P:aV)(w:bP)(H:Hp)(s:aE)(Q:VK)(u:aC)(s':aE):Prop
 |mk (v H') (_:s'.os=s.os) (_:nE s'.gens) (_:Un (vp g8) [] H H' s.1 s'.1) (_:qb P w H' s'.1) (_:eu v u) (_:Q v H'):CE g8 P w H s Q u s'
def CR(c:Lf)(a:b_ T_)(P:aV)(w:bP)(H:Hp)(s:aE)(Q:VK)(E:XK)(r:_G)(b:aE):Prop:=
 match r with
 |.ok (.ret u)=>CE a P w H s Q u b
 |.ok _=>L_
 |.error e=>c a H s E e b
structure kz(P:aV)(w:bP)(K:aK)(mg:k_->f_ aC)(base:r_)(CX:Lf)(k:h_)(f:g_)(fd:fA)(ps:b_ k_)(sp:Sp):Prop where
 len:∀vs H Q E,sp vs H Q E->vs.length=ps.length
 run:∀(A:bT)(g8:b_ T_)(s:aE)(H:Hp)(args:Args)(us:b_ aC)(vs:b_ V)(Q:VK)(E:XK),io k A->Env0 P w K mg base A g8 s H->d! s fd args (ps.zip us)->dg vs us->sp vs H Q E->
  gX (aW P w) A (.call (.ref f) args) (CR CX g8 P w H s Q E) s
def kz.am{P:aV}{w:bP}{K:aK}{d:k_->f_ aC}{base:r_}{g:Lf}{j k:h_}{f:g_}{e:fA}{ps:b_ k_}{c:Sp}(F:kz P w K d base g j f e ps c)(h:j<=k):
  kz P w K d base g k f e ps c:=⟨F.len,λA a s H b l i Q E m=>F.run A a s H b l i Q E (m.am h)⟩
def kz.imp{P:aV}{w:bP}{K:aK}{g:k_->f_ aC}{base:r_}{j:Lf}{k:h_}{f:g_}{i:fA}{ps:b_ k_}{e c:Sp}(F:kz P w K g base j k f i ps e)
  (h:∀b H Q E,c b H Q E->e b H Q E):kz P w K g base j k f i ps c:=
 ⟨λb H Q E q=>F.len b H Q E (h _ _ _ _ q),λA a s H d l b Q E o p r m n=>F.run A a s H d l b Q E o p r m (h _ _ _ _ n)⟩
def Env0.make{P:aV}{w:bP}{K:aK}{b:k_->f_ aC}{base:r_}{A:bT}{a:b_ T_}{s:aE}{H:Hp}(e:Env0 P w K b base A a s H)(C:g_)(c:b_ aC)(d:b_ (k_×aC)):
  Env0 P w K b base (A.under (.builtin "type.__call__" ⟨.ref C::c,d⟩)) a s H:=⟨by first|exact e.frames|(simpa[_K,Code.envs,_R,pushEnvs]using e.frames),e.q7,e.bs,e.bsz,e.qN,e.frf,e.e6,e.ln⟩
section
variable{X:Cx}{au:b_ (g_×D_)}{σ:St}{H:Hp}{s s':aE}
def a9.env0(I:a9 X au σ H s):Env0 X.prog X.w X.K X.mg X.base X.A X.stack s H:=
 ⟨I.ok.frames,I.ok.q7,I.bs,cB I.ok.bsz I.sz,I.stack,I.stkFree,I.e6,I.ln⟩
def a9.after{Q:VK}{u:aC}(I:a9 X au σ H s)(h:CE X.stack X.prog X.w H s Q u s'):EP X au σ Q u s':=by obtain⟨v,i,os,a,un,e,r,q⟩:=h;obtain⟨f,g,d,t,c⟩:=s';obtain rfl:c=s.os:=os;exact⟨v,i,I.call (h':=f) (g':=g) (d':=d) (t':=t) (ch:=[]) un e a (λb z=>u_ z (by simp)),r,q⟩
end
def AN(c:Sp)(a:b_ V)(E:XK)(t:TA):TE:=λσ H Q=>t σ H λb d=>c (b++a) d Q E
def KU(C:g_)(e:Sp)(b:b_ V)(E:XK)(t:TA):TE:=λσ H Q=>t σ H λd c=>∀x a,c x=c_->c a=c_->a≠x->
 e (.ref x::(d++b)) (c0 (c0 c a (.own x)) x (.rK C a [])) (λv f=>v=.fm/\Q (.ref x) f) E
def lv(K:aK)(c:fA)(ps:b_ k_)(b:b_ aC):Prop:=
 ∀(s:aE)(a:b_ aC),K.In s.1->(a++b).length=_7 ps->d! s c ⟨a,[]⟩ (ps.zip (a++b))
def lv.all{K:aK}{c:fA}{ps:b_ k_}(h:∀a:b_ aC,_7 a=_7 ps->bindArgs c ⟨a,[]⟩=pure (ps.zip a)):lv K c ps []:=λs a z b=>by rw[dZ]at b⊢;exact .of_eq (h a b)
def jh(c:Lf)(X:Cx)(E:XK):Prop:=∀(a:b_ (g_×D_))(σ:St)(H:Hp)(s:aE)(e:aC)(b:aE),a9 X a σ H s->c X.stack H s E e b->X.xe e b
section
variable{X:Cx}{CX:Lf}{k:h_}{f C:g_}{fd:fA}{ps:b_ k_}{sp:Sp}{dvs:b_ V}{ds:b_ aC}{E:XK}{x m:k_}{p pos rM:v_}{e o:Expr}{es:b_ Expr}{ta:TE}{t:TA}
def Kw{a:b_ (g_×D_)}{σ:St}{H:Hp}{s:aE}{Q:VK}{us:b_ aC}{c:b_ V}(F:kz X.prog X.w X.K X.mg X.base CX k f fd ps sp)(j:io k X.A)(q:lv X.K fd ps ds)(n:dg dvs ds)(i:jh CX X E)
  (I:a9 X a σ H s)(r:dg c us)(h:sp (c++dvs) H Q E):aP (aW X.prog X.w) X.A (call (.ref f) us) (EP X a σ Q) X.xe s:=by
 have d:dg (c++dvs) (us++ds):=r.append n;have l:(us++ds).length=_7 ps:=by rw[<-d.length];exact F.len _ _ _ _ h
 refine e? (lD (F.run X.A X.stack s H ⟨us,[]⟩ (us++ds) (c++dvs) Q E j I.env0 (q s us I.qY l) d h) λr g b=>?_);cases r with
 |error e=>exact i a σ H s e g I b
 |ok v=>
  cases v with
  |ret u=>exact I.after b
  |next=>exact cS b
  |brk=>exact cS b
  |cont=>exact cS b
def X2(F:kz X.prog X.w X.K X.mg X.base CX k f fd ps sp)(i:io k X.A)(n:Gl X x)(j:X.mg x=a_ (.ref f))(l:cT X.K (.ref f)=d_)(y:lv X.K fd ps ds)(v:dg dvs ds)(g:jh CX X E)
  (z:PA X (e::es) t)(c:Q! ((x==("__debug__":k_))=e_) Q1!)(u:Q! (aU (e::es) X.env=(e_,I_ e X.env)::aU es X.env) Q2!)(b:Q! ((dW pos (aU es X.env)).any (·.1)=e_) Q2!):
  PE X (.Call (.Name x p) (e::es) [] pos) (AN sp dvs E t):=by
 intro a s σ H Q I h;refine fM (ma I n j ?_ c);refine kR (h₀:=X.base) I.ok.q7.kin l (c9 (z pos a s σ H _ I h) λG J ⟨B,L,d,r,q⟩=>⟨d.qY,?_⟩) u b;exact Kw F i y v g d r q
def Tw(F:kz X.prog X.w X.K X.mg X.base CX k f fd ps sp)(d:io k X.A)(j:Gl X x)(g:X.mg x=a_ (.ref f))(i:cT X.K (.ref f)=d_)(n:lv X.K fd ps ds)(l:dg dvs ds)(c:jh CX X E)
  (a:Q! ((x==("__debug__":k_))=e_) Q1!):PE X (.Call (.Name x p) [] [] pos) (AN sp dvs E u3):=by
 intro b s σ H Q I h;refine fM (ma I j g ?_ a);exact PySem.W.callWith_K0 I.qY i (Kw (us:=[]) F d n l c I .nil h)
structure Mk(K:aK)(C f:g_):Prop where
 makes:pQ K C=d_
 init:bW K (.ref C) "__init__"=a_ (a_ (.ref f))
 fn:O! K (.ref f)=d_
 kp:cT K (.ref C)=d_
def U2{a:b_ (g_×D_)}{σ:St}{H:Hp}{s:aE}{Q:VK}{c:b_ aC}{i:b_ V}(M:Mk X.K C f)(F:kz X.prog X.w X.K X.mg X.base CX k f fd ps sp)(B:io (k+1) X.A)(L:lv X.K fd ps ds)(J:dg dvs ds)
  (z:jh CX X E)(I:a9 X a σ H s)(r:dg i c)
  (h:∀x d,H x=c_->H d=c_->d≠x->sp (.ref x::(i++dvs)) (c0 (c0 H d (.own x)) x (.rK C d [])) (λv U=>v=.fm/\Q (.ref x) U) E):
  aP (aW X.prog X.w) X.A (call (.ref C) c) (EP X a σ Q) X.xe s:=by
 have l:=h (s.1.1.size+1) s.1.1.size (I.e6.fresh (hW _)) (I.e6.fresh (aL _)) (bE (iM _));have g:=a9.made (C:=C) I;have j:dg (V.ref (s.1.1.size+1)::(i++dvs)) (bH (s.1.1.size+1)::(c++ds)):=.cons _6 (r.append J);have G:(bH (s.1.1.size+1)::c++ds).length=_7 ps:=by have e:=j.length;rw[F.len _ _ _ _ l]at e;exact e.symm
 refine e? (Tb (f:=f) I.qY M.makes M.init (W_.mp M.fn) (lD (F.run _ X.stack _ _ ⟨bH (s.1.1.size+1)::c,[]⟩ (bH (s.1.1.size+1)::(c++ds)) _ _ E (B.make C c [])
  (g.env0.make C c []) (L _ (bH (s.1.1.size+1)::c) g.qY G) j l) λr n b=>?_))
 cases r with
 |error e=>exact z a σ _ _ e n g b
 |ok N=>
  cases N with
  |ret u=>obtain⟨v,Y,T,q,O,y⟩:=g.after b;subst O;exact⟨q,⟨V.ref (s.1.1.size+1),Y,T,_6,y⟩⟩
  |next=>exact cS b
  |brk=>exact cS b
  |cont=>exact cS b
def X4(M:Mk X.K C f)(F:kz X.prog X.w X.K X.mg X.base CX k f fd ps sp)(i:io (k+1) X.A)(l:Gl X x)(j:X.mg x=a_ (.ref C))(v:lv X.K fd ps ds)(u:dg dvs ds)(g:jh CX X E)
  (y:PA X (e::es) t)(c:Q! ((x==("__debug__":k_))=e_) Q1!)(n:Q! (aU (e::es) X.env=(e_,I_ e X.env)::aU es X.env) Q2!)(b:Q! ((dW pos (aU es X.env)).any (·.1)=e_) Q2!):
  PE X (.Call (.Name x p) (e::es) [] pos) (KU C sp dvs E t):=by
 intro a s σ H Q I h;refine fM (ma I l j ?_ c);refine kR (h₀:=X.base) I.ok.q7.kin M.kp (c9 (y pos a s σ H _ I h) λB G ⟨z,J,d,r,q⟩=>⟨d.qY,?_⟩) n b;exact U2 M F i v u g d r q
end
structure pc(N P:b_ k_)(sc:eL):Prop where
 kind:sc.kind=.function
 co:sc.isCoroutine=e_
 gen:sc.isGenerator=e_
 nd:N.Nodup
 pre:N.take (_7 P)=P
 par:∀x∈P,sc.names.lookup x=a_ .local\/sc.names.lookup x=a_ .cell
 nofree:∀y∈sc.names,y.2≠.free
theorem Bg{kindOf:k_->f_ gK}{x:k_}:∀{rF:b_ (k_×aC)}{m:k_->f_ aC},(∀v,(x,v)∉rF)->O? kindOf rF m x=m x
 |[],_,_=>rfl
 |(n,v)::r,m,h=>by
  unfold O?;rw[Bg λw a=>h w (bJ _ a)];split
  .have:x≠n:=by rintro rfl;exact h v bI
   simp[this]
  .rfl
theorem Be{kindOf:k_->f_ gK}{x:k_}:∀{rF:b_ (k_×aC)}{m:k_->f_ aC},(∀v,(x,v)∉rF)->P? kindOf rF m x=m x
 |[],_,_=>rfl
 |(n,v)::r,m,h=>by
  unfold P?;rw[Be λw a=>h w (bJ _ a)];split
  .rfl
  .have:x≠n:=by rintro rfl;exact h v bI
   simp[this]
theorem Bf{kindOf:k_->f_ gK}{x:k_}{v:aC}:∀{P:b_ k_}{a:b_ aC}{i:h_}{m:k_->f_ aC},P.Nodup->P[i]?=a_ x->a[i]?=a_ v->kindOf x=a_ .local->
  O? kindOf (P.zip a) m x=a_ v
 |[],_,_,_,_,h,_,_=>by simp at h
 |_::_,[],_,_,_,_,h,_=>by simp at h
 |p::P,w::a,0,m,d,c,b,e=>by simp at c b;subst c;subst b;show O? kindOf ((p,w)::P.zip a) m p=_;unfold O?;rw[Bg λv f=>(G_.mp d).1 (mZ f).1,aO e];simp
 |p::P,w::a,i+1,m,d,c,b,e=>by show O? kindOf ((p,w)::P.zip a) m x=_;unfold O?;exact Bf (i:=i) (G_.mp d).2 (by simpa using c) (by simpa using b) e
theorem Bd{kindOf:k_->f_ gK}{x:k_}{v:aC}:∀{P:b_ k_}{a:b_ aC}{i:h_}{m:k_->f_ aC},P.Nodup->P[i]?=a_ x->a[i]?=a_ v->kindOf x≠a_ .local->
  P? kindOf (P.zip a) m x=a_ v
 |[],_,_,_,_,h,_,_=>by simp at h
 |_::_,[],_,_,_,_,h,_=>by simp at h
 |p::P,w::a,0,m,d,c,b,e=>by simp at c b;subst c;subst b;show P? kindOf ((p,w)::P.zip a) m p=_;unfold P?;rw[Be λv f=>(G_.mp d).1 (mZ f).1,aJ e];simp
 |p::P,w::a,i+1,m,d,c,b,e=>by show P? kindOf ((p,w)::P.zip a) m x=_;unfold P?;exact Bd (i:=i) (G_.mp d).2 (by simpa using c) (by simpa using b) e
def i9(N:b_ k_)(a:b_ V):St:=a.map a_++aT (_7 N-_7 a) c_
noncomputable def ly(g:Lf)(P:aV)(w:bP)(K:aK)(mg:k_->f_ aC)(base:r_)(N:b_ k_)(b:k_)(a:eL)(f:g_)(d:aC)(A:bT)(g8:b_ T_)(s:aE)(H:Hp)(E:XK):Cx where
 prog:=P
 w:=w
 K:=K
 mg:=mg
 base:=base
 A:=A.deeper (oN b a s.1.1.size f d)
 N:=N
 kt:=s
 qP:=H
 env:=oN b a s.1.1.size f d
 g8:=g8
 stack:=oN b a s.1.1.size f d::g8
 ex:=[]
 calm:=d_
 fn:=λx=>decide (x∉qg)
 pn:=[]
 xe:=λe h=>aP (aW P w) (A.deeper (oN b a s.1.1.size f d)) (leaving (oN b a s.1.1.size f d) e) (λz c=>g g8 H s E e c) (λi c=>g g8 H s E i c) h
def E3{a:eL}{n:h_}{x:k_}(h:a.names.lookup x=a_ .cell):∃c,(jT n a.names []).lookup x=a_ c:=by have q:=lE a.names n [] (.inl h);exact E_.mp q
def Bt{CX:Lf}{P:aV}{w:bP}{K:aK}{Q:k_->f_ aC}{base:r_}{N ps:b_ k_}{j:k_}{d:eL}{f:g_}{M:aC}{A:bT}{g:b_ T_}{s T:aE}{H:Hp}{E:XK}{O:b_ aC}{o:b_ V}
  (S:pc N ps d)(hd:A.handled=c_)(m:Env0 P w K Q base A g s H)(hl:_7 o=_7 ps)(r:dg o O)
  (x:InCallC s s.1.1.size (O? (oN j d s.1.1.size f M).kindOf (ps.zip O) λZ=>c_) (jT (s.1.1.size+1) d.names []) (P? (oN j d s.1.1.size f M).kindOf (ps.zip O) λZ=>c_) T):
  a9 (ly CX P w K Q base N j d f M A g s H E) [] (i9 N o) H T:=by
 have γ:_7 ps<=_7 N:=by have:=C_ fT S.pre;rw[oY]at this;lia
 obtain⟨L,tk,rfl,Y⟩:=x.done;have B:∀b:g_,b∉(ly CX P w K Q base N j d f M A g s H E).ex:=λb z=>u_ (show b∈([]:b_ g_)from z) (by simp);refine⟨⟨m.q7,S.kind,_6,_6,aL _,λy z c L l=>?_,λy C=>?_,λy c Z h=>?_,λZ=>hd,Around.frames_deeper m.frames,.inr ⟨_6,_6⟩,λb z=>u_ z (B b),m.bs,m.bsz,λb Z Z=>B b,λb z=>u_ z (B b),m.qN,m.frf⟩,
  rfl,m.ln,Un.kd Y,⟨_,x.toInCall.ns,λi y v L l h3=>?_⟩,λy c h=>⟨_,x.cell y c h⟩,m.e6.fresh (aL _),λy c h=>?_,λp I=>u_ (show p∈([]:b_ (g_×D_))from I) (by simp),m.e6.kd Y,?_⟩
 .exact name_of_addr x.apart (gL L) (gL l)
 .have C:d.names.lookup y=a_ .cell\/d.names.lookup y=a_ .free:=C;obtain C|C:=C
  .exact E3 C
  .exact u_ _6 (S.nofree _ (gL C))
 .exact b? (x.above y c (gL h))
 .have J:i<_7 o:=by
   unfold i9 at l
   by_cases J:i<_7 o
   .exact J
   .rw[dX (by simpa using J)]at l;rw[List.getElem?_replicate]at l;split at l<;>cases l
  have ha:o[i]?=a_ v:=by
   unfold i9 at l;rw[eD (by simpa using J),bY]at l;cases e:o[i]? with
   |none=>rw[e]at l;cases l
   |some a=>rw[e]at l;cases l;rfl
  obtain⟨u,U,rv⟩:=r.get ha;have I:ps[i]?=a_ y:=by rw[<-S.pre,List.getElem?_take_of_lt (by lia)];exact L
  have G:ps.Nodup:=by rw[<-S.pre];exact S.nd.sublist (List.take_sublist _ _)
  refine⟨u,rv,?_⟩;rcases S.par y (eT I)with k|k
  .exact .inl ⟨k,Bf G I U k⟩
  .obtain⟨c,e⟩:=E3 (n:=s.1.1.size+1) k;refine .inr ⟨.inl k,c,e,?_⟩;have q:=x.cell y c e;rw[Bd G I U (by show d.names.lookup y≠_;rw[k];decide)]at q;exact q
 .exact .inl (m.e6.fresh (b? (x.above y c (gL h))))
 .unfold i9;show _=_7 N;rw[bS,bB,dC]
  lia
def Zt{U:Lf}{P:aV}{w:bP}{K:aK}{T:k_->f_ aC}{base:r_}{k:h_}{f:g_}{m d:k_}{h:Arguments}{i:b_ s_}{a:eL}{dV kV O pm g ct oc:aC}{an od:f_ g_}
  {γ:q_ (f_ aC)} {N ps:b_ k_} {Y:Sp} (lk:K.lookup f=a_ ⟨oc,od,.func (cY m d h i a dV kV O pm an g ct),γ⟩) (ζ:fB K g d=d_) (S:pc N ps a)
  (len:∀l H Q E,Y l H Q E->_7 l=_7 ps)
  (B:∀(A:bT)(c:b_ T_)(s:aE)(H:Hp)(l:b_ V)(Q:VK)(E:XK),io k (A.deeper (oN d a s.1.1.size f g))->Y l H Q E->
   ∃t,qR (ly U P w K T base N d a f g A c s H E) i t/\t {nx:=λZ p=>Q .fm p,rt:=Q} (i9 N l) H):
  kz P w K T base U (k+1) f (cY m d h i a dV kV O pm an g ct) ps Y:=by
 refine⟨len,λA c s H κ us l Q E hr M hb r G=>?_⟩;have hl:=len _ _ _ _ G;have KX:K.In s.1:=M.q7.kin.keeps λb o e=>(M.bs b o e).1;have δ:s.1.NoLimit:=M.q7.nolimit.keeps λb o e=>(M.bs b o e).1;have z:∀y∈ps.zip us,a.names.lookup y.1=a_ .local\/(a.names.lookup y.1=a_ .cell/\((jT (s.1.1.size+1) a.names []).lookup y.1).isSome=d_):=λ⟨n,v⟩ hy=>by
  rcases S.par n (mZ hy).1 with q|q
  .exact .inl q
  .exact .inr ⟨q,lE _ _ _ (.inl q)⟩
 refine C! hr.depth (KX _ _ lk) _6 S.co S.gen _6 (f? KX ζ) (hb _ _ _ _ ?_);refine g? S.kind z λΔ he s1 x=>?_;subst he;refine⟨δ.keeps x.toInCall.keep,codeAny_func ?_⟩;obtain⟨t,ht,hq⟩:=B A c s H l Q E (hr.deeper _) G;have I:a9 (ly U P w K T base N d a f g A c s H E) [] (i9 N l) H s1:=Bt S hr.hd M hl r x;refine cA (ht [] s1 (i9 N l) H _ I hq) (λfl s' C=>?_) λe s' C=>C;have L:∀{j:St}{p:Hp}{v:V}{u:aC},a9 (ly U P w K T base N d a f g A c s H E) [] j p s'->eu v u->Q v p->CE c P w H s Q u s':=
  λ{j p v u} J rv q=>⟨v,p,J.os,J.ln,J.base,J.e6,rv,q⟩
 cases fl with
 |ret u=>obtain⟨v,j,p,J,rv,q⟩:=C;exact L J rv q
 |next=>obtain⟨j,p,J,q⟩:=C;exact L (v:=V.fm) (u:=bV) J _6 q
 |brk=>obtain⟨_,_,_,q⟩:=C;exact cS q
 |cont=>obtain⟨_,_,_,q⟩:=C;exact cS q
section
variable{X:Cx}{x:k_}{p pos:v_}{e:Expr}{es:b_ Expr}{t:TA}{id T:F_}{r:b_ V->Hp->VK->Prop}
def QY(r:b_ V->Hp->VK->Prop)(t:TA):TE:=λσ H Q=>t σ H λa b=>r a b Q
def jm(u:lf X (.builtin id) r)(o:Gl X x)(n:X.mg x=c_)(l:eX x=a_ (.builtin id))(v:PA X (e::es) t)(m:Q! (x≠"__name__") Q1!)(c:Q! ((x==("__debug__":k_))=e_) Q1!)
  (q:Q! (aU (e::es) X.env=(e_,I_ e X.env)::aU es X.env) Q2!)(b:Q! ((dW pos (aU es X.env)).any (·.1)=e_) Q2!):PE X (.Call (.Name x p) (e::es) [] pos) (QY r t):=by
 intro a s σ H Q I h;refine fM (n6 I o n l ?_ m c);exact PyProof.Rows.callWith_builtin1 (c9 (v pos a s σ H _ I h) λf g ⟨d,y,w,i,j⟩=>u a g σ y d f Q w i j) q b
def jg(u:lf X (.type T) r)(o:Gl X x)(n:X.mg x=c_)(l:eX x=a_ (.type T))(v:PA X (e::es) t)(m:Q! (x≠"__name__") Q1!)(c:Q! ((x==("__debug__":k_))=e_) Q1!)
  (q:Q! (aU (e::es) X.env=(e_,I_ e X.env)::aU es X.env) Q2!)(b:Q! ((dW pos (aU es X.env)).any (·.1)=e_) Q2!):PE X (.Call (.Name x p) (e::es) [] pos) (QY r t):=by
 intro a s σ H Q I h;refine fM (n6 I o n l ?_ m c);exact dU (c9 (v pos a s σ H _ I h) λf g ⟨d,y,w,i,j⟩=>u a g σ y d f Q w i j) q b
end
end L2
namespace HT
section
variable{prog:aV}{w:bP}{A:bT}{E:aC->aE->Prop}{s:aE}
def Wj{t b:g_}{d a:b_ aC}{Q:aC->aE->Prop}(y:iJ s.1 t d.toArray)(z:iJ s.1 b a.toArray)(q:d≠[])
  (C:a=[]->Q (.ref t) s)(B:a≠[]->Q (.ref s.1.1.size) {s with heap:=s.1.push {cls:=.type "tuple",data:=.seq (d++a).toArray}})
  (m:_7 d+_7 a<=aG):aP (aW prog w) A (fS .Add (.ref t) (.ref b)) Q E s:=by
 obtain⟨⟨cls,v,data,o⟩,l,u,n,r⟩:=id y;obtain⟨⟨x,i,data2,f⟩,c,h,p,g⟩:=id z;simp only at u r h g;subst u r h g;have e:d.toArray++a.toArray=(d++a).toArray:=by simp
 by_cases j:a=[]
 .exact pL ⟨_,l,_6⟩ ⟨_,c,_6⟩ oZ C? lF kX (kA _ _)
   (tuple_addW1 t b d.toArray a.toArray n p v i o f (by simpa using q) (by simp[j])) ⟨l,c,C j⟩
 .refine pL ⟨_,l,_6⟩ ⟨_,c,_6⟩ oZ C? lF kX (kA _ _)
   (tuple_addW2 t b d.toArray a.toArray n p v i o f (by simpa using q) (by simpa using j) (by rw[aX,aX];exact m)) ⟨l,c,?_⟩
  rw[e];exact B j
def Ep(n d:h_):f_ n_->h_
 |none=>d
 |some v=>if v<0 then(v+(n:n_)).toNat else P! v.toNat n
end
end HT
namespace L2
abbrev TO:=St->Hp->(f_ n_->Hp->Prop)->Prop
def PO(X:Cx)(e:f_ Expr)(t:TO):Prop:=
 ∀(a:b_ (g_×D_))(s:aE)(σ:St)(H:Hp)(Q:f_ n_->Hp->Prop),a9 X a σ H s->t σ H Q->
  aP (aW X.prog X.w) X.A (evalPart e X.env) (λu c=>∃o b,a9 X a σ b c/\IsPart u o/\Q o b) X.xe s
def Y8:TO:=λz H Q=>Q c_ H
def KQ(t:TE):TO:=λσ H Q=>t σ H λx a=>∃i,x=.int i/\Q (a_ i) a
section
variable{X:Cx}{e:Expr}{te:TE}{lo hi:f_ Expr}{tl th:TO}{pos p2:v_}
def X7:PO X c_ Y8:=by intro a s σ H Q I h;rw[evalPart_none];exact aD ⟨c_,H,I,.none,h⟩
def X8(h:PE X e te):PO X (a_ e) (KQ te):=by intro a s σ H Q I d;rw[evalPart_some];refine c9 (h a s σ H _ I d) λu j ⟨x,g,f,b,c⟩=>?_;obtain⟨i,rfl,q⟩:=c;obtain⟨t,rfl⟩:=b;exact⟨a_ i,g,f,.int i t,q⟩
def QB(X:Cx)(r:V->f_ n_->f_ n_->Hp->VK->Prop):Prop:=
 ∀(a:b_ (g_×D_))(s:aE)(σ:St)(H:Hp)(x:V)(v c b:aC)(lo hi:f_ n_)(d:g_)(Q:VK),a9 X a σ H s->eu x v->s.1.IsSliceOf d c b .none->IsPart c lo->IsPart b hi->r x lo hi H Q->
  ∃T id,nQ (.type T) "__getitem__"=pure (a_ (.builtin id))/\s.TypeIs v T/\aP (aW X.prog X.w) X.A (getItem v (.ref d)) (EP X a σ Q) X.xe s
def SJ(r:V->f_ n_->f_ n_->Hp->VK->Prop)(te:TE)(tl th:TO):TE:=λσ H Q=>te σ H λx c=>tl σ c λl b=>th σ b λu a=>r x l u a Q
def T2{r:V->f_ n_->f_ n_->Hp->VK->Prop}(C:QB X r)(J:PE X e te)(E:PO X lo tl)(z:PO X hi th):PE X (.Subscript e (.Slice lo hi c_ p2) pos) (SJ r te tl th):=by intro a s σ H Q I h;refine Subscript_ (c9 (J a s σ H _ I h) λv j ⟨x,H1,U,m,p⟩=>?_);refine wpAny_Slice (c9 (E a j σ H1 _ U p) λf i ⟨l,Y,O,y,o⟩=>c9 (z a i σ Y _ O o) λd c ⟨u,g,N,pu,n⟩=>?_);rw[evalPart_none];refine aD ?_;have M:a9 X a σ g {c with heap:=c.1.push {cls:=.type "slice",data:=.fields #[f,d,.none]}}:=N.kd (t':=c.toks) λb ob q=>aB _ q;obtain⟨T,id,L,B,G⟩:=C a {c with heap:=c.1.push {cls:=.type "slice",data:=.fields #[f,d,.none]}} σ g x v f d l u c.1.1.size Q M m (Heap.IsSliceOf.new ..) y pu n;show aP (aW X.prog X.w) X.A (subscriptTail e (.Slice lo hi c_ p2) v (.ref c.1.1.size)) (EP X a σ Q) X.xe {c with heap:=c.1.push {cls:=.type "slice",data:=.fields #[f,d,.none]}};exact tail_any (ops:=[.ref c.1.1.size,v]) B L G (by with_unfolding_all rfl)
def Jc(xs:b_ V)(lo hi:f_ n_):b_ V:=(xs.drop (HT.Ep xs.length 0 lo)).take (HT.Ep xs.length xs.length hi-HT.Ep xs.length 0 lo)
def E5(xs:b_ V)(lo hi:f_ n_):(Jc xs lo hi).length<=_7 xs:=by
 unfold Jc;rw[oY,jU]
 lia
inductive rCatT(K:aK)(x:V)(y:V)(H:Hp)(Q:VK):Prop
 |mk (a b xs ys) (_:x=.ref a) (_:y=.ref b) (_:ng K H a xs) (_:ng K H b ys) (_:xs≠[]) (_:_7 xs+_7 ys<=aG) (_:(ys=[]->Q (.ref a) H)) (_:(ys≠[]->∀p,H p=c_->Q (.ref p) (c0 H p (.ci (xs++ys))))):rCatT K x y H Q
def dg.re{xs:b_ V}{a:b_ aC}(r:dg xs a):a=[]↔xs=[]:=by
 cases r with
 |nil=>simp
 |cons _ _=>simp
def Xu:n5 X (fS .Add) (rCatT X.K):=by intro f s σ H x y v u Q I m l h;obtain⟨a,b,xs,j,rfl,rfl,E,C,B,i,p,n⟩:=h;cases m;cases l;obtain⟨A,d,r,_⟩:=I.tuple E;obtain⟨g,c,p2,_⟩:=I.tuple C;refine HT.Wj r p2 (λz=>B (d.re.mp z)) (λz=>⟨.ref a,H,I,_6,p (c.re.mp z)⟩) (λz=>?_) (by rw[<-d.length,<-c.length];exact i);refine⟨.ref s.1.1.size,_,I.nn (t':=s.toks) (o:=.ci (xs++j)) (λb G q=>aB _ q) (aL _) ?_,_6,n (λw=>z (c.re.mpr w)) _ (I.e6.fresh (aL _))⟩;exact⟨by rw[bS];exact i,_,d.append c,e! _ _⟩
end
def Zz(n:h_)(i:n_):f_ h_:=if 0<=i then(if i<n then a_ i.toNat else c_)else if -(n:n_)<=i then a_ (i+n).toNat else c_
def atI{α:Type}(xs:b_ α)(i:n_):f_ α:=(Zz xs.length i).bind λj=>xs[j]?
def W4{n:h_}{i:n_}{j:h_}(h:Zz n i=a_ j):Q? i n=a_ j/\j<n/\-(n:n_)<=i/\i<n:=by
 unfold Zz at h
 by_cases b:0<=i
 .rw[aO b]at h
  by_cases a:i<n
  .rw[aO a]at h;have e:i.toNat=j:=aZ h;exact⟨by rw[seqIndex_of b a,e],by lia,by lia,a⟩
  .rw[aJ a]at h;cases h
 .rw[aJ b]at h
  by_cases a:-(n:n_)<=i
  .rw[aO a]at h;have e:(i+n).toNat=j:=aZ h;exact⟨by rw[seqIndex_neg (by lia) a,e],by lia,a,by lia⟩
  .rw[aJ a]at h;cases h
def Ci{α:Type}{xs:b_ α}{i:n_}{v:α}(h:atI xs i=a_ v):∃j,Q? i (_7 xs)=a_ j/\xs[j]?=a_ v/\j<_7 xs/\-(xs.length:n_)<=i/\i<_7 xs:=by
 unfold atI at h;cases e:Zz xs.length i with
 |none=>rw[e]at h;cases h
 |some j=>rw[e]at h;obtain⟨d,c,b,a⟩:=W4 e;exact⟨j,d,h,c,b,a⟩
def Wf{α:Type}{xs:b_ α}{j:h_}{v:α}(h:xs[j]?=a_ v):atI xs (j:n_)=a_ v:=by
 have a:j<_7 xs:=(i_.mp h).1;have e:Zz xs.length (j:n_)=a_ j:=by unfold Zz;rw[aO (by lia),aO (by lia)];simp
 unfold atI;rw[e];exact h
def Ce(b:Expr):Prop:=∀o i,subscripted b e_ o i=operate [o,i] (getItem o i)
def IxR(X:Cx)(r:R2):Prop:=
 ∀(value a:Expr)(b:b_ (g_×D_))(s:aE)(σ:St)(H:Hp)(x y:V)(v u:aC)(Q:VK),a9 X b σ H s->eu x v->eu y u->r x y H Q->
  subscripted a e_ v u=operate [v,u] (getItem v u)->aP (aW X.prog X.w) X.A (subscriptTail value a v u) (EP X b σ Q) X.xe s
def AB(X:Cx)(id:F_)(r:V->b_ V->Hp->VK->Prop):Prop:=
 ∀(a:b_ (g_×D_))(s:aE)(σ:St)(H:Hp)(x:V)(xs:b_ V)(v:aC)(b:b_ aC)(Q:VK),a9 X a σ H s->eu x v->dg xs b->r x xs H Q->
  aP (aW X.prog X.w) X.A (call (.builtin id) (v::b)) (EP X a σ Q) X.xe s
section
variable{X:Cx}{a b:Expr}{ta tb:TE}{pos:v_}
def IxR.or{r g:R2}(h:IxR X r)(j:IxR X g):IxR X (λx y H Q=>r x y H Q\/g x y H Q):=by
 intro value c d s σ H x y v u Q I f e q i;obtain q|q:=q
 .exact h value c d s σ H x y v u Q I f e q i
 .exact j value c d s σ H x y v u Q I f e q i
def JX{r:R2}(i:IxR X r)(l:PE X a ta)(j:PE X b tb)(g:Ce b):PE X (.Subscript a b pos) (KR r ta tb):=by intro c s σ H Q I h;exact Subscript_ (BR l j I h λv u d x y n m f e q=>i a b c d σ n x y v u Q m f e q (g _ _))
inductive rIxL(K:aK)(x:V)(y:V)(H:Hp)(Q:VK):Prop
 |mk (p xs i v) (_:x=.ref p) (_:y=.int i) (_:h8 K H p xs) (_:atI xs i=a_ v) (_:Q v H):rIxL K x y H Q
inductive rIxT(K:aK)(x:V)(y:V)(H:Hp)(Q:VK):Prop
 |mk (p xs i v) (_:x=.ref p) (_:y=.int i) (_:ng K H p xs) (_:atI xs i=a_ v) (_:Q v H):rIxT K x y H Q
inductive rIxS(x:V)(y:V)(H:Hp)(Q:VK):Prop
 |mk (z i c) (_:x=.str z) (_:y=.int i) (_:z.length<=aG) (_:atI z.cps.toList i=a_ c) (_:Q (.str ⟨#[c]⟩) H):rIxS x y H Q
def W6:IxR X (rIxL X.K):=by
 intro value f c s σ H x y v u Q I G E h o;obtain⟨p,xs,i,z,rfl,rfl,J,M,q⟩:=h;cases G;obtain⟨t,rfl⟩:=E;obtain⟨m,r,l,U⟩:=I.list J;obtain⟨j,e,T,h3,O,N⟩:=Ci M;obtain⟨w,B,g⟩:=r.get T;have L:=r.length;have Y:=zf;have d:EP X c σ Q w s:=⟨z,H,I,g,q⟩
 by_cases A:0<=i
 .have n:i.toNat=j:=by rw[seqIndex_of A N]at e;exact aZ e
  exact item_listR l.isList A (by lia) (by rw[n];simpa using B) d o
 .have n:(i+(m.toArray.size:n_)).toNat=j:=by rw[seqIndex_neg (by lia) O]at e;rw[aX,<-L];exact aZ e
  exact g! (x:=w) l.isList.typeIs slot_list_getitem.lookup
   (wpAny_getItem_list_neg (Q:=λr C=>r=w/\EP X c σ Q r C) l.isList (by lia) (by rw[aX]<;>lia) (by lia) (by rw[n];simpa using B) ⟨_6,d⟩) o
def CH:IxR X (rIxT X.K):=by
 intro value d c s σ H x y v u Q I n m h A;obtain⟨p,xs,i,z,rfl,rfl,B,E,q⟩:=h;cases n;obtain⟨t,rfl⟩:=m;obtain⟨o,r,g,M⟩:=I.tuple B;obtain⟨j,J,G,U,T,O⟩:=Ci E;obtain⟨w,L,e⟩:=r.get G;have C:=r.length;have N:=zf;have f:EP X c σ Q w s:=⟨z,H,I,e,q⟩;exact g! (x:=w) g.typeIs slot_tuple_getitem.lookup
  (getItem_tuple (j:=j) (Q:=λr l=>r=w/\EP X c σ Q r l) g (by lia) (by lia) (by rw[aX,<-C];exact J) (by simpa using L) ⟨_6,f⟩) A
def CI:IxR X rIxS:=by
 intro value d e s σ H x y v u Q I l g h m;obtain⟨z,i,c,rfl,rfl,E,o,q⟩:=h;obtain⟨t,rfl⟩:=l;obtain⟨C,rfl⟩:=g;obtain⟨j,f,w,J,r,p⟩:=Ci o;have n:z.cps.toList.length=z.length:=by simp[Str.length]
 rw[n]at f r p;have G:=zf;exact tail_any (typeIs_str s z t) slot_str_getitem.lookup (getItem_str (c:=c) (by
  have B:decide (i< -(2^63:n_))=e_:=t_ (by lia);have A:decide (i>=2^63)=e_:=t_ (by lia);rw[B,A,Bool.or_false]) (by rw[f];simpa using w) ⟨.str ⟨#[c]⟩,H,I.qs _,⟨_,_6⟩,q⟩) m
def RP(K:aK):R2:=λx y H Q=>rIxL K x y H Q\/rIxT K x y H Q\/rIxS x y H Q
def CK:IxR X (RP X.K):=W6.or (CH.or CI)
def a9.a8{d:b_ (g_×D_)}{σ:St}{H:Hp}{s:aE}{p:g_}{xs:b_ V}(I:a9 X d σ H s)(h:H p=a_ (.a8 xs)):
  ∃(c:b_ aC) (n:h_),dg xs c/\s.1.get? p=a_ {cls:=.type "list",data:=.seq c.toArray n}/\_7 xs<=aG:=by
 obtain⟨z,c,n,r,e⟩:=I.e6 p _ h;exact⟨c,n,r,e,z⟩
def Ec(lo c:f_ n_)(n:h_):(kY lo c c_ n).1=((HT.Ep n 0 lo:h_):n_)/\(kY lo c c_ n).2.1=((HT.Ep n n c:h_):n_)/\(kY lo c c_ n).2.2=1:=by
 refine⟨?_,?_,_6⟩
 .cases lo with
  |none=>simp[kY,HT.Ep]
  |some i=>
   simp only[kY,HT.Ep,R?,show(1:n_)>0 by decide,K_]
   by_cases h:i<0
   .simp only[h,K_]<;>lia
   .simp only[h,A_]<;>lia
 .cases c with
  |none=>simp[kY,HT.Ep]
  |some i=>
   simp only[kY,HT.Ep,R?,show(1:n_)>0 by decide,K_]
   by_cases h:i<0
   .simp only[h,K_]<;>lia
   .simp only[h,A_]<;>lia
def A9(c:b_ aC)(lo d:f_ n_):slicePick c.toArray lo d c_=((c.drop (HT.Ep c.length 0 lo)).take (HT.Ep c.length c.length d-HT.Ep c.length 0 lo)).toArray:=by obtain⟨g,f,e⟩:=Ec lo d c.toArray.size;unfold slicePick;rw[g,f,e];simp only[sliceRange_one,pick_run,aX]<;>rfl
inductive rSlL(K:aK)(x:V)(lo:f_ n_)(hi:f_ n_)(H:Hp)(Q:VK):Prop
 |mk (a xs) (_:x=.ref a) (_:h8 K H a xs) (_:∀p,H p=c_->Q (.ref p) (c0 H p (.a8 (Jc xs lo hi)))):rSlL K x lo hi H Q
def Y1:QB X (rSlL X.K):=by intro e s σ H x v u p lo d w Q I g n i pu h;obtain⟨a,xs,rfl,m,q⟩:=h;cases g;obtain⟨j,r,f,l⟩:=I.list m;have c:=r.length;refine⟨"list",_,slot_list_getitem.lookup,f.isList.typeIs,?_⟩;refine wpAny_getItem_list_slice f.isList n i pu .none (by simp) ?_ (by rw[aX]<;>lia);rw[A9,<-c];refine⟨.ref s.1.1.size,_,I.nn (t':=s.toks) (o:=.a8 (Jc xs lo d)) (λb y q=>aB _ q) (aL _) ?_,_6,q _ (I.e6.fresh (aL _))⟩;exact⟨cB (E5 xs lo d) l,_,0,(r.drop (HT.Ep xs.length 0 lo)).take (HT.Ep xs.length xs.length d-HT.Ep xs.length 0 lo),aI _ _6⟩
def lf.or{f:aC}{r g:b_ V->Hp->VK->Prop}(h:lf X f r)(i:lf X f g):lf X f (λxs H Q=>r xs H Q\/g xs H Q):=by
 intro c s σ H xs d Q I e q;obtain q|q:=q
 .exact h c s σ H xs d Q I e q
 .exact i c s σ H xs d Q I e q
def Cj:lf X (.type "list") (λxs H Q=>∃p f,xs=[.ref p]/\(h8 X.K H p f\/ng X.K H p f)/\∀l,H l=c_->Q (.ref l) (c0 H l (.a8 f))):=by
 intro j s σ H xs L Q I r h;obtain⟨p,f,rfl,x,q⟩:=h;obtain⟨u,rfl,J⟩:=ik r;cases J;have z:∀(c:b_ aC),dg f c->f.length<=aG->∀(d:r_)(i:h_),(∀b G,s.1.get? b=a_ G->d.get? b=a_ G)->
   d.get? s.1.1.size=a_ {cls:=.type "list",dict:=c_,data:=.seq c.toArray i,slots:=#[]}->EP X j σ Q (.ref s.1.1.size) {s with heap:=d}:=λc g v d i m e=>
  ⟨.ref s.1.1.size,_,I.nn (t':=s.toks) m (aL _) (show fb X.prog X.w _ d _ (.a8 f)from⟨v,c,i,g,e⟩),_6,q _ (I.e6.fresh (aL _))⟩
 obtain x|x:=x
 .obtain⟨c,g,A,v⟩:=I.list x;have y:=g.length;obtain⟨o,B,E,n,C⟩:=A.isList;exact call_list_seq p (.inl _6) B E C (λd i m e=>z c g v d i m e) (by simp only[aX]<;>lia)
 .obtain⟨c,g,A,v⟩:=I.tuple x;have y:=g.length;obtain⟨o,B,E,n,C⟩:=A;exact call_list_seq p (.inr _6) B E C (λd i m e=>z c g v d i m e) (by simp only[aX]<;>lia)
def Ay:lf X (.type "tuple") (λxs H Q=>∃p f,xs=[.ref p]/\((h8 X.K H p f/\∀l,H l=c_->Q (.ref l) (c0 H l (.ci f)))\/(ng X.K H p f/\Q (.ref p) H))):=by
 intro c s σ H xs B Q I r h;obtain⟨p,f,rfl,h⟩:=h;obtain⟨u,rfl,y⟩:=ik r;cases y;obtain ⟨m,q⟩|⟨m,q⟩:=h
 .obtain⟨d,i,j,n⟩:=I.list m;have v:=i.length;refine call_tuple_list j.isList (λg z=>?_) (by simp only[aX]<;>lia);have x:a9 X c σ H {s with heap:=g}:=I.kd (t':=s.toks) z;have A:a9 X c σ (c0 H g.objs.size (.ci f)) {s with heap:=g.push {cls:=.type "tuple",data:=.seq d.toArray}}:=
   x.nn (t':=s.toks) (λb o e=>aB _ e) (aL _) (show fb X.prog X.w _ _ _ (.ci f)from⟨n,d,i,e! _ _⟩)
  exact⟨.ref g.objs.size,_,A,_6,q _ (x.e6.fresh (aL _))⟩
 .obtain⟨d,i,j,n⟩:=I.tuple m;exact call_tuple_same j ⟨.ref p,H,I,_6,q⟩
def LA(K:aK)(T:F_)(x:V)(H:Hp):Prop:=match x with
 |.str _=>T="str"
 |.int _=>T="int"
 |.ref p=>(T="list"/\∃xs,h8 K H p xs)\/(T="tuple"/\∃o,K.lookup p=a_ o/\o.cls=.type "tuple"/\o.dict=c_)\/
   (T="dict"/\((∃c,H p=a_ (.dK c))\/∃c,H p=a_ (.dT c)))\/(T="set"/\∃S n,H p=a_ (.set S n))
 |_=>L_
def V0{g:b_ (g_×D_)}{σ:St}{H:Hp}{s:aE}{T:F_}{x:V}{v:aC}(I:a9 X g σ H s)(r:eu x v)(ty:LA X.K T x H):
  s.TypeIs v T/\∀a,v=.ref a->∃q,s.1.get? a=a_ q/\q.dict=c_:=by
 cases x with
 |str z=>obtain⟨t,rfl⟩:=r;cases (show T="str" from ty);exact⟨typeIs_str s z t,λZ e=>nomatch e⟩
 |int i=>obtain⟨t,rfl⟩:=r;cases (show T="int" from ty);exact⟨jJ s i t,λZ e=>nomatch e⟩
 |ref p=>
  cases r;obtain ⟨rfl,xs,w⟩|⟨rfl,o,d,y,j⟩|⟨rfl,d⟩|⟨rfl,S,n,d⟩:=ty
  .obtain⟨u,_,m,_⟩:=I.list w;refine⟨m.isList.typeIs,λa e=>?_⟩;cases e;obtain⟨o,n,e,c,j,_⟩:=m;exact⟨o,e,j⟩
  .refine⟨⟨o,I.qY p o d,y⟩,λa e=>?_⟩;cases e;exact⟨o,I.qY _ o d,j⟩
  .have z:∃o,s.1.get? p=a_ o/\o.ExactDict:=by
    obtain ⟨h,d⟩|⟨h,d⟩:=d
    .obtain⟨_,_,_,_,o,_,_,e,f,_⟩:=I.e6 p _ d;exact⟨o,e,f⟩
    .obtain⟨_,_,_,_,o,_,_,e,f,_⟩:=I.e6 p _ d;exact⟨o,e,f⟩
   obtain⟨o,e,f⟩:=z;refine⟨⟨o,e,f.1⟩,λa l=>?_⟩;cases l;exact⟨o,e,f.2.1⟩
  .obtain⟨o,_,_,_,e,f,_⟩:=I.e6 p _ d;refine⟨⟨o,e,f.1⟩,λa l=>?_⟩;cases l;exact⟨o,e,f.2.1⟩
 |_=>exact cS ty
def QZ(K:aK)(T:F_)(r:V->b_ V->Hp->VK->Prop)(d:TE):TE:=λσ H Q=>d σ H λx c=>LA K T x c/\r x [] c Q
def AO(K:aK)(T:F_)(r:V->b_ V->Hp->VK->Prop)(d:TE)(t:TA):TE:=λσ H Q=>d σ H λx c=>LA K T x c/\t σ c λxs e=>r x xs e Q
variable{o e:Expr}{es:b_ Expr}{to:TE}{t:TA}{name:k_}{rM cpos:v_}{T id:F_}{r:V->b_ V->Hp->VK->Prop}
def DF(n:PlainAttrs T)(slot:Slot T name id)(g:i? (.builtin id)=pure (.type "method_descriptor"))(q:AB X id r)(p:PE X o to)
  (f:Q! (gQ o name X.env (I_ o X.env)=I_ o X.env) Q2!)(d:Q! ((rM.endLine==cpos.line)=d_) Q2!):PE X (.Call (.Attribute o name rM) [] [] cpos) (QZ X.K T r to):=by
 intro c s σ H Q I h;refine kZ f d (c9 (p c s σ H _ I h) λv l ⟨x,y,j,i,ty,m⟩=>?_);obtain⟨w,u⟩:=V0 j i ty;exact⟨T,id,n,slot,g,w,u,eB _6 (nC (q c l σ y x [] v [] Q j i .nil m))⟩
def oz(B:PlainAttrs T)(slot:Slot T name id)(j:i? (.builtin id)=pure (.type "method_descriptor"))(G:AB X id r)(E:PE X o to)(J:PA X (e::es) t)
  (g:Q! (gQ o name X.env (I_ o X.env)=I_ o X.env) Q2!)
  (i:Q! (((dW cpos (aU (e::es) X.env)).all (λx=> !x.1)&&(lG cpos (iA [] X.env)).all (λx=>x.1.isSome)
  &&decide ((e::es).length+([]:b_ fP).length+(if([]:b_ fP).isEmpty then 0 else 1)<30))=d_) Q2!)
  (f:Q! ((rM.endLine==cpos.line)=d_) Q2!) (C:Q! (aU (e::es) X.env=(e_,I_ e X.env)::aU es X.env) Q2!) (d:Q! ((dW cpos (aU es X.env)).any (·.1)=e_) Q2!):
  PE X (.Call (.Attribute o name rM) (e::es) [] cpos) (AO X.K T r to t):=by
 intro c s σ H Q I h;refine wpAny_Call_method_late g i f _6 (c9 (E c s σ H _ I h) λv w ⟨x,U,n,l,ty,A⟩=>?_);obtain⟨M,L⟩:=V0 n l ty;refine⟨T,id,B,slot,j,M,L,?_⟩;have m:=J cpos c w σ U _ n A;rw[C]at m⊢;refine eB (by show(e_||(dW cpos (aU es X.env)).any (·.1))=e_;rw[d]<;>rfl) (iB ?_);exact c9 m λq u ⟨p,O,N,y,z⟩=>G c u σ O x p v q Q N l y z
end
def LP(X:Cx)(id:F_)(r:V->b_ V->Hp->VK->Prop):Prop:=
 ∀(a:b_ (g_×D_))(s:aE)(σ:St)(H:Hp)(x:V)(xs:b_ V)(v:aC)(b:b_ aC)(Q:VK),a9 X a σ H s->eu x v->dg xs b->r x xs H Q->
  aP (aW X.prog X.w) X.A (call (.builtin id) (v::b)) (EP X a σ Q) X.xe s
def dg.pv:∀{x:V}{a:b_ aC},dg [x] a->∃u,a=[u]/\eu x u
 |_,_,.cons r .nil=>⟨_,_6,r⟩
def dg.zero:∀{a:b_ aC},dg [] a->a=[]
 |_,.nil=>rfl
theorem dg.eraseIdx:∀{xs:b_ V}{a:b_ aC}(i:h_),dg xs a->dg (xs.eraseIdx i) (a.eraseIdx i)
 |_,_,_,.nil=>.nil
 |_,_,0,.cons _ t=>t
 |_,_,i+1,.cons r t=>.cons r (dg.eraseIdx i t)
theorem dg.rep{xs:b_ V}{a:b_ aC}(h:dg xs a):∀k:h_,dg (aT k xs).flatten (aT k a).flatten
 |0=>.nil
 |k+1=>by rw[fH,fH,iC,iC];exact dg.append h (dg.rep h k)
theorem B1{α:Type}:∀(l:b_ α)(i:h_),(l.eraseIdx i).length<=_7 l
 |[],_=>aL _
 |_::_,0=>hW _
 |_::r,i+1=>Nat.succ_le_succ (B1 r i)
theorem kr(a:b_ aC):∀(k:h_)(b:b_ aC),
  iS (λd c=>d++c) b.toArray (aT k a.toArray)=(b++(aT k a).flatten).toArray
 |0,b=>by simp
 |k+1,b=>by
  have e:b.toArray++a.toArray=(b++a).toArray:=by simp
  have f:(b++a)++(aT k a).flatten=b++(aT (k+1) a).flatten:=by rw[fH,iC,lH]
  rw[<-f,<-kr a k (b++a),<-e,fH,List.foldl_cons]
section
variable{X:Cx}{au:b_ (g_×D_)}{σ:St}{H:Hp}{s:aE}{l b:g_}{xs ys zs:b_ V}
def a9.lset{a its':b_ aC}{n:h_}{f:q_ aC->q_ aC}{c:h_}(I:a9 X au σ H s)(j:H l=a_ (.a8 xs))
  (e:s.1.get? l=a_ {cls:=.type "list",data:=.seq a.toArray n})(h:f a.toArray=its'.toArray)(d:dg ys its')(hz:_7 ys<=aG):
  a9 X au σ (c0 H l (.a8 ys)) {s with heap:=s.1.update l (pM f),toks:=c}:=by
 have q:=PySem.IsL.update e f;rw[h]at q;refine I.rB (x:=l) (e:=l) (by rw[j];exact trivial) (.inl _6) (λm u i g=>(cF s.1 (pM f) (cW i)).trans g) ⟨_,q⟩ ?_;exact⟨hz,its',_,d,q⟩
def a9.lnew{a:b_ aC}{t':h_}(I:a9 X au σ H s)(c:dg ys a)(hz:_7 ys<=aG):
  a9 X au σ (c0 H s.1.1.size (.a8 ys)) {s with heap:=s.1.push {cls:=.type "list",data:=.seq a.toArray},toks:=t'}:=
 I.nn (λz z q=>aB _ q) (aL _) ⟨hz,a,0,c,aI _ _6⟩
def a9.fresh(I:a9 X au σ H s):H s.1.1.size=c_:=I.e6.fresh (aL _)
def a9.lstM(I:a9 X au σ H s)(c:H l=a_ (.a8 xs)):_7 xs<=aG/\∃(a:b_ aC) (n:h_),dg xs a/\_7 xs=_7 a/\s.1.get? l=a_ {cls:=.type "list",data:=.seq a.toArray n}:=by obtain⟨z,a,n,r,e⟩:=I.e6 l _ c;exact⟨z,a,n,r,r.length,e⟩
def zr{n:h_}(h:n<=aG):dP n=e_:=by unfold dP;exact t_ (by lia)
end
section
variable{X:Cx}
inductive rAppend(x:V)(vs:b_ V)(H:Hp)(Q:VK):Prop
 |mk (l xs y) (_:x=.ref l) (_:vs=[y]) (_:H l=a_ (.a8 xs)) (_:_7 xs<aG) (_:Q .fm (c0 H l (.a8 (xs++[y])))):rAppend x vs H Q
def qi:LP X "list.append" rAppend:=by
 intro b s σ H x i v j Q I d f h;obtain⟨l,xs,y,rfl,rfl,c,m,q⟩:=h;cases d;obtain⟨u,rfl,g⟩:=f.pv;obtain⟨z,a,n,r,o,e⟩:=I.lstM c;refine fC F.slot_list_append ⟨_,e,_6⟩ F.entry_list_append (F.args_list_append_2 _ _) (PySem.list_append l a.toArray n u (by rw[aX];lia)) ⟨e,?_⟩;refine⟨.fm,_,I.lset (its':=a++[u]) c e (by simp) (r.append (.cons g .nil)) ?_,_6,q⟩;rw[bS,List.length_singleton]
 lia
inductive rPopAt(x:V)(vs:b_ V)(H:Hp)(Q:VK):Prop
 |mk (l xs i k y) (_:x=.ref l) (_:vs=[.int i]) (_:H l=a_ (.a8 xs)) (_:-(2^63)<=i) (_:i<2^63) (_:Q? i (_7 xs)=a_ k) (_:xs[k]?=a_ y) (_:Q y (c0 H l (.a8 (xs.eraseIdx k)))):rPopAt x vs H Q
def Td:LP X "list.pop" rPopAt:=by
 intro c s σ H x E v G Q I f g h;obtain⟨l,xs,i,k,y,rfl,rfl,d,C,B,A,m,q⟩:=h;cases f;obtain⟨u,rfl,j⟩:=g.pv;obtain⟨t,rfl⟩:=j;obtain⟨z,a,n,r,p,e⟩:=I.lstM d;obtain⟨w,o,b⟩:=r.get m;refine fC F.slot_list_pop ⟨_,e,_6⟩ F.entry_list_pop (F.args_list_pop_2 _ _)
  (MeetsSeq.list_pop_at l a.toArray n i t k w (j? C B) (by rw[aX,<-p];exact A) (by rw[<-eK];exact o) (by rw[aX];lia)) ⟨e,?_⟩
 refine⟨y,_,I.lset (its':=a.eraseIdx k) d e ?_ (r.eraseIdx k) ?_,b,q⟩
 .show a.toArray.eraseIdxIfInBounds k=(a.eraseIdx k).toArray;rw[List.eraseIdxIfInBounds_toArray]
 .have:=B1 xs k
  lia
inductive rRep(x:V)(y:V)(H:Hp)(Q:VK):Prop
 |mk (l k xs) (_:x=.ref l) (_:y=.int k) (_:H l=a_ (.a8 xs)) (_:-(2^63)<=k) (_:k<2^63) (_:_7 xs*k.toNat<=aG) (_:∀p,H p=c_->Q (.ref p) (c0 H p (.a8 (aT k.toNat xs).flatten))):rRep x y H Q
def xt{α:Type}(xs:b_ α)(k:h_):(aT k xs).flatten.length=k*xs.length:=by
 induction k with
 |zero=>simp
 |succ k a=>rw[fH,iC,bS,a,Nat.succ_mul,Nat.add_comm]
def DL:n5 X (fS .Mult) rRep:=by
 intro p s σ H x y v u Q I C B h;obtain⟨l,k,xs,rfl,rfl,G,L,J,w,q⟩:=h;cases C;obtain⟨t,rfl⟩:=B;obtain⟨z,b,n,r,E,e⟩:=I.lstM G;have f:b.toArray.size*k.toNat<=aG:=by rw[aX,<-E];exact w
 have i:¬b.toArray.size*k.toNat>(2^63-1) / 8:=by
  have:(aG:h_)<=(2^63-1) / 8:=by decide
  lia
 have g:¬(!Builtin.List.listFitsIndex k)=d_:=by rw[j? L J];exact p_
 have c:¬dP (b.toArray.size*k.toNat)=d_:=by rw[zr f];exact p_
 have d:iS (λo j=>o++j) #[] (aT (if b.toArray.isEmpty=d_ then 0 else k.toNat) b.toArray)=(aT k.toNat b).flatten.toArray:=by
  have M:∀m:h_,iS (λo j=>o++j) #[] (aT m b.toArray)=(aT m b).flatten.toArray:=λm=>by have:=kr b m [];rw[kM]at this;exact this
  rw[M];cases b with
  |nil=>simp
  |cons a N=>rw[aJ (by simp)]
 refine gZ (T:="list") (U:="int") (by decide) ⟨_,e,_6⟩ (λA=>jJ A k t) noFill_list_mul nA gA repeat_list F.slot_int_index.lookup
  (fC gA (jJ s k t) mB (lI _ _) (int___rmul___int_list k t l b.toArray n)
   ⟨e,_6,⟨_,e,_6⟩,fC F.slot_list_mul ⟨_,e,_6⟩ F.entry_list_mul (F.args_list_mul_2 _ _) (AutoListH.list___mul___list_int_3 l b.toArray n k t g i c) ⟨e,?_⟩⟩)
 rw[d];exact⟨.ref _,_,I.lnew (t':=s.toks) (r.rep k.toNat) (by rw[xt,pN];exact w),_6,q _ I.fresh⟩
end
section
variable{κ:Type}[P_ κ]
noncomputable def c8(a:b_ (κ×V))(k:κ):f_ V:=(a.find? λb=>decide (b.1=k)).map (·.2)
noncomputable def cv(a:b_ (κ×V))(k:κ)(v:V):b_ (κ×V):=
 if(a.any λb=>decide (b.1=k))=d_ then a.map (λb=>if b.1=k then(b.1,v)else b)else a++[(k,v)]
def pf{k:κ}:c8 ([]:b_ (κ×V)) k=c_:=rfl
def gj{p:κ×V}{r:b_ (κ×V)}{k:κ}(e:p.1=k):c8 (p::r) k=a_ p.2:=by simp[c8,hU,e]
def fg{p:κ×V}{r:b_ (κ×V)}{k:κ}(e:¬p.1=k):c8 (p::r) k=c8 r k:=by simp[c8,hU,e]
theorem u5(k:κ):∀a:b_ (κ×V),(a.any λb=>decide (b.1=k))=(c8 a k).isSome
 |[]=>rfl
 |p::r=>by
  rw[iY]
  by_cases e:p.1=k
  .simp only[gj e,H_ e,Bool.true_or,s?]
  .rw[fg e,t_ e,Bool.false_or];exact u5 k r
def i5(a:b_ (κ×V))(k:κ)(v:V):(cv a k v).length<=_7 a+1:=by
 unfold cv;split
 .rw[bB];lia
 .rw[bS,aR,gD];lia
def Aa{a:b_ (κ×V)}{k:κ}(v:V)(h:c8 a k=c_):cv a k v=a++[(k,v)]:=by unfold cv;rw[u5,h];exact aJ (by decide)
def qH.pq{o:f_ V}{u:f_ aC}(r:qH o u):o.isSome=u.isSome:=by
 cases o with
 |none=>cases u with
  |none=>rfl
  |some _=>exact(show L_ from r).elim
 |some _=>cases u with
  |none=>exact(show L_ from r).elim
  |some _=>rfl
def qH.getD{o:f_ V}{u:f_ aC}{d:V}{a:aC}(r:qH o u)(b:eu d a):eu (o.getD d) (u.getD a):=by
 cases o with
 |none=>cases u with
  |none=>exact b
  |some _=>exact(show L_ from r).elim
 |some _=>cases u with
  |none=>exact(show L_ from r).elim
  |some _=>exact r
def KV.val{a:b_ (κ×V)}{f:b_ (κ×aC)}(r:KV a f)(k:κ):qH (c8 a k) (qB f k):=by
 unfold KV at r;induction r with
 |nil=>exact eF
 |@cons p q ps c h t i=>
  obtain⟨g,j⟩:=h
  by_cases e:p.1=k
  .have d:q.1=k:=g.symm.trans e;have b:qB (q::c) k=a_ q.2:=by simp[qB,hU,d]
   rw[gj e,b];exact j
  .have d:¬q.1=k:=λz=>e (g.trans z);have b:qB (q::c) k=qB c k:=by simp[qB,hU,d]
   rw[fg e,b];exact i
def KV.any{a:b_ (κ×V)}{c:b_ (κ×aC)}(r:KV a c)(k:κ):(a.any λb=>decide (b.1=k))=c.any λb=>decide (b.1=k):=by
 unfold KV at r;induction r with
 |nil=>rfl
 |cons h t d=>rw[iY,iY,d,h.1]
def KV.repl{b:b_ (κ×V)}{d:b_ (κ×aC)}(r:KV b d)(k:κ){y:V}{u:aC}(f:eu y u):
  KV (b.map λa=>if a.1=k then(a.1,y)else a) (d.map λa=>if a.1=k then(a.1,u)else a):=by
 unfold KV at r⊢;induction r with
 |nil=>exact .nil
 |@cons p q ps j h t g=>
  rw[bK,bK];refine .cons ?_ g;obtain⟨c,i⟩:=h
  by_cases e:p.1=k
  .rw[aO e,aO (c.symm.trans e)];exact⟨c,f⟩
  .rw[aJ e,aJ (λz=>e (c.trans z))];exact⟨c,i⟩
def KV.put{a:b_ (κ×V)}{b:b_ (κ×aC)}(r:KV a b)(k:κ){y:V}{u:aC}(c:eu y u):KV (cv a k y) (stored b k u):=by
 unfold cv stored;rw[r.any k]
 by_cases e:(b.any λd=>decide (d.1=k))=d_
 .rw[aO e,aO e];exact r.repl k c
 .rw[aJ e,aJ e];exact Paired.snoc r ⟨_6,c⟩
def KV.length{a:b_ (κ×V)}{b:b_ (κ×aC)}(r:KV a b):_7 a=_7 b:=eA r
end
def t6{P:aV}{w:bP}{k:cj}{u:aC}(r:eu (kV k) u):(ao P w).is k u=d_:=by
 cases k with
 |inl i=>obtain⟨t,e⟩:=(show∃t,u=nM i t from r);subst e;exact Ge P w i t
 |inr x=>obtain⟨t,e⟩:=(show∃t,u=oW x t from r);subst e;exact Gf P w x t
theorem Bu{P:aV}{w:bP}:∀{a:b_ cj}{b:b_ aC},dg (a.map kV) b->ItemsAre (ao P w) a b
 |[],_,r=>by rw[nF]at r;cases r;exact .nil
 |k::a,_,r=>by
  rw[bK]at r;cases r with
  |cons h t=>exact .cons (t6 h) (Bu t)
abbrev KT(H:Hp):b_ (ah×V)->b_ (ah×g_×aC)->Prop:=Paired λp q=>p.1=q.1/\p0 H p.1 q.2.1/\eu p.2 q.2.2
def KT.val{H:Hp}{a:b_ (ah×V)}{xs:b_ (ah×g_×aC)}(r:KT H a xs)(k:ah):qH (c8 a k) ((pA xs k).map (·.2)):=by
 induction r with
 |nil=>exact eF
 |@cons p q ps c h t g=>
  obtain⟨f,_,i⟩:=h
  by_cases e:p.1=k
  .have d:q.1=k:=f.symm.trans e;have b:pA (q::c) k=a_ q.2:=by simp[pA,hU,d]
   rw[gj e,b];exact i
  .have d:¬q.1=k:=λz=>e (f.trans z);have b:pA (q::c) k=pA c k:=by simp[pA,hU,d]
   rw[fg e,b];exact g
def KT.repl{H:Hp}{a:b_ (ah×V)}{xs:b_ (ah×g_×aC)}(r:KT H a xs)(k:ah){y:V}{u:aC}(f:eu y u):
  KT H (a.map λc=>if c.1=k then(c.1,y)else c) (xs.map (putAt k u)):=by
 induction r with
 |nil=>exact .nil
 |@cons p q ps j h t g=>
  rw[bK,bK];refine .cons ?_ g;obtain⟨b,d,i⟩:=h;unfold putAt
  by_cases e:p.1=k
  .rw[aO e,aO (b.symm.trans e)];exact⟨b,d,f⟩
  .rw[aJ e,aJ (λz=>e (b.trans z))];exact⟨b,d,i⟩
def KT.put{H:Hp}{a:b_ (ah×V)}{xs:b_ (ah×g_×aC)}(r:KT H a xs)(k:ah){b:g_}{y:V}{u:aC}(f:p0 H k b)(c:eu y u):
  KT H (cv a k y) (nG xs k b u):=by
 have e:(a.any λd=>decide (d.1=k))=(pA xs k).isSome:=by rw[u5,(r.val k).pq,oC]
 unfold cv nG;rw[e]
 by_cases q:(pA xs k).isSome=d_
 .rw[aO q,aO q];exact r.repl k c
 .rw[aJ q,aJ q];exact Paired.snoc r ⟨_6,f,c⟩
def KT.keeps{H d:Hp}{a:b_ (ah×V)}{xs:b_ (ah×g_×aC)}(r:KT H a xs)(e:∀b c,H b=a_ (.ci c)->d b=a_ (.ci c)):KT d a xs:=
 Paired.mapP r λy y z=>⟨z.1,z.2.1.am e,z.2.2⟩
section
variable{P:aV}{w:bP}{H:Hp}{h:r_}{a:g_}
def AY{u:HO}(ok:qb P w H h)(e:Rd H a u):fb P w H h a u:=e.ok ok
def yr{b:b_ (cj×V)}(ok:qb P w H h)(e:Rd H a (.dK b)):_7 b<=aG/\(a==dD)=e_/\∃c,KV b c/\h.DictOf (ao P w) a c:=
 show fb P w H h a (.dK b)from AY ok e
def Bo{b:b_ (cj×V)}(ok:qb P w H h)(e:H a=a_ (.dK b)):_7 b<=aG/\(a==dD)=e_/\∃c,KV b c/\h.DictOf (ao P w) a c:=yr ok (.inl e)
def W9{b:b_ cj}(ok:qb P w H h)(e:H a=a_ (.ci (b.map kV))):pK (ao P w) h b a:=by obtain⟨_,c,r,o,g,f,n,d⟩:=show fb P w H h a (.ci (b.map kV))from ok a _ e;exact⟨o,c.toArray,n,g,f,d,by simpa using Bu r⟩
theorem si(ok:qb P w H h):∀{f:ah}{c:b_ V}{d:b_ aC},NkL H f c->dg c d->hZ P w h f d
 |[],c,d,e,r=>by rw[show c=[]from e]at r;cases r;exact _6
 |.inl k::f,c,d,⟨v,t,e,q,j⟩,r=>by
  subst e;cases r with
  |cons i g=>exact⟨_,_,_6,t6 (by rw[<-show v=kV k from q];exact i),si ok j g⟩
 |.inr m::f,c,d,⟨v,t,e,⟨b,l,q⟩,j⟩,r=>by
  subst e l;cases r with
  |cons i g=>exact⟨_,_,_6,⟨b,i,W9 ok q⟩,si ok j g⟩
def l9{c:ah}(ok:qb P w H h)(e:p0 H c a):(bw P w).is h c a:=by obtain⟨d,e,f⟩:=e;obtain⟨_,b,r,o,j,i,n,g⟩:=show fb P w H h a (.ci d)from ok a _ e;exact⟨o,b.toArray,n,j,i,g,by simpa using si ok f r⟩
def wm{b:b_ (ah×V)}(ok:qb P w H h)(e:Rd H a (.dT b)):_7 b<=aG/\(a==dD)=e_/\
  ∃xs,KT H b xs/\h.DictOfH (bw P w) a xs:=by
 obtain⟨z,y,xs,r,o,u,v,s,n,j,i,g⟩:=show fb P w H h a (.dT b)from AY ok e;refine⟨z,y,xs,r,o,u,v,s,n,j,i,λx c=>?_,g⟩;have all:∀{l:b_ (ah×V)}{m:b_ (ah×g_×aC)},KT H l m->∀x∈m,(bw P w).is h x.1 x.2.1:=by
  intro l m q;induction q with
  |nil=>intro x c;exact nomatch c
  |@cons p q ps A d t f=>
   intro x c;rcases o_.mp c with e|c
   .subst e;exact l9 ok (by rw[<-d.1];exact d.2.1)
   .exact f x c
 exact all r x c
def Fm{b:b_ (ah×V)}(ok:qb P w H h)(e:H a=a_ (.dT b)):_7 b<=aG/\(a==dD)=e_/\
  ∃xs,KT H b xs/\h.DictOfH (bw P w) a xs:=wm ok (.inl e)
end
def qt(H:Hp)(a:g_)(y:V)(r:f_ V):Prop:=
 (∃c k,Rd H a (.dK c)/\y=kV k/\r=c8 c k)\/∃c k b,Rd H a (.dT c)/\y=.ref b/\p0 H k b/\r=c8 c k
def DPut(H:Hp)(a:g_)(y v:V)(d:Hp):Prop:=
 (∃c k,H a=a_ (.dK c)/\y=kV k/\_7 c<aG/\d=c0 H a (.dK (cv c k v)))\/
 ∃c k b,H a=a_ (.dT c)/\y=.ref b/\p0 H k b/\_7 c<aG/\d=c0 H a (.dT (cv c k v))
def qt.k{H:Hp}{a:g_}{b:b_ (cj×V)}{k:cj}(e:H a=a_ (.dK b)):qt H a (kV k) (c8 b k):=.inl ⟨b,k,.inl e,_6,_6⟩
def qt.t{H:Hp}{a b:g_}{c:b_ (ah×V)}{k:ah}(e:H a=a_ (.dT c))(d:p0 H k b):qt H a (.ref b) (c8 c k):=.inr ⟨c,k,b,.inl e,_6,d,_6⟩
def DPut.k{H:Hp}{a:g_}{b:b_ (cj×V)}{k:cj}{v:V}(e:H a=a_ (.dK b))(c:_7 b<aG):DPut H a (kV k) v (c0 H a (.dK (cv b k v))):=.inl ⟨b,k,e,_6,c,_6⟩
def DPut.t{H:Hp}{a b:g_}{c:b_ (ah×V)}{k:ah}{v:V}(e:H a=a_ (.dT c))(f:p0 H k b)(d:_7 c<aG):
  DPut H a (.ref b) v (c0 H a (.dT (cv c k v))):=.inr ⟨c,k,b,e,_6,f,d,_6⟩
section
variable{X:Cx}{au:b_ (g_×D_)}{σ:St}{H:Hp}{s:aE}{a:g_}{y v:V}{u r:aC}{o:f_ V}{A:bT}{E:aC->aE->Prop}
def a9.big(I:a9 X au σ H s):dD<s.1.1.size:=by have h:cD<s.1.1.size:=(I.q7.rC.keeps I.bk).lt;exact pO (by decide) h
def Oe{Q:aC->aE->Prop}(C:A.units+5<cP)(I:a9 X au σ H s)(g:qt H a y (a_ v))(x:eu y u)(h:∀d q,a9 X au σ H q->eu v d->Q d q):
  aP (aW X.prog X.w) A (getItem (.ref a) u) Q E s:=by
 obtain ⟨f,k,e,m,l⟩|⟨f,k,b,e,m,L,l⟩:=g
 .subst m;obtain⟨z,J,B,rel,n⟩:=yr I.e6 e;obtain⟨d,i,c⟩:=qH.some_of (v:=v) (o:=qB B k) (by rw[l];exact rel.val k);exact wpAny_getItem_of (t6 x) n.mapOf i (h d _ (I.qs _) c)
 .subst m;cases (show u=bH b from x);obtain⟨z,J,xs,rel,n⟩:=wm I.e6 e;obtain⟨d,i,c⟩:=qH.some_of (v:=v) (o:=(pA xs k).map (·.2)) (by rw[l];exact rel.val k);obtain⟨p,G,j⟩:=x_.mp i;refine wpAny_getItem_heap (b8 C) (l9 I.e6 L) n G ?_;rw[j];exact h d _ (I.qs _) c
def OL{Q:aC->aE->Prop}(n:A.units+5<cP)(I:a9 X au σ H s)(g:qt H a y o)(m:eu y u)(h:∀j,a9 X au σ H j->Q (.bool o.isSome) j):
  aP (aW X.prog X.w) A (cI .In u (.ref a)) Q E s:=by
 obtain ⟨c,k,e,f,l⟩|⟨c,k,b,e,f,p,l⟩:=g
 .subst f;obtain⟨z,d,x,rel,i⟩:=yr I.e6 e;refine wpAny_in_of (t6 m) d i.mapOf ?_;rw[<-(rel.val k).pq,<-l];exact h _ (I.qs _)
 .subst f;cases (show u=bH b from m);obtain⟨z,d,xs,rel,i⟩:=wm I.e6 e;refine wpAny_in_heap (b8 n) (l9 I.e6 p) d i ?_;have q:=(rel.val k).pq;rw[oC]at q;rw[<-q,<-l];exact h _ (I.qs _)
def Wn{Q:aC->aE->Prop}(n:A.units+5<cP)(I:a9 X au σ H s)(g:qt H a y o)(m:eu y u)(h:∀j,a9 X au σ H j->Q (.bool (!o.isSome)) j):
  aP (aW X.prog X.w) A (cI .NotIn u (.ref a)) Q E s:=by
 obtain ⟨c,k,e,f,l⟩|⟨c,k,b,e,f,p,l⟩:=g
 .subst f;obtain⟨z,d,x,rel,i⟩:=yr I.e6 e;refine wpAny_notIn_of (t6 m) d i.mapOf ?_;rw[<-(rel.val k).pq,<-l];exact h _ (I.qs _)
 .subst f;cases (show u=bH b from m);obtain⟨z,d,xs,rel,i⟩:=wm I.e6 e;refine wpAny_notIn_heap (b8 n) (l9 I.e6 p) d i ?_;have q:=(rel.val k).pq;rw[oC]at q;rw[<-q,<-l];exact h _ (I.qs _)
def qa{c:r_}{t':h_}{ob:HO}(I:a9 X au σ H s)(d:HJ (H a))(f:bN a s.1 c)(g:∃q,c.get? a=a_ q)(new:fb X.prog X.w (c0 H a ob) c a ob):
  a9 X au σ (c0 H a ob) {s with heap:=c,toks:=t'}:=
 I.rB (x:=a) (e:=a) d (.inl _6) (λb q h z=>(f.2 b h).trans z) g new
def Ri{P:aV}{w:bP}{g:Hp}{d:r_}{b:b_ (cj×V)}{c:b_ (cj×aC)}(z:_7 b<=aG)(e:(a==dD)=e_)(rel:KV b c)(f:d.DictOf (ao P w) a c):
  fb P w g d a (.dK b):=⟨z,e,c,rel,f⟩
def Om{T:Hp}{Q:_r->aE->Prop}(Y:A.units+5<cP)(I:a9 X au σ H s)(g:DPut H a y v T)(J:eu y u)(L:eu v r)(h:∀G,a9 X au σ T G->Q () G):
  aP (aW X.prog X.w) A (setItem (.ref a) u r) Q E s:=by
 obtain ⟨d,k,e,x,l,B⟩|⟨d,k,b,e,x,O,l,B⟩:=g
 .subst x B;obtain⟨z,p,U,rel,C⟩:=Bo I.e6 e;have j:_7 U<=aG:=by rw[<-rel.length];exact z
  have n:(cv d k v).length<=aG:=by have:=i5 d k v;lia
  refine wpAny_setItem_pairs (hsz:=j) (t6 J) C λM f m=>h _ ?_;have he:∃q,M.get? a=a_ q:=let ⟨q,_,_,i,_⟩:=f;⟨q,i⟩;exact qa I (by rw[e];exact eF) m he (Ri n p (rel.put k L) f)
 .subst x B;cases (show u=bH b from J);obtain⟨z,p,xs,rel,C⟩:=Fm I.e6 e;have j:_7 xs<=aG:=by rw[<-eA rel];exact z
  have n:(cv d k v).length<=aG:=by have:=i5 d k v;lia
  refine wpAny_setItem_heap (hsz:=j) (b8 Y) (l9 I.e6 O) C λM f m=>h _ ?_;obtain⟨q,es,ep,i,h2,h3,h4,_,h5⟩:=f;refine qa I (by rw[e];exact eF) m ⟨q,i⟩ ⟨n,p,_,(rel.put k O L).keeps λc ys N=>?_,q,es,ep,i,h2,h3,h4,h5⟩;rw[aa (Ms N e (λz=>nomatch z))];exact N
end
def Fk{X:Cx}{c:b_ (g_×D_)}{σ:St}{H:Hp}{s:aE}{a:g_}{y:V}{o:f_ V}(I:a9 X c σ H s)(g:qt H a y o):s.TypeIs (.ref a) "dict":=by
 obtain ⟨d,k,e,_,_⟩|⟨d,k,b,e,_,_,_⟩:=g
 .obtain⟨_,_,h,_,f⟩:=yr I.e6 e;exact f.typeIs
 .obtain⟨_,_,xs,_,f⟩:=wm I.e6 e;exact f.typeIs
def JJ(d ty c:TE):TS:=λD σ H=>c σ H λv g=>d σ g λx f=>ty σ f λy e=>∃a b,x=.ref a/\DPut e a y v b/\D.nx σ b
section
variable{X:Cx}{o i e value:Expr}{pos pos' tpos:v_}{td ty tv:TE}
def M6(w:X.A.units+5<cP)(B:PE X o td)(C:PE X i ty)(q:PE X value tv)(z:eR value (a_ (.Subscript o i pos')) pos.line X.env=pure e_):
  PS X (.Assign [.Subscript o i pos'] value pos) (JJ td ty tv):=by
 intro b s σ H D I h;refine wpAny_Assign_Subscript (c9 (q b s σ H _ I h) λr d ⟨v,Q,M,l,p⟩=>c9 (B b d σ Q _ M p) λu c ⟨x,O,L,j,n⟩=>c9 (C b c σ O _ L n) λY U ⟨y,H3,J,f,a,N,E,g,m⟩=>?_) z;subst E;obtain rfl:u=bH a:=j;exact Om w J g f l λT G=>⟨σ,N,G,m⟩
end
def Rh{P:aV}{w:bP}{H:Hp}(h:r_)(a:dD<h.objs.size):fb P w H (h.push {cls:=.type "dict",data:=.dict #[]}) h.objs.size (.dK []):=
 ⟨cM _,w_.mpr (cW (bE a)),[],.nil,_S h⟩
def Fl{P:aV}{w:bP}{H:Hp}(h:r_)(a:dD<h.objs.size):fb P w H (h.push {cls:=.type "dict",data:=.dict #[]}) h.objs.size (.dT []):=
 ⟨cM _,w_.mpr (cW (bE a)),[],.nil,_,#[],0,aI _ _6,⟨_6,_6,_6⟩,_6,_6,nR⟩
def Vm:TE:=λz H Q=>∀p,H p=c_->Q (.ref p) (c0 H p (.dK []))
def Vn:TE:=λz H Q=>∀p,H p=c_->Q (.ref p) (c0 H p (.dT []))
section
variable{X:Cx}{pos:v_}
def Gw:PE X (.Dict [] [] pos) Vm:=λb s σ H Q I h=>
 wpAny_Dict_empty ⟨.ref s.1.1.size,_,I.nn (a:=s.1.1.size) (o:=.dK []) (t':=s.toks) (λz z q=>aB _ q) (aL _) (Rh s.1 I.big),_6,h _ (I.e6.fresh (aL _))⟩
def Tz:PE X (.Dict [] [] pos) Vn:=λb s σ H Q I h=>
 wpAny_Dict_empty ⟨.ref s.1.1.size,_,I.nn (a:=s.1.1.size) (o:=.dT []) (t':=s.toks) (λz z q=>aB _ q) (aL _) (Fl s.1 I.big),_6,h _ (I.e6.fresh (aL _))⟩
end
def oj(b a:b_ (cj×V)):b_ (cj×V):=a.foldl (λc d=>cv c d.1 d.2) b
def KV.merge:∀{a:b_ (cj×V)}{c:b_ (cj×aC)}{kvs:b_ (cj×V)}{b:b_ (cj×aC)},KV a c->KV kvs b->KV (oj kvs a) (merged b c):=by
 intro a c kvs b r;unfold KV at r;induction r generalizing kvs b with
 |nil=>intro q;exact q
 |@cons p q ps g h t f=>
  intro d;have e:KV (cv kvs p.1 p.2) (stored b q.1 q.2):=by have:=d.put p.1 h.2;rw[<-h.1];exact this
  exact f e
theorem rh:∀(b a:b_ (cj×V)),(oj a b).length<=_7 a+_7 b
 |[],a=>by show _7 a<=_7 a+0;lia
 |p::r,a=>by have d:=rh r (cv a p.1 p.2);have c:=i5 a p.1 p.2;show(oj (cv a p.1 p.2) r).length<=_;rw[aR];lia
structure M2(X:Cx)(o:Expr)(m:k_)(rM:v_)(e f:Expr)(cpos:v_):Prop where
 base:gQ o m X.env (I_ o X.env)=I_ o X.env
 few:((dW cpos (aU [e,f] X.env)).all (λx=> !x.1)&&(lG cpos (iA [] X.env)).all (λx=>x.1.isSome)
 &&decide (([e,f]:b_ Expr).length+([]:b_ fP).length+(if([]:b_ fP).isEmpty then 0 else 1)<30))=d_
 line:(rM.endLine==cpos.line)=d_
 trees:dW cpos (aU [e,f] X.env)=[(e_,I_ e X.env),(e_,I_ f X.env)]
def QC(H:Hp)(a:g_):Prop:=(∃b,Rd H a (.dK b))\/∃b,Rd H a (.dT b)
def J6{X:Cx}{f:b_ (g_×D_)}{σ:St}{H:Hp}{s:aE}{a:g_}(I:a9 X f σ H s)(d:QC H a):
  s.TypeIs (.ref a) "dict"/\(∀b,bH a=.ref b->∃c,s.1.get? b=a_ c/\c.dict=c_)/\(a==dD)=e_:=by
 obtain ⟨h,e⟩|⟨h,e⟩:=d
 .obtain⟨_,i,m,_,g⟩:=yr I.e6 e;refine⟨g.typeIs,λb q=>?_,i⟩;cases q;obtain⟨c,_,_,l,j,_⟩:=g;exact⟨c,l,j.2.1⟩
 .obtain⟨_,i,xs,_,g⟩:=wm I.e6 e;refine⟨g.typeIs,λb q=>?_,i⟩;cases q;obtain⟨c,_,_,l,j,_⟩:=g;exact⟨c,l,j.2.1⟩
section
variable{X:Cx}{au:b_ (g_×D_)}{σ:St}{H:Hp}{s:aE}{a:g_}{y d:V}{u r:aC}{o:f_ V}{A:bT}{E:aC->aE->Prop}
def BJ{Q:aC->aE->Prop}(v:A.units+5<cP)(I:a9 X au σ H s)(g:qt H a y o)(p:eu y u)(q:eu d r)(h:∀m n,a9 X au σ H n->eu (o.getD d) m->Q m n):
  aP (aW X.prog X.w) A (call (.builtin "dict.get") [.ref a,u,r]) Q E s:=by
 obtain ⟨f,k,e,j,l⟩|⟨f,k,b,e,j,x,l⟩:=g
 .subst j;obtain⟨z,i,B,rel,c⟩:=yr I.e6 e;refine iT lW c.typeIs _I (_z _ _ _) (meets_dict_get_default (ao X.prog X.w) a (t6 p) i r) ⟨_,c.mapOf,h _ _ (I.qs _) ?_⟩;rw[l];exact(rel.val k).getD q
 .subst j;cases (show u=bH b from p);obtain⟨z,i,xs,rel,c⟩:=wm I.e6 e;refine iT lW c.typeIs _I (_z _ _ _) (meetsH_dict_get_default (bw X.prog X.w) a b i r) ⟨b8 v,k,xs,l9 I.e6 x,c,h _ _ (I.qs _) ?_⟩;rw[l];exact(rel.val k).getD q
end
def GX(e ty d:TE):TE:=λσ H Q=>e σ H λx c=>∃a,x=.ref a/\QC c a/\ty σ c λy f=>d σ f λz b=>∃o,qt b a y o/\Q (o.getD z) b
section
variable{X:Cx}{o e f:Expr}{rM cpos:v_}{td ty tx:TE}
def Gv(E:X.A.units+5<cP)(G:PE X o td)(L:PE X e ty)(J:PE X f tx)(m:M2 X o "get" rM e f cpos):PE X (.Call (.Attribute o "get" rM) [e,f] [] cpos) (GX td ty tx):=by
 intro b s σ H Q I h;refine oE m.base m.few m.line cZ lW PySem.F.type_dict_get (c9 (G b s σ H _ I h) λu p ⟨x,H1,i,v,a,M,d,C⟩=>?_);subst M;obtain rfl:u=bH a:=v;obtain⟨l,j,_⟩:=J6 i d;refine⟨l,j,?_⟩;rw[m.trees];refine eB _6 (iB (eQ (c9 (L b p σ H1 _ i C) λiv n ⟨y,Y,T,r,B⟩=>
  eQ (c9 (J b n σ Y _ T B) λfv s3 ⟨z,U,O,q,ov,g,w⟩=>jD ?_))))
 exact BJ E O g r q λw' s4 N c=>⟨_,U,N,c,w⟩
end
end L2
namespace Att
open PySem.W PySem.Calls
def xl{P:Params}{h:r_}:∀(c:b_ n_)(d:b_ aC),WellAll P h d (c.map WData.int)->h! d c:=by
 intro c;induction c with
 |nil=>intro d w;rw[nF]at w;cases w;exact .nil
 |cons n c e=>
  intro d w;rw[bK]at w;cases w with
  |cons a b=>cases a;exact .cons _ _ (e _ b)
def P5{l:_d}{n:h_}(y:l.most=a_ n){P:Params}{h:r_}{b:b_ WData}{vals:b_ aC}
  (e:l.row.toRowW.claim.pre b=d_)(m:WellAll P h vals b):
  ∃a p c,vals=[bH a]/\b=[WData.list (c.map WData.int)]/\h.get? a=a_ {cls:=.type "list",data:=.seq p.toArray}/\h! p c/\_7 c<=n:=by
 have o:WShape.hasAll [] b [.list .int]=d_:=(pre_splitW e).1;have s:l.pre.holds [] {args:=b}=d_:=(pre_splitW e).2;obtain⟨d,r,rfl,B,A⟩:=hasAllW_cons o;obtain rfl:=hasAllW_nil A;obtain⟨xs,rfl,z⟩:=hasW_list B;obtain⟨c,rfl⟩:=items_int z;have f:_7 c<=n:=by
  unfold OpenLaw.pre at s;have j:(WTm.not (.lt (.lit (.int (n:n_))) (.len (.arg 0)))).holds [] {args:=[.list (c.map .int)]}=d_:=by have j:=(holds_andW s).1;rw[y]at j;exact j
  have i:=condW_of j (w_not (w_lt w_lit (w_len_list (w_arg _6))));rw[bB]at i;refine mC λq=>?_;have w:(n:n_)<((c.length:h_):n_):=by lia
  first
   |(rw[H_ w]at i;exact u_ i (by decide))
   |(simp at i;lia)
 cases m with
 |cons v u=>
  cases u;cases v with
  |list x g=>exact⟨_,_,c,_6,_6,x,xl c _ g,f⟩
def Pt(l:_d)(a:b_ WData):l.row.toRowW.claim.post a (.bool d_) a=d_:=
 postW_of (r:=l.row.toRowW) (X:=(d_==d_))
  (show WShape.has [] (.bool d_) .bool=d_ by first|rfl|decide|simp[WShape.has,WShape.arms,WShape.armsAll])
  (show(WTm.eq .res (.lit (.bool d_))).value [] {args:=a,res:=a_ (.bool d_),after:=a}=a_ (.bool (d_==d_))from w_eq_bool (w_res _6) w_lit) _6
def Eu{l:_d}{n:h_}{q:aV}{e:b_ k_}{M:(k_->f_ aC)->r_->Prop}{L:bP->r_->Prop}{d:DefRec}
  (T:l.most=a_ n)(E:d.params.defaults=[])
  (call:∀(w:bP)(c b:aE)(x A:k_->f_ aC)(s:g_)(o:D_)(z y h:aC)(a:g_)(i:b_ aC)(v:b_ n_),
   Ground q e [] M w c x A b.1->L w b.1->
   b.1.get? s=a_ o->o.data=.func (docDef d.name d.params d.body d.scope z y h)->b.1.CodeRec y d.name->x d.name=a_ (.ref s)->
   b.1.get? a=a_ {cls:=.type "list",data:=.seq i.toArray}->h! i v->_7 v<=n->b.gens=#[]->
   gX (aW l.prog w) qC (.call (.ref s) ⟨[.ref a],[]⟩) (λr u=>r=.ok (.ret (.bool d_))/\OldK b.1 u.1/\u.os=b.os/\nE u.gens) b):
  WalkO q e M L l.row.toRowW d [] (λf i=>PySem.call f i):=by
 intro w c b x A G Y s o z y h dV kV Q hd H hD C hg J vals as j I N B α;obtain rfl:dV=.none:=Dflts.none hD E;obtain rfl:kV=.none:=Dflts.noKw hD;obtain⟨a,i,v,rfl,rfl,m,g,p⟩:=P5 T j B;refine enter_call (lD (call w c b x A s o z y h a i v G Y Q (fd_plain hd) H C m g p hg) λr u O=>?_);obtain⟨rfl,h2,h3,h4⟩:=O;exact⟨.inl ⟨.bool d_,.bool d_,[],_6,λZ=>rfl,.bool d_,Pt l _,λZ=>⟨oF,λZ U=>(nomatch U)⟩⟩,h2,h3,h4⟩
end Att
namespace L2
theorem Ca:∀{a:b_ aC}{b:b_ n_},h! a b->dg (b.map V.int) a
 |_,_,.nil=>.nil
 |_,_,.cons n t h=>.cons ⟨t,_6⟩ (Ca h)
set_option bootstrap.genMatcherCode true in
def dh(s:s_):Arguments:=match s with
 |.FunctionDef _ a _ _ _ _ _ _ _ _=>a
 |_=>{posonlyargs:=[],args:=[],vararg:=c_,kwonlyargs:=[],kw_defaults:=[],kwarg:=c_,defaults:=[]}
set_option bootstrap.genMatcherCode true in
def bx(s:s_):b_ s_:=match s with
 |.FunctionDef _ _ b _ _ _ _ _ _ _=>b
 |_=>[]
set_option bootstrap.genMatcherCode true in
def aj(s:s_):eL:=match s with
 |.FunctionDef _ _ _ _ _ _ a _ _ _=>a
 |_=>{kind:=.function,names:=[],isGenerator:=e_,isCoroutine:=e_}
abbrev N0:Lf:=λz z z z z z=>L_
abbrev E0:XK:=λz z z=>L_
def JZ{X:Cx}:jh N0 X E0:=λz z z z z z z h=>h.elim
structure Fun(K:aK)(x qual:k_)(st:s_)(f:g_)(fd:fA):Prop where
 ex:∃(oc:aC) (od:f_ g_) (kV doc pm:aC) (an:f_ g_) (cdv ct:aC) (osl:q_ (f_ aC)),
  fd=cY x qual (dh st) (bx st) (aj st) .none kV doc pm an cdv ct/\K.lookup f=a_ ⟨oc,od,.func fd,osl⟩/\fB K cdv qual=d_
 kp:cT K (.ref f)=d_
section
variable{P:aV}{w:bP}{K:aK}{mg:k_->f_ aC}{base:r_}
def Fun.ok{x b:k_}{st:s_}{f:g_}{l:fA}{N ps:b_ k_}{k:h_}{g:Sp}(F:Fun K x b st f l)(S:pc N ps (aj st))(len:∀d H Q E,g d H Q E->_7 d=_7 ps)
   (e:∀(c:aC)(A:bT)(a:b_ T_)(s:aE)(H:Hp)(d:b_ V)(Q:VK)(E:XK),io k (A.deeper (oN b (aj st) s.1.1.size f c))->g d H Q E->
   ∃t,qR (ly N0 P w K mg base N b (aj st) f c A a s H E).qd (bx st) t/\t {nx:=λz r=>Q .fm r,rt:=Q} (i9 N d) H):kz P w K mg base N0 (k+1) f l ps g:=by
 obtain⟨v,od,kV,p,u,y,c,ct,m,rfl,n,j⟩:=F.ex;refine Zt n j S len λA a s H d Q E o i=>?_;obtain⟨t,h,q⟩:=e c A a s H d Q E o i;exact⟨t,h.qd,q⟩
def Fun.rF{x a:k_}{st:s_}{f:g_}{i:fA}{ps:b_ k_}(F:Fun K x a st f i)
  (h:∀(kV b e:aC)(g:f_ g_)(c ct:aC)(d:b_ aC),_7 d=_7 ps->bindArgs (cY x a (dh st) (bx st) (aj st) .none kV b e g c ct) ⟨d,[]⟩=pure (ps.zip d)):lv K i ps []:=by
 obtain⟨m,od,kV,b,e,g,c,ct,j,rfl,n,l⟩:=F.ex;exact .all (h kV b e g c ct)
def Ru{x a:k_}{st:s_}{f:g_}{i:aC}{od h:f_ g_}{e:q_ (f_ aC)}{kV d g b ct:aC}(l:K.lookup f=a_ ⟨i,od,.func (cY x a (dh st) (bx st) (aj st) .none kV d g h b ct),e⟩)
  (c:fB K b a=d_)(k:cT K (.ref f)=d_):Fun K x a st f (cY x a (dh st) (bx st) (aj st) .none kV d g h b ct):=⟨⟨i,od,kV,d,g,h,b,ct,e,_6,l,c⟩,k⟩
end
def a6(H a:Hp):Prop:=∀b o,H b=a_ o->a b=a_ o
def a6.refl(H:Hp):a6 H H:=λz z h=>h
def a6.trans{H e d:Hp}(a:a6 H e)(b:a6 e d):a6 H d:=λc o h=>b c o (a c o h)
def a6.seq{K:aK}{H b:Hp}{a:g_}{xs:b_ V}(e:a6 H b)(h:h8 K H a xs):h8 K b a xs:=by
 rcases h with (h|⟨o,h⟩)|h
 .exact .inl (.inl (e _ _ h))
 .exact .inl (.inr ⟨o,e _ _ h⟩)
 .exact .inr h
end L2
namespace Pu
def K7:b_ (g_×g_×k_):=[]
def rg:b_ g_:=[]
end Pu
namespace Pu
open L2
abbrev St:=L2.St
structure KA where
 K:aK
 A:k_->g_
instance:CoeOut KA aK:=⟨KA.K⟩
noncomputable def mz(b:k_->f_ aC)(x:k_):g_:=match b x with
 |some (.ref a)=>a
 |_=>0
abbrev kx(X:Cx):KA:=⟨X.K,mz X.mg⟩
abbrev EK:=k_->Hp->Prop
abbrev ek(K:KA)(E:XK):EK:=λc H=>E (.ref (K.A c)) c_ H
set_option genInjectivity true in
inductive D where
 |fm
 |bl (b:l_)
 |int (i:n_)
 |str (x:k_)
 |ci (ds:b_ D)
 |a8 (ds:b_ D)
 |h7 (t:l_) (kvs:b_ (D×D))
 |obj (e:Expr) (fs:b_ (k_×D))
 |fn (f:k_)
noncomputable def kD:cj->D
 |.inl i=>.int i
 |.inr x=>.str x
noncomputable def cz:b_ (k_×gK)->b_ k_
 |[]=>[]
 |(n,k)::r=>if k=.free then n::cz r else cz r
def LamAt(K:KA)(H:Hp)(e:Expr)(a:g_)(b:b_ (k_×V)):Prop:=match e with
 |.Name c _=>∃d,H a=a_ (.rK (K.A c) d b)
 |_=>L_
def LamAt.am{K:KA}{H c:Hp}(q:a6 H c){e:Expr}{a:g_}{b:b_ (k_×V)}(h:LamAt K H e a b):LamAt K c e a b:=by
 unfold LamAt at h⊢;split at h
 .obtain⟨d,e⟩:=h;exact⟨d,q _ _ e⟩
 .exact h.elim
def DX:NK->D
 |.inl k=>kD k
 |.inr a=>.ci (a.map kD)
def kT(k:ah):D:=.ci (k.map DX)
mutual
def gy(K:KA)(H:Hp):D->V->Prop
 |.fm,v=>v=.fm
 |.bl b,v=>v=.bl b
 |.int i,v=>v=.int i
 |.str x,v=>v=.str x
 |.ci ds,v=>∃a vs,v=.ref a/\H a=a_ (.ci vs)/\bt K H ds vs
 |.a8 ds,v=>∃a vs,v=.ref a/\h8 K H a vs/\bt K H ds vs
 |.h7 t kvs,v=>∃a,v=.ref a/\((t=e_/\∃es,H a=a_ (.dK es)/\f8 K H kvs es)\/(t=d_/\∃o es,H a=a_ (.n4 o (.dT es))/\fu K H kvs es))
 |.obj e fs,v=>∃a vs,v=.ref a/\LamAt K H e a vs/\qW K H fs vs
 |.fn f,v=>v=.ref (K.A f)
def bt(K:KA)(H:Hp):b_ D->b_ V->Prop
 |[],vs=>vs=[]
 |d::ds,vs=>∃v r,vs=v::r/\gy K H d v/\bt K H ds r
def qW(K:KA)(H:Hp):b_ (k_×D)->b_ (k_×V)->Prop
 |[],vs=>vs=[]
 |(n,d)::ds,vs=>∃v r,vs=(n,v)::r/\gy K H d v/\qW K H ds r
def f8(K:KA)(H:Hp):b_ (D×D)->b_ (cj×V)->Prop
 |[],vs=>vs=[]
 |(k,d)::ds,vs=>∃k' v r,vs=(k',v)::r/\k=kD k'/\gy K H d v/\f8 K H ds r
def fu(K:KA)(H:Hp):b_ (D×D)->b_ (ah×V)->Prop
 |[],vs=>vs=[]
 |(k,d)::ds,vs=>∃k' v r,vs=(k',v)::r/\k=kT k'/\gy K H d v/\fu K H ds r
end
def h8.am{K:KA}{H b:Hp}{a:g_}{xs:b_ V}(e:a6 H b)(h:h8 K H a xs):h8 K b a xs:=e.seq h
def ng.am{K:KA}{H b:Hp}{a:g_}{xs:b_ V}(e:a6 H b)(h:ng K H a xs):ng K b a xs:=by
 rcases h with (h|⟨o,h⟩)|h
 .exact .inl (.inl (e _ _ h))
 .exact .inl (.inr ⟨o,e _ _ h⟩)
 .exact .inr h
mutual
theorem gy.am{K:KA}{H H':Hp}(e:a6 H H'):∀{d:D}{v:V},gy K H d v->gy K H' d v
 |.fm,_,h=>h
 |.bl _,_,h=>h
 |.int _,_,h=>h
 |.str _,_,h=>h
 |.ci _,_,⟨a,vs,h1,h2,h3⟩=>⟨a,vs,h1,e _ _ h2,bt.am e h3⟩
 |.a8 _,_,⟨a,vs,h1,h2,h3⟩=>⟨a,vs,h1,h8.am e h2,bt.am e h3⟩
 |.h7 _ _,_,⟨a,h1,h2⟩=>⟨a,h1,h2.elim (λ⟨z,es,q1,q2⟩=>.inl ⟨z,es,e _ _ q1,f8.am e q2⟩) λ⟨z,o,es,q1,q2⟩=>.inr ⟨z,o,es,e _ _ q1,fu.am e q2⟩⟩
 |.obj _ _,_,⟨a,vs,h1,h2,h3⟩=>⟨a,vs,h1,h2.am e,qW.am e h3⟩
 |.fn _,_,h=>h
theorem bt.am{K:KA}{H H':Hp}(e:a6 H H'):∀{ds:b_ D}{vs:b_ V},bt K H ds vs->bt K H' ds vs
 |[],_,h=>h
 |_::_,_,⟨v,r,h1,h2,h3⟩=>⟨v,r,h1,gy.am e h2,bt.am e h3⟩
theorem qW.am{K:KA}{H H':Hp}(e:a6 H H'):∀{ds:b_ (k_×D)}{vs:b_ (k_×V)},qW K H ds vs->qW K H' ds vs
 |[],_,h=>h
 |(_,_)::_,_,⟨v,r,h1,h2,h3⟩=>⟨v,r,h1,gy.am e h2,qW.am e h3⟩
theorem f8.am{K:KA}{H H':Hp}(e:a6 H H'):∀{ds:b_ (D×D)}{vs:b_ (cj×V)},f8 K H ds vs->f8 K H' ds vs
 |[],_,h=>h
 |(_,_)::_,_,⟨k,v,r,h1,h0,h2,h3⟩=>⟨k,v,r,h1,h0,gy.am e h2,f8.am e h3⟩
theorem fu.am{K:KA}{H H':Hp}(e:a6 H H'):∀{ds:b_ (D×D)}{vs:b_ (ah×V)},fu K H ds vs->fu K H' ds vs
 |[],_,h=>h
 |(_,_)::_,_,⟨k,v,r,h1,h0,h2,h3⟩=>⟨k,v,r,h1,h0,gy.am e h2,fu.am e h3⟩
end
section
variable{K:KA}{G H:Hp}
theorem bt.length:∀{b:b_ D}{a:b_ V},bt K H b a->_7 b=_7 a
 |[],_,h=>by rw[show _=[]from h];rfl
 |_::_,_,⟨v,r,d,_,c⟩=>by rw[d,aR,aR,bt.length c]
theorem bt.get:∀{c:b_ D}{b:b_ V}{i:h_}{d:D},bt K H c b->c[i]?=a_ d->∃v,b[i]?=a_ v/\gy K H d v
 |[],_,_,_,_,e=>by simp at e
 |_::_,_,0,_,⟨v,r,a,j,_⟩,e=>by simp at e;subst e;subst a;exact⟨v,_6,j⟩
 |_::_,_,i+1,_,⟨v,r,a,_,h⟩,e=>by obtain⟨w,g,f⟩:=bt.get (i:=i) h (by simpa using e);subst a;exact⟨w,by simpa using g,f⟩
theorem bt.append:∀{c es:b_ D}{b a:b_ V},bt K H c b->bt K H es a->bt K H (c++es) (b++a)
 |[],_,_,_,h,q=>by rw[show _=[]from h];exact q
 |_::_,_,_,_,⟨v,r,f,e,d⟩,q=>⟨v,r++_,by rw[f];rfl,e,bt.append d q⟩
def bt.pv{d:D}{v:V}(h:gy K H d v):bt K H [d] [v]:=⟨v,[],_6,h,_6⟩
theorem bt.drop:∀(n:h_){b:b_ D}{a:b_ V},bt K H b a->bt K H (b.drop n) (a.drop n)
 |0,_,_,h=>h
 |_+1,[],_,h=>by rw[show _=[]from h];exact _6
 |n+1,_::_,_,⟨v,r,d,_,c⟩=>by subst d;exact bt.drop n c
theorem bt.take:∀(n:h_){b:b_ D}{a:b_ V},bt K H b a->bt K H (b.take n) (a.take n)
 |0,_,_,_=>rfl
 |_+1,[],_,h=>by rw[show _=[]from h];exact _6
 |n+1,_::_,_,⟨v,r,e,d,c⟩=>by subst e;exact⟨v,r.take n,_6,d,bt.take n c⟩
theorem bt.eraseIdx:∀(n:h_){d:b_ D}{c:b_ V},bt K H d c->bt K H (d.eraseIdx n) (c.eraseIdx n)
 |_,[],_,h=>by rw[show _=[]from h];exact _6
 |0,_::_,_,⟨v,r,b,_,a⟩=>by subst b;exact a
 |n+1,_::_,_,⟨v,r,b,e,a⟩=>by subst b;exact⟨v,r.eraseIdx n,_6,e,bt.eraseIdx n a⟩
end
noncomputable def PR:HO->l_
 |.n4 _ _=>e_
 |.ci _=>e_
 |_=>d_
structure c6(G H G' H':Hp):Prop where
 gg:a6 G G'
 hh:a6 H H'
 gh:a6 G' H'
 fr:∀a o,H a=a_ o->G a=c_->PR o=d_->G' a=c_
def c6.refl{G H:Hp}(h:a6 G H):c6 G H G H:=⟨a6.refl G,a6.refl H,h,λz z z q z=>q⟩
def c6.trans{G H f d e c:Hp}(a:c6 G H f d)(b:c6 f d e c):c6 G H e c:=
 ⟨a.gg.trans b.gg,a.hh.trans b.hh,b.gh,λx o h g z=>b.fr x o (a.hh x o h) (a.fr x o h g z) z⟩
def bf{H:Hp}{p:g_}(h:H p=c_)(o:HO):a6 H (c0 H p o):=λb u q=>by rw[aa (ak q h)];exact q
def c6.new{G H:Hp}{p:g_}(h:a6 G H)(o:HO)(n:H p=c_):c6 G H (c0 G p o) (c0 H p o):=by
 have c:G p=c_:=by
  cases e:G p with
  |none=>rfl
  |some u=>rw[h p u e]at n;cases n
 refine⟨bf c o,bf n o,λb u q=>?_,λa u q g z=>?_⟩
 .by_cases e:b=p
  .subst e;rw[ae]at q⊢;exact q
  .rw[aa e]at q⊢;exact h b u q
 .rw[aa (ak q n)];exact g
def c6.own{G H:Hp}{p:g_}(h:a6 G H)(o:HO)(n:H p=c_):c6 G H G (c0 H p o):=by refine⟨a6.refl G,bf n o,λb u q=>?_,λa u q g z=>g⟩;exact bf n o b u (h b u q)
inductive LsR(K:KA)(G H:Hp):b_ (cj×V)->b_ (D×b_ D)->Prop
 |nil:LsR K G H [] []
 |cons {j b vs ds es gs}:H b=a_ (.a8 vs)->bt K G ds vs->LsR K G H es gs->LsR K G H ((j,.ref b)::es) ((kD j,ds)::gs)
def LsR.am{K:KA}{G H b a:Hp}{es:b_ (cj×V)}{gs:b_ (D×b_ D)}(h:LsR K G H es gs)(g:a6 G b)(s:a6 H a):LsR K b a es gs:=by
 induction h with
 |nil=>exact .nil
 |cons e d _ c=>exact .cons (s _ _ e) (d.am g) c
def Cv(gs:b_ (D×b_ D)):D:=.obj (.List [] ⟨0,0,0,0⟩) [("",.h7 e_ (gs.map λp=>(p.1,.a8 p.2)))]
def Arg(K:KA)(G H:Hp)(d:D)(v:V):Prop:=
 gy K G d v\/(∃f a e,d=.a8 f/\v=.ref a/\h8 K H a e/\bt K G f e)\/
  (∃t c a,d=.h7 t c/\v=.ref a/\((t=e_/\∃b,H a=a_ (.dK b)/\f8 K G c b)\/(t=d_/\∃b,H a=a_ (.dT b)/\fu K G c b)))\/
  ∃gs a b,d=Cv gs/\v=.ref a/\H a=a_ (.dK b)/\LsR K G H b gs
def Arg.ext{K:KA}{G H o n:Hp}{d:D}{v:V}(e:c6 G H o n)(h:Arg K G H d v):Arg K o n d v:=by
 obtain h|⟨q,a,p,f,c,b,m⟩|⟨t,l,a,f,c,b⟩|⟨gs,a,g,f,c,b,m⟩:=h
 .exact .inl (h.am e.gg)
 .exact .inr (.inl ⟨q,a,p,f,c,h8.am e.hh b,m.am e.gg⟩)
 .exact .inr (.inr (.inl ⟨t,l,a,f,c,b.elim (λ⟨z,g,j,i⟩=>.inl ⟨z,g,e.hh _ _ j,i.am e.gg⟩) λ⟨z,g,j,i⟩=>.inr ⟨z,g,e.hh _ _ j,i.am e.gg⟩⟩))
 .exact .inr (.inr (.inr ⟨gs,a,g,f,c,e.hh _ _ b,m.am e.gg e.hh⟩))
def Arg.a8{K:KA}{G H:Hp}{f:b_ D}{v:V}(s:a6 G H)(h:Arg K G H (.a8 f) v):∃a c,v=.ref a/\h8 K H a c/\bt K G f c:=by
 obtain ⟨a,c,b,e,d⟩|⟨j,a,c,b,e,d,i⟩|⟨t,g,a,b,_⟩|⟨gs,a,l,b,_⟩:=h
 .exact⟨a,c,b,h8.am s e,d⟩
 .cases b;exact⟨a,c,e,d,i⟩
 .cases b
 .cases b
def Arg.tup0{K:KA}{G H:Hp}{d:b_ D}{v:V}(s:a6 G H)(h:Arg K G H (.ci d) v):∃a c,v=.ref a/\H a=a_ (.ci c)/\bt K G d c:=by
 obtain ⟨a,c,b,g,f⟩|⟨i,a,c,b,_⟩|⟨t,e,a,b,_⟩|⟨gs,a,j,b,_⟩:=h
 .exact⟨a,c,b,s _ _ g,f⟩
 .cases b
 .cases b
 .cases b
def Arg.ci{K:KA}{G H:Hp}{c:b_ D}{v:V}(s:a6 G H)(h:Arg K G H (.ci c) v):∃a b,v=.ref a/\ng K H a b/\bt K G c b:=by obtain⟨a,b,f,e,d⟩:=h.tup0 s;exact⟨a,b,f,.inl (.inl e),d⟩
def Arg.int{K:KA}{G H:Hp}{i:n_}{v:V}(h:Arg K G H (.int i) v):v=.int i:=by
 obtain h|⟨d,a,e,b,_⟩|⟨t,c,a,b,_⟩|⟨gs,a,f,b,_⟩:=h
 .exact h
 .cases b
 .cases b
 .cases b
def Arg.bl{K:KA}{G H:Hp}{i:l_}{v:V}(h:Arg K G H (.bl i) v):v=.bl i:=by
 obtain h|⟨d,a,e,b,_⟩|⟨t,c,a,b,_⟩|⟨gs,a,f,b,_⟩:=h
 .exact h
 .cases b
 .cases b
 .cases b
def Arg.str{K:KA}{G H:Hp}{i:k_}{v:V}(h:Arg K G H (.str i) v):v=.str i:=by
 obtain h|⟨d,a,e,b,_⟩|⟨t,c,a,b,_⟩|⟨gs,a,f,b,_⟩:=h
 .exact h
 .cases b
 .cases b
 .cases b
def Arg.fm{K:KA}{G H:Hp}{v:V}(h:Arg K G H .fm v):v=.fm:=by
 obtain h|⟨d,a,e,b,_⟩|⟨t,c,a,b,_⟩|⟨gs,a,f,b,_⟩:=h
 .exact h
 .cases b
 .cases b
 .cases b
def Arg.fn{K:KA}{G H:Hp}{f:k_}{v:V}(h:Arg K G H (.fn f) v):v=.ref (K.A f):=by
 obtain h|⟨d,a,e,b,_⟩|⟨t,c,a,b,_⟩|⟨gs,a,g,b,_⟩:=h
 .exact h
 .cases b
 .cases b
 .cases b
set_option genInjectivity true in
inductive bi where
 |ok (d:D)
 |er (c:k_)
 |st
noncomputable def bi.bind(r:bi)(f:D->bi):bi:=match r with
 |.ok d=>f d
 |.er c=>.er c
 |.st=>.st
noncomputable def bi.of(o:f_ D):bi:=match o with
 |some d=>.ok d
 |none=>.st
set_option genInjectivity true in
inductive ey where
 |ok (ds:b_ D)
 |er (c:k_)
 |st
set_option genInjectivity true in
inductive Sl where
 |no
 |pu (d:D)
 |bo (d:D)
 |ow (ds:b_ D)
 |od (t:l_) (kvs:b_ (D×D))
abbrev En:=b_ Sl
def qV(K:KA)(B G H:Hp):Sl->f_ V->Prop
 |.no,_=>_Z
 |.pu d,o=>∃v,o=a_ v/\gy K G d v
 |.bo d,o=>∃v,o=a_ v/\Arg K G B d v
 |.ow f,o=>∃a e,o=a_ (.ref a)/\H a=a_ (.a8 e)/\bt K G f e
 |.od e_ b,o=>∃a c,o=a_ (.ref a)/\H a=a_ (.dK c)/\f8 K G b c
 |.od d_ b,o=>∃a c,o=a_ (.ref a)/\H a=a_ (.dT c)/\fu K G b c
noncomputable def Sl.own:Sl->l_
 |.ow _=>d_
 |.od _ _=>d_
 |_=>e_
def GOk(H:Hp):Prop:=∀p∈K7,H p.2.1=a_ (.tbl (p.2.2))
def GOk.same{H a:Hp}(e:a6 H a)(h:GOk H):GOk a:=λp b=>e _ _ (h p b)
structure ce(K:KA)(B G H:Hp)(σ:St)(U:En):Prop where
 bh:a6 B H
 gh:a6 G H
 len:_7 σ=_7 U
 sl:∀(i:h_) s,U[i]?=a_ s->∃o,σ[i]?=a_ o/\qV K B G H s o
 own:∀(i:h_) s a,U[i]?=a_ s->s.own=d_->σ[i]?=a_ (a_ (V.ref a))->G a=c_/\B a=c_
 rE:∀(i j:h_) s t a,U[i]?=a_ s->U[j]?=a_ t->s.own=d_->t.own=d_->σ[i]?=a_ (a_ (V.ref a))->σ[j]?=a_ (a_ (V.ref a))->i=j
 gb:GOk B
def BW{K:KA}{G n H:Hp}{d:D}{v:V}(e:a6 G n)(h:Arg K G H d v):Arg K n H d v:=by
 obtain h|⟨p,a,o,f,c,b,m⟩|⟨t,l,a,f,c,b⟩|⟨gs,a,g,f,c,b,m⟩:=h
 .exact .inl (h.am e)
 .exact .inr (.inl ⟨p,a,o,f,c,b,m.am e⟩)
 .exact .inr (.inr (.inl ⟨t,l,a,f,c,b.elim (λ⟨z,g,j,i⟩=>.inl ⟨z,g,j,i.am e⟩) λ⟨z,g,j,i⟩=>.inr ⟨z,g,j,i.am e⟩⟩))
 .exact .inr (.inr (.inr ⟨gs,a,g,f,c,b,m.am e (a6.refl H)⟩))
def HG{K:KA}{G H n:Hp}{d:D}{v:V}(e:a6 H n)(h:Arg K G H d v):Arg K G n d v:=by
 obtain h|⟨p,a,o,f,c,b,m⟩|⟨t,l,a,f,c,b⟩|⟨gs,a,g,f,c,b,m⟩:=h
 .exact .inl h
 .exact .inr (.inl ⟨p,a,o,f,c,h8.am e b,m⟩)
 .exact .inr (.inr (.inl ⟨t,l,a,f,c,b.elim (λ⟨z,g,j,i⟩=>.inl ⟨z,g,e _ _ j,i⟩) λ⟨z,g,j,i⟩=>.inr ⟨z,g,e _ _ j,i⟩⟩))
 .exact .inr (.inr (.inr ⟨gs,a,g,f,c,e _ _ b,m.am (a6.refl G) e⟩))
def qV.ext{K:KA}{B G H j i:Hp}(e:c6 G H j i){s:Sl}{o:f_ V}(h:qV K B G H s o):qV K B j i s o:=by
 cases s with
 |no=>trivial
 |pu d=>obtain⟨v,c,b⟩:=h;exact⟨v,c,b.am e.gg⟩
 |bo d=>obtain⟨v,c,b⟩:=h;exact⟨v,c,BW e.gg b⟩
 |ow m=>obtain⟨a,f,c,b,g⟩:=h;exact⟨a,f,c,e.hh _ _ b,g.am e.gg⟩
 |od t l=>
  cases t with
  |false=>obtain⟨a,f,c,b,g⟩:=h;exact⟨a,f,c,e.hh _ _ b,g.am e.gg⟩
  |true=>obtain⟨a,f,c,b,g⟩:=h;exact⟨a,f,c,e.hh _ _ b,g.am e.gg⟩
def qV.ref{K:KA}{B G H:Hp}{s:Sl}{o:f_ V}(h:qV K B G H s o)(q:s.own=d_):∃a,o=a_ (V.ref a)/\∃u,H a=a_ u/\PR u=d_:=by
 cases s with
 |no=>cases q
 |pu d=>cases q
 |bo d=>cases q
 |ow g=>obtain⟨a,e,c,b,_⟩:=h;exact⟨a,c,_,b,_6⟩
 |od t f=>
  cases t with
  |false=>obtain⟨a,e,c,b,_⟩:=h;exact⟨a,c,_,b,_6⟩
  |true=>obtain⟨a,e,c,b,_⟩:=h;exact⟨a,c,_,b,_6⟩
def ce.ext{K:KA}{B G H n m:Hp}{σ:St}{U:En}(e:c6 G H n m)(r:ce K B G H σ U):ce K B n m σ U where
 bh:=r.bh.trans e.hh
 gb:=r.gb
 gh:=e.gh
 len:=r.len
 sl:=λi s h=>by obtain⟨o,c,d⟩:=r.sl i s h;exact⟨o,c,d.ext e⟩
 own:=λi s a l j f=>by obtain⟨g,b⟩:=r.own i s a l j f;obtain⟨o,c,d⟩:=r.sl i s l;rw[f]at c;cases c;obtain⟨v,z,u,q,p⟩:=d.ref j;cases z;exact⟨e.fr a u q g p,b⟩
 rE:=r.rE
def dL(E:EK)(G H:Hp)(r:bi)(P:D->Prop):Prop:=match r with
 |.ok d=>P d
 |.er c=>∀b a,c6 G H b a->E c a
 |.st=>L_
def f'(E:EK)(G H:Hp)(r:ey)(P:b_ D->Prop):Prop:=match r with
 |.ok b=>P b
 |.er c=>∀d a,c6 G H d a->E c a
 |.st=>L_
section
variable{E:EK}{G H G' H':Hp}
def dL.am{r:bi}{P a:D->Prop}(h:dL E G H r P)(f:∀d,r=.ok d->P d->a d):dL E G H r a:=by
 cases r with
 |ok d=>exact f d _6 h
 |er c=>exact h
 |st=>exact h
def dL.ext{r:bi}{P:D->Prop}(e:c6 G H G' H')(h:dL E G H r P):dL E G' H' r P:=by
 cases r with
 |ok d=>exact h
 |er c=>exact λf b a=>h f b (e.trans a)
 |st=>exact h
def dL.bind{r:bi}{f:D->bi}{P:D->Prop}(h:dL E G H (r.bind f) P):dL E G H r λd=>dL E G H (f d) P:=by
 cases r with
 |ok d=>exact h
 |er c=>exact h
 |st=>exact h
def dL.of{o:f_ D}{P:D->Prop}(h:dL E G H (bi.of o) P):∃d,o=a_ d/\P d:=by
 cases o with
 |some d=>exact⟨d,_6,h⟩
 |none=>exact h.elim
def f'.am{r:ey}{P a:b_ D->Prop}(h:f' E G H r P)(f:∀d,r=.ok d->P d->a d):f' E G H r a:=by
 cases r with
 |ok d=>exact f d _6 h
 |er c=>exact h
 |st=>exact h
def f'.ext{r:ey}{P:b_ D->Prop}(e:c6 G H G' H')(h:f' E G H r P):f' E G' H' r P:=by
 cases r with
 |ok d=>exact h
 |er c=>exact λf b a=>h f b (e.trans a)
 |st=>exact h
end
def ND(K:KA)(G H:Hp)(m:l_)(d:D)(v:V):Prop:=match m with
 |true=>Arg K G H d v
 |false=>gy K G d v
def h9(K:KA)(G H:Hp):b_ l_->b_ D->b_ V->Prop
 |[],b,a=>b=[]/\a=[]
 |m::f,b,a=>∃d e v c,b=d::e/\a=v::c/\ND K G H m d v/\h9 K G H f e c
theorem h9.length{K:KA}{G H:Hp}:∀{a:b_ l_}{f:b_ D}{e:b_ V},h9 K G H a f e->_7 f=_7 a/\_7 e=_7 a
 |[],_,_,⟨c,b⟩=>by rw[c,b];exact⟨_6,_6⟩
 |_::_,_,_,⟨d,m,v,j,c,b,l,i⟩=>by obtain⟨h,g⟩:=i.length;rw[c,b,aR,aR,aR,h,g];exact⟨_6,_6⟩
section
variable(K:KA)(B:Hp)(E:EK)
inductive tPu(g:En->bi)(σ:St)(H:Hp)(Q:VK):Prop
 |mk (G U) (_:ce K B G H σ U) (_:dL E G H (g U) λd=>∀v G' H',c6 G H G' H'->gy K G' d v->Q v H'):tPu g σ H Q
inductive tAr(g:En->bi)(σ:St)(H:Hp)(Q:VK):Prop
 |mk (G U) (_:ce K B G H σ U) (_:dL E G H (g U) λd=>∀v G' H',c6 G H G' H'->Arg K G' H' d v->Q v H'):tAr g σ H Q
inductive tOw(g:En->bi)(σ:St)(H:Hp)(Q:VK):Prop
 |mk (G U) (_:ce K B G H σ U) (_:dL E G H (g U) λd=>∃ds,d=.a8 ds/\∀a vs G' H',c6 G H G' H'->H a=c_->G' a=c_->H' a=a_ (.a8 vs)->bt K G' ds vs->Q (.ref a) H'):tOw g σ H Q
inductive tTe(g:En->bi)(σ:St)(H:Hp)(Q:l_->Hp->Prop):Prop
 |mk (G U) (_:ce K B G H σ U) (_:dL E G H (g U) λd=>∃b,d=.bl b/\∀G' H',c6 G H G' H'->Q b H'):tTe g σ H Q
inductive tAl(ms:b_ l_)(g:En->ey)(σ:St)(H:Hp)(Q:b_ V->Hp->Prop):Prop
 |mk (G U) (_:ce K B G H σ U) (_:f' E G H (g U) λds=>∀vs G' H',c6 G H G' H'->h9 K G' H' ms ds vs->Q vs H'):tAl ms g σ H Q
end
abbrev ck(X:Cx)(B:Hp)(E:EK)(e:Expr)(g:En->bi):Prop:=PE X e (tPu (kx X) B E g)
abbrev dj(X:Cx)(B:Hp)(E:EK)(e:Expr)(g:En->bi):Prop:=PE X e (tAr (kx X) B E g)
abbrev Qj(X:Cx)(B:Hp)(E:EK)(e:Expr)(g:En->bi):Prop:=PE X e (tOw (kx X) B E g)
abbrev ph(X:Cx)(B:Hp)(E:EK)(e:Expr)(g:En->bi):Prop:=PT X e (tTe (kx X) B E g)
abbrev V9(X:Cx)(B:Hp)(E:EK)(e:Expr)(g:En->bi):Prop:=PW X e (tTe (kx X) B E g)
abbrev Ij(X:Cx)(B:Hp)(E:EK)(a:b_ l_)(es:b_ Expr)(g:En->ey):Prop:=PA X es (tAl (kx X) B E a g)
def PE.imp{X:Cx}{e:Expr}{t b:TE}(h:PE X e t)(i:∀σ H Q,b σ H Q->t σ H Q):PE X e b:=λa s σ H Q I q=>h a s σ H Q I (i σ H Q q)
def PT.imp{X:Cx}{e:Expr}{t b:TT}(h:PT X e t)(i:∀σ H Q,b σ H Q->t σ H Q):PT X e b:=λa s σ H Q I q=>h a s σ H Q I (i σ H Q q)
def PW.imp{X:Cx}{e:Expr}{t b:TT}(h:PW X e t)(i:∀σ H Q,b σ H Q->t σ H Q):PW X e b:=λc a s σ H Q I q=>h c a s σ H Q I (i σ H Q q)
def PA.imp{X:Cx}{e:b_ Expr}{t c:TA}(h:PA X e t)(i:∀σ H Q,c σ H Q->t σ H Q):PA X e c:=λb a s σ H Q I q=>h b a s σ H Q I (i σ H Q q)
section
variable{X:Cx}{B:Hp}{E:EK}{e a b c:Expr}{es:b_ Expr}{g h k:En->bi}{pos:v_}
noncomputable def jd(i:h_):En->bi:=λU=>match U[i]? with
 |some (.pu d)=>.ok d
 |_=>.st
noncomputable def az(i:h_):En->bi:=λU=>match U[i]? with
 |some (.pu d)=>.ok d
 |some (.bo d)=>.ok d
 |some (.ow j)=>.ok (.a8 j)
 |some (.od t f)=>.ok (.h7 t f)
 |_=>.st
noncomputable def gC(d:D):En->bi:=λz=>.ok d
def ce.var{K:KA}{G H:Hp}{σ:St}{U:En}{i:h_}{d:D}(R:ce K B G H σ U)(h:U[i]?=a_ (.pu d)):∃v,σ[i]?=a_ (a_ v)/\gy K G d v:=by obtain⟨o,l,v,j,f⟩:=R.sl i _ h;exact⟨v,by rw[l,j],f⟩
def ce.arg{K:KA}{G H:Hp}{σ:St}{U:En}{i:h_}{d:D}(R:ce K B G H σ U)(h:az i U=.ok d):∃v,σ[i]?=a_ (a_ v)/\Arg K G H d v:=by
 unfold az at h;cases e:U[i]? with
 |none=>rw[e]at h;cases h
 |some s=>
  rw[e]at h;obtain⟨o,n,f⟩:=R.sl i _ e;cases s with
  |no=>cases h
  |pu r=>cases h;obtain⟨v,f,j⟩:=f;exact⟨v,by rw[n,f],.inl j⟩
  |bo r=>cases h;obtain⟨v,f,j⟩:=f;exact⟨v,by rw[n,f],HG R.bh j⟩
  |ow q=>cases h;obtain⟨a,l,f,j,m⟩:=f;exact⟨.ref a,by rw[n,f],.inr (.inl ⟨q,a,l,_6,_6,h8.of j,m⟩)⟩
  |od t p=>
   cases h;cases t with
   |false=>obtain⟨a,l,f,j,m⟩:=f;exact⟨.ref a,by rw[n,f],.inr (.inr (.inl ⟨e_,p,a,_6,_6,.inl ⟨_6,l,j,m⟩⟩))⟩
   |true=>obtain⟨a,l,f,j,m⟩:=f;exact⟨.ref a,by rw[n,f],.inr (.inr (.inl ⟨d_,p,a,_6,_6,.inr ⟨_6,l,j,m⟩⟩))⟩
def Kv(i:h_){x:k_}(h:PE X (.Name x pos) (fh i)):ck X B E (.Name x pos) (jd i):=PE.imp h λσ H Q ⟨G,U,R,q⟩=>by
 unfold jd at q;cases e:U[i]? with
 |none=>rw[e]at q;exact q.elim
 |some s=>
  rw[e]at q;cases s with
  |pu d=>obtain⟨v,j,f⟩:=R.var e;exact⟨v,j,q v G H (c6.refl R.gh) f⟩
  |no=>exact q.elim
  |bo d=>exact q.elim
  |ow d=>exact q.elim
  |od t d=>exact q.elim
def rn(i:h_){x:k_}(h:PE X (.Name x pos) (fh i)):dj X B E (.Name x pos) (az i):=PE.imp h λσ H Q ⟨G,U,R,q⟩=>by
 cases e:az i U with
 |ok d=>rw[e]at q;obtain⟨v,j,f⟩:=R.arg e;exact⟨v,j,q v G H (c6.refl R.gh) f⟩
 |er c=>unfold az at e;split at e<;>cases e
 |st=>rw[e]at q;exact q.elim
def zz(h:ck X B E e g):dj X B E e g:=PE.imp h λσ H Q ⟨G,U,R,q⟩=>⟨G,U,R,q.am λd z q v i f x y=>q v i f x (.inl y)⟩
def k8{v:V}{d:D}(h:PE X e (tC v))(r:∀H,gy (kx X) H d v):ck X B E e (gC d):=PE.imp h λσ H Q ⟨G,U,R,q⟩=>q v G H (c6.refl R.gh) (r G)
def Ul{i j}:ck X B E (.Constant (.int i) j pos) (gC (.int i)):=k8 DD λz=>rfl
def M8{b j}:ck X B E (.Constant (.bool b) j pos) (gC (.bl b)):=k8 JY λz=>rfl
def EB{j}:ck X B E (.Constant .none j pos) (gC .fm):=k8 DB λz=>rfl
def FY{x j}:ck X B E (.Constant (.str x) j pos) (gC (.str x)):=k8 EY λz=>rfl
def Yh{x y:k_}{t:Z?}(f:Gl X x)(d:X.mg x=a_ (.str y t))(i:Q! ((x==("__debug__":k_))=e_) Q1!):ck X B E (.Name x pos) (gC (.str y)):=k8 (v:=.str y) (Dw f d ⟨t,_6⟩ i) λz=>rfl
def ai{d:k_->f_ aC}{x:k_}{f:g_}(h:d x=a_ (.ref f)):mz d x=f:=by unfold mz;rw[h]
def EI{x:k_}{f:g_}(i:Gl X x)(d:X.mg x=a_ (.ref f))(j:Q! ((x==("__debug__":k_))=e_) Q1!):ck X B E (.Name x pos) (gC (.fn x)):=k8 (Dw (v:=.ref f) i d _6 j) λz=>by show V.ref f=V.ref (mz X.mg x);rw[ai d]
noncomputable def g1(f:D->f_ D)(g:En->bi):En->bi:=λU=>(g U).bind λx=>bi.of (f x)
noncomputable def g2(f:D->D->f_ D)(g h:En->bi):En->bi:=λU=>(g U).bind λx=>(h U).bind λy=>bi.of (f x y)
def dq(K:KA)(f:D->D->f_ D)(r:R2):Prop:=∀G H x y j i d,a6 G H->Arg K G H j x->Arg K G H i y->f j i=a_ d->
 ∀Q:VK,(∀v m l,c6 G H m l->gy K m d v->Q v l)->r x y H Q
def LG{K:KA}{f:D->D->f_ D}{r:R2}(o:dq K f r){σ:St}{H:Hp}{Q:VK}(q:tPu K B E (g2 f g h) σ H Q):KR r (tAr K B E g) (tAr K B E h) σ H Q:=by obtain⟨G,U,R,q⟩:=q;refine⟨G,U,R,(dL.bind q).am λw Z m x M O j C=>⟨M,U,R.ext j,((dL.bind m).ext j).am λu Z l y L I i A=>?_⟩⟩;obtain⟨d,p,n⟩:=dL.of l;exact o L I x y w u d i.gh (C.ext i) A p Q λv N J s z=>n v N J ((j.trans i).trans s) z
def B5{d:jZ}{f:D->D->f_ D}{r:R2}(j:n5 X (fS d) r)(i:dq (kx X) f r)(m:dj X B E a g)(l:dj X B E b h):ck X B E (.BinOp a d b pos) (g2 f g h):=
 PE.imp (Z5 j m l) λσ H Q q=>LG i q
def EL{d:mR}{f:D->D->f_ D}{r:R2}(j:n5 X (cI d) r)(i:dq (kx X) f r)(n:dj X B E a g)(m:dj X B E b h)(l:gO d b=e_):ck X B E (.Compare a [d] [b] pos) (g2 f g h):=
 PE.imp (X3 j n m l) λσ H Q q=>LG i q
def D3{i:mR}{f:D->D->f_ D}{r:R2}(m:n5 X (cI i) r)(l:dq (kx X) f r)(o:∀x y d,f x y=a_ d->∃b,d=.bl b)(s:dj X B E a g)(p:dj X B E b h)(n:gO i b=e_):ph X B E (.Compare a [i] [b] pos) (g2 f g h):=
 PT.imp (M7 m s p n) λσ H Q ⟨G,U,R,q⟩=>LG l ⟨G,U,R,q.am λd I ⟨b,u,j⟩ v C A w z=>by
  subst u;exact⟨b,z,j C A w⟩⟩
noncomputable def Eh:D->f_ l_
 |.fm=>a_ e_
 |.bl b=>a_ b
 |.int i=>a_ (i !=0)
 |.str x=>if x.length<=aG then a_ ((x.length:n_) !=0)else c_
 |.ci f=>a_ !f.isEmpty
 |.a8 f=>a_ !f.isEmpty
 |.h7 e_ d=>a_ !d.isEmpty
 |_=>c_
noncomputable def bD(o:f_ l_):f_ D:=o.map .bl
def wx{K:KA}{G:Hp}{f:b_ D}{d:b_ V}(h:bt K G f d):(!f.isEmpty)= !d.isEmpty:=by have q:=h.length;cases f<;>cases d<;>first|rfl|(simp at q)
def Zb{K:KA}{G H:Hp}{d:D}{v:V}{b:l_}(s:a6 G H)(h:Arg K G H d v)(e:Eh d=a_ b):BZ K v H b:=by
 cases d with
 |fm=>rw[h.fm];cases e;rfl
 |bl i=>rw[h.bl];cases e;rfl
 |int i=>rw[h.int];cases e;rfl
 |str x=>
  rw[h.str];have j:(if x.length<=aG then a_ ((x.length:n_) !=0)else c_)=a_ b:=e
  by_cases o:x.length<=aG
  .rw[aO o]at j;cases j;exact⟨o,_6⟩
  .rw[aJ o]at j;cases j
 |ci C=>obtain⟨a,l,rfl,n,m⟩:=h.ci s;cases e;exact .inr (.inl ⟨l,n,wx m⟩)
 |a8 C=>obtain⟨a,l,rfl,n,m⟩:=h.a8 s;cases e;exact .inl ⟨l,n,wx m⟩
 |h7 t f=>
  cases t with
  |true=>cases e
  |false=>
   cases e;have A:∀{es:b_ (cj×V)},f8 K G f es->(!f.isEmpty)= !es.isEmpty:=λ{es} h=>by
    cases f with
    |nil=>rw[show es=[]from h];rfl
    |cons p r=>obtain⟨k,v,t,e,_⟩:=h;rw[e];rfl
   obtain ⟨a,w,u⟩|⟨_,_,_,z,_⟩|⟨I,y,a,z,w,u⟩|⟨_,_,_,z,_⟩:=h
   .obtain ⟨_,es,q,r⟩|⟨z,_⟩:=u
    .rw[w];exact .inr (.inr ⟨es,s _ _ q,A r⟩)
    .cases z
   .cases z
   .cases z;obtain ⟨_,es,q,r⟩|⟨z,_⟩:=u
    .rw[w];exact .inr (.inr ⟨es,q,A r⟩)
    .cases z
   .cases z
 |obj _ _=>cases e
 |fn _=>cases e
def Ud(p:dj X B E a g)(o:Q! (∀f,isTrue a X.env f=(do let v <-f;standAt a.pos;mK [v] (truthy v))) Q3!):ph X B E a (g1 (λd=>bD (Eh d)) g):=
 PT.imp (G8 p o) λσ H Q ⟨G,U,R,q⟩=>⟨G,U,R,(dL.bind q).am λs Z m x y w l u=>by
  obtain⟨d,i,b,r,n⟩:=dL.of m;dsimp only at i;cases j:Eh s with
  |none=>rw[j]at i;cases (i)
  |some z=>
   rw[j]at i;cases (i);cases (r);exact⟨b,Zb l.gh u j,n y w l⟩⟩
def Wr(c a b:En->bi):En->bi:=λU=>(c U).bind λd=>match d with
 |.bl d_=>a U
 |.bl e_=>b U
 |_=>.st
noncomputable def R9(c:En->bi):En->bi:=λU=>(c U).bind λd=>match d with
 |.bl b=>.ok (.bl !b)
 |_=>.st
noncomputable def Js(a b:En->bi):En->bi:=Wr a b (gC (.bl e_))
noncomputable def LL(a b:En->bi):En->bi:=Wr a (gC (.bl d_)) b
def GG{K:KA}{P:D->Prop}{c:En->bi}{U:En}{a b:En->bi}{G H:Hp}(q:dL E G H (Wr c a b U) P):
  dL E G H (c U) λd=>∃t,d=.bl t/\(t=d_->dL E G H (a U) P)/\(t=e_->dL E G H (b U) P):=
 (dL.bind q).am λd n q=>by
  cases d with
  |bl t=>cases t with
   |true=>exact⟨d_,_6,λn=>q,λz=>by cases z⟩
   |false=>exact⟨e_,_6,λz=>(by cases z),λn=>q⟩
  |fm=>exact q.elim
  |int _=>exact q.elim
  |str _=>exact q.elim
  |ci _=>exact q.elim
  |a8 _=>exact q.elim
  |h7 _ _=>exact q.elim
  |obj _ _=>exact q.elim
  |fn _=>exact q.elim
def Ye(i:ph X B E a g):ph X B E (.UnaryOp .Not a pos) (R9 g):=PT.imp (ER i) λσ H Q ⟨G,U,R,q⟩=>⟨G,U,R,(dL.bind q).am λd z q=>by
 cases d with
 |bl t=>obtain⟨b,j,f⟩:=q;cases j;exact⟨t,_6,f⟩
 |fm=>exact q.elim
 |int _=>exact q.elim
 |str _=>exact q.elim
 |ci _=>exact q.elim
 |a8 _=>exact q.elim
 |h7 _ _=>exact q.elim
 |obj _ _=>exact q.elim
 |fn _=>exact q.elim⟩
def Hg(d:ph X B E a g):V9 X B E (.BoolOp .And [a] pos) g:=Yl d
def Ym(d:ph X B E a g):V9 X B E (.BoolOp .Or [a] pos) g:=FR d
def Na{bc:b_ Expr}(o:ph X B E a g)(n:V9 X B E (.BoolOp .And (b::bc) pos) h):V9 X B E (.BoolOp .And (a::b::bc) pos) (Js g h):=
 PW.imp (Uq o n) λσ H Q ⟨G,U,R,q⟩=>⟨G,U,R,(GG (K:=(kx X)) q).am λd z ⟨t,p,l⟩=>⟨t,p,λm u f=>by
  cases t with
  |true=>exact⟨m,U,R.ext f,((l.1 _6).ext f).am λd z ⟨b,j,i⟩=>⟨b,j,λv s r=>i v s (f.trans r)⟩⟩
  |false=>
   obtain⟨b,j,i⟩:=l.2 _6;cases j;exact i m u f⟩⟩
def FU{bc:b_ Expr}(o:ph X B E a g)(n:V9 X B E (.BoolOp .Or (b::bc) pos) h):V9 X B E (.BoolOp .Or (a::b::bc) pos) (LL g h):=
 PW.imp (JP o n) λσ H Q ⟨G,U,R,q⟩=>⟨G,U,R,(GG (K:=(kx X)) q).am λd z ⟨t,p,l⟩=>⟨t,p,λm u f=>by
  cases t with
  |false=>exact⟨m,U,R.ext f,((l.2 _6).ext f).am λd z ⟨b,j,i⟩=>⟨b,j,λv s r=>i v s (f.trans r)⟩⟩
  |true=>
   obtain⟨b,j,i⟩:=l.1 _6;cases j;exact i m u f⟩⟩
def JU(h:V9 X B E e g):ph X B E e g:=PW.pt h
def Um{d}(h:ck X B E a g):ck X B E (.BoolOp d [a] pos) g:=EZ h
def EN{bc:b_ Expr}(o:ck X B E a g)(n:ck X B E (.BoolOp .And (b::bc) pos) h):ck X B E (.BoolOp .And (a::b::bc) pos) (Js g h):=
 PE.imp (DG o n) λσ H Q ⟨G,U,R,q⟩=>⟨G,U,R,(GG (K:=(kx X)) q).am λd z ⟨t,p,j⟩ v l u f i=>by
  subst p;refine⟨t,i,?_⟩;cases t with
  |true=>exact⟨l,U,R.ext f,((j.1 _6).ext f).am λd z m v w s r i=>m v w s (f.trans r) i⟩
  |false=>exact(j.2 _6) _ l u f _6⟩
def JQ{bc:b_ Expr}(o:ck X B E a g)(n:ck X B E (.BoolOp .Or (b::bc) pos) h):ck X B E (.BoolOp .Or (a::b::bc) pos) (LL g h):=
 PE.imp (JW o n) λσ H Q ⟨G,U,R,q⟩=>⟨G,U,R,(GG (K:=(kx X)) q).am λd z ⟨t,p,j⟩ v l u f i=>by
  subst p;refine⟨t,i,?_⟩;cases t with
  |false=>exact⟨l,U,R.ext f,((j.2 _6).ext f).am λd z m v w s r i=>m v w s (f.trans r) i⟩
  |true=>exact(j.1 _6) _ l u f _6⟩
def EA(f:ck X B E a g):ck X B E (.UnaryOp .Not a pos) (R9 g):=PE.imp (DA f) λσ H Q ⟨G,U,R,q⟩=>⟨G,U,R,(dL.bind q).am λd z q v m l i j=>by
 cases d with
 |bl t=>exact⟨t,j,q _ m l i _6⟩
 |fm=>exact q.elim
 |int _=>exact q.elim
 |str _=>exact q.elim
 |ci _=>exact q.elim
 |a8 _=>exact q.elim
 |h7 _ _=>exact q.elim
 |obj _ _=>exact q.elim
 |fn _=>exact q.elim⟩
def JS{c:Expr}(r:ph X B E c k)(u:ck X B E a g)(s:ck X B E b h):ck X B E (.IfExp c a b pos) (Wr k g h):=
 PE.imp (zw r u s) λσ H Q ⟨G,U,R,q⟩=>⟨G,U,R,(GG (K:=(kx X)) q).am λd z ⟨t,w,o⟩=>⟨t,w,λp x f=>by
  cases t with
  |true=>exact⟨p,U,R.ext f,((o.1 _6).ext f).am λd z i v n m j l=>i v n m (f.trans j) l⟩
  |false=>exact⟨p,U,R.ext f,((o.2 _6).ext f).am λd z i v n m j l=>i v n m (f.trans j) l⟩⟩⟩
def HH{c:Expr}(r:ph X B E c k)(u:dj X B E a g)(s:dj X B E b h):dj X B E (.IfExp c a b pos) (Wr k g h):=
 PE.imp (zw r u s) λσ H Q ⟨G,U,R,q⟩=>⟨G,U,R,(GG (K:=(kx X)) q).am λd z ⟨t,w,o⟩=>⟨t,w,λp x f=>by
  cases t with
  |true=>exact⟨p,U,R.ext f,((o.1 _6).ext f).am λd z i v n m j l=>i v n m (f.trans j) l⟩
  |false=>exact⟨p,U,R.ext f,((o.2 _6).ext f).am λd z i v n m j l=>i v n m (f.trans j) l⟩⟩⟩
noncomputable def af:En->ey:=λz=>.ok []
noncomputable def ac(g:En->bi)(r:En->ey):En->ey:=λU=>match g U with
 | .ok d => (match r U with
  |.ok f=>.ok (d::f)
  |.er c=>.er c
  |.st=>.st)
 |.er c=>.er c
 |.st=>.st
def Zq{G H:Hp}{U:En}{r:En->ey}{P:b_ D->Prop}(q:f' E G H (ac g r U) P):dL E G H (g U) λd=>f' E G H (r U) λi=>P (d::i):=by
 unfold ac at q;cases e:g U with
 |ok d=>
  rw[e]at q;cases f:r U with
  |ok i=>rw[f]at q;exact q
  |er c=>rw[f]at q;exact q
  |st=>rw[f]at q;exact q
 |er c=>rw[e]at q;exact q
 |st=>rw[e]at q;exact q
def f9:Ij X B E [] [] af:=PA.imp f7 λσ H Q ⟨G,U,R,q⟩=>q [] G H (c6.refl R.gh) ⟨_6,_6⟩
def de{j:b_ l_}{r:En->ey}(o:dj X B E e g)(n:Ij X B E j es r)(m:Q! (aU (e::es) X.env=(e_,I_ e X.env)::aU es X.env) Q2!):Ij X B E (d_::j) (e::es) (ac g r):=
 PA.imp (cg o n m) λσ H Q ⟨G,U,R,q⟩=>⟨G,U,R,(Zq q).am λd Z q x y z f s=>⟨y,U,R.ext f,(q.ext f).am λp Z q i w v l u=>
  q (x::i) w v (f.trans l) ⟨d,p,x,i,_6,_6,s.ext l,u⟩⟩⟩
def yc{j:b_ l_}{r:En->ey}(o:ck X B E e g)(n:Ij X B E j es r)(m:Q! (aU (e::es) X.env=(e_,I_ e X.env)::aU es X.env) Q2!):Ij X B E (e_::j) (e::es) (ac g r):=
 PA.imp (cg o n m) λσ H Q ⟨G,U,R,q⟩=>⟨G,U,R,(Zq q).am λd Z q x y z f s=>⟨y,U,R.ext f,(q.ext f).am λp Z q i w v l u=>
  q (x::i) w v (f.trans l) ⟨d,p,x,i,_6,_6,s.am l.gg,u⟩⟩⟩
noncomputable def Cg:b_ l_->l_
 |[]=>d_
 |b::r=> !b&&Cg r
theorem h9.den{K:KA}{G H:Hp}:∀{f:b_ l_}{m:b_ D}{l:b_ V},Cg f=d_->h9 K G H f m l->bt K G m l
 |[],_,_,_,⟨j,i⟩=>by subst j;subst i;exact _6
 |true::_,_,_,h,_=>by simp[Cg]at h
 |false::f,_,_,h,⟨d,q,v,n,j,i,p,o⟩=>by subst j;subst i;exact⟨v,n,_6,p,h9.den (by simpa[Cg]using h) o⟩
noncomputable def cr(r:En->ey):En->bi:=λU=>match r U with
 |.ok d=>if _7 d<=aG then .ok (.ci d)else .st
 |.er c=>.er c
 |.st=>.st
noncomputable def c7(r:En->ey):En->bi:=λU=>match r U with
 |.ok d=>if _7 d<=aG then .ok (.a8 d)else .st
 |.er c=>.er c
 |.st=>.st
def QP{G H:Hp}{U:En}{r:En->ey}{P:D->Prop}(q:dL E G H (cr r U) P):f' E G H (r U) λd=>_7 d<=aG/\P (.ci d):=by
 unfold cr at q;cases e:r U with
 |ok d=>
  rw[e]at q
  by_cases f:_7 d<=aG
  .simp only[aO f]at q;exact⟨f,q⟩
  .simp only[aJ f]at q;exact q.elim
 |er c=>rw[e]at q;exact q
 |st=>rw[e]at q;exact q
def PV{G H:Hp}{U:En}{r:En->ey}{P:D->Prop}(q:dL E G H (c7 r U) P):f' E G H (r U) λd=>_7 d<=aG/\P (.a8 d):=by
 unfold c7 at q;cases e:r U with
 |ok d=>
  rw[e]at q
  by_cases f:_7 d<=aG
  .simp only[aO f]at q;exact⟨f,q⟩
  .simp only[aJ f]at q;exact q.elim
 |er c=>rw[e]at q;exact q
 |st=>rw[e]at q;exact q
def bt.c0{K:KA}{G:Hp}{p:g_}{f:b_ D}{d:b_ V}(h:bt K G f d)(n:G p=c_)(o:HO):bt K (c0 G p o) f d:=h.am (bf n o)
def aq{G H:Hp}{p:g_}(s:a6 G H)(n:H p=c_):G p=c_:=by
 cases e:G p with
 |none=>rfl
 |some u=>rw[s p u e]at n;cases n
def gz{K:KA}{G H:Hp}{p:g_}{f:b_ D}{d:b_ V}(s:a6 G H)(n:H p=c_)(h:bt K G f d):gy K (c0 G p (.ci d)) (.ci f) (.ref p):=
 ⟨p,d,_6,ae,h.c0 (aq s n) _⟩
def m9{K:KA}{G H:Hp}{p:g_}{f:b_ D}{d:b_ V}(s:a6 G H)(n:H p=c_)(h:bt K G f d):gy K (c0 G p (.a8 d)) (.a8 f) (.ref p):=
 ⟨p,d,_6,h8.of ae,h.c0 (aq s n) _⟩
def FW{j}{f:b_ l_}{r:En->ey}(m:Cg f=d_)(h:Ij X B E f es r):ck X B E (.Tuple es j pos) (cr r):=
 PE.imp (EX h) λσ H Q ⟨G,U,R,q⟩=>⟨G,U,R,(QP q).am λu z ⟨n,q⟩ l s v d o=>by
  have dl:=o.den m;refine⟨by rw[<-dl.length];exact n,λp i=>q _ (c0 s p (.ci l)) _ (d.trans (c6.new d.gh _ i)) (gz d.gh i dl)⟩⟩
def Dv{i:b_ l_}{r:En->ey}(l:Cg i=d_)(h:Ij X B E i es r):Qj X B E (.List es pos) (c7 r):=
 PE.imp (Dx h) λσ H Q ⟨G,U,R,q⟩=>⟨G,U,R,(PV q).am λv z ⟨m,o,n,q⟩ j u w d s=>by
  cases n;have dl:=s.den l;refine⟨by rw[<-dl.length];exact m,λp f=>q p j u _ (d.trans (c6.own d.gh _ f)) (aq d.hh f) (aq d.gh f) ae dl⟩⟩
def c6.rD{G H f d:Hp}{a:g_}{i:b_ V}(e:c6 G H f d)(j:H a=c_)(l:f a=c_)(h:d a=a_ (.a8 i)):c6 G H (c0 f a (.a8 i)) d:=by
 refine⟨e.gg.trans (bf l _),e.hh,λb u q=>?_,λb u q g z=>?_⟩
 .by_cases z:b=a
  .subst z;rw[ae]at q;rw[h];exact q
  .rw[aa z]at q;exact e.gh b u q
 .rw[aa (ak q j)];exact e.fr b u q g z
def IsL(g:En->bi):Prop:=∀U d,g U=.ok d->∃f,d=.a8 f
def Dj{r:En->ey}:IsL (c7 r):=λU d h=>by
 unfold c7 at h;cases e:r U with
 |ok i=>
  rw[e]at h
  by_cases f:_7 i<=aG
  .simp only[aO f]at h;cases h;exact⟨i,_6⟩
  .simp only[aJ f]at h;cases h
 |er c=>rw[e]at h;cases h
 |st=>rw[e]at h;cases h
def Mw(h:Qj X B E e g)(l:IsL g):ck X B E e g:=PE.imp h λσ H Q ⟨G,U,R,q⟩=>⟨G,U,R,q.am λd n q=>by
 obtain⟨p,rfl⟩:=l U d n;exact⟨p,_6,λa f s r o j i m dl=>q _ (c0 s a (.a8 f)) r (o.rD j i m) ⟨a,f,_6,h8.of ae,dl.am (bf i _)⟩⟩⟩
def EE{d:b_ l_}{r:En->ey}(f:Cg d=d_)(h:Ij X B E d es r):ck X B E (.List es pos) (c7 r):=Mw (Dv f h) Dj
end
set_option genInjectivity true in
inductive fq where
 |nx (U:En)
 |bk (U:En)
 |ct (U:En)
 |rt (d:D)
 |er (c:k_)
 |st
def js(K:KA)(f B:Hp)(E:EK)(G:Hp)(o:fq)(D:qh):Prop:=match o with
 |.nx U=>∀a e b,a6 G e->ce K B e b a U->c6 f B e b->D.nx a b
 |.bk U=>∀a e b,a6 G e->ce K B e b a U->c6 f B e b->D.bk a b
 |.ct U=>∀a e b,a6 G e->ce K B e b a U->c6 f B e b->D.ct a b
 |.rt d=>∀v e b,c6 f B e b->gy K e d v->D.rt v b
 |.er c=>∀e b,c6 f B e b->E c b
 |.st=>L_
inductive tSt(K:KA)(G0 B:Hp)(E:EK)(F:En->fq)(D:qh)(σ:St)(H:Hp):Prop
 |mk (G U) (_:ce K B G H σ U) (_:c6 G0 B G H) (_:js K G0 B E G (F U) D):tSt K G0 B E F D σ H
abbrev ja(X:Cx)(a B:Hp)(E:EK)(st:s_)(F:En->fq):Prop:=PS X st (tSt (kx X) a B E F)
abbrev sv(X:Cx)(a B:Hp)(E:EK)(st:b_ s_)(F:En->fq):Prop:=qR X st (tSt (kx X) a B E F)
def PS.imp{X:Cx}{st:s_}{t b:TS}(h:PS X st t)(i:∀D σ H,b D σ H->t D σ H):PS X st b:=λa s σ H D I q=>h a s σ H D I (i D σ H q)
def qR.imp{X:Cx}{st:b_ s_}{t b:TS}(h:qR X st t)(i:∀D σ H,b D σ H->t D σ H):qR X st b:=λa s σ H D I q=>h a s σ H D I (i D σ H q)
def js.same{K:KA}{g B:Hp}{E:EK}{G f:Hp}{o:fq}{D:qh}(s:a6 G f)(h:js K g B E G o D):js K g B E f o D:=by
 cases o with
 |nx U=>exact λa e b q=>h a e b (s.trans q)
 |bk U=>exact λa e b q=>h a e b (s.trans q)
 |ct U=>exact λa e b q=>h a e b (s.trans q)
 |rt d=>exact h
 |er c=>exact h
 |st=>exact h
noncomputable def bi.then(r:bi)(f:D->fq):fq:=match r with
 |.ok d=>f d
 |.er c=>.er c
 |.st=>.st
def jv{K:KA}{a B:Hp}{E:EK}{G H:Hp}{r:bi}{f:D->fq}{D:qh}(e:c6 a B G H)(h:js K a B E G (r.then f) D):dL E G H r λd=>js K a B E G (f d) D:=by
 cases r with
 |ok d=>exact h
 |er c=>exact λg b q=>h g b (e.trans q)
 |st=>exact h
section
variable{X:Cx}{G0 B:Hp}{E:EK}{e c:Expr}{st:s_}{bc ss tt:b_ s_}{F F1 F2:En->fq}{g:En->bi}{pos:v_}
noncomputable def uu:En->fq:=λU=>.nx U
noncomputable def fe(F1 F2:En->fq):En->fq:=λU=>match F1 U with
 |.nx a=>F2 a
 |o=>o
def Vf:sv X G0 B E [] uu:=qR.imp Yd λD σ H ⟨G,U,R,e,q⟩=>q σ G H (a6.refl G) R e
def PC{K:KA}{D:qh}{σ:St}{H:Hp}(q:tSt K G0 B E (fe F1 F2) D σ H):KO (tSt K G0 B E F1) (tSt K G0 B E F2) D σ H:=by
 obtain⟨G,U,R,e,q⟩:=q;refine⟨G,U,R,e,?_⟩;unfold fe at q;cases ef:F1 U with
 |nx a=>rw[ef]at q;exact λb i j s h f=>⟨i,a,h,f,js.same s q⟩
 |bk a=>rw[ef]at q;exact q
 |ct a=>rw[ef]at q;exact q
 |rt d=>rw[ef]at q;exact q
 |er c=>rw[ef]at q;exact q
 |st=>rw[ef]at q;exact q
def Y5(b:ja X G0 B E st F1)(a:sv X G0 B E bc F2):sv X G0 B E (st::bc) (fe F1 F2):=qR.imp (jn b a) λD σ H q=>PC q
def Vg(a:ja X G0 B E st F1):sv X G0 B E [st] F1:=mf a
def Nj:En->fq:=λU=>.nx U
def JI{x j pos a}:ja X G0 B E (.Expr (.Constant (.str x) j pos) a) Nj:=PS.imp ET λD σ H ⟨G,U,R,e,q⟩=>q σ G H (a6.refl G) R e
noncomputable def mj(g:En->bi):En->fq:=λU=>(g U).then .rt
def AV(h:ck X B E e g):ja X G0 B E (.Return (a_ e) pos) (mj g):=PS.imp (ES h) λD σ H ⟨G,U,R,e,q⟩=>⟨G,U,R,(jv e q).am λd z q v i f a b=>q v i f (e.trans a) b⟩
noncomputable def Im(c:En->bi)(a b:En->fq):En->fq:=λU=>(c U).then λd=>match d with
 |.bl d_=>a U
 |.bl e_=>b U
 |_=>.st
def PJ(f:ph X B E c g)(i:sv X G0 B E ss F1)(h:sv X G0 B E tt F2):ja X G0 B E (.If c ss tt pos) (Im g F1 F2):=
 PS.imp (Ua f i h) λD σ H ⟨G,U,R,e,q⟩=>⟨G,U,R,(jv e q).am λd z q=>by
  cases d with
  |bl t=>cases t with
   |true=>exact⟨d_,_6,λb j a=>⟨b,U,R.ext a,e.trans a,js.same a.gg q⟩⟩
   |false=>exact⟨e_,_6,λb j a=>⟨b,U,R.ext a,e.trans a,js.same a.gg q⟩⟩
  |fm=>exact q.elim
  |int _=>exact q.elim
  |str _=>exact q.elim
  |ci _=>exact q.elim
  |a8 _=>exact q.elim
  |h7 _ _=>exact q.elim
  |obj _ _=>exact q.elim
  |fn _=>exact q.elim⟩
def ce.set{K:KA}{G H:Hp}{σ:St}{U:En}{i:h_}{d:D}{v:V}(R:ce K B G H σ U)(h:gy K G d v):ce K B G H (σ.set i (a_ v)) (U.set i (.pu d)) where
 bh:=R.bh
 gb:=R.gb
 gh:=R.gh
 len:=by rw[bL,bL];exact R.len
 sl:=λj s q=>by
  by_cases z:i=j
  .subst z;have l:i<_7 U:=by have:=(i_.mp q).1;rwa[bL]at this
   rw[aQ l]at q;cases q;exact⟨a_ v,aQ (by rw[R.len];exact l),v,_6,h⟩
  .rw[aN z]at q⊢;exact R.sl j s q
 own:=λj s a b f m=>by
  by_cases z:i=j
  .subst z;have l:i<_7 U:=by have:=(i_.mp b).1;rwa[bL]at this
   rw[aQ l]at b;cases b;cases f
  .rw[aN z]at b m;exact R.own j s a b f m
 rE:=λj k s t a b f m p o n=>by
  have u:i≠j:=by
   rintro rfl
   have l:i<_7 U:=by have:=(i_.mp b).1;rwa[bL]at this
   rw[aQ l]at b;cases b;cases m
  have r:i≠k:=by
   rintro rfl
   have l:i<_7 U:=by have:=(i_.mp f).1;rwa[bL]at this
   rw[aQ l]at f;cases f;cases p
  rw[aN u]at b o;rw[aN r]at f n;exact R.rE j k s t a b f m p o n
noncomputable def uw(i:h_)(g:En->bi):En->fq:=λU=>(g U).then λd=>.nx (U.set i (.pu d))
def JD{i:h_}{x:k_}{a:v_}(h:ck X B E e g)(f:PS X (.Assign [.Name x a] e pos) (Ba (tPu (kx X) B E g) (ij i))):ja X G0 B E (.Assign [.Name x a] e pos) (uw i g):=
 PS.imp f λD σ H ⟨G,U,R,e,q⟩=>⟨G,U,R,(jv e q).am λd z q v m l b j=>q _ m l b.gg ((R.ext b).set j) (e.trans b)⟩
def ce.newO{K:KA}{G H x y:Hp}{σ:St}{U:En}{i:h_}{a:g_}{s0:Sl}(R:ce K B G H σ U)(e:c6 G H x y)(L:H a=c_)(O:x a=c_)(N:qV K B x y s0 (a_ (.ref a))):ce K B x y (σ.set i (a_ (.ref a))) (U.set i s0):=by
 have w:=R.ext e;have Q:B a=c_:=aq R.bh L;have v:∀(j:h_) s,U[j]?=a_ s->s.own=d_->σ[j]?=a_ (a_ (.ref a))->L_:=λj s f m l=>by obtain⟨o,I,M⟩:=R.sl j s f;rw[l]at I;cases I;obtain⟨T,z,u,C,_⟩:=M.ref m;cases z;rw[L]at C;cases C
 have d:∀{s:Sl},(U.set i s0)[i]?=a_ s->s=s0/\i<_7 U:=λq=>by
  have h:i<_7 U:=by have:=(i_.mp q).1;rwa[bL]at this
  rw[aQ h]at q;cases q;exact⟨_6,h⟩
 refine⟨w.bh,w.gh,by rw[bL,bL];exact R.len,λj s q=>?_,λj s b f m l=>?_,λj k s t b f m l J r n=>?_,R.gb⟩
 .by_cases z:i=j
  .subst z;obtain⟨rfl,h⟩:=d q;exact⟨a_ (.ref a),aQ (by rw[R.len];exact h),N⟩
  .rw[aN z]at q⊢;exact w.sl j s q
 .by_cases z:i=j
  .subst z;obtain⟨rfl,h⟩:=d f;rw[aQ (by rw[R.len];exact h)]at l;cases l;exact⟨O,Q⟩
  .rw[aN z]at f l;exact w.own j s b f m l
 .by_cases A:i=j
  .subst A;obtain⟨rfl,h⟩:=d f;rw[aQ (by rw[R.len];exact h)]at r;cases r
   by_cases p:i=k
   .exact p
   .rw[aN p]at m n;exact(v k t m J n).elim
  .rw[aN A]at f r
   by_cases p:i=k
   .subst p;obtain⟨rfl,h⟩:=d m;rw[aQ (by rw[R.len];exact h)]at n;cases n;exact(v j s f l r).elim
   .rw[aN p]at m n;exact w.rE j k s t b f m l J r n
def ce.setO{K:KA}{G H b f:Hp}{σ:St}{U:En}{i:h_}{h:b_ D}{a:g_}{d:b_ V}(R:ce K B G H σ U)(e:c6 G H b f)(j:H a=c_)(m:b a=c_)(l:f a=a_ (.a8 d))(dl:bt K b h d):
  ce K B b f (σ.set i (a_ (.ref a))) (U.set i (.ow h)):=R.newO e j m ⟨a,d,_6,l,dl⟩
def rj(i:h_)(g:En->bi):En->fq:=λU=>(g U).then λd=>match d with
 |.a8 a=>.nx (U.set i (.ow a))
 |_=>.st
def Va{i:h_}{x:k_}{b:v_}(h:Qj X B E e g)(j:PS X (.Assign [.Name x b] e pos) (Ba (tOw (kx X) B E g) (ij i))):ja X G0 B E (.Assign [.Name x b] e pos) (rj i g):=
 PS.imp j λD σ H ⟨G,U,R,e,q⟩=>⟨G,U,R,(jv e q).am λd z q=>by
  cases d with
  |a8 o=>exact⟨o,_6,λa s r p f l n m dl=>q _ r p f.gg (R.setO f l n m dl) (e.trans f)⟩
  |fm=>exact q.elim
  |bl _=>exact q.elim
  |int _=>exact q.elim
  |str _=>exact q.elim
  |ci _=>exact q.elim
  |h7 _ _=>exact q.elim
  |obj _ _=>exact q.elim
  |fn _=>exact q.elim⟩
def ce.wrO{K:KA}{G H:Hp}{σ:St}{U:En}{i:h_}{s0 A:Sl}{a:g_}{o:HO}(R:ce K B G H σ U)(x:U[i]?=a_ s0)(N:s0.own=d_)(M:σ[i]?=a_ (a_ (V.ref a)))(h:qV K B G (c0 H a o) A (a_ (.ref a))):ce K B G (c0 H a o) σ (U.set i A):=by
 obtain⟨gn,bn⟩:=R.own i _ a x N M;have hl:i<_7 U:=(i_.mp x).1;have O:∀{F:Hp},F a=c_->a6 F H->a6 F (c0 H a o):=λfn s b u q=>by rw[aa (ak q fn)];exact s b u q
 have f:∀{j:h_}{s:Sl},(U.set i A)[j]?=a_ s->s.own=d_->∃r,U[j]?=a_ r/\r.own=d_:=λ{j s} q o=>by
  by_cases z:i=j
  .subst z;exact⟨_,x,N⟩
  .rw[aN z]at q;exact⟨s,q,o⟩
 refine⟨O bn R.bh,O gn R.gh,by rw[bL];exact R.len,λj s q=>?_,λj s b J I C=>?_,λj k s t b J I C q4 q5 Y=>?_,R.gb⟩
 .by_cases z:i=j
  .subst z;rw[aQ hl]at q;cases q;exact⟨_,M,h⟩
  .rw[aN z]at q;obtain⟨Q,p,m⟩:=R.sl j s q;refine⟨Q,p,?_⟩;have L:∀b,s.own=d_->Q=a_ (V.ref b)->b≠a:=λb ht eo y=>by subst y;exact z (R.rE i j _ _ b x q N ht M (by rw[p,eo]))
   match s,m with
   |.no,_=>trivial
   |.pu d,m=>exact m
   |.bo d,m=>exact m
   |.ow fs,⟨b,w,l,n,v⟩=>exact⟨b,w,l,by rw[aa (L b _6 l)];exact n,v⟩
   |.od e_ fs,⟨b,w,l,n,v⟩=>exact⟨b,w,l,by rw[aa (L b _6 l)];exact n,v⟩
   |.od d_ fs,⟨b,w,l,n,v⟩=>exact⟨b,w,l,by rw[aa (L b _6 l)];exact n,v⟩
 .obtain⟨r,p,m⟩:=f J I;exact R.own j r b p m C
 .obtain⟨r,p,m⟩:=f J C;obtain⟨T,l,n⟩:=f I q4;exact R.rE j k r T b p l m n q5 Y
def ce.wr{K:KA}{G H:Hp}{σ:St}{U:En}{i:h_}{j es:b_ D}{a:g_}{d b:b_ V}(R:ce K B G H σ U)(h:U[i]?=a_ (.ow j))(f:σ[i]?=a_ (a_ (.ref a)))(l:H a=a_ (.a8 d))(dl:bt K G es b):
  ce K B G (c0 H a (.a8 b)) σ (U.set i (.ow es)):=R.wrO h _6 f ⟨a,b,_6,ae,dl⟩
def c6.wr{G H:Hp}{a:g_}{o:HO}(e:c6 G0 B G H)(d:G a=c_)(f:B a=c_):c6 G0 B G (c0 H a o):=
 ⟨e.gg,λb u q=>by rw[aa (ak q f)];exact e.hh b u q,λb u q=>by rw[aa (ak q d)];exact e.gh b u q,e.fr⟩
noncomputable def nv:D->f_ (b_ D)
 |.a8 a=>a_ a
 |.ci a=>a_ a
 |_=>c_
noncomputable def turns(tg:D->En->f_ En)(F:En->fq):b_ D->En->fq
 |[],U=>.nx U
 |d::r,U=>match tg d U with
  |none=>.st
  |some b=>match F b with
   |.nx a=>turns tg F r a
   |.ct a=>turns tg F r a
   |.bk a=>.nx a
   |.rt d=>.rt d
   |.er c=>.er c
   |.st=>.st
end
section
variable{X:Cx}{G0 B:Hp}{E:EK}{e c tg iter:Expr}{st:s_}{bc ss tt:b_ s_}{F F1 F2:En->fq}{g:En->bi}{pos:v_}
noncomputable def Zu(i:h_):En->bi:=λU=>match U[i]? with
 |some (.pu d)=>.ok d
 |some (.bo d)=>.ok d
 |_=>.st
inductive tBo(K:KA)(B:Hp)(E:EK)(g:En->bi)(σ:St)(H:Hp)(Q:VK):Prop
 |mk (G U) (_:ce K B G H σ U) (_:dL E G H (g U) λd=>∀v G' H',c6 G H G' H'->Arg K G' B d v->Q v H'):tBo K B E g σ H Q
abbrev V8(X:Cx)(B:Hp)(E:EK)(e:Expr)(g:En->bi):Prop:=PE X e (tBo (kx X) B E g)
def Ip(i:h_){x:k_}(h:PE X (.Name x pos) (fh i)):V8 X B E (.Name x pos) (Zu i):=PE.imp h λσ H Q ⟨G,U,R,q⟩=>by
 unfold Zu at q;cases e:U[i]? with
 |none=>rw[e]at q;exact q.elim
 |some s=>
  rw[e]at q;obtain⟨o,j,f⟩:=R.sl i _ e;cases s with
  |pu d=>obtain⟨v,b,a⟩:=f;exact⟨v,by rw[j,b],q v G H (c6.refl R.gh) (.inl a)⟩
  |bo d=>obtain⟨v,b,a⟩:=f;exact⟨v,by rw[j,b],q v G H (c6.refl R.gh) a⟩
  |no=>exact q.elim
  |ow d=>exact q.elim
  |od t d=>exact q.elim
def Ew(h:ck X B E e g):V8 X B E e g:=PE.imp h λσ H Q ⟨G,U,R,q⟩=>⟨G,U,R,q.am λd z q v b a x y=>q v b a x (.inl y)⟩
def rm(K:KA)(J:It)(a:b_ D)(S:Hp->Hp->Prop):Prop:=∀(i:h_) G H,S G H->a6 G H->
 (∀d,a[i]?=a_ d->J.go i H/\∀x b,J.yld i H x b->∃f,c6 G H f b/\gy K f d x)/\(_7 a<=i->J.stop i H)
inductive tIt(K:KA)(B:Hp)(E:EK)(g:En->ey)(σ:St)(H:Hp)(R:It->Hp->Prop):Prop
 |mk (G U) (_:ce K B G H σ U) (_:f' E G H (g U) λds=>∀J G' H',c6 G H G' H'->rm K J ds (λG2 H2=>a6 G' G2/\a6 B H2)->R J H'):tIt K B E g σ H R
inductive tIc(K:KA)(B:Hp)(E:EK)(g:En->ey)(σ:St)(H:Hp)(R:It->Hp->Prop):Prop
 |mk (G U) (_:ce K B G H σ U) (_:f' E G H (g U) λds=>∀J G' H',c6 G H G' H'->rm K J ds (λG2 H2=>c6 G' H' G2 H2)->R J H'):tIc K B E g σ H R
abbrev N2(X:Cx)(B:Hp)(E:EK)(tg iter:Expr)(g:En->ey):Prop:=PI X tg iter (tIt (kx X) B E g)
abbrev N3(X:Cx)(B:Hp)(E:EK)(tg iter:Expr)(g:En->ey):Prop:=PI X tg iter (tIc (kx X) B E g)
def PI.imp{d a:TI}(h:PI X tg iter d)(i:∀σ H R,a σ H R->d σ H R):PI X tg iter a:=λb s σ H R I q=>h b s σ H R I (i σ H R q)
def OC(K:KA)(d:TE):TI:=λσ H R=>d σ H λx b=>∃a,x=.ref a/\(((∃xs,h8 K b a xs)/\R (LU K a) b)\/((∃xs,ng K b a xs)/\R (LQ K a) b))
def EV{l:Expr}{r:TE}(C:PE X l r):PI X tg l (OC (kx X) r):=by
 intro i s σ H R I h;refine c9 (C i s σ H _ I h) λv d ⟨x,w,f,u,z⟩=>?_;obtain⟨a,e,⟨⟨xs,m⟩,q⟩|⟨⟨xs,m⟩,q⟩⟩:=z
 .subst e;cases u;obtain⟨j,y,p,A⟩:=f.list m;refine iD p.isList ?_;refine⟨d.1.1.size,[d.1.1.size],_,_,w,_6,f.kd (t':=d.toks) λb o e=>aB _ e,B8 a _,⟨_,aI _ _6,_6,_6⟩,λb n=>?_,q⟩;have e:b=d.1.1.size:=by simpa using n
  subst e;exact f.qU (aL _) (f.e6.fresh (aL _))
 .subst e;cases u;obtain⟨j,y,p,A⟩:=f.tuple m;refine wpAny_pyIter_tuple (show d.1.IsTuple a j.toArray from p) ?_;refine⟨d.1.1.size,[d.1.1.size],_,_,w,_6,f.kd (t':=d.toks) λb o e=>aB _ e,Ar a _,⟨_,aI _ _6,_6,_6⟩,λb n=>?_,q⟩;have e:b=d.1.1.size:=by simpa using n
  subst e;exact f.qU (aL _) (f.e6.fresh (aL _))
def J8{K:KA}{a:g_}{m:Hp}{l:b_ D}{b:b_ V}{S:Hp->Hp->Prop}(h:∀G H,S G H->a6 G H->h8 K H a b/\a6 m G)(dl:bt K m l b):rm K (LU K a) l S:=λi G H o f=>by obtain⟨q,g⟩:=h G H o f;refine⟨λd p=>?_,λn=>⟨b,q,by rw[<-dl.length];exact n⟩⟩;obtain⟨v,j,r⟩:=dl.get p;refine⟨⟨b,v,q,j⟩,λx s ⟨e,y⟩=>?_⟩;subst e;have z:=y b q;rw[j]at z;cases z;exact⟨G,c6.refl f,r.am g⟩
def Su{K:KA}{a:g_}{m:Hp}{l:b_ D}{b:b_ V}{S:Hp->Hp->Prop}(h:∀G H,S G H->a6 G H->ng K H a b/\a6 m G)(dl:bt K m l b):rm K (LQ K a) l S:=λi G H o f=>by obtain⟨q,g⟩:=h G H o f;refine⟨λd p=>?_,λn=>⟨b,q,by rw[<-dl.length];exact n⟩⟩;obtain⟨v,j,r⟩:=dl.get p;refine⟨⟨b,v,q,j⟩,λx s ⟨e,y⟩=>?_⟩;subst e;have z:=y b q;rw[j]at z;cases z;exact⟨G,c6.refl f,r.am g⟩
def sr(lo:n_)(n:h_):b_ D:=(eW n).map λ(i:h_)=>.int (lo+i)
noncomputable def y4(r:En->ey):En->ey:=λU=>match r U with
 |.ok [.int j]=>if -(2^62)<=j/\j<2^62 then .ok (sr 0 j.toNat)else .st
 |.ok [.int i,.int j]=>if(-(2^62)<=i/\i<2^62)/\(-(2^62)<=j/\j<2^62)then .ok (sr i (j-i).toNat)else .st
 |.ok _=>.st
 |.er c=>.er c
 |.st=>.st
def CM{K:KA}{lo:n_}{n:h_}{S:Hp->Hp->Prop}:rm K (LS lo n) (sr lo n) S:=λi G H l h=>by
 refine⟨λd a=>?_,λb=>?_⟩
 .unfold sr at a;rw[bY]at a;cases e:(eW n)[i]? with
  |none=>rw[e]at a;cases a
  |some j=>
   rw[e]at a;have f:i<n:=by have:=(i_.mp e).1;rwa[i!]at this
   rw[List.getElem?_range f]at e;cases e;cases a;exact⟨f,λx m ⟨z,y⟩=>by subst z;exact⟨G,c6.refl h,y⟩⟩
 .unfold sr at b;rw[bB,i!]at b;exact b
def h9.pv{K:KA}{G H:Hp}{m:l_}{d:D}{a:b_ V}(h:h9 K G H [m] [d] a):∃v,a=[v]/\Arg K G H d v:=by
 obtain⟨p,o,v,l,j,i,b,n,f⟩:=h;cases j;subst f;refine⟨v,i,?_⟩;cases m
 .exact .inl b
 .exact b
def h9.two{K:KA}{G H:Hp}{m i:l_}{d f:D}{a:b_ V}(h:h9 K G H [m,i] [d,f] a):∃v u,a=[v,u]/\Arg K G H d v/\Arg K G H f u:=by
 obtain⟨r,q,v,p,n,l,b,j⟩:=h;cases n;obtain⟨u,z,o⟩:=h9.pv j;subst z;refine⟨v,u,l,?_,o⟩;cases m
 .exact .inl b
 .exact b
set_option tactic.hygienic true in
def FO{G H:Hp}{U:En}{r:En->ey}{P:b_ D->Prop}(q:f' E G H (y4 r U) P):f' E G H (r U) λb=>
  (∃j,b=[.int j]/\-(2^62)<=j/\j<2^62/\P (sr 0 j.toNat))\/∃i j,b=[.int i,.int j]/\(-(2^62)<=i/\i<2^62/\-(2^62)<=j/\j<2^62)/\P (sr i (j-i).toNat):=by
 unfold y4 at q;cases e:r U with
 |ok b=>
  rw[e]at q;show _\/_;split at q
  .rename_i z;cases z;split at q
   .rename_i a;exact .inl ⟨_,_6,a.1,a.2,q⟩
   .exact q.elim
  .rename_i z;cases z;split at q
   .rename_i a;exact .inr ⟨_,_,_6,⟨a.1.1,a.1.2,a.2.1,a.2.2⟩,q⟩
   .exact q.elim
  .exact q.elim
  .rename_i z;cases z
  .rename_i z;cases z
 |er c=>rw[e]at q;exact q
 |st=>rw[e]at q;exact q
def Mz{a:Expr}{m:l_}{r:En->ey}{p:v_}(h:Gl X "range")(f:X.mg "range"=c_)(l:Ij X B E [m] [a] r)(d:Q! (aU [a] X.env=[(e_,I_ a X.env)]) Q2!):N2 X B E tg (.Call (.Name "range" p) [a] [] pos) (y4 r):=
 PI.imp (Pp h f l d) λσ H R ⟨G,U,w,q⟩=>⟨G,U,w,(FO q).am λA Z q z y x s b=>by
  obtain ⟨j,rfl,o,n,q⟩|⟨i,j,rfl,_⟩:=q
  .obtain⟨v,rfl,u⟩:=h9.pv b;exact⟨j,by rw[u.int],o,n,q _ y x s CM⟩
  .have:=b.length.1;simp at this⟩
def D0{r:En->ey}(h:N2 X B E tg iter r):N3 X B E tg iter r:=PI.imp h λσ H R ⟨G,U,a,q⟩=>⟨G,U,a,q.am λm z q J l f e ok=>q J l f e λi j d x b=>ok i j d ⟨x.gg,(a.bh.trans e.hh).trans x.hh⟩ b⟩
structure TgOk(X:Cx)(B:Hp)(tge:Expr)(gl:TG)(tgD:D->En->f_ En):Prop where
 pg:PG X tge gl
 ok:∀{G H:Hp}{σ:St}{U δ':En}{d:D}{v:V}{Q:St->Hp->Prop},ce (kx X) B G H σ U->gy (kx X) G d v->tgD d U=a_ δ'->(∀σ',ce (kx X) B G H σ' δ'->Q σ' H)->gl v σ H Q
noncomputable def Jz(i:h_):D->En->f_ En:=λd U=>a_ (U.set i (.pu d))
def Za{i:h_}{x:k_}{p:v_}(h:PG X (.Name x p) (ij i)):TgOk X B (.Name x p) (ij i) (Jz i):=⟨h,λR a e q=>by
 cases e;exact q _ (R.set a)⟩
noncomputable def Kz(a:D->En->f_ En)(r:En->ey)(F:En->fq):En->fq:=λU=>match r U with
 |.ok b=>turns a F b U
 |.er c=>.er c
 |.st=>.st
def OG{K:KA}{a:D->En->f_ En}{r:En->ey}{G H:Hp}{U:En}{D:qh}(e:c6 G0 B G H)(q:js K G0 B E G (Kz a r F U) D):f' E G H (r U) λb=>js K G0 B E G (turns a F b U) D:=by
 unfold Kz at q;cases er:r U with
 |ok b=>rw[er]at q;exact q
 |er c=>rw[er]at q;exact λf d x=>q f d (e.trans x)
 |st=>rw[er]at q;exact q
def JH{gl:TG}{h:D->En->f_ En}{r:En->ey}(hp:kU (aW X.prog X.w) X.A X.env X.xe)(hc:X.calm=d_)(hi:N2 X B E tg iter r)(hg:TgOk X B tg gl h)(hb:sv X G0 B E ss F)
  (hs:Q! (∀x,fW iter X.env x=pure x) Q3!):ja X G0 B E (.For tg iter ss [] pos) (Kz h r F):=
 PS.imp (D2 hp hc hi hg.pg hb hs) λD σ H ⟨G,U,R,e,q⟩=>⟨G,U,R,(OG e q).am λj Z q J L H1 e1 ok=>by
  refine⟨λi m σ H=>m=_7 j-i/\i<=_7 j/\∃o n,a6 L o/\ce (kx X) B o H σ n/\c6 G0 B o H/\js (kx X) G0 B E o (turns h F (j.drop i) n) D,
   ⟨j.length,by simp,cM _,L,U,a6.refl L,R.ext e1,e.trans e1,js.same e1.gg q⟩,?_⟩
  rintro i m O H2 ⟨rfl,ξ,o,n,s2,R2,x2,a⟩
  obtain⟨T,Q⟩:=ok i o H2 ⟨s2,R2.bh⟩ R2.gh
  by_cases N:i<_7 j
  .obtain⟨go,yl⟩:=T j[i] (by simp[N]);rw[cU N]at a;refine .inr ⟨go,λb p=>i+1<=_7 j/\∃u f,a6 L u/\ce (kx X) B u p b f/\c6 G0 B u p/\js (kx X) G0 B E u (turns h F (j.drop (i+1)) f) D,
    λb p ⟨n1,n2⟩=>⟨_7 j-(i+1),by lia,_6,n1,n2⟩,λx H3 y=>?_⟩
   obtain⟨u,v,dn⟩:=yl x H3 y;unfold turns at a;cases Y:h j[i] n with
   |none=>rw[Y]at a;exact a.elim
   |some f=>
    rw[Y]at a;dsimp only at a;refine hg.ok (R2.ext v) dn Y λη R3=>⟨u,f,R3,x2.trans v,?_⟩;have s3:a6 L u:=s2.trans v.gg;cases ef:F f with
    |nx l=>rw[ef]at a;exact λb M p s I C=>⟨N,M,l,s3.trans s,I,C,js.same (v.gg.trans s) a⟩
    |ct l=>rw[ef]at a;exact λb M p s I C=>⟨N,M,l,s3.trans s,I,C,js.same (v.gg.trans s) a⟩
    |bk l=>rw[ef]at a;exact λb M p s I C=>a b M p (v.gg.trans s) I C
    |rt d=>rw[ef]at a;exact a
    |er c=>rw[ef]at a;exact a
    |st=>rw[ef]at a;exact a
  .have z:i=_7 j:=by lia
   subst z;rw[jV]at a;exact .inl ⟨Q (aL _),a O o H2 (a6.refl o) R2 x2⟩⟩
noncomputable def fc:b_ l_->b_ D->En
 |_,[]=>[]
 |true::a,d::b=>.bo d::fc a b
 |false::a,d::b=>.pu d::fc a b
 |[],_::_=>[]
noncomputable def vz:fq->bi
 |.rt d=>.ok d
 |.nx _=>.ok .fm
 |.er c=>.er c
 |_=>.st
def OH(b:b_ l_)(n:h_)(F:En->fq)(a:b_ D):bi:=vz (F (fc b a++aT (n-_7 a) .no))
inductive spPu(K:KA)(ms:b_ l_)(f:b_ D->bi)(vs:b_ V)(H:Hp)(Q:VK)(E:XK):Prop
 |mk (_:_7 vs=_7 ms) (_:GOk H) (G ds) (_:a6 G H) (_:h9 K G H ms ds vs) (_:dL (ek K E) G H (f ds) λd=>∀v G' H',c6 G H G' H'->gy K G' d v->Q v H'):spPu K ms f vs H Q E
theorem Bp{K:KA}{G H:Hp}:∀{a:b_ l_}{i:b_ D}{h:b_ V},h9 K G H a i h->(fc a i).length=_7 h
 |[],_,_,⟨f,b⟩=>by subst f;subst b;rfl
 |m::a,_,_,⟨d,p,v,n,f,b,o,l⟩=>by subst f;subst b;have j:=Bp l;cases m<;>simp only[fc,aR,j]
theorem kq{K:KA}{G H:Hp}:∀{h:b_ l_}{r:b_ D}{l:b_ V},h9 K G H h r l->∀(i:h_) s,(fc h r)[i]?=a_ s->s.own=e_/\∃v,l[i]?=a_ v/\qV K H G H s (a_ v)
 |[],_,_,⟨j,p⟩,i,s,q=>by subst j;simp[fc]at q
 |m::h,_,_,⟨d,x,v,w,j,p,o,n⟩,i,s,q=>by
  subst j;subst p;cases i with
  |zero=>
   cases m with
   |true=>simp only[fc,fX,_L]at q;subst q;exact⟨_6,v,_6,v,_6,o⟩
   |false=>simp only[fc,fX,_L]at q;subst q;exact⟨_6,v,_6,v,_6,o⟩
  |succ i=>
   cases m with
   |true=>simp only[fc,dE]at q;obtain⟨f,u,b,a⟩:=kq n i s q;exact⟨f,u,by simpa using b,a⟩
   |false=>simp only[fc,dE]at q;obtain⟨f,u,b,a⟩:=kq n i s q;exact⟨f,u,by simpa using b,a⟩
def Jn{K:KA}{G H:Hp}{h:b_ l_}{d:b_ D}{m:b_ V}{N:b_ k_}(C:GOk H)(s:a6 G H)(l:h9 K G H h d m):ce K H G H (L2.i9 N m) (fc h d++aT (_7 N-_7 d) .no):=by
 have r:=Bp l;obtain⟨y,x⟩:=l.length;have b:∀(i:h_) t,(fc h d++aT (_7 N-_7 d) Sl.no)[i]?=a_ t->t=.no\/(i<_7 m/\(fc h d)[i]?=a_ t):=λi t q=>by
  by_cases z:i<(fc h d).length
  .rw[eD z]at q;exact .inr ⟨by rw[<-r];exact z,q⟩
  .rw[dX (by lia)]at q;have:=eT q;exact .inl (List.eq_of_mem_replicate this)
 refine⟨a6.refl H,s,?_,λi t q=>?_,λi t a p o n=>?_,λi j t u a p o n M L J=>?_,C⟩
 .unfold L2.i9;rw[bS,bS,bB,dC,dC,r,y,x]
 .rcases b i t q with rfl|⟨w,f⟩
  .have A:i<(L2.i9 N m).length:=by
    have:=(i_.mp q).1;rw[bS,dC,r]at this;unfold L2.i9;rw[bS,bB,dC]
    lia
   exact⟨_,bF A,trivial⟩
  .obtain⟨_,v,I,ok⟩:=kq l i t f;refine⟨a_ v,?_,ok⟩;unfold L2.i9;rw[eD (by rw[bB];exact w),bY,I];rfl
 .rcases b i t p with rfl|⟨w,f⟩
  .cases o
  .obtain⟨z,_⟩:=kq l i t f;rw[z]at o;cases o
 .rcases b i t p with rfl|⟨w,f⟩
  .cases n
  .obtain⟨z,_⟩:=kq l i t f;rw[z]at n;cases n
def X1{K:KA}{G H:Hp}{E:EK}{Q:VK}{o:fq}(s:a6 G H)(h:dL E G H (vz o) λd=>∀v b a,c6 G H b a->gy K b d v->Q v a):
  js K G H E G o {nx:=λz a=>Q .fm a,rt:=Q}:=by
 cases o with
 |nx U=>exact λf b a z z e=>h .fm b a e _6
 |bk U=>exact h.elim
 |ct U=>exact h.elim
 |rt d=>exact λv b a e i=>h v b a e i
 |er c=>exact h
 |st=>exact h
end
section
variable{X:Cx}{B:Hp}{E:EK}{e:Expr}{es:b_ Expr}{pos p:v_}{x:k_}
noncomputable def fj(f:b_ D->bi)(r:En->ey):En->bi:=λU=>match r U with
 |.ok a=>f a
 |.er c=>.er c
 |.st=>.st
def Qw{G H:Hp}{U:En}{r:En->ey}{f:b_ D->bi}{P:D->Prop}(q:dL E G H (fj f r U) P):f' E G H (r U) λa=>dL E G H (f a) P:=by
 unfold fj at q;cases e:r U with
 |ok a=>rw[e]at q;exact q
 |er c=>rw[e]at q;exact q
 |st=>rw[e]at q;exact q
def Yf{l:Lf}{k:h_}{f:g_}{h:fA}{ps:b_ k_}{g:b_ l_}{i:b_ D->bi}{r:En->ey}{E:XK}(F:kz X.prog X.w X.K X.mg X.base l k f h ps (spPu (kx X) g i))(n:io k X.A)(u:Gl X x)(o:X.mg x=a_ (.ref f))(s:cT X.K (.ref f)=d_)
  (z:lv X.K h ps [])(m:jh l X E)(C:Ij X B (ek (kx X) E) g (e::es) r)(c:Q! ((x==("__debug__":k_))=e_) Q1!)(y:Q! (aU (e::es) X.env=(e_,I_ e X.env)::aU es X.env) Q2!)(b:Q! ((dW pos (aU es X.env)).any (·.1)=e_) Q2!):
  ck X B (ek (kx X) E) (.Call (.Name x p) (e::es) [] pos) (fj i r):=
 PE.imp (X2 F n u o s z .nil m C c y b) λσ H Q ⟨G,U,R,q⟩=>⟨G,U,R,(Qw q).am λJ Z q T N Y a j=>
  ⟨by rw[dZ];exact j.length.2,R.gb.same (R.bh.trans a.hh),N,J,a.gh,by rw[dZ];exact j,(q.ext a).am λd Z q v O M I L=>q v O M (a.trans I) L⟩⟩
def Ug{d:Lf}{k:h_}{f:g_}{b:fA}{ps:b_ k_}{c:b_ D->bi}{E:XK}(F:kz X.prog X.w X.K X.mg X.base d k f b ps (spPu (kx X) [] c))(h:io k X.A)(l:Gl X x)(i:X.mg x=a_ (.ref f))(j:cT X.K (.ref f)=d_)
  (m:lv X.K b ps [])(g:jh d X E)(a:Q! ((x==("__debug__":k_))=e_) Q1!):ck X B (ek (kx X) E) (.Call (.Name x p) [] [] pos) (λz=>c []):=
 PE.imp (Tw F h l i j m .nil g a) λσ H Q ⟨G,U,R,q⟩=>⟨_6,R.gb.same R.bh,G,[],R.gh,⟨_6,_6⟩,q⟩
end
mutual
def cw:D->f_ gN
 |.fm=>a_ .none
 |.bl b=>a_ (.bool b)
 |.int i=>a_ (.int i)
 |.str x=>a_ (.str x)
 |.ci ds=>match ff ds with
  |some ps=>a_ (.tuple ps)
  |none=>c_
 |.a8 ds=>match ff ds with
  |some ps=>a_ (.list ps)
  |none=>c_
 |.h7 _ _=>c_
 |.obj _ _=>c_
 |.fn _=>c_
def ff:b_ D->f_ (b_ gN)
 |[]=>a_ []
 |d::ds=>match cw d with
  | a_ p => (match ff ds with
   |some ps=>a_ (p::ps)
   |none=>c_)
  |none=>c_
end
section
variable{X:Cx}{au:b_ (g_×D_)}{σ:St}{G H:Hp}{s:aE}
mutual
theorem ui(I:a9 X au σ H s)(sg:a6 G H):∀{d:D}{v:V}{u:aC}{p:gN},gy (kx X) G d v->eu v u->cw d=a_ p->∃as,_M s.1 u p as
 |.fm,v,u,p,h,r,e=>by cases (show v=.fm from h);cases (show u=bV from r);cases e;exact⟨_,Reads.none⟩
 |.bl b,v,u,p,h,r,e=>by cases (show v=.bl b from h);cases (show u=iR b from r);cases e;exact⟨_,Reads.bool b⟩
 |.int i,v,u,p,h,r,e=>by cases (show v=.int i from h);obtain⟨t,q⟩:=(show∃t,u=nM i t from r);cases q;cases e;exact⟨_,Reads.int i t⟩
 |.str x,v,u,p,h,r,e=>by cases (show v=.str x from h);obtain⟨t,q⟩:=(show∃t,u=oW x t from r);cases q;cases e;exact⟨_,Reads.str x t⟩
 |.ci ds,v,u,p,h,r,e=>by
  obtain⟨a,vs,rfl,sq,dl⟩:=h;cases (show u=bH a from r);unfold cw at e;cases e2:ff ds with
  |none=>rw[e2]at e;cases e
  |some ps=>rw[e2]at e;cases e;obtain⟨its,rv,⟨o,ho,hc,n,hd⟩,_⟩:=I.tuple (ng.of (sg _ _ sq));obtain⟨as,ra⟩:=qo I sg dl rv e2;exact⟨as,Reads.tuple ho hc hd (by simpa using ra)⟩
 |.a8 ds,v,u,p,h,r,e=>by
  obtain⟨a,vs,rfl,sq,dl⟩:=h;cases (show u=bH a from r);unfold cw at e;cases e2:ff ds with
  |none=>rw[e2]at e;cases e
  |some ps=>rw[e2]at e;cases e;obtain⟨its,rv,pl,_⟩:=I.list (h8.am sg sq);obtain⟨o,ho,hc,n,hd⟩:=pl.isList;obtain⟨as,ra⟩:=qo I sg dl rv e2;exact⟨_,Reads.list ho hc hd (by simpa using ra)⟩
 |.h7 _ _,_,_,_,_,_,e=>by cases e
 |.obj _ _,_,_,_,_,_,e=>by cases e
 |.fn _,_,_,_,_,_,e=>by cases e
theorem qo(I:a9 X au σ H s)(sg:a6 G H):∀{ds:b_ D}{vs:b_ V}{us:b_ aC}{ps:b_ gN},bt (kx X) G ds vs->dg vs us->ff ds=a_ ps->∃as,ReadsAll s.1 us ps as
 |[],vs,us,ps,h,r,e=>by cases (show vs=[]from h);cases r;cases e;exact⟨_,ReadsAll.nil⟩
 |d::ds,vs,us,ps,h,r,e=>by
  obtain⟨v,vr,rfl,dv,dl⟩:=h;cases r with
  |cons rv rr=>
   unfold ff at e;cases e1:cw d with
   |none=>rw[e1]at e;cases e
   |some p=>
    rw[e1]at e;dsimp only at e;cases e2:ff ds with
    |none=>rw[e2]at e;cases e
    |some ps'=>rw[e2]at e;cases e;obtain⟨as,ra⟩:=ui I sg dv rv e1;obtain⟨bs,rb⟩:=qo I sg dl rr e2;exact⟨_,ReadsAll.cons ra rb⟩
end
def bu(I:a9 X au σ H s)(c:a6 G H){d:D}{v:V}{u:aC}{p:gN}(h:Arg (kx X) G H d v)(r:eu v u)(e:cw d=a_ p):∃f,_M s.1 u p f:=by
 obtain h|⟨y,a,z,rfl,rfl,g,dl⟩|⟨t,l,a,rfl,_⟩|⟨gs,a,A,rfl,_⟩:=h
 .exact ui I c h r e
 .cases (show u=bH a from r);unfold cw at e;cases b:ff y with
  |none=>rw[b]at e;cases e
  |some ps=>rw[b]at e;cases e;obtain⟨m,i,j,_⟩:=I.list g;obtain⟨o,q,x,n,w⟩:=j.isList;obtain⟨f,ra⟩:=qo I c dl i b;exact⟨_,Reads.list q x w (by simpa using ra)⟩
 .cases e
 .cases e
end
def Zr(d e:D):f_ l_:=match cw d,cw e with
 |some p,a_ q=>if cG p&&cG q then a_ (cO p q)else c_
 |_,_=>c_
def k9(d e:D):f_ D:=(Zr d e).map .bl
def Hj(d e:D):f_ D:=(Zr d e).map λb=>.bl !b
def Fp{d e:D}{b:l_}(h:Zr d e=a_ b):∃p q,cw d=a_ p/\cw e=a_ q/\cG p=d_/\cG q=d_/\b=cO p q:=by
 unfold Zr at h;cases c:cw d with
 |none=>rw[c]at h;cases h
 |some p=>
  cases f:cw e with
  |none=>rw[c,f]at h;cases h
  |some q=>
   rw[c,f]at h;dsimp only at h
   by_cases a:(cG p&&cG q)=d_
   .rw[aO a]at h;cases h;rw[aH]at a;exact⟨p,q,_6,_6,a.1,a.2,_6⟩
   .rw[aJ a]at h;cases h
section
variable{X:Cx}{B:Hp}{E:EK}{e a b:Expr}{es:b_ Expr}{g h:En->bi}{pos:v_}
inductive rEqD(K:KA)(neg:l_)(x:V)(y:V)(H:Hp)(Q:VK):Prop
 |mk (G dx dy b) (_:a6 G H) (_:Arg K G H dx x) (_:Arg K G H dy y) (_:Zr dx dy=a_ b) (_:Q (.bl (if neg then !b else b)) H):rEqD K neg x y H Q
def Tj(o:X.A.units+64<cP):n5 X (cI .Eq) (rEqD (kx X) e_):=by intro d s σ H x y v u Q I l j q;obtain⟨G,M,L,b,c,J,C,r,q⟩:=q;obtain⟨p,n,z,w,i,f,rfl⟩:=Fp r;obtain⟨N,ra⟩:=bu I c J l z;obtain⟨bs,m⟩:=bu I c C j w;exact eq_dataH ra m i f o ⟨.bl (cO p n),H,I,_6,q⟩
def DN(o:X.A.units+64<cP):n5 X (cI .NotEq) (rEqD (kx X) d_):=by intro d s σ H x y v u Q I l j q;obtain⟨G,M,L,b,c,J,C,r,q⟩:=q;obtain⟨p,n,z,w,i,f,rfl⟩:=Fp r;obtain⟨N,ra⟩:=bu I c J l z;obtain⟨bs,m⟩:=bu I c C j w;exact ne_dataH ra m i f o ⟨.bl (!PyData.eqv p n),H,I,_6,q⟩
def M4{K:KA}:dq K k9 (rEqD K e_):=λG H x y j i d f m l c Q q=>by
 unfold k9 at c;cases e:Zr j i with
 |none=>rw[e]at c;cases c
 |some b=>rw[e]at c;cases c;exact⟨G,j,i,b,f,m,l,e,q _ G H (c6.refl f) _6⟩
def Ya{K:KA}:dq K Hj (rEqD K d_):=λG H x y j i d f m l c Q q=>by
 unfold Hj at c;cases e:Zr j i with
 |none=>rw[e]at c;cases c
 |some b=>rw[e]at c;cases c;exact⟨G,j,i,b,f,m,l,e,q _ G H (c6.refl f) _6⟩
def r9{o:f_ l_}{d:D}{f:l_->l_}(h:(o.map λb=>D.bl (f b))=a_ d):∃b,d=.bl b:=by
 cases o with
 |none=>cases h
 |some b=>cases h;exact⟨_,_6⟩
def Z6(c:X.A.units+64<cP)(i:dj X B E a g)(d:dj X B E b h):ph X B E (.Compare a [.Eq] [b] pos) (g2 k9 g h):=D3 (Tj c) M4 (λz z z h=>r9 (f:=id) h) i d (DW _)
noncomputable def AZ(f:n_->n_->f_ D):D->D->f_ D
 |.int i,.int j=>f i j
 |_,_=>c_
noncomputable def Uw:D->D->f_ D:=AZ λi j=>a_ (.int (i-j))
def mw:D->D->f_ D:=AZ λi j=>if 0<j then a_ (.int (i%j))else c_
def Us:D->D->f_ D:=AZ λi j=>if 0<j/\j<1073741824 then a_ (.int (i / j))else c_
def Hk:D->D->f_ D:=AZ λi j=>if 0<=j/\j<=1000000/\i.natAbs<2^64 then a_ (.int (i^j.toNat))else c_
def Ks{K:KA}{f:n_->n_->f_ D}{C:n_->n_->Prop}{r:n_->n_->V}(n:∀i j d,f i j=a_ d->C i j/\∀G,gy K G d (r i j)):dq K (AZ f) (rI C r):=λG H x y p o d m v u l Q q=>by
 cases p with
 |int i=>
  cases o with
  |int j=>obtain⟨c,s⟩:=n i j d l;exact⟨i,j,v.int,u.int,c,q _ G H (c6.refl m) (s G)⟩
  |_=>cases l
 |_=>cases l
def M3{K:KA}{f:n_->n_->f_ D}{r:n_->n_->V}(m:∀i j d,f i j=a_ d->∀G,gy K G d (r i j)):dq K (AZ f) (rI0 r):=λG H x y o n d l s p c Q q=>by
 cases o with
 |int i=>
  cases n with
  |int j=>exact⟨i,j,s.int,p.int,q _ G H (c6.refl l) (m i j d c G)⟩
  |_=>cases c
 |_=>cases c
def FX(f:dj X B E a g)(c:dj X B E b h):ck X B E (.BinOp a .Sub b pos) (g2 Uw g h):=B5 DK (M3 λi j d e G=>by cases e;rfl) f c
def ED(l:dj X B E a g)(f:dj X B E b h):ck X B E (.BinOp a .Mod b pos) (g2 mw g h):=B5 DP (Ks λi j d e=>by
 by_cases c:0<j
 .rw[aO c]at e;cases e;exact⟨c,λz=>rfl⟩
 .rw[aJ c]at e;cases e) l f
def Yg(l:dj X B E a g)(f:dj X B E b h):ck X B E (.BinOp a .FloorDiv b pos) (g2 Us g h):=B5 Xv (Ks λi j d e=>by
 by_cases c:0<j/\j<1073741824
 .rw[aO c]at e;cases e;exact⟨c,λz=>rfl⟩
 .rw[aJ c]at e;cases e) l f
def FZ(l:dj X B E a g)(f:dj X B E b h):ck X B E (.BinOp a .Pow b pos) (g2 Hk g h):=B5 DM (Ks λi j d e=>by
 by_cases c:0<=j/\j<=1000000/\i.natAbs<2^64
 .rw[aO c]at e;cases e;exact⟨c,λz=>rfl⟩
 .rw[aJ c]at e;cases e) l f
def o9(f:n_->n_->l_):D->D->f_ D:=AZ λi j=>a_ (.bl (f i j))
def JN:D->D->f_ D:=o9 λi j=>decide (i<=j)
def JO:D->D->f_ D:=o9 λi j=>decide (j<i)
def PP:D->D->f_ D:=o9 λi j=>decide (j<=i)
def JM:D->D->f_ D:=o9 λi j=>decide (i<j)
def zy{K:KA}{f:n_->n_->l_}:dq K (o9 f) (rI0 λi j=>.bl (f i j)):=M3 λi j d e G=>by cases e;rfl
def I8{f:n_->n_->l_}:∀x y d,o9 f x y=a_ d->∃b,d=.bl b:=λx y d h=>by
 unfold o9 AZ at h;split at h
 .exact⟨_,(aZ h).symm⟩
 .cases h
noncomputable def yx(f c:D->D->f_ D)(g h k:En->bi):En->bi:=λU=>(g U).bind λx=>(h U).bind λy=>(bi.of (f x y)).bind λz=>match z with
 |.bl d_=>(k U).bind λw=>bi.of (c y w)
 |.bl e_=>.ok (.bl e_)
 |_=>.st
def Q4{K:KA}{k:En->bi}{f A:D->D->f_ D}{r z:R2}(T:dq K f r)(m:dq K A z){σ:St}{H:Hp}{Q:VK}(q:tPu K B E (yx f A g h k) σ H Q):K6 r z (tAr K B E g) (tAr K B E h) (tAr K B E k) σ H Q:=by
 obtain⟨G,U,R,q⟩:=q;refine⟨G,U,R,(dL.bind q).am λdx Z N x G1 H1 s ax=>⟨G1,U,R.ext s,((dL.bind N).ext s).am λC Z M y G2 H2 p I=>?_⟩⟩;have i:=s.trans p;obtain⟨d,Y,c⟩:=dL.of (dL.bind M);refine T G2 H2 x y dx C d p.gh (ax.ext p) I Y _ λv L J j u=>?_;cases d with
 |bl t=>
  refine⟨t,u,?_⟩;cases t with
  |true=>show tAr K B E k σ J _;refine⟨L,U,R.ext (i.trans j),((dL.bind c).ext (i.trans j)).am λdw Z O w G4 H4 o aw=>?_⟩;obtain⟨d',n,l⟩:=dL.of O;exact m G4 H4 y w C dw d' o.gh ((I.ext j).ext o) aw n Q λv G5 H5 e5 u=>l v G5 H5 (((i.trans j).trans o).trans e5) u
  |false=>exact c _ L J (i.trans j) _6
 |fm=>exact c.elim
 |int _=>exact c.elim
 |str _=>exact c.elim
 |ci _=>exact c.elim
 |a8 _=>exact c.elim
 |h7 _ _=>exact c.elim
 |obj _ _=>exact c.elim
 |fn _=>exact c.elim
def Uh{c:Expr}{k:En->bi}{i d:mR}{f n:D->D->f_ D}{r m:R2}(p:n5 X (cI i) r)(o:dq (kx X) f r)(l:n5 X (cI d) m)(j:dq (kx X) n m)(w:dj X B E a g)(v:dj X B E b h)(u:dj X B E c k)
  (s:Q! (qA [i,d] [b,c]=e_) Q4!):ck X B E (.Compare a [i,d] [b,c] pos) (yx f n g h k):=PE.imp (Tx p l w v u s) λσ H Q q=>Q4 o j q
def Pv{c:Expr}{k:En->bi}{j i:mR}{f n:D->D->f_ D}{r o:R2}(u:n5 X (cI j) r)(s:dq (kx X) f r)(m:n5 X (cI i) o)(l:dq (kx X) n o)(A:∀x y d,n x y=a_ d->∃b,d=.bl b)(I:dj X B E a g)(C:dj X B E b h)(z:dj X B E c k)
  (w:Q! (qA [j,i] [b,c]=e_) Q4!):ph X B E (.Compare a [j,i] [b,c] pos) (yx f n g h k):=
 PT.imp (Uc u m I C z w) λσ H Q ⟨G,U,R,q⟩=>Q4 s l ⟨G,U,R,q.am λd T ⟨b,J,p⟩ v O N L M=>by
  subst J;exact⟨b,M,p O N L⟩⟩
noncomputable def mv:D->D->f_ D
 |.int i,.int j=>a_ (.int (i+j))
 |.str x,.str y=>if x.length+y.length<=aG then a_ (.str (x++y))else c_
 |.a8 xs,.a8 c=>if xs.length+c.length<=aG then a_ (.a8 (xs++c))else c_
 |.ci xs,.ci c=>if xs.length+c.length<=aG then a_ (.ci (xs++c))else c_
 |_,_=>c_
inductive rAddD(K:KA)(x:V)(y:V)(H:Hp)(Q:VK):Prop
 |mk (G dx dy d) (_:a6 G H) (_:Arg K G H dx x) (_:Arg K G H dy y) (_:mv dx dy=a_ d) (_:∀v G' H',c6 G H G' H'->gy K G' d v->Q v H'):rAddD K x y H Q
def Qn{j:aV}{w:bP}{A:bT}{E:aC->aE->Prop}{s:aE}{l b:g_}{i f:b_ aC}{Q:aC->aE->Prop}(C:PlainL s.1 l i.toArray)(G:PlainL s.1 b f.toArray)(hz:_7 i+_7 f<=aG)
  (h:Q (.ref s.1.1.size) {s with heap:=s.1.push {cls:=.type "list",data:=.seq (i++f).toArray}}):aP (aW j w) A (fS .Add (.ref l) (.ref b)) Q E s:=by
 obtain⟨⟨cls,J,data,y⟩,n,r,c,d,q⟩:=C;obtain⟨⟨v,I,data2,o⟩,z,m,x,u,p⟩:=G;simp only at c d q x u p;subst c d q x u p;have H:i.toArray++f.toArray=(i++f).toArray:=by simp
 refine pL ⟨_,r,_6⟩ ⟨_,m,_6⟩ noFill_list_add seq_list_add PySem.F.slot_list_add PySem.F.entry_list_add (PySem.F.args_list_add_2 _ _) (list_addW l b i.toArray f.toArray n z _ _ y o (by simpa using hz)) ⟨r,m,?_⟩;rw[H];exact h
def Q2{c:aV}{w:bP}{A:bT}{E:aC->aE->Prop}{s:aE}{t b:g_}{j o:b_ aC}{Q:aC->aE->Prop}(z:iJ s.1 t j.toArray)(C:iJ s.1 b o.toArray)(y:j=[])(G:Q (.ref b) s):
  aP (aW c w) A (fS .Add (.ref t) (.ref b)) Q E s:=by
 obtain⟨⟨cls,H,data,v⟩,p,r,n,q⟩:=id z;obtain⟨⟨u,m,data2,l⟩,d,i,x,f⟩:=id C;simp only at r q i f;subst r q i f;exact pL ⟨_,p,_6⟩ ⟨_,d,_6⟩ oZ C? lF kX (kA _ _)
  (tuple_addW0 t b j.toArray o.toArray n x H m v l (by simp[y])) ⟨p,d,G⟩
set_option tactic.hygienic true in
def Xt:n5 X (fS .Add) (rAddD (kx X)):=by
 intro i s σ H x y v u Q I o n q;obtain⟨G,dx,dy,d,f,J,C,c,q⟩:=q;unfold mv at c;split at c
 .cases c;rw[J.int]at o;rw[C.int]at n;exact DT i s σ H _ _ _ _ Q I o n ⟨_,_,_6,_6,q _ G H (c6.refl f) _6⟩
 .split at c
  .rename_i Y;cases c;rw[J.str]at o;rw[C.str]at n;exact Ko i s σ H _ _ _ _ Q I o n ⟨_,_,_6,_6,Y,q _ G H (c6.refl f) _6⟩
  .cases c
 .split at c
  .rename_i xs O Y;cases c;obtain⟨l,w,rfl,M,dl⟩:=J.a8 f;obtain⟨b,L,rfl,m,j⟩:=C.a8 f;cases o;cases n;obtain⟨U,N,pl,_⟩:=I.list M;obtain⟨A,r,T,_⟩:=I.list m;have l1:=dl.length;have l2:=j.length;have l3:=N.length;have l4:=r.length;refine Qn pl T (by lia) ⟨.ref _,_,I.lnew (t':=s.toks) (N.append r) (by rw[bS];lia),_6,?_⟩;exact q _ (c0 G s.1.1.size (.a8 (w++L))) _ (c6.new f _ I.fresh) (m9 f I.fresh (dl.append j))
  .cases c
 .split at c
  .rename_i xs O Y;cases c;obtain⟨l,w,rfl,M,dl⟩:=J.ci f;obtain⟨b,L,rfl,m,j⟩:=C.ci f;have l1:=dl.length;have l2:=j.length
   by_cases hx:w=[]
   .cases o;cases n;obtain⟨U,N,p1,_⟩:=I.tuple M;obtain⟨A,r,p2,_⟩:=I.tuple m;refine Q2 p1 p2 (N.re.mpr hx) ⟨.ref b,H,I,_6,?_⟩;subst hx;have:xs=[]:=by cases xs with
     |nil=>rfl
     |cons _ _=>simp at l1
    subst this;obtain ad|⟨_,_,_,z,_⟩|⟨_,_,_,z,_⟩|⟨_,_,_,z,_⟩:=C
    .exact q _ G H (c6.refl f) ad
    .cases z
    .cases z
    .cases z
   .refine Xu i s σ H _ _ _ _ Q I o n ⟨l,b,w,L,_6,_6,M,m,hx,by lia,λz=>?_,λz p hp=>?_⟩
    .subst z;have:O=[]:=by cases O with
      |nil=>rfl
      |cons _ _=>simp at l2
     subst this;rw[dZ]at q;obtain ad|⟨_,_,_,z,_⟩|⟨_,_,_,z,_⟩|⟨_,_,_,z,_⟩:=J
     .exact q _ G H (c6.refl f) ad
     .cases z
     .cases z
     .cases z
    .exact q _ (c0 G p (.ci (w++L))) _ (c6.new f _ hp) (gz f hp (dl.append j))
  .cases c
 .cases c
def T5{K:KA}:dq K mv (rAddD K):=λG H x y j i d c m l f Q q=>⟨G,j,i,d,c,m,l,f,q⟩
def Ue(d:dj X B E a g)(c:dj X B E b h):ck X B E (.BinOp a .Add b pos) (g2 mv g h):=B5 Xt T5 d c
def bt.atI{K:KA}{G:Hp}{f:b_ D}{c:b_ V}{i:n_}{d:D}(dl:bt K G f c)(h:atI f i=a_ d):∃v,atI c i=a_ v/\gy K G d v:=by
 unfold L2.atI at h⊢;rw[dl.length]at h;cases e:Zz c.length i with
 |none=>rw[e]at h;cases h
 |some j=>rw[e]at h;exact dl.get h
def GI{K:KA}{f:D->f_ D}{m:b_ V->Hp->VK->Prop}(p:∀G H x i d,a6 G H->Arg K G H i x->f i=a_ d->∀Q:VK,(∀v l j,c6 G H l j->gy K l d v->Q v j)->m [x] H Q){σ:St}{H:Hp}{Q:VK}(q:tPu K B E (g1 f g) σ H Q):
  QY m (tAl K B E [d_] (ac g af)) σ H Q:=by
 obtain⟨G,U,R,q⟩:=q;refine⟨G,U,R,?_⟩;unfold ac;unfold g1 at q;cases e:g U with
 |ok i=>rw[e]at q;obtain⟨d,r,o⟩:=dL.of (show dL E G H (bi.of (f i)) _ from q);intro C A z n y;obtain⟨v,rfl,w⟩:=h9.pv y;exact p A z v i d n.gh w r Q λv l j s u=>o v l j (n.trans s) u
 |er c=>rw[e]at q;exact q
 |st=>rw[e]at q;exact q
noncomputable def Ab:D->f_ D
 |.str x=>if x.length<=aG then a_ (.int x.length)else c_
 |.ci c=>a_ (.int c.length)
 |.a8 c=>a_ (.int c.length)
 |_=>c_
set_option tactic.hygienic true in
def EG{p:v_}(u:Gl X "len")(s:X.mg "len"=c_)(v:dj X B E e g)(o:Q! (aU [e] X.env=(e_,I_ e X.env)::aU [] X.env) Q2!)(m:Q! ((dW pos (aU [] X.env)).any (·.1)=e_) Q2!):ck X B E (.Call (.Name "len" p) [e] [] pos) (g1 Ab g):=
 PE.imp (jm Q1 u s PySem.boot_len (de v f9 o) (by decide) (by decide) o m) λσ H Q q=>GI (λG H x w d f n c Q q=>by
  unfold Ab at c;split at c
  .split at c
   .rename_i r;cases c;rw[n.str];exact⟨_,_,_6,⟨r,_6⟩,q _ G H (c6.refl f) _6⟩
   .cases c
  .cases c;obtain⟨l,i,rfl,j,dl⟩:=n.ci f;exact⟨_,_,_6,.inr ⟨i,j,dl.length⟩,q _ G H (c6.refl f) _6⟩
  .cases c;obtain⟨l,i,rfl,j,dl⟩:=n.a8 f;exact⟨_,_,_6,.inl ⟨i,j,dl.length⟩,q _ G H (c6.refl f) _6⟩
  .cases c) q
noncomputable def Zg:D->f_ F_
 |.fm=>a_ "NoneType"
 |.bl _=>a_ "bool"
 |.int _=>a_ "int"
 |.str _=>a_ "str"
 |.ci _=>a_ "tuple"
 |.a8 _=>a_ "list"
 |.h7 _ _=>a_ "dict"
 |_=>c_
noncomputable def Wa(t c:F_):l_:=t==c||(t=="bool"&&c=="int")
def cm(c:F_)(d:D):f_ D:=match Zg d with
 |some t=>a_ (.bl (Wa t c))
 |none=>c_
end
end Pu
namespace L2
structure Noted(fr:b_ g_)(e:g_)(h h':r_):Prop where
 keep:∀b o,b≠e->b∉fr->h.get? b=a_ o->h'.get? b=a_ o
 slot:∀b o,b≠e->h.get? b=a_ o->∃sl,h'.get? b=a_ {o with slots:=sl}
 size:h.objs.size<=h'.objs.size
structure Rec(h:r_)(e T:g_)(cls:aC)(v2:f_ aC)(d:f_ g_):Prop where
 rL:∃oe vs,h.get? e=a_ oe/\oe.cls=cls/\oe.data=.fields vs/\vs[1]?=a_ (.ref T)/\vs[2]?=v2
 tb:∃oT ts,h.get? T=a_ oT/\oT.data=.fields ts/\3<ts.size
 ne:T≠e
 dc:∀o,h.get? e=a_ o->o.dict=d
structure Chg(fr:b_ g_)(ch:g_->Prop)(h h':r_):Prop where
 keep:∀b o,¬ch b->b∉fr->h.get? b=a_ o->h'.get? b=a_ o
 slot:∀b o,¬ch b->h.get? b=a_ o->∃sl,h'.get? b=a_ {o with slots:=sl}
 size:h.objs.size<=h'.objs.size
inductive Late(cls:aC):Prop
 |mk (C) (_:C∈Pu.rg) (_:cls=.ref C):Late cls
structure qJ(h0 h:r_)(H:Hp)(a:g_)(cls:aC):Prop where
 new:h0.get? a=c_
 free:H a=c_
 h7:(∀o,h.get? a=a_ o->o.dict=c_)\/Late cls
 obj:∃oe vs,h.get? a=a_ oe/\oe.cls=cls/\oe.data=.fields vs/\1<vs.size/\(vs[2]?=a_ .none\/Late cls)/\(vs[1]?=a_ .none\/∃T oT ts,vs[1]?=a_ (.ref T)/\h0.get? T=c_/\T≠a/\H T=c_/\h.get? T=a_ oT/\oT.data=.fields ts/\3<ts.size)
inductive HasTb(h:r_)(a:g_):Prop
 |mk (oe vs T) (_:h.get? a=a_ oe) (_:oe.data=.fields vs) (_:vs[1]?=a_ (.ref T)):HasTb h a
def qJ.nk{i g h:r_}{H:Hp}{a:g_}{cls:aC}(x:qJ i h H a cls)(f:∀b,i.get? b=c_->g.get? b=c_):qJ g h H a cls:=by obtain⟨o,m,q,s,r,d,e,c⟩:=x.obj;exact⟨f a x.new,x.free,x.h7,o,m,q,s,r,d,e,c.imp_right λ⟨T,p,n,j,l,z⟩=>⟨T,p,n,j,f T l,z⟩⟩
section
variable{M:_q}{A:bT}{E:aC->aE->Prop}{s:aE}
def Gk{base:r_}{g:T_}{f:b_ T_}{L e:g_}{l:D_}{w:q_ aC}{head:aC}{nx:l_}{Q:_r->aE->Prop}
  (G:A.frames=a_ (g::f))(O:s.1.FunFrames base (g::f))(hf:g.frame=a_ L)(U:s.1.get? e=a_ l)(H:l.data=.fields w)(r:1<w.size)
  (h:∀I T,s.1.1.size<=T->Noted (vp (g::f)) e s.1 I->Rec I e T l.cls w[2]? l.dict->Q () {s with heap:=I}):
  aP M A (do let a <-frameOf g;let x <-entryPlaceOf L nx;let b <-_J head a .none (cX L) .none x;pB (.ref e) 1 b) Q E s:=by
 have B:e∉vp (g::f):=λz=>by obtain⟨_,u,N,nf⟩:=O.mem z;rw[U]at N;cases N;exact nf w H
 refine aA (wpAny_frameOf_fun G O hf λi n=>aA (wpAny_entryPlaceOf λx C=>?_));unfold _J newFields;refine aA (cR ?_ (C.sizeOk5 _ _ _ _ _));have g1:i.get? e=a_ l:=(n.2.1 e B).trans U;generalize p:({cls:=jF "traceback",dict:=c_,data:=.fields ([head,bH L,bV,cX L,bV]++(if x.isEmpty then aT 6 bV else x)).toArray}:D_)=m;have g2:=aB (h:=i) m g1;have ne:i.objs.size≠e:=cE (aM g1);have d3:=fN H (·.setIfInBounds 1 (bH i.objs.size));have Y:=dR (iZ (·.setIfInBounds 1 (bH i.objs.size))) g2 (jA d3);have j:m.isFreed=e_:=by rw[<-p];rfl
 have t3:=(cF (i.push m) (iZ (·.setIfInBounds 1 (bH i.objs.size))) (cW ne)).trans (aI i j);have dT:∃y,m.data=.fields y/\3<y.size:=by rw[<-p];exact⟨_,_6,by simp only[aX,bS,aR,gD]<;>lia⟩
 obtain⟨y,dT,s3⟩:=dT;have all:∀b o,b≠e->i.get? b=a_ o->((i.push m).update e (iZ (·.setIfInBounds 1 (bH i.objs.size)))).get? b=a_ o:=λb o v q=>by rw[cF _ _ (cW v)];exact aB _ q
 refine gW g2 H r (h _ i.objs.size (by rw[n.1];exact aL _) ⟨λb o v hn q=>all b o v ((n.2.1 b hn).trans q),λb o v q=>?_,?_⟩ ⟨⟨_,_,Y,oG _ _,d3,by simp[r],by simp⟩,⟨_,_,t3,dT,s3⟩,ne,λo z=>(by rw[Y]at z;cases z;obtain⟨c,d,dt,J⟩:=l;cases dt<;>rfl)⟩)
 .obtain⟨J,q'⟩:=n.2.2 b o q;exact⟨J,all b _ v q'⟩
 .rw[pC,bX,n.1];exact hW _
def Dt{e:aC}{b a:T_}(h:a.frame=b.frame):nN e a=nN e b:=by unfold nN PySem.frameOf;rw[h]
def Mv{U:r_}{H:Hp}{base:r_}{l n:T_}{f:b_ T_}{L a:g_}{cls:aC}{Q:_r->aE->Prop}
  (N:A.frames=a_ (l::f))(hl:s.1.FunFrames base (l::f))(hf:l.frame=a_ L)(ι:n.frame=a_ L)(x:qJ U s.1 H a cls)(iV:∀T,s.1.1.size<=T->U.get? T=c_/\H T=c_)
  (h:∀g ch,(∀b,ch b->U.get? b=c_/\H b=c_)->Chg (vp (l::f)) ch s.1 g->qJ U g H a cls->HasTb g a->Q () {s with heap:=g}):aP M A (nN (.ref a) n) Q E s:=by
 rw[Dt (ι.trans hf.symm)];obtain⟨oe,Y,v,hc,O,I,κ,η⟩:=x.obj;unfold nN;simp only[hf];have j:∀{g T},s.1.1.size<=T->Rec g a T oe.cls Y[2]? oe.dict->qJ U g H a cls/\HasTb g a:=λ{g T} B hR=>by obtain⟨⟨G,C,x1,x2,x3,x4,x5⟩,⟨oT,ts,y1,y2,y3⟩,p,dc⟩:=hR;exact⟨⟨x.new,x.free,x.h7.imp_left λd o e=>(dc o e).trans (d oe v),G,C,x1,x2.trans hc,x3,(Array.getElem?_eq_some_iff.mp x4).1,by rw[x5];exact κ,.inr ⟨T,oT,ts,x4,(iV T B).1,p,(iV T B).2,y1,y2,y3⟩⟩,G,C,T,x1,x3,x4⟩
 obtain h1|⟨T,oT,ts,h1,θ,p,μ,B,u,h3⟩:=η
 .refine aA (bU v O h1 ?_);rw[aJ (by decide)];exact Gk N hl hf v O I λg T q b c=>h g (λb=>b=a) (λb z=>z▸⟨x.new,x.free⟩) ⟨λm o q r z=>b.keep m o q r z,λm o q z=>b.slot m o q z,b.size⟩ (j q c).1 (j q c).2
 .refine aA (bU v O h1 ?_);rw[aO (show(bH T !=bV)=d_ by simp)];refine aA (bU B u (cC h3) ?_)
  by_cases q3:(ts[3]==cX L)=d_
  .rw[aO q3];exact aD (h s.1 (λZ=>L_) (λZ z=>z.elim) ⟨λb o Z Z q=>q,λb o Z q=>⟨o.slots,q⟩,aL _⟩ x ⟨oe,Y,T,v,O,h1⟩)
  .rw[aJ q3];refine aA (gW B u h3 ?_);have i:∀b,b≠T->(s.1.update T (iZ (·.setIfInBounds 3 bV))).get? b=s.1.get? b:=λb hb=>cF _ _ (cW hb);have J:∀b o,s.1.get? b=a_ o->(∀Y,o.data≠.fields Y)->b≠T:=λb o q nf z=>by rw[z,B]at q;cases q;exact nf ts u
   have sz:(s.1.update T (iZ (·.setIfInBounds 3 bV))).objs.size=s.1.1.size:=pC ..;refine Gk N (hl.of_keeps λb o q nf=>⟨o,(i b (J b o q nf)).trans q,_6⟩) hf ((i a (cW p)).trans v) O I λg T' q b c=>h g (λb=>b=a\/b=T) (λb z=>?_) ⟨λm o q z w=>b.keep m o (λy=>q (.inl y)) z ((i m λy=>q (.inr y)).trans w),λm o q w=>b.slot m o (λy=>q (.inl y)) ((i m λy=>q (.inr y)).trans w),cB (eZ sz.symm) b.size⟩ (j (cB (eZ sz.symm) q) c).1 (j (cB (eZ sz.symm) q) c).2;obtain rfl|rfl:=z
   .exact⟨x.new,x.free⟩
   .exact⟨θ,μ⟩
def Jp{v:r_}{H:Hp}{a:g_}{cls:aC}{L:f_ g_}{fr:b_ g_}{Q:_r->aE->Prop}(x:qJ v s.1 H a cls)
  (h:∀w C,(∀b,C b->v.get? b=c_/\H b=c_)->Chg fr C s.1 w->qJ v w H a cls->Q () {s with heap:=w}):aP M A (S? (.ref a) L) Q E s:=by
 obtain⟨I,G,n,J,p,m,r,l⟩:=x.obj;unfold S?;obtain j|⟨T,O,N,j,g,c,i,y,f,B⟩:=l
 .refine aA (bU n p j ?_);rw[aJ (by decide)];exact aD (h s.1 (λZ=>L_) (λZ z=>z.elim) ⟨λb o Z Z q=>q,λb o Z q=>⟨o.slots,q⟩,aL _⟩ x)
 .refine aA (bU n p j ?_);rw[aO (show(bH T !=bV)=d_ by simp)];refine gW y f B (h _ (λb=>b=T) (λb z=>z▸⟨g,i⟩) ⟨λb o u Z q=>?_,λb o u q=>⟨o.slots,?_⟩,eZ (pC ..).symm⟩ ⟨x.new,x.free,x.h7.imp_left λd o e=>d o (by rwa[cF _ _ c]at e),I,G,?_,J,p,m,r,.inr ⟨T,_,_,j,g,c,i,dR _ y (jA (fN f _)),fN f _,by simp[B]⟩⟩)
  .rw[cF _ _ (cW u)];exact q
  .rw[cF _ _ (cW u)];exact q
  .rw[cF _ _ c];exact n
end
section
variable{X:Cx}{au:b_ (g_×D_)}{σ:St}{H:Hp}{s:aE}
def a9.noted(J:a9 X au σ H s){B:r_}(C:g_->Prop)(a:∀b,C b->X.kt.1.get? b=c_/\H b=c_/\b≠X.env.locals/\(∀x c,X.env.cells.lookup x=a_ c->c≠b)/\∀p∈X.pn++au,p.1≠b)
  (I:∀b o,¬C b->b∉vp X.stack->s.1.get? b=a_ o->B.get? b=a_ o)(y:∀b o,¬C b->s.1.get? b=a_ o->∃g,B.get? b=a_ {o with slots:=g}):a9 X au σ H {s with heap:=B}:=by
 have f:∀b o,X.kt.1.get? b=a_ o->¬C b:=λb o e z=>by rw[(a b z).1]at e;cases e
 have cq:∀b,b≠X.env.locals->b∉X.fs->b∉vp X.stack:=λb h1 h2 z=>(o_.mp (J.qS b z)).elim h1 h2;have G:∀b o,X.kt.1.get? b=a_ o->b≠X.env.locals:=λb o e=>bE (bM (aM e) J.ok.above);have d:∀x c,X.env.cells.lookup x=a_ c->∀v,s.1.IsCell c v->B.IsCell c v:=λx c e v ⟨o,L,hd⟩=>by obtain⟨g,q⟩:=y c o (λz=>(a c z).2.2.2.1 x c e _6) L;exact⟨_,q,hd⟩
 refine⟨J.ok,J.os,J.ln,⟨λb o e n A h=>?_,λb o e n A h=>?_,J.base.free,λb o e h=>?_,J.base.qM,J.base.nw,J.base.qw⟩,?_,λx c e=>?_,J.free,J.oD,λp N=>?_,λb o q=>?_,J.len⟩
 .exact I b o (f b o e) (cq b (G b o e) A) (J.base.keep b o e n A h)
 .obtain⟨g,w⟩:=J.base.slot b o e n A h;obtain⟨E,j⟩:=y b _ (f b o e) w;exact⟨E,j⟩
 .obtain⟨U,w⟩:=J.base.there b o e h;obtain⟨g,j⟩:=y b U (f b o e) w;exact⟨_,j⟩
 .obtain⟨m,⟨o,es,ep,L,r⟩,Y⟩:=J.qX;obtain⟨g,q⟩:=y X.env.locals o (λz=>(a _ z).2.2.1 _6) L;refine⟨m,⟨_,es,ep,q,r⟩,λi x v w j e3=>?_⟩;obtain⟨u,T,l⟩:=Y i x v w j e3;refine⟨u,T,?_⟩;obtain l|⟨k,c,e,z⟩:=l
  .exact .inl l
  .exact .inr ⟨k,c,e,d x c e _ z⟩
 .obtain⟨v,z⟩:=J.cell x c e;exact⟨v,d x c e v z⟩
 .obtain⟨a1,a2,Q,O,a5⟩:=J.q0 p N;exact⟨I p.1 p.2 (λz=>(a _ z).2.2.2.2 p N _6) (cq _ Q O) a1,a2,Q,O,a5⟩
 .refine(J.e6 b o q).qZ (λc u M r=>?_) (λZ z=>z) λZ Z z=>z;have tr:∃v,H c=a_ v:=by
   obtain rfl|M:=M
   .exact⟨o,q⟩
   .exact⟨_,M⟩
  obtain⟨v,tr⟩:=tr;refine I c u (λz=>?_) (λz=>?_) r
  .rw[(a c z).2.1]at tr;cases tr
  .rw[J.stkFree c z]at tr;cases tr
def a9.young{i:Hp}{d:aE}(I:a9 X au σ i d)(g:X.ex=[]){b:g_}(z:d.1.get? b=c_):X.kt.1.get? b=c_/\b≠X.env.locals/\(∀x c,X.env.cells.lookup x=a_ c->c≠b)/\∀p∈X.pn++au,p.1≠b:=by
 refine⟨?_,?_,λx c e y=>?_,λp h y=>?_⟩
 .cases r:X.kt.1.get? b with
  |none=>rfl
  |some o=>obtain⟨j,f⟩:=I.base.there b o r (by rw[g];simp);rw[z]at f;cases f
 .rintro rfl
  obtain⟨m,⟨o,n,q,a,r⟩,l⟩:=I.qX;rw[z]at a;cases a
 .subst y;obtain⟨v,o,a,_⟩:=I.cell x c e;rw[z]at a;cases a
 .subst y;rw[(I.q0 p h).1]at z;cases z
end
def Gm{P:aV}{w:bP}{H:Hp}{h:r_}{a:g_}{o:HO}(x:fb P w H h a o):∃u,h.get? a=a_ u:=by
 cases o with
 |a8 xs=>obtain⟨_,_,_,_,e⟩:=x;exact⟨_,e⟩
 |ci xs=>obtain⟨_,_,_,u,e,_⟩:=x;exact⟨_,e⟩
 |dK b=>obtain⟨_,_,_,_,o,_,_,e,_⟩:=x;exact⟨_,e⟩
 |dT b=>obtain⟨_,_,_,_,o,_,_,e,_⟩:=x;exact⟨_,e⟩
 |set S n=>obtain⟨o,_,_,_,e,_⟩:=x;exact⟨_,e⟩
 |rK C g fs=>obtain⟨_,_,_,e,_⟩:=x;exact⟨_,e⟩
 |own y=>exact x
 |xd fs=>obtain⟨_,⟨_,_,_,e,_⟩,_⟩:=x;exact⟨_,e⟩
 |rng lo d=>obtain⟨_,_,_,e⟩:=x;exact⟨_,e⟩
 |n4 c u=>obtain⟨e,_⟩:=x;exact⟨_,e⟩
 |tbl q=>obtain⟨ps,e,_⟩:=x;exact⟨_,e⟩
 |met f y=>exact⟨_,x⟩
 |ext φ=>obtain⟨_,e,_⟩:=x;exact e
def Sg{P:aV}{w:bP}{H:Hp}{h:r_}{a:g_}(x:qb P w H h)(e:h.get? a=c_):H a=c_:=by
 cases q:H a with
 |none=>rfl
 |some o=>obtain⟨u,z⟩:=Gm (x a o q);rw[e]at z;cases z
def Bb(P:aV)(w:bP):Lf:=λb H s E e c=>∃a cls d,e=.ref a/\c.os=s.os/\nE c.gens/\Un (vp b) [] H d s.1 c.1/\qb P w d c.1/\qJ s.1 c.1 d a cls/\E cls c_ d
def Acc(X:Cx)(E:XK):Prop:=∀(b:b_ (g_×D_))(σ:St)(d:Hp)(c:aE)(H:Hp)(s:aE)(a:g_)(cls:aC),a9 X b σ d c->a9 X b σ H s->(∀T,s.1.1.size<=T->c.1.get? T=c_)->qJ c.1 s.1 H a cls->E cls c_ H->X.xe (.ref a) s
def Acc.goes{X:Cx}{E:XK}(A:Acc X E):jh (Bb X.prog X.w) X E:=λd σ H s e h I c=>by
 obtain⟨a,cls,m,rfl,os,f,un,g,l,q⟩:=c;refine A d σ H s m h a cls I (I.call' os un g f (λb z=>u_ z (by simp))) (λT j=>?_) l q;cases r:s.1.get? T with
 |none=>rfl
 |some o=>obtain⟨n,i⟩:=un.there T o r (by simp);exact u_ (bM (aM i) j) (cQ _)
def m5{X:Cx}:Acc X E0:=λz z z z z z z z z z z z q=>q.elim
def a9.chg{X:Cx}{a:b_ (g_×D_)}{σ:St}{h H:Hp}{e s:aE}{h':r_}{d:g_->Prop}(g:X.ex=[])(I:a9 X a σ h e)(J:a9 X a σ H s)(n:∀b,d b->e.1.get? b=c_/\H b=c_)(c:Chg (vp X.stack) d s.1 h'):a9 X a σ H {s with heap:=h'}:=
 J.noted d (λb f=>have y:=I.young g (n b f).1;⟨y.1,(n b f).2,y.2⟩) c.keep c.slot
def Er{P:aV}{w:bP}{K:aK}{l:k_->f_ aC}{base:r_}{N:b_ k_}{g:k_}{c:eL}{f:g_}{n:aC}{A:bT}{d:b_ T_}{e:aE}{h:Hp}{E:XK}:
  Acc (ly (Bb P w) P w K l base N g c f n A d e h E) E:=λj σ Q M H s a cls I J r y q=>by
 show aP _ _ (leaving _ (.ref a)) _ _ _;unfold leaving;refine aA (Mv J.ok.frames J.stack _6 _6 y (λT m=>⟨r T m,J.e6.fresh m⟩) λO C v c1 p Z=>Jp (fr:=vp (ly (Bb P w) P w K l base N g c f n A d e h E).stack) p λx B u G o=>?_);have L:=a9.chg _6 I J v c1;have i:=a9.chg (h':=x) _6 I L u G;exact⟨a,cls,H,_6,i.os,i.ln,i.base,i.e6,o.nk λb z=>(I.young _6 z).1,q⟩
end L2
namespace Pu
open L2
def qj{a b:h_}(h:a<b):a≠b+1:=by lia
def LN{a b n:h_}(h:b<n)(e:a=n+2)(z:a=b):L_:=by lia
def QA{a n:h_}(e:a=n+2):a≠n/\n<=a:=by lia
def Te{b:h_}:b+1≠b:=by lia
instance:Inhabited D:=⟨.fm⟩
def Cm{a:aV}{w:bP}{A:bT}{R:_G->aE->Prop}{s:aE}{B d iter:Expr}{z:b_ Expr}{j:eL}{G:v_}{M C:aC}{b:T_}(I:h_->aE->Prop)
   (E:∀n s,I n s->aP (aW a w) A (eY M) (λr f=>match r with
   |none=>R (.ok .next) f
   |some v=>aP (aW a w) A (mY d M v) (λZ f=>aP (aW a w) A (assign d b v) (λZ u=>
     aP (aW a w) A (forIn z d_ λc r=>if r=d_ then do let ok <-isTrue c b (I_ c b);pure (hV ok)else pure (hV r)) (λok i=>
      if ok=d_ then aP (aW a w) A (I_ B b) (λx q=>
       aP (aW a w) A (call (.builtin "list.append") [C,x]) (λZ p=>∃m,m<n/\I m p) (nH (aW a w) A b λe l=>R (.error e) l) q) (nH (aW a w) A b λe l=>R (.error e) l) i
      else∃m,m<n/\I m i) (nH (aW a w) A b λe l=>R (.error e) l) u) (nH (aW a w) A b λe l=>R (.error e) l) f) (nH (aW a w) A b λe l=>R (.error e) l) f) (nH (aW a w) A b λe l=>R (.error e) l) s)
  (n:h_) (h:I n s):
  gX (aW a w) A (.compLoop (.ListComp B [⟨d,iter,z,0⟩] j G) 0 M C b) R s:=by
 refine codeAny_loop _6 I (λn s O=>?_) n h;show aP _ A ((compTurn (.ListComp B [⟨d,iter,z,0⟩] j G) 0 M C b).onRaise (λx=>do nN x b;theTreesLotGoes x)) _ _ s;refine wpAny_noted ?_;rw[compTurn_list];refine aA (D? (aA (cA (E n s O) (λr f g=>?_) λZ Z o=>o)));cases r with
 |none=>exact aD g
 |some v=>
  refine aA (cA g (λZ N g=>?_) λZ Z o=>o);refine aA (cA g (λZ u L=>aA (cA L (λok i y=>?_) λZ Z o=>o)) λZ Z o=>o);cases ok with
  |false=>exact aD ⟨_6,y⟩
  |true=>exact aA (aA (cA y (λx q J=>aA (cA J (λZ p H=>aD (aD ⟨_6,H⟩)) λZ Z o=>o)) λZ Z o=>o))
noncomputable def gx(a:T_):b_ (k_×gK)->b_ (k_×g_)->f_ (b_ (k_×g_))
 |[],b=>a_ b
 | (n, k) :: r, b => if k = .free then (match a.cells.lookup n with
  |some c=>gx a r ((n,c)::b)
  |none=>c_)else gx a r b
theorem va(b:T_):∀(d:b_ (k_×gK))(f e:b_ (k_×g_)),gx b d f=a_ e->
  (forIn d f λx (c:b_ (k_×g_))=>(if(x.2==fQ)=d_ then do let a <-cellOf b x.1;pure (hV ((x.1,a)::c))else pure (hV c):N! _))=pure e
 |[],f,e,h=>by cases h;rfl
 |(n,k)::r,f,e,h=>by
  unfold gx at h;rw[iW]
  by_cases g:k=.free
  .subst g;simp only[K_]at h;cases i:b.cells.lookup n with
   |none=>rw[i]at h;cases h
   |some c=>
    rw[i]at h;have:cellOf b n=pure c:=by unfold cellOf;rw[i]
    simp only[U_,K_,this,pure_bind];exact va b r _ e h
  .rw[aJ g]at h;have j:(k==fQ)=e_:=by simpa using g
   simp only[j,m_,A_,pure_bind];exact va b r _ e h
def qz{a:eL}{b:T_}{c:b_ (k_×g_)}(h:gx b a.names []=a_ c):closureFor a b=pure c:=by have q:=va b a.names [] c h;unfold closureFor;exact(C_ (λt=>t>>=λd=>pure d) q).trans (pure_bind _ _)
theorem ro(a:T_):∀(b:b_ (k_×gK))(e d:b_ (k_×g_)),gx a b e=a_ d->(∀p∈e,a.cells.lookup p.1=a_ p.2)->∀p∈d,a.cells.lookup p.1=a_ p.2
 |[],e,d,h,q=>by cases h;exact q
 |(n,k)::r,e,d,h,q=>by
  unfold gx at h
  by_cases i:k=.free
  .subst i;simp only[K_]at h;cases g:a.cells.lookup n with
   |none=>rw[g]at h;cases h
   |some c=>
    rw[g]at h;refine ro a r _ d h λp f=>?_;rcases o_.mp f with rfl|f
    .exact g
    .exact q p f
  .rw[aJ i]at h;exact ro a r _ d h q
theorem md{β:Type}:∀{l:b_ (k_×β)}{x:k_}{c:β},l.lookup x=a_ c->(x,c)∈l
 |[],_,_,h=>by simp at h
 |(n,b)::r,x,c,h=>by
  rw[dA]at h
  by_cases e:x=n
  .subst e;simp only[U_]at h;cases h;exact bI
  .have a:(x==n)=e_:=by simpa using e
   rw[a]at h;exact bJ _ (md h)
noncomputable def Em(own:b_ k_)(c:g_)(a:b_ (k_×g_)):b_ (k_×g_):=match own with
 |[]=>a
 |x::_=>(x,c)::a
def jj{own:b_ k_}{c d:g_}{a:b_ (k_×g_)}{y:k_}(h:(Em own c a).lookup y=a_ d):a.lookup y=a_ d\/(y∈own/\@Eq h_ d c):=by
 cases own with
 |nil=>exact .inl h
 |cons x r=>
  have h:((x,c)::a).lookup y=a_ d:=h;rw[dA]at h
  by_cases e:y=x
  .subst e;simp only[U_]at h;cases h;exact .inr ⟨bI,_6⟩
  .have b:(y==x)=e_:=by simpa using e
   rw[b]at h;exact .inl h
def Q9{own:b_ k_}{c:g_}{a:b_ (k_×g_)}{y:k_}(h:y∉own):(Em own c a).lookup y=a.lookup y:=by
 cases own with
 |nil=>rfl
 |cons x r=>have b:(y==x)=e_:=w_.mpr λz=>h (z▸bI);show((x,c)::a).lookup y=_;rw[dA,b]
def Lo{own:b_ k_}{c:g_}{a:b_ (k_×g_)}{y:k_}(b:_7 own<=1)(h:y∈own):(Em own c a).lookup y=a_ c:=by
 match own,b,h with
 |[x],_,h=>rw[N_.mp h];show((x,c)::a).lookup x=_;simp
theorem lx:∀(b:b_ (k_×gK))(a:g_)(c:b_ (k_×g_)),jT a b c=jT a (b.filter λy=>y.2==.cell) c
 |[],_,_=>rfl
 |(n,k)::r,a,c=>by
  rw[D!]
  by_cases d:(k==eM)=d_
  .rw[aO d];unfold jT;rw[aO d,aO d];exact lx r _ _
  .rw[aJ d]
   conv=>lhs;unfold jT
   rw[aJ d];exact lx r _ _
theorem o8:∀(a:b_ (k_×gK))(h:r_),qD h a=qD h (a.filter λy=>y.2==.cell)
 |[],_=>rfl
 |(n,k)::r,h=>by
  rw[D!]
  by_cases b:(k==eM)=d_
  .rw[aO b];unfold qD;rw[aO b,aO b];exact o8 r _
  .rw[aJ b]
   conv=>lhs;unfold qD
   rw[aJ b];exact o8 r _
def V5{M:_q}{A:bT}{E:aC->aE->Prop}{s:aE}{a:eL}{g:g_}{m:b_ (k_×g_)}{q:k_}{f:T_}{own:b_ k_}{Q:T_->aE->Prop}(r:(a.names.filter λy=>y.2==.cell)=own.map λx=>(x,eM))(p:_7 own<=1)
  (h:∀i,i.Ns s.1.1.size (λz=>c_)->(∀b o,s.1.get? b=a_ o->i.get? b=a_ o)->(∀x∈own,i.IsCell (s.1.1.size+1) c_)->Q (newEnv a s.1.1.size g (Em own (s.1.1.size+1) m) q c_ .none (a_ f) kQ) {s with heap:=i}):
  aP M A (k? a g m [] q c_ .none (a_ f)) Q E s:=by
 simp only[k?,s?,K_];refine aA (wpAny_alloc ?_);refine aA (wpAny_layCells _ (λl c cells=>by cases j:c==eM<;>simp[j]) _ _ _ _ ?_);rw[jK];rw[show({s with heap:=s.1.push {cls:=.type "dict",data:=.dict #[]}}:aE).1.1.size=s.1.1.size+1 from bX ..,lx,o8,r];refine aA (aD (aD ?_));have d:=h (qD (s.1.push {cls:=.type "dict",data:=.dict #[]}) (own.map λx=>(x,eM))) ((Heap.Ns.new s.1 (.type "dict")).keeps (pushCells_keeps _ _)) (λb o e=>pushCells_keeps _ _ b o (aB _ e))
 match own,p with
 |[],_=>exact d λx n=>by cases n
 |[x],_=>exact d λz z=>⟨_,by
   show((s.1.push {cls:=.type "dict",data:=.dict #[]}).push {cls:=.type "cell",data:=.cell c_}).get? _=_;rw[show s.1.1.size+1=(s.1.push {cls:=.type "dict",data:=.dict #[]}).objs.size from(bX ..).symm];exact aI _ _6,_6⟩
def QF(X:Cx)(b:eL)(f:b_ (k_×g_))(C:g_):aC->aE->Prop:=nH (aW X.prog X.w) X.A (compEnvC b f C X.env) λe c=>∃m,c.1.Ns C m/\∀d,bN C c.1 d->∀a:T_,a.locals=C->aP (aW X.prog X.w) X.A (PySem.passOn "comprehension.variables-let-go" e a:N! aC) (λz z=>L_) X.xe {c with heap:=d}
noncomputable def d9(X:Cx)(a:eL)(b:b_ (k_×g_))(N:b_ k_)(xs:b_ k_)(C:g_)(kt:aE)(qP:Hp)(ex:b_ g_)(pn:b_ (g_×D_)):Cx where
 prog:=X.prog
 w:=X.w
 K:=kx X
 mg:=X.mg
 base:=X.base
 A:=X.A
 N:=N
 kt:=kt
 qP:=qP
 env:=compEnvC a b C X.env
 g8:=X.stack
 stack:=X.stack
 ex:=ex
 fn:=λy=>decide (y∈xs)
 calm:=X.calm
 pn:=pn
 xe:=QF X a b C
structure CapOk(X:Cx)(scope:eL)(cl:b_ (k_×g_))(y:k_)(i:h_):Prop where
 nz:X.N[i]?=a_ y
 vis:BY X.env.scope y
 nloc:X.env.kindOf y≠a_ .local
 cell:∃c,cl.lookup y=a_ c
 kind:(mL scope X.env).names.lookup y=a_ .cell\/(mL scope X.env).names.lookup y=a_ .free
def Caps(X:Cx)(a:eL)(c:b_ (k_×g_)):b_ k_->b_ h_->Prop
 |[],b=>b=[]
 |y::M,b=>∃i r,b=i::r/\CapOk X a c y i/\Caps X a c M r
theorem Caps.get{X:Cx}{a:eL}{f:b_ (k_×g_)}:∀{M:b_ k_}{c:b_ h_},Caps X a f M c->∀(j:h_) y,M[j]?=a_ y->∃i,c[j]?=a_ i/\CapOk X a f y i
 |[],_,_,j,y,h=>by simp at h
 |_::_,_,⟨i,r,b,e,d⟩,0,y,h=>by simp at h;subst h;subst b;exact⟨i,_6,e⟩
 |_::_,_,⟨i,r,b,e,d⟩,j+1,y,h=>by subst b;obtain⟨k,l,g⟩:=Caps.get d j y (by simpa using h);exact⟨k,by simpa using l,g⟩
theorem Caps.length{X:Cx}{a:eL}{e:b_ (k_×g_)}:∀{M:b_ k_}{b:b_ h_},Caps X a e M b->_7 M=_7 b
 |[],_,h=>by rw[show _=[]from h];rfl
 |_::_,_,⟨i,r,d,f,c⟩=>by rw[d,aR,aR,Caps.length c]
structure kO(X:Cx)(scope:eL)(cl:b_ (k_×g_))(own xs:b_ k_)(M:b_ k_)(ix:b_ h_):Prop where
 clos:gx X.env scope.names []=a_ cl
 kind:scope.kind=.function
 ocell:(scope.names.filter λy=>y.2==.cell)=own.map λx=>(x,eM)
 own1:_7 own<=1
 osub:∀x∈own,x∈xs
 names:∀y∈scope.names,y.2=.local->scope.names.lookup y.1=a_ .local
 qX:∀x∈xs,N1 scope x
 xcl:∀x∈xs,cl.lookup x=c_
 nd:(xs++M).Nodup
 ixd:ix.Nodup
 cap:Caps X scope cl M ix
section
variable{X:Cx}{scope:eL}{cl:b_ (k_×g_)}{own xs:b_ k_}{M:b_ k_}{ix:b_ h_}{au:b_ (g_×D_)}{σ:St}{H:Hp}{s:aE}{fp:b_ g_}
theorem j5(b:T_):∀(a:b_ (k_×gK))(d cl:b_ (k_×g_)),gx b a d=a_ cl->∀y,((∃c,d.lookup y=a_ c)\/(y,fQ)∈a)->∃c,cl.lookup y=a_ c
 |[],d,cl,h,y,q=>by
  cases h;obtain q|q:=q
  .exact q
  .simp at q
 |(n,k)::r,d,cl,h,y,q=>by
  unfold gx at h
  by_cases f:k=.free
  .subst f;simp only[K_]at h;cases g:b.cells.lookup n with
   |none=>rw[g]at h;cases h
   |some c=>
    rw[g]at h;refine j5 b r _ cl h y ?_
    by_cases e:y=n
    .subst e;exact .inl ⟨c,by simp⟩
    .obtain ⟨j,q⟩|q:=q
     .refine .inl ⟨j,?_⟩;have i:(y==n)=e_:=by simpa using e
      rw[dA,i];exact q
     .rcases o_.mp q with z|z
      .cases z;exact u_ _6 e
      .exact .inr z
  .rw[aJ f]at h;refine j5 b r _ cl h y ?_;obtain q|q:=q
   .exact .inl q
   .rcases o_.mp q with z|z
    .cases z;exact u_ _6 f
    .exact .inr z
def kO.free(O:kO X scope cl own xs M ix):∀y,(y,fQ)∈scope.names->∃c,cl.lookup y=a_ c:=λy h=>j5 X.env _ _ cl O.clos y (.inr h)
def kO.cells(O:kO X scope cl own xs M ix){y:k_}{c:g_}(h:cl.lookup y=a_ c):X.env.cells.lookup y=a_ c:=
 ro X.env _ _ cl O.clos (λp a=>by simp at a) (y,c) (md h)
def Dn{env:T_}{scope:eL}{y:k_}(h:(mL scope env).names.lookup y=a_ .cell\/(mL scope env).names.lookup y=a_ .free):(y,fQ)∈scope.names\/(y,eM)∈scope.names:=by
 have d:∃k,(y,k)∈(mL scope env).names/\(k=.cell\/k=.free):=by
  obtain h|h:=h
  .exact⟨_,md h,.inl _6⟩
  .exact⟨_,md h,.inr _6⟩
 obtain⟨k,g,b⟩:=d;obtain⟨⟨n,f⟩,a,e⟩:=Y_.mp g
 by_cases c:(f==fQ&&env.scope.kind==.function&&env.kindOf n==a_ .cell)=d_
 .simp only[c,K_]at e;cases e;have:f=.free:=by simp only[aH]at c;simpa using c.1.1
  subst this;exact .inl a
 .simp only[c,A_]at e;cases e;obtain b|b:=b
  .subst b;exact .inr a
  .subst b;exact .inl a
def kO.cellIn(O:kO X scope cl own xs M ix){y:k_}(h:(y,eM)∈scope.names):y∈own:=by have:(y,eM)∈scope.names.filter λy=>y.2==.cell:=Z_.mpr ⟨h,_6⟩;rw[O.ocell]at this;obtain⟨z,a,e⟩:=Y_.mp this;cases e;exact a
theorem uj{a:T_}:∀{b:b_ (k_×gK)}{x:k_},b.lookup x=a_ .cell->
  (b.map λ(n,k)=>if(k==fQ&&a.scope.kind==.function&&a.kindOf n==a_ .cell)then(n,eM)else(n,k)).lookup x=a_ .cell
 |[],_,h=>by simp at h
 |(n,k)::r,x,h=>by
  have d:=@uj a r x;show jI x ((if(k==fQ&&a.scope.kind==.function&&a.kindOf n==a_ .cell)=d_ then(n,eM)else(n,k))::_)=_;cases c:x==n with
  |true=>simp only[dA,c]at h;cases h;simp[dA,c]
  |false=>
   simp only[dA,c]at h
   by_cases e:(k==fQ&&a.scope.kind==.function&&a.kindOf n==a_ .cell)=d_
   .rw[aO e];simp only[dA,c];exact d h
   .rw[aJ e];simp only[dA,c];exact d h
def n9{a:T_}{x:k_}(h:N1 scope x):N1 (mL scope a) x:=h.imp (λh=>lookup_relabel_local h) λh=>uj h
def Wl(O:kO X scope cl own xs M ix)(I:a9 X au σ H s)(l:∀b∈fp,qI X au H b)(n:∀b∈fp,b<s.1.1.size){d:r_}(u:∀b o,s.1.get? b=a_ o->d.get? b=a_ o)(hz:d.objs.size=s.1.1.size+1){w:h_}:
  (d9 X scope (Em own (s.1.1.size+2) cl) (xs++M) xs (s.1.1.size+1) {s with heap:=d,toks:=w} (c0 H s.1.1.size (.a8 [])) fp (X.pn++au)).Ok:=by
 have iV:H s.1.1.size=c_:=I.e6.fresh (aL _);have nk:∀{b:g_}{o:D_},s.1.get? b=a_ o->b≠s.1.1.size:=λe z=>by have:=aM e;rw[z]at this;exact cQ _ this
 have cne:∀y c,cl.lookup y=a_ c->c<s.1.1.size:=λy c e=>by obtain⟨v,q⟩:=I.cell y c (O.cells e);exact q.lt
 have g:=I.ok;refine⟨g.q7,O.kind,g.rC,g.blt,?_,?_,?_,?_,g.hd,g.frames,.inl _6,?_,?_,?_,?_,?_,?_,?_⟩
 .show d.objs.size<=s.1.1.size+1
  lia
 .intro a b c d i;rcases jj d with d|⟨d,J⟩<;>rcases jj i with i|⟨i,G⟩
  .exact g.inj a b c (O.cells d) (O.cells i)
  .exact(LN (cne _ _ d) G _6).elim
  .exact(LN (cne _ _ i) J _6).elim
  .have E:=O.own1
   match own,E,d,i with
   |[x],_,d,i=>rw[N_.mp d,N_.mp i]
 .intro y m;rcases Dn (env:=X.env) (scope:=scope) (y:=y) m with h|h
  .by_cases j:y∈own
   .exact⟨_,Lo O.own1 j⟩
   .obtain⟨c,e⟩:=O.free _ h;exact⟨c,(Q9 j).trans e⟩
  .exact⟨_,Lo O.own1 (O.cellIn h)⟩
 .intro y c m C;have B:y∈xs:=y_ m;rcases jj C with h|⟨_,e⟩
  .rw[O.xcl y B]at h;cases h
  .show d.objs.size<=c
   lia
 .intro b f;have:=n b f;refine⟨?_,λy c e=>?_⟩
  .exact qj this
  .rcases jj e with e|⟨_,e⟩
   .exact(l b f).5 y c (O.cells e)
   .exact λz=>LN this e z
 .intro b o e;obtain⟨r,A⟩:=I.bs b o e;refine⟨u b o r,?_⟩;show c0 H s.1.1.size (.a8 []) b=c_;rw[aa (nk r)];exact A
 .show X.base.objs.size<=d.objs.size;have:=g.bsz;have:=I.sz
  lia
 .intro b o e f;rcases(l b f).4 with q|q
  .exact g.noex b o e q
  .exact u_ (bM (aM e) (cB g.bsz q)) (cQ _)
 .intro b f p;rcases o_.mp (I.qS b p)with e|e
  .exact(l b f).2 e
  .exact(l b f).3 e
 .exact I.stack.of_keeps λb o e Z=>⟨o,u b o e,_6⟩
 .intro b f;show c0 H s.1.1.size (.a8 []) b=c_;have q:=I.stkFree b f;obtain⟨_,o,j,_⟩:=I.stack.mem f;rw[aa (nk j)];exact q
def gq(σ:St)(ix:b_ h_)(os:b_ (f_ V)):St:=os++ix.map λi=>(σ[i]?).join
def Jb{σ:St}{os:b_ (f_ V)}(a:_7 os=_7 xs)(O:kO X scope cl own xs M ix):(gq σ ix os).length=(xs++M).length:=by unfold gq;rw[bS,bS,bB,a,O.cap.length]
def Q6(O:kO X scope cl own xs M ix)(I:a9 X au σ H s)(hf:∀b∈fp,qI X au H b)(U:∀b∈fp,b<s.1.1.size){h B:r_}(A:∀b o,s.1.get? b=a_ o->h.get? b=a_ o)(hz:h.objs.size=s.1.1.size+1){tk tk2:h_}
  (ha:h.get? s.1.1.size=a_ {cls:=.type "list",data:=.seq #[] 0})(a:∀b o,h.get? b=a_ o->B.get? b=a_ o){m:k_->f_ aC}(hn:B.Ns (s.1.1.size+1) m)(L:∀x∈own,B.IsCell (s.1.1.size+2) c_):
  a9 (d9 X scope (Em own (s.1.1.size+2) cl) (xs++M) xs (s.1.1.size+1) {s with heap:=h,toks:=tk} (c0 H s.1.1.size (.a8 [])) fp (X.pn++au)) [] (gq σ ix (aT xs.length c_)) (c0 H s.1.1.size (.a8 [])) {s with heap:=B,toks:=tk2}:=by
 have iV:H s.1.1.size=c_:=I.e6.fresh (aL _);have nk:∀{b:g_}{o:D_},s.1.get? b=a_ o->b≠s.1.1.size:=λe z=>by have:=aM e;rw[z]at this;exact cQ _ this
 have ν:h.get? (s.1.1.size+1)=c_:=mP (by lia);have α:H (s.1.1.size+1)=c_:=I.e6.fresh (hW _);refine⟨Wl O I hf U A hz,_6,I.ln,Un.kd a,⟨m,hn,?_⟩,?_,?_,?_,?_,?_,Jb dC O⟩
 .intro i y v hi l _
  by_cases hx:i<_7 xs
  .unfold gq at l;rw[eD (by rw[dC];exact hx),List.getElem?_replicate_of_lt hx]at l;cases l
  .obtain⟨j,rfl⟩:∃j,i=_7 xs+j:=⟨i-_7 xs,by lia⟩;have hy:M[j]?=a_ y:=by have q:(xs++M)[_7 xs+j]?=a_ y:=hi;rw[dX (gS _ _)]at q;simpa using q
   obtain⟨k,T,C⟩:=O.cap.get j y hy;have n:((ix.map λi=>(σ[i]?).join)[j]?)=a_ (a_ v):=by unfold gq at l;rw[dX (by rw[dC];exact gS _ _)]at l;simpa using l
   rw[bY,T]at n;have w:(σ[k]?).join=a_ v:=by simpa using n
   have G:σ[k]?=a_ (a_ v):=by
    cases e:σ[k]? with
    |none=>rw[e]at w;simp at w
    |some o=>rw[e]at w;simp at w;rw[w]
   obtain⟨mX,_,hl⟩:=I.qX;obtain⟨u,r,lk⟩:=hl k y v C.nz G C.vis;refine⟨u,r,.inr ⟨C.kind,?_⟩⟩;obtain ⟨q,_⟩|⟨_,c,f,g⟩:=lk
   .exact u_ q C.nloc
   .obtain⟨c',d⟩:=C.cell;have:=O.cells d;rw[f]at this;cases this;have N:y∉own:=λz=>(j!.mp O.nd).2.2 y (O.osub y z) y (eT hy) _6;exact⟨c,(Q9 N).trans d,g.keeps λb o e=>a b o (A b o e)⟩
 .intro y c f;rcases jj f with f|⟨ho,e⟩
  .obtain⟨v,q⟩:=I.cell y c (O.cells f);exact⟨v,q.keeps λb o e=>a b o (A b o e)⟩
  .rw[e];exact⟨_,L y ho⟩
 .show c0 H s.1.1.size (.a8 []) (s.1.1.size+1)=c_;rw[aa Te];exact α
 .intro y c f;rcases jj f with f|⟨ho,e⟩
  rotate_left
  .refine .inl ?_;show c0 H s.1.1.size (.a8 []) c=c_;rw[aa (QA e).1];exact I.e6.fresh (QA e).2
  obtain⟨v,q⟩:=I.cell y c (O.cells f);have Q:(d9 X scope (Em own (s.1.1.size+2) cl) (xs++M) xs (s.1.1.size+1) {s with heap:=h,toks:=tk} (c0 H s.1.1.size (.a8 [])) fp (X.pn++au)).fn y=e_:=t_ λz=>by have d:cl.lookup y=a_ c:=f;rw[O.xcl y z]at d;cases d
  rcases I.oD y c (O.cells f)with fr|⟨_,o,fr⟩
  .refine .inl ?_;show c0 H s.1.1.size (.a8 []) c=c_;rw[aa (bE q.lt)];exact fr
  .refine .inr ⟨Q,o,?_⟩;show c0 H s.1.1.size (.a8 []) c=_;rw[aa (bE q.lt)];exact fr
 .intro p hp;have J:p∈X.pn++au:=by simpa[d9]using hp
  obtain⟨E,q2,q3,q4,q5⟩:=I.q0 p J;refine⟨a _ _ (A _ _ E),?_,?_,?_,q5⟩
  .show c0 H s.1.1.size (.a8 []) p.1=c_;rw[aa (nk E)];exact q2
  .exact qj (aM E)
  .intro Y;rcases o_.mp (I.qS p.1 Y)with e|e
   .exact q3 e
   .exact q4 e
 .refine I.e6.nn (λb o e=>a b o (A b o e)) (aL _) ⟨cM _,[],0,.nil,a _ _ ha⟩
end
noncomputable def wk(f:D->f_ (f_ D)):b_ D->f_ (b_ D)
 |[]=>a_ []
 |d::r=>match f d with
  |none=>c_
  |some o=>match wk f r with
   |none=>c_
   |some a=>a_ (o.toList++a)
inductive TR where
 |ok (o:f_ D)
 |er (c:k_)
 |st
noncomputable def ji(F:D->TR):b_ D->ey
 |[]=>.ok []
 |d::r=>match F d with
  | .ok o => (match ji F r with
   |.ok a=>.ok (o.toList++a)
   |.er c=>.er c
   |.st=>.st)
  |.er c=>.er c
  |.st=>.st
noncomputable def KM:f_ (f_ D)->TR
 |some o=>.ok o
 |none=>.st
theorem Cn{f:D->f_ (f_ D)}:∀b:b_ D,ji (λd=>KM (f d)) b=match wk f b with
  |some a=>.ok a
  |none=>.st
 |[]=>rfl
 |d::r=>by
  unfold ji wk;cases f d with
  |none=>rfl
  |some o=>
   show(match ji (λd=>KM (f d)) r with
    |.ok a=>ey.ok (o.toList++a)
    |.er c=>.er c
    |.st=>.st)=_
   rw[Cn r];cases wk f r<;>rfl
noncomputable def Mc(a:b_ D):ey->ey
 |.ok r=>.ok (a++r)
 |.er c=>.er c
 |.st=>.st
def Se(R:ey):R=Mc [] R:=by cases R<;>rfl
def Oz(a:b_ D)(o:f_ D)(R:ey):Mc a (match R with
  |.ok b=>.ok (o.toList++b)
  |.er c=>.er c
  |.st=>.st)=Mc (a++o.toList) R:=by
 cases R with
 |ok r=>exact C_ ey.ok (lH ..).symm
 |er c=>rfl
 |st=>rfl
def I9(a:b_ h_)(U:En)(s:Sl):En:=s::a.map λi=>(U[i]?).getD .no
noncomputable def H8(a:b_ h_)(t:En->bi)(g:En->bi)(U:En)(d:D):f_ (f_ D):=match t (I9 a U (.pu d))with
 |.ok (.bl d_)=>(match g (I9 a U (.pu d))with
  |.ok y=>a_ (a_ y)
  |_=>c_)
 |.ok (.bl e_)=>a_ c_
 |_=>c_
noncomputable def Zv(r:En->ey)(d:b_ h_)(t:En->bi)(g:En->bi):En->bi:=λU=>match r U with
 | .ok a => if a.length <= aG then (match wk (H8 d t g U) a with
  |some b=>.ok (.a8 b)
  |none=>.st)else .st
 |.er c=>.er c
 |.st=>.st
noncomputable def Dd(r:En->ey)(f:En->D->f_ (f_ D)):En->bi:=λU=>match r U with
 | .ok a => if a.length <= aG then (match wk (f U) a with
  |some b=>.ok (.a8 b)
  |none=>.st)else .st
 |.er c=>.er c
 |.st=>.st
def l8(r:En->ey)(F:En->D->TR):En->bi:=λU=>match r U with
 | .ok a => if a.length <= aG then (match ji (F U) a with
  |.ok b=>.ok (.a8 b)
  |.er c=>.er c
  |.st=>.st)else .st
 |.er c=>.er c
 |.st=>.st
def tu{r:En->ey}{f:En->D->f_ (f_ D)}:Dd r f=l8 r λU d=>KM (f U d):=by
 funext U
 unfold Dd l8;cases r U with
 |ok a=>dsimp only;rw[Cn];cases wk (f U) a<;>rfl
 |er c=>rfl
 |st=>rfl
def O5{r:En->ey}{F:En->D->TR}:IsL (l8 r F):=λU d h=>by
 unfold l8 at h;cases e:r U with
 |ok f=>
  rw[e]at h;dsimp only at h
  by_cases b:_7 f<=aG
  .rw[aO b]at h;cases a:ji (F U) f with
   |ok g=>rw[a]at h;cases h;exact⟨_,_6⟩
   |er c=>rw[a]at h;cases h
   |st=>rw[a]at h;cases h
  .rw[aJ b]at h;cases h
 |er c=>rw[e]at h;cases h
 |st=>rw[e]at h;cases h
def Zo{E:EK}{G H:Hp}{r:En->ey}{F:En->D->TR}{U:En}{P:D->Prop}(q:dL E G H (l8 r F U) P):
  f' E G H (r U) λa=>_7 a<=aG/\f' E G H (ji (F U) a) λf=>P (.a8 f):=by
 unfold l8 at q;cases e:r U with
 |ok a=>
  rw[e]at q;dsimp only at q
  by_cases b:_7 a<=aG
  .rw[aO b]at q;refine⟨b,?_⟩;cases d:ji (F U) a with
   |ok f=>rw[d]at q;exact q
   |er c=>rw[d]at q;exact q
   |st=>rw[d]at q;exact q
  .rw[aJ b]at q;exact q.elim
 |er c=>rw[e]at q;exact q
 |st=>rw[e]at q;exact q
def i4(a:b_ h_)(U:En):En:=a.map λi=>(U[i]?).getD .no
def Wp{K:KA}{G:Hp}:∀{a:b_ D}{b:b_ V},bt K G a b->∀{j:h_}{t:Sl},(a.map Sl.pu)[j]?=a_ t->∃d v,t=.pu d/\(b.map a_)[j]?=a_ (a_ v)/\gy K G d v:=λ{a b} dl j t h=>by
 rw[bY]at h;cases e:a[j]? with
 |none=>rw[e]at h;cases h
 |some d=>rw[e]at h;cases h;obtain⟨v,c,f⟩:=dl.get e;exact⟨d,v,_6,by rw[bY,c];rfl,f⟩
def Ja{K:KA}{B G H:Hp}{σ:St}{U:En}{b:b_ h_}{g:b_ D}{m:b_ V}(R:ce K B G H σ U)(nd:b.Nodup)(dl:bt K G g m):ce K B G H (gq σ b (m.map a_)) (g.map Sl.pu++i4 b U):=by
 have f:∀(j:h_) t,(i4 b U)[j]?=a_ t->∃i,b[j]?=a_ i/\((t=.no)\/U[i]?=a_ t)/\(b.map λi=>(σ[i]?).join)[j]?=a_ ((σ[i]?).join):=λj t h=>by
  unfold i4 at h;rw[bY]at h;cases e:b[j]? with
  |none=>rw[e]at h;cases h
  |some i=>
   rw[e]at h;refine⟨i,_6,?_,by rw[bY,e];rfl⟩;cases M:U[i]? with
   |none=>rw[k!,M]at h;cases h;exact .inl _6
   |some u=>rw[k!,M]at h;cases h;exact .inr _6
 have x:∀(i:h_) a,(σ[i]?).join=a_ (V.ref a)->σ[i]?=a_ (a_ (.ref a)):=λi a h=>by
  cases e:σ[i]? with
  |none=>rw[e]at h;simp at h
  |some o=>rw[e]at h;simp at h;rw[h]
 have r:(m.map a_).length=(g.map Sl.pu).length:=by rw[bB,bB,dl.length]
 have nz:∀{j:h_}{t:Sl},(g.map Sl.pu++i4 b U)[j]?=a_ t->(∃d v,t=.pu d/\(gq σ b (m.map a_))[j]?=a_ (a_ v)/\gy K G d v)\/∃k,j=_7 g+k/\(i4 b U)[k]?=a_ t/\(gq σ b (m.map a_))[j]?=(b.map λi=>(σ[i]?).join)[k]?:=λ{j t} h=>by
  unfold gq
  by_cases y:j<(g.map Sl.pu).length
  .rw[eD y]at h;rw[eD (by rw[r];exact y)];exact .inl (Wp dl h)
  .obtain⟨k,rfl⟩:∃k,j=_7 g+k:=⟨j-_7 g,by rw[bB]at y;lia⟩;rw[dX (by rw[bB];exact gS _ _),bB,_T]at h;exact .inr ⟨k,_6,h,by rw[dX (by rw[r,bB];exact gS _ _),r,bB,_T]⟩
 refine⟨R.bh,R.gh,?_,λj t h=>?_,λj t a C p l=>?_,λj k t u a C p l A L J=>?_,R.gb⟩
 .unfold gq i4;rw[bS,bS,r,bB (as:=b),bB (as:=b)]
 .rcases nz h with⟨d,v,rfl,e,s⟩|⟨k,rfl,h,e⟩
  .exact⟨a_ v,e,v,_6,s⟩
  .obtain⟨i,q,c,n⟩:=f k t h;refine⟨_,e.trans n,?_⟩;obtain rfl|c:=c
   .trivial
   .obtain⟨o',Q,O⟩:=R.sl i t c;rw[Q];exact O
 .rcases nz C with⟨d,v,rfl,e,s⟩|⟨k,rfl,h,e⟩
  .cases p
  .obtain⟨i,q,c,n⟩:=f k t h;rw[e,n]at l;obtain rfl|c:=c
   .cases p
   .exact R.own i t a c p (x i a (aZ l))
 .rcases nz C with⟨d,v,rfl,e,s⟩|⟨E,rfl,h,e⟩
  .cases l
  .rcases nz p with⟨d,v,rfl,N,s⟩|⟨k',rfl,h',N⟩
   .cases A
   .obtain⟨i,q,c,n⟩:=f E t h;obtain⟨I,Y,w,T⟩:=f k' u h';rw[e,n]at L;rw[N,T]at J;obtain rfl|c:=c
    .cases l
    .obtain rfl|w:=w
     .cases A
     .have z:=R.rE i I t u a c w l A (x i a (aZ L)) (x I a (aZ J));subst z;have lj:E<_7 b:=(i_.mp q).1;rw[(List.getElem?_inj lj nd).mp (q.trans Y.symm)]
structure TgB(X:Cx)(n:h_)(tg:Expr)(td:D->f_ (b_ D)):Prop where
 ex:∃gl,PG X tg gl/\∀{G H:Hp}{os:b_ (f_ V)}{cs:St}{d:D}{v:V}{ds:b_ D}{Q:St->Hp->Prop},_7 os=n->a6 G H->gy (kx X) G d v->td d=a_ ds->(∀vs,bt (kx X) G ds vs->_7 vs=n->Q (vs.map a_++cs) H)->gl v (os++cs) H Q
section
variable{X:Cx}{B:Hp}{E:EK}{E':XK}{scope:eL}{cl:b_ (k_×g_)}{own xs:b_ k_}{M:b_ k_}{ix:b_ h_}{elt iter:Expr}{ifs:b_ Expr}{pos:v_}{r:En->ey}{t g:En->bi}{tg:Expr}{td:D->f_ (b_ D)}
abbrev EF:EK:=λz z=>L_
structure rA(X:Cx)(B:Hp)(E:XK)(scope:eL)(cl:b_ (k_×g_))(own xs:b_ k_)(M:b_ k_)(tg:Expr)(td:D->f_ (b_ D))(elt:Expr)(ifs:b_ Expr)(t g:En->bi):Prop where
 tgt:∀C kt qP ex pn,TgB (d9 X scope (Em own (C+1) cl) (xs++M) xs C kt qP ex pn) xs.length tg td
 test:(ifs=[]/\t=gC (.bl d_))\/∃c,ifs=[c]/\∀C kt qP ex pn,ph (d9 X scope (Em own (C+1) cl) (xs++M) xs C kt qP ex pn) B EF c t
 elt:∀C kt qP ex pn,Acc (d9 X scope (Em own (C+1) cl) (xs++M) xs C kt qP ex pn) E->ck (d9 X scope (Em own (C+1) cl) (xs++M) xs C kt qP ex pn) B (ek (kx X) E) elt g
def LD(d:D):f_ (b_ D):=a_ [d]
def Nq{x:k_}{c:v_}(O:kO X scope cl own [x] M ix)(C a b j f):TgB (d9 X scope (Em own (C+1) cl) ([x]++M) [x] C a b j f) 1 (.Name x c) LD:=
 ⟨_,xw (i:=0) O.nd _6 (n9 (O.qX x bI)) (.inl (H_ bI)),λ{G H os p d v n Q} h m l e q=>by
  cases e
  match os,h with
  |[o],_=>exact q [v] (bt.pv l) _6⟩
noncomputable def AJ:D->f_ (b_ D)
 |.ci [a,b]=>a_ [a,b]
 |_=>c_
set_option tactic.hygienic true in
def H0{x y:k_}{w u o:v_}{k:h_}(O:kO X scope cl own [x,y] M ix)(z:X.calm=d_)(C c f n m):TgB (d9 X scope (Em own (C+1) cl) ([x,y]++M) [x,y] C c f n m) 2 (.Tuple [.Name x w,.Name y u] k o) AJ:=
 ⟨_,Kr (X:=d9 X scope (Em own (C+1) cl) ([x,y]++M) [x,y] C c f n m) z (o6 (xw (i:=0) O.nd _6 (n9 (O.qX x bI)) (.inl (H_ bI)))
  (o6 (xw (i:=1) O.nd _6 (n9 (O.qX y (bJ _ bI))) (.inl (H_ (bJ _ bI)))) Dy)),λ{G H os cs d v ds Q} A s J e q=>by
  unfold AJ at e;split at e
  .rename_i a b;cases e;obtain⟨l,T,rfl,p,dl⟩:=J;obtain⟨j,Y,rfl,N,h,U,rfl,L,I⟩:=dl;cases I
   match os,A with
   |[o1,o2],_=>exact⟨l,[j,h],_6,ng.of (s _ _ p),_6,j,_,_6,h,_,_6,_6,q [j,h] ⟨j,_,_6,N,h,_,_6,L,_6⟩ _6⟩
  .cases e⟩
def TurnF(td:D->f_ (b_ D))(a:En)(t g:En->bi)(f:D->f_ (f_ D)):Prop:=∀d o,f d=a_ o->∃b,td d=a_ b/\
 ((t (b.map Sl.pu++a)=.ok (.bl d_)/\∃y,g (b.map Sl.pu++a)=.ok y/\o=a_ y)\/(t (b.map Sl.pu++a)=.ok (.bl e_)/\o=c_))
def Nu(ix:b_ h_)(g:En->bi)(U:En)(d:D):f_ (f_ D):=match AJ d with
 |some a=>(match g (a.map Sl.pu++ix.map λi=>(U[i]?).getD .no)with
  |.ok y=>a_ (a_ y)
  |_=>c_)
 |none=>c_
set_option tactic.hygienic true in
def GR{ix:b_ h_}{U:En}{g:En->bi}:TurnF AJ (i4 ix U) (gC (.bl d_)) g (Nu ix g U):=λd o h=>by
 unfold Nu at h;split at h
 .rename_i b e;split at h
  .rename_i y a;cases h;exact⟨b,e,.inl ⟨_6,y,a,_6⟩⟩
  .cases h
 .cases h
def Ej(ix:b_ h_)(t g:En->bi)(U:En)(d:D):f_ (f_ D):=match AJ d with
 |some a=>(match t (a.map Sl.pu++ix.map λi=>(U[i]?).getD .no)with
  |.ok (.bl d_)=>(match g (a.map Sl.pu++ix.map λi=>(U[i]?).getD .no)with
   |.ok y=>a_ (a_ y)
   |_=>c_)
  |.ok (.bl e_)=>a_ c_
  |_=>c_)
 |none=>c_
set_option tactic.hygienic true in
def Zf{ix:b_ h_}{U:En}{t g:En->bi}:TurnF AJ (i4 ix U) t g (Ej ix t g U):=λd o h=>by
 unfold Ej at h;split at h
 .rename_i c e;refine⟨c,e,?_⟩;split at h
  .rename_i a;split at h
   .rename_i y b;cases h;exact .inl ⟨a,y,b,_6⟩
   .cases h
  .rename_i a;cases h;exact .inr ⟨a,_6⟩
  .cases h
 .cases h
set_option tactic.hygienic true in
def Vy{ix:b_ h_}{U:En}{t g:En->bi}:TurnF LD (i4 ix U) t g (H8 ix t g U):=λd o h=>by
 refine⟨[d],_6,?_⟩
 .unfold H8 at h;have e:[d].map Sl.pu++i4 ix U=I9 ix U (.pu d):=rfl;rw[e];split at h
  .rename_i a;split at h
   .rename_i y b;cases h;exact .inl ⟨a,y,b,_6⟩
   .cases h
  .rename_i a;cases h;exact .inr ⟨a,_6⟩
  .cases h
def Bc(td:D->f_ (b_ D))(a:En)(t g:En->bi)(F:D->TR):Prop:=∀d,F d≠.st->∃b,td d=a_ b/\
 ((t (b.map Sl.pu++a)=.ok (.bl d_)/\((∃y,g (b.map Sl.pu++a)=.ok y/\F d=.ok (a_ y))\/∃c,g (b.map Sl.pu++a)=.er c/\F d=.er c))\/(t (b.map Sl.pu++a)=.ok (.bl e_)/\F d=.ok c_))
def TurnF.tr{td:D->f_ (b_ D)}{i:En}{t g:En->bi}{f:D->f_ (f_ D)}(h:TurnF td i t g f):Bc td i t g λd=>KM (f d):=λd j=>by
 dsimp only at j⊢;cases e:f d with
 |none=>rw[e]at j;exact u_ _6 j
 |some o=>obtain⟨l,q,z⟩:=h d o e;refine⟨l,q,z.imp (λ⟨a,y,b,c⟩=>⟨a,.inl ⟨y,b,by rw[c];rfl⟩⟩) λ⟨a,c⟩=>⟨a,by rw[c];rfl⟩⟩
def dL.ok0{E:EK}{G H:Hp}{r:bi}{P:D->Prop}(d:D)(e:r=.ok d)(h:P d):dL E G H r P:=by rw[e];exact h
inductive CJ(Y:Cx)(a:g_)(k:h_)(σ:St)(ix:b_ h_)(fp:b_ g_)(tn:h_->r_->Prop)(G H:Hp)(F:D->TR)(ds:b_ D)(r0:ey)(n:h_)(s1:aE):Prop
 |mk (i:h_) (os:b_ (f_ V)) (H1 G1:Hp) (vs:b_ V) (zs:b_ D) (_:_7 os=k) (_:n=_7 ds-i) (_:i<=_7 ds) (_:a9 Y [] (gq σ ix os) H1 s1) (_:tn i s1.1) (_:∀b∈fp,H1 b=c_)
   (_:H1 a=a_ (.a8 vs)) (_:G1 a=c_) (_:c6 G H G1 H1) (_:bt (kx Y) G1 zs vs) (_:_7 zs<=i) (_:r0=Mc zs (ji F (ds.drop i))):CJ Y a k σ ix fp tn G H F ds r0 n s1
def Oa{Y:Cx}{a:g_}{k:h_}{σ:St}{U:En}{G H:Hp}{s:aE}{it:g_}{N:b_ g_}{tn:h_->r_->Prop}{J:It}{l:b_ D}{r0:ey}{F:D->TR}{RR:_G->aE->Prop}{n:h_}
  (TB:TgB Y k tg td)(TE:ck Y B (ek (kx Y) E') elt g)(TT:(ifs=[]/\t=gC (.bl d_))\/∃c,ifs=[c]/\ph Y B EF c t)(hc:Y.calm=d_)(hx:∀v s,Y.xe v s->nH (aW Y.prog Y.w) Y.A Y.env (λe s'=>RR (.error e) s') v s)(T:qO Y.prog Y.w (kx Y) tg J N it tn)(ζ:∀{x:Hp},(∀b∈N,x b=c_)->∀b∈N,qI Y [] x b)
  (R:ce (kx Y) B G H σ U) (ixd:ix.Nodup) (iV:H a=c_) (ok:rm (kx Y) J l (λG2 H2=>c6 G H G2 H2)) (hl:_7 l<=aG) (hF:Bc td (i4 ix U) t g F) (hst:r0≠.st) (her:∀c,r0=.er c->∀G' H',c6 G H G' H'->ek (kx Y) E' c H')
  (fin:∀s1 x G1 vs zs os,a9 Y [] (gq σ ix os) x s1->x a=a_ (.a8 vs)->G1 a=c_->c6 G H G1 x->bt (kx Y) G1 zs vs->r0=.ok zs->RR (.ok .next) s1)
  (j:CJ Y a k σ ix N tn G H F l r0 n s):gX (aW Y.prog Y.w) Y.A (.compLoop (.ListComp elt [⟨tg,iter,ifs,0⟩] scope pos) 0 (.ref it) (.ref a) Y.env) RR s:=by
 refine Cm (CJ Y a k σ ix N tn G H F l r0) ?_ n j
 rintro n s1 ⟨i,os,x,G1,vs,zs,hos,rfl,hi,I1,υ,Φ,η,Ξ,x1,Q,zl,er⟩
 obtain⟨okg,oks⟩:=ok i G1 x x1 x1.gh
 by_cases p:i<_7 l
 .obtain⟨go,yl⟩:=okg l[i] (bF p);rw[cU p]at er;unfold ji at er;have cq:F l[i]≠.st:=λz=>by rw[z]at er;exact hst er
  refine cA (T.item Y _6 _6 _6 hc i [] s1 _ x _ I1 (ζ Φ) υ go) (λrr s2 ⟨u,hr,h2⟩=>?_) hx;subst hr;refine cA h2 (λZ s3 ⟨xv,H3,I3,r3,y3,δ,fr3⟩=>?_) hx;obtain⟨G3,e3,dn⟩:=yl xv H3 y3;have I3':=I3.pinned (ζ fr3) (T.obj _ _ δ);have x3:=x1.trans e3;have L:=e3.hh _ _ η;have Θ:=e3.fr _ _ η Ξ _6;obtain⟨dx,htd,Γ⟩:=hF _ cq;obtain⟨gl,TO1,TO2⟩:=TB.ex;refine cA (TO1 _ s3 _ H3 xv u (λσ' H'=>H'=H3/\∃I,bt (kx Y) G3 dx I/\_7 I=k/\σ'=gq σ ix (I.map a_)) I3' r3 (TO2 hos e3.gh dn htd λI dl hv=>⟨_6,I,dl,hv,_6⟩)) (λZ s4 ⟨σ4,H4,I4,e4,I,dlx,hvx,e5⟩=>?_) hx;subst e4 e5;have R4:=Ja (R.ext x3) ixd dlx;have next:∀{s5:aE}{q:Hp}{C:Hp}{us:b_ V}{ws:b_ D}{oy:f_ D},F l[i]=.ok oy->a9 Y ([]++v5 N s3.1) (gq σ ix (I.map a_)) q s5->
    q a=a_ (.a8 us)->C a=c_->c6 G H C q->bt (kx Y) C ws us->ws=zs++oy.toList->∃m,m<_7 l-i/\CJ Y a k σ ix N tn G H F l r0 m s5:=λ{s5 q C us ws oy} ef I5 ha5 ga5 x5 dl5 ew=>by
   have pn:=λb hb ob e=>I5.q0 (b,ob) (dB _ (dB _ (sf hb e)));refine⟨_,Nat.sub_succ_lt_self _ _ p,i+1,I.map a_,q,C,us,ws,(bB _).trans hvx,_6,p,I5.qL,T.keep _ _ _ δ λb hb ob e=>(pn b hb ob e).1,λb hb=>?_,ha5,ga5,x5,dl5,?_,?_⟩
   .obtain⟨ob,e,d⟩:=T.obj _ _ δ b hb;exact(pn b hb ob e).2.1
   .rw[ew,bS];exact Nat.add_le_add zl (by cases oy<;>simp)
   .rw[er,ef,ew];exact Oz zs oy _
  have val:∀{s5:aE}{q C:Hp},a9 Y ([]++v5 N s3.1) (gq σ ix (I.map a_)) q s5->c6 G3 H4 C q->((∃y,g (dx.map Sl.pu++i4 ix U)=.ok y/\F l[i]=.ok (a_ y))\/∃c,g (dx.map Sl.pu++i4 ix U)=.er c/\F l[i]=.er c)->
    aP (aW Y.prog Y.w) Y.A (I_ elt Y.env) (λxx τ=>aP (aW Y.prog Y.w) Y.A (call (.builtin "list.append") [.ref a,xx]) (λZ ρ=>∃m,m<_7 l-i/\CJ Y a k σ ix N tn G H F l r0 m ρ) (nH (aW Y.prog Y.w) Y.A Y.env λe s'=>RR (.error e) s') τ) (nH (aW Y.prog Y.w) Y.A Y.env λe s'=>RR (.error e) s') s5:=λ{s5 q C} I5 e5 hv=>by
    refine cA (TE _ s5 _ q (λv o=>∃y f,F l[i]=.ok (a_ y)/\c6 C q f o/\gy (kx Y) f y v) I5 ⟨C,_,R4.ext e5,?_⟩) (λxx s6 ⟨v6,o,I6,r6,y,f,ef,h,d6⟩=>?_) hx
    .obtain ⟨y,eg,ef⟩|⟨c,eg,ef⟩:=hv
     .exact dL.ok0 y eg λv f o h d6=>⟨y,f,ef,h,d6⟩
     .rw[eg];rw[ef]at er;exact λf o h=>her c er f o (x3.trans (e5.trans h))
    .have O:=e5.trans h;have Δ:=O.fr _ _ L Θ _6;refine cA (qi _ s6 _ o (.ref a) [v6] (.ref a) [xx] (λZ H7=>H7=c0 o a (.a8 (vs++[v6]))) I6 _6 (.cons r6 .nil) ⟨_,vs,v6,_6,_6,O.hh _ _ L,?_,_6⟩) (λZ s7 ⟨_,H7,I7,_,e7⟩=>?_) hx
     .rw[<-Q.length];exact l! zl (bM p hl)
     .subst e7;exact next ef I7 ae Δ ((x3.trans O).wr Δ iV) ((Q.am (e3.gg.trans O.gg)).append (bt.pv d6)) _6
  obtain ⟨rfl,rfl⟩|⟨c,rfl,ht⟩:=TT
  .refine wpAny_tests_nil ?_;obtain ⟨_,hv⟩|⟨hb,_⟩:=Γ
   .exact val I4 (c6.refl R4.gh) hv
   .cases hb
  .refine wpAny_tests_one ?_;obtain ⟨et,hv⟩|⟨et,ef⟩:=Γ
   .refine cA (ht _ s4 _ H4 (λb o=>b=d_/\∃f,c6 G3 H4 f o) I4 ⟨G3,_,R4,dL.ok0 (.bl d_) et ⟨d_,_6,λf o h=>⟨_6,f,h⟩⟩⟩) (λb s6 ⟨o,I6,eb,f,h⟩=>?_) hx;subst eb;exact val I6 h hv
   .refine cA (ht _ s4 _ H4 (λb o=>b=e_/\∃f,c6 G3 H4 f o) I4 ⟨G3,_,R4,dL.ok0 (.bl e_) et ⟨e_,_6,λf o h=>⟨_6,f,h⟩⟩⟩) (λb s6 ⟨o,I6,eb,f,h⟩=>?_) hx;subst eb;exact next ef I6 (h.hh _ _ L) (h.fr _ _ L Θ _6) (x3.trans h) (Q.am (e3.gg.trans h.gg)) (dZ _).symm
 .obtain rfl:i=_7 l:=nB hi (mC p);rw[jV]at er;refine cA (T.done Y _6 _6 _6 hc _ [] s1 _ x _ I1 (ζ Φ) υ (oks (aL _))) (λrr s2 ⟨hr,I2⟩=>?_) hx;subst hr;exact fin s2 x G1 vs zs os I2 η Ξ x1 Q (er.trans (C_ ey.ok (dZ _)))
def Ql(X:Cx)(E:XK):Prop:=E=E0
def Qm{N:b_ k_}{C:g_}{a:aE}{c n:Hp}{j:b_ g_}{i b:b_ (g_×D_)}{σ:St}{f:aE}(m:Ql X E')(I:a9 X b σ n f)(o:f.1.get? C=c_)(back:∀{d e l h},a9 (d9 X scope cl N xs C a c j i) d e l h->a9 X b σ l h):Acc (d9 X scope cl N xs C a c j i) E':=by cases m;exact m5
def E4(O:kO X scope cl own xs M ix)(hc:X.calm=d_)(hA:Ql X E')(Bk:rA X B E' scope cl own xs M tg td elt ifs t g){f:b_ (g_×D_)}{σ:St}{U:En}{G H:Hp}{s:aE}{it:g_}{C:b_ g_}{tn:h_->r_->Prop}{J:It}{ds:b_ D}{F:D->TR}
  (I:a9 X f σ H s)(T:qO X.prog X.w (kx X) tg J C it tn)(st:tn 0 s.1)(hf:∀b∈C,qI X f H b)(R:ce (kx X) B G H σ U)(ok:rm (kx X) J ds (λG2 H2=>c6 G H G2 H2))(hl:_7 ds<=aG)(hF:Bc td (i4 ix U) t g F)
  {RR:aC->g_->_G->aE->Prop} (κ:∀e s',(∃m,s'.1.Ns (s.1.1.size+1) m/\∀h',bN (s.1.1.size+1) s'.1 h'->∀i:T_,i.locals=s.1.1.size+1->aP (aW X.prog X.w) X.A (PySem.passOn "comprehension.variables-let-go" e i:N! aC) (λZ Z=>L_) X.xe {s' with heap:=h'})->RR (.ref s.1.1.size) (s.1.1.size+1) (.error e) s')
  (l:f' (ek (kx X) E') G H (ji F ds) λys=>∀Q j G1 vs m,a9 X f σ j Q->Q.1.Ns (s.1.1.size+1) m->j (s.1.1.size+1)=c_->c6 G H G1 j->G1 s.1.1.size=c_->j s.1.1.size=a_ (.a8 vs)->bt (kx X) G1 ys vs->RR (.ref s.1.1.size) (s.1.1.size+1) (.ok .next) Q):
  aP (aW X.prog X.w) X.A (newList []) (λμ ζ=>aP (aW X.prog X.w) X.A (k? scope X.env.globals cl [] X.env.qual c_ .none (a_ X.env)) (λi ε=>
   gX (aW X.prog X.w) X.A (.compStart (.ListComp elt [⟨tg,iter,ifs,0⟩] scope pos) 0 (.ref it) μ {i with scope:=mL scope X.env}) (RR μ i.locals) ε) X.xe ζ) X.xe s:=by
 have N:∀b∈C,b<s.1.1.size:=λb n=>by obtain⟨o,e,_⟩:=T.obj 0 _ st b n;exact aM e
 refine cR (V5 O.ocell O.own1 λι d x L=>?_);dsimp only at d x L⊢;generalize γ:s.1.push {cls:=.type "list",dict:=c_,data:=.seq ([]:b_ aC).toArray}=a at d x L⊢;have hz:a.objs.size=s.1.1.size+1:=by rw[<-γ,bX]
 rw[hz]at d L⊢;have hk:∀b o,s.1.get? b=a_ o->a.get? b=a_ o:=λb o e=>by rw[<-γ];exact aB _ e
 have ha:a.get? s.1.1.size=a_ {cls:=.type "list",data:=.seq #[] 0}:=by rw[<-γ];exact aI _ _6
 have I0:=Q6 (tk:=s.toks) (tk2:=s.toks) O I hf N hk hz ha x d L;have iV:H s.1.1.size=c_:=I.e6.fresh (aL _);have e0:c6 G H G (c0 H s.1.1.size (.a8 [])):=c6.own R.gh _ iV;have g0:G s.1.1.size=c_:=aq R.gh iV;have ω:∀{j:Hp},(∀b∈C,j b=c_)->∀b∈C,qI (d9 X scope (Em own (s.1.1.size+2) cl) (xs++M) xs (s.1.1.size+1) {s with heap:=a,toks:=s.toks} (c0 H s.1.1.size (.a8 [])) C (X.pn++f)) [] j b:=λ{j} hn b n=>by
  obtain⟨f0,f1,f2,f3,f4,f5⟩:=hf b n;refine⟨hn b n,?_,?_,.inl n,λy c e=>(by
   rcases jj e with e|⟨_,e⟩
   .exact f4 y c (O.cells e)
   .exact λz=>LN (N b n) e z),λp hp=>f5 p (by simpa[d9]using hp)⟩
  .exact qj (N b n)
  .intro ψ;rcases o_.mp (I.qS b ψ)with e|e
   .exact f1 e
   .exact f2 e
 have u1:Un (vp X.stack) C H (c0 H s.1.1.size (.a8 [])) s.1 a:=Un.nn hk (aL _) iV;have back:∀{u δ j Q},a9 (d9 X scope (Em own (s.1.1.size+2) cl) (xs++M) xs (s.1.1.size+1) {s with heap:=a,toks:=s.toks} (c0 H s.1.1.size (.a8 [])) C (X.pn++f)) u δ j Q->a9 X f σ j Q:=λ{u δ j Q} I2=>by
  have u2:Un (vp X.stack) C (c0 H s.1.1.size (.a8 [])) j a Q.1:=I2.base;exact I.call' I2.os (u1.trans u2) I2.e6 I2.ln λb n=>by obtain⟨f0,f1,f2,f3,f4,f5⟩:=hf b n;exact⟨f3,f1,f4,f5⟩
 have aY:=Qm hA I (mP (hW _)) back;have α:gX (aW X.prog X.w) X.A (.compLoop (.ListComp elt [⟨tg,iter,ifs,0⟩] scope pos) 0 (.ref it) (.ref s.1.1.size) (compEnvC scope (Em own (s.1.1.size+2) cl) (s.1.1.size+1) X.env)) (RR (.ref s.1.1.size) (s.1.1.size+1))
   {s with heap:=ι}:=
  Oa (Y:=d9 X scope (Em own (s.1.1.size+2) cl) (xs++M) xs (s.1.1.size+1) {s with heap:=a,toks:=s.toks} (c0 H s.1.1.size (.a8 [])) C (X.pn++f)) (E':=E') (r0:=ji F ds) (Bk.tgt _ _ _ _ _) (Bk.elt _ _ _ _ _ aY) (Bk.test.imp_right λ⟨c,e,h⟩=>⟨c,e,h _ _ _ _ _⟩) hc (λv s' q=>cA q (λZ s2 z=>κ v s2 z) λe s2 z=>κ e s2 z) T ω R O.ixd iV ok hl hF (λz=>by rw[z]at l;exact l) (λc z=>by rw[z]at l;exact l)
   (λs2 j G1 vs zs os I2 Γ Δ x1 Ψ z=>by
    obtain⟨m2,χ,_⟩:=I2.qX;rw[z]at l;exact l s2 j G1 vs m2 (back I2) χ I2.free x1 Δ Γ Ψ)
   ⟨0,aT xs.length c_,_,G,[],[],dC,_6,cM _,I0,T.keep 0 _ _ st (λb Z o e=>x b o (hk b o e)),λb n=>by rw[aa (bE (N b n))];exact(hf b n).1,ae,g0,e0,_6,aL _,Se _⟩
 exact codeAny_compStart_list α (T.self _ 0 _ _ _ (T.keep 0 _ _ st (λb Z o e=>x b o (hk b o e))) α)
def Wc(E b:EK)(F:En->D->TR):Prop:=∀U a c,ji (F U) a=.er c->∀H,E c H->b c H
def C9{E b:EK}{f:En->D->f_ (f_ D)}:Wc E b λU d=>KM (f U d):=λU a c h=>by
 rw[Cn]at h;cases e:wk (f U) a with
 |none=>rw[e]at h;cases h
 |some i=>rw[e]at h;cases h
def f'.er{E b:EK}{G H:Hp}{r:ey}{P:b_ D->Prop}(h:f' E G H r P)(f:∀c,r=.er c->∀H,E c H->b c H):f' b G H r P:=by
 cases r with
 |ok i=>exact h
 |er c=>exact λd a e=>f c _6 a (h d a e)
 |st=>exact h
def Ts{F:En->D->TR}(O:kO X scope cl own xs M ix)(hc:X.calm=d_)(hA:Ql X E')(Bk:rA X B E' scope cl own xs M tg td elt ifs t g)(hF:∀U,Bc td (i4 ix U) t g (F U))(hE:Wc E (ek (kx X) E') F)(hi:N3 X B E tg iter r)
  (hs:Q! (∀x,fW iter X.env x=pure x) Q3!):Qj X B E (.ListComp elt [⟨tg,iter,ifs,0⟩] scope pos) (l8 r F):=by
 intro f s σ H Q I q;rw[eval_ListComp];obtain⟨G,U,R,q⟩:=q;refine E? (use:=c_) _6 hs (qz O.clos) O.kind O.names ?_;refine cA (hi f s σ H (λJ L=>∃l h,c6 G H l L/\rm (kx X) J h (λG2 H2=>c6 l L G2 H2)/\_7 h<=aG/\f' E G H (ji (F U) h) λN=>
  ∀a n G' H',c6 G H G' H'->H a=c_->G' a=c_->H' a=a_ (.a8 n)->bt (kx X) G' N n->Q (.ref a) H') I
  ⟨G,U,R,(Zo q).am λh Z ⟨hl,q⟩ J l L i ok=>⟨l,h,i,ok,hl,q.am λN Z ⟨Ω,ed,q⟩=>by cases ed;exact q⟩⟩) (λv s1 h1=>cA h1 (λι u h2=>?_) λZ Z e=>e) λZ Z e=>e
 obtain⟨it,fp,tn,J,L,rfl,j,T,st,hf,l,h,i,ok,hl,q⟩:=h2;refine E4 (RR:=λγ C=>compPost (aW X.prog X.w) X.A X.xe c_ (EP X f σ Q) γ C) O hc hA Bk j T st hf (R.ext i) ok hl (hF U) (λZ Z z=>z) (((q.ext i).er (hE U h)).am λN Z q=>?_);intro s3 H3 G3 n m I3 hm hC e3 g3 h3 dl;refine⟨m,hm,λh' Y=>⟨.ref u.1.1.size,H3,?_,_6,q _ n G3 H3 (i.trans e3) (aq i.hh (j.e6.fresh (aL _))) g3 h3 dl⟩⟩;have d:u.1.1.size<=u.1.1.size+1:=hW _;refine I3.ii (t':=s3.toks) (it:=u.1.1.size+1) (λb o hb e=>Y.extBut b o hb e) hC ?_ (.inr (cB j.sz d)) ?_ ?_
 .exact λz=>u_ (bM j.lt (cB d (eZ z))) (cQ _)
 .intro y c β z;obtain⟨v',q'⟩:=j.cell y c β;exact u_ (bM q'.lt (cB d (eZ z.symm))) (cQ _)
 .intro p hp z;exact u_ (bM (aM (j.q0 p hp).1) (cB d (eZ z.symm))) (cQ _)
end
section
variable{K:KA}
def Xd{d:D}{t:F_}(h:Zg d=a_ t):eN K (.type t) (.type "int")=a_ (Wa t "int"):=by cases d<;>cases h<;>rfl
def S7{d:D}{t:F_}(h:Zg d=a_ t):eN K (.type t) (.type "bool")=a_ (Wa t "bool"):=by cases d<;>cases h<;>rfl
def Xe{d:D}{t:F_}(h:Zg d=a_ t):eN K (.type t) (.type "str")=a_ (Wa t "str"):=by cases d<;>cases h<;>rfl
def S8{d:D}{t:F_}(h:Zg d=a_ t):eN K (.type t) (.type "list")=a_ (Wa t "list"):=by cases d<;>cases h<;>rfl
def O9{d:D}{t:F_}(h:Zg d=a_ t):eN K (.type t) (.type "tuple")=a_ (Wa t "tuple"):=by cases d<;>cases h<;>rfl
end
section
variable{X:Cx}{B:Hp}{E:EK}{e a b:Expr}{es:b_ Expr}{g h:En->bi}{pos:v_}
def HK(K:KA)(c:F_):Prop:=∀{d:D}{t:F_},Zg d=a_ t->eN K (.type t) (.type c)=a_ (Wa t c)
inductive rIsI(K:KA)(c:F_)(xs:b_ V)(H:Hp)(Q:VK):Prop
 |mk (G d x t) (_:xs=[x,.ty c]) (_:a6 G H) (_:Arg K G H d x) (_:Zg d=a_ t) (_:Q (.bl (Wa t c)) H):rIsI K c xs H Q
def Qz{c:F_}(hk:HK (kx X) c):lf X (.builtin "isinstance") (rIsI (kx X) c):=by
 intro J s σ H xs us Q I r q;obtain⟨G,d,x,t,rfl,L,C,m,q⟩:=q;obtain⟨u,u2,rfl,j,O⟩:=V4 r;cases O;have e:=hk m;have f:∀M,EP X J σ Q (.bool (Wa t c)) {s with toks:=M}:=λM=>⟨.bl (Wa t c),H,I.qs M,_6,q⟩;cases d with
 |fm=>cases m;rw[C.fm]at j;cases j;exact fI PySem.W.kitx_none I.qY eF e (λz=>nomatch z) f
 |bl y=>cases m;rw[C.bl]at j;cases j;exact fI PySem.W.kitx_bool I.qY eF e (λz=>nomatch z) f
 |int i=>cases m;rw[C.int]at j;obtain⟨t,rfl⟩:=j;exact fI PySem.W.kitx_int I.qY eF e (λz=>nomatch z) f
 |str y=>cases m;rw[C.str]at j;obtain⟨t,rfl⟩:=j;exact fI PySem.W.kitx_str I.qY eF e (λz=>nomatch z) f
 |ci ds=>cases m;obtain⟨l,vs,rfl,N,dl⟩:=C.ci L;cases j;obtain⟨U,rv,⟨o,Y,hc,n,hd⟩,_⟩:=I.tuple N;exact fI PySem.W.kitx_tuple I.qY ⟨o,Y,hc⟩ e (λz=>nomatch z) f
 |a8 ds=>cases m;obtain⟨l,vs,rfl,N,dl⟩:=C.a8 L;cases j;obtain⟨U,rv,pl,_⟩:=I.list N;obtain⟨o,Y,hc,_⟩:=pl.isList;exact fI PySem.W.kitx_list I.qY ⟨o,Y,hc⟩ e (λz=>nomatch z) f
 |h7 tt θ=>
  cases m;have T:∃a,x=.ref a/\((∃es,H a=a_ (.dK es))\/∃es,Rd H a (.dT es)):=by
   obtain ⟨a,A,v⟩|⟨_,_,_,z,_⟩|⟨t',ε,a,z,A,v⟩|⟨_,_,_,z,_⟩:=C
   .exact⟨a,A,v.elim (λ⟨_,es,q,_⟩=>.inl ⟨es,L _ _ q⟩) λ⟨_,o,es,q,_⟩=>.inr ⟨es,.inr ⟨o,L _ _ q⟩⟩⟩
   .cases z
   .exact⟨a,A,v.elim (λ⟨_,es,q,_⟩=>.inl ⟨es,q⟩) λ⟨_,es,q,_⟩=>.inr ⟨es,.inl q⟩⟩
   .cases z
  obtain⟨a,rfl,v⟩:=T;cases j;obtain ⟨es,ea⟩|⟨es,ea⟩:=v
  .obtain⟨_,_,vs,_,p⟩:=show fb X.prog X.w H s.1 a (.dK es)from I.e6 a _ ea;obtain⟨o,β,ep,A,v,_⟩:=p;exact fI t? I.qY ⟨o,A,v.1⟩ e (λz=>nomatch z) f
  .obtain⟨_,_,xs,_,o,β,ep,A,v,_⟩:=show fb X.prog X.w H s.1 a (.dT es)from Rd.ok ea I.e6;exact fI t? I.qY ⟨o,A,v.1⟩ e (λz=>nomatch z) f
 |obj _ _=>cases m
 |fn _=>cases m
def z9{c:F_}{x:k_}{p f:v_}(L:HK (kx X) c)(M:Gl X "isinstance")(J:X.mg "isinstance"=c_)(o:Gl X x)(n:X.mg x=c_)(j:eX x=a_ (.type c))(N:dj X B E e g)
  (m:Q! (x≠"__name__") Q1!)(s:Q! ((x==("__debug__":k_))=e_) Q1!)
  (w:Q! (aU [e,.Name x f] X.env=(e_,I_ e X.env)::aU [.Name x f] X.env) Q2!) (r:Q! (aU [.Name x f] X.env=(e_,I_ (.Name x f) X.env)::aU [] X.env) Q2!) (l:Q! ((dW pos (aU [.Name x f] X.env)).any (·.1)=e_) Q2!):
  ck X B E (.Call (.Name "isinstance" p) [e,.Name x f] [] pos) (g1 (cm c) g):=
 PE.imp (jm (Qz L) M J pR (cg N (cg (My (v:=.ty c) o n j _6 m s) f7 r) w) (by decide) (by decide) w l) λσ H Q ⟨G,U,R,q⟩=>⟨G,U,R,(dL.bind q).am λz Z C x A T y O=>by
  obtain⟨d,i,I⟩:=dL.of C;unfold cm at i;cases u:Zg z with
  |none=>rw[u]at i;cases i
  |some t=>
   rw[u]at i;cases i;exact⟨A,z,x,t,_6,y.gh,O,u,I _ A T y _6⟩⟩
noncomputable def Hi(d:D):D->f_ l_
 |.a8 xs=>match ff xs,cw d with
  |some ps,a_ q=>if bA ps&&cG q then a_ (ps.any λy=>cO y q)else c_
  |_,_=>c_
 |.ci xs=>match ff xs,cw d with
  |some ps,a_ q=>if bA ps&&cG q then a_ (ps.any λy=>cO y q)else c_
  |_,_=>c_
 |.str z=>match d with
  |.str x=>a_ (!(kW z x 0 z.length 1).isEmpty)
  |_=>c_
 |_=>c_
def Hh(d e:D):f_ D:=(Hi d e).map .bl
def qm(d e:D):f_ D:=(Hi d e).map λb=>.bl !b
def xr{d:D}{xs:b_ D}{b:l_}(h:(match ff xs,cw d with
  |some ps,a_ q=>if bA ps&&cG q then a_ (ps.any λy=>cO y q)else c_
  |_,_=>c_)=a_ b):∃ps q,ff xs=a_ ps/\cw d=a_ q/\bA ps=d_/\cG q=d_/\b=ps.any λy=>cO y q:=by
 cases f:ff xs with
 |none=>rw[f]at h;cases h
 |some ps=>
  cases i:cw d with
  |none=>rw[f,i]at h;cases h
  |some q=>
   rw[f,i]at h;dsimp only at h
   by_cases c:(bA ps&&cG q)=d_
   .rw[aO c]at h;cases h;rw[aH]at c;exact⟨ps,q,_6,_6,c.1,c.2,_6⟩
   .rw[aJ c]at h;cases h
inductive rInD(K:KA)(neg:l_)(x:V)(y:V)(H:Hp)(Q:VK):Prop
 |mk (G dx dy b) (_:a6 G H) (_:Arg K G H dx x) (_:Arg K G H dy y) (_:Hi dx dy=a_ b) (_:Q (.bl (if neg then !b else b)) H):rInD K neg x y H Q
def Tn(L:X.A.units+65<cP):n5 X (cI .In) (rInD (kx X) e_):=by
 intro d s σ H x y v u Q I l j q;obtain⟨G,N,M,b,i,J,C,f,q⟩:=q;cases M with
 |a8 xs=>obtain⟨ps,p,r,o,m,c,rfl⟩:=xr f;obtain⟨O,ra⟩:=bu I i J l o;obtain⟨bs,n⟩:=bu (p:=.list ps) I i C j (by unfold cw;rw[r]);exact SeqAt.in_list_reads n ra m (fE c) (jL c L) ⟨.bl _,H,I,_6,q⟩
 |ci xs=>obtain⟨ps,p,r,o,m,c,rfl⟩:=xr f;obtain⟨O,ra⟩:=bu I i J l o;obtain⟨bs,n⟩:=bu (p:=.tuple ps) I i C j (by unfold cw;rw[r]);exact SeqAt.in_tuple_reads n ra m (fE c) (jL c L) ⟨.bl _,H,I,_6,q⟩
 |str z=>
  cases N with
  |str w=>cases f;rw[J.str]at l;rw[C.str]at j;exact Pm d s σ H _ _ _ _ Q I l j ⟨_,_,_6,_6,q⟩
  |_=>cases f
 |_=>cases f
def Pn(L:X.A.units+65<cP):n5 X (cI .NotIn) (rInD (kx X) d_):=by
 intro d s σ H x y v u Q I l j q;obtain⟨G,N,M,b,i,J,C,f,q⟩:=q;cases M with
 |a8 xs=>obtain⟨ps,p,r,o,m,c,rfl⟩:=xr f;obtain⟨O,ra⟩:=bu I i J l o;obtain⟨bs,n⟩:=bu (p:=.list ps) I i C j (by unfold cw;rw[r]);exact SeqAt.notIn_list_reads n ra m (fE c) (jL c L) ⟨.bl _,H,I,_6,q⟩
 |ci xs=>obtain⟨ps,p,r,o,m,c,rfl⟩:=xr f;obtain⟨O,ra⟩:=bu I i J l o;obtain⟨bs,n⟩:=bu (p:=.tuple ps) I i C j (by unfold cw;rw[r]);exact SeqAt.notIn_tuple_reads n ra m (fE c) (jL c L) ⟨.bl _,H,I,_6,q⟩
 |str z=>
  cases N with
  |str w=>cases f;rw[J.str]at l;rw[C.str]at j;exact Du d s σ H _ _ _ _ Q I l j ⟨_,_,_6,_6,q⟩
  |_=>cases f
 |_=>cases f
def M5:dq (kx X) Hh (rInD (kx X) e_):=λG H x y j i d f m l c Q q=>by
 unfold Hh at c;cases e:Hi j i with
 |none=>rw[e]at c;cases c
 |some b=>rw[e]at c;cases c;exact⟨G,j,i,b,f,m,l,e,q _ G H (c6.refl f) _6⟩
def Kt:dq (kx X) qm (rInD (kx X) d_):=λG H x y j i d f m l c Q q=>by
 unfold qm at c;cases e:Hi j i with
 |none=>rw[e]at c;cases c
 |some b=>rw[e]at c;cases c;exact⟨G,j,i,b,f,m,l,e,q _ G H (c6.refl f) _6⟩
def JV(c:X.A.units+65<cP)(j:dj X B E a g)(i:dj X B E b h)(d:Q! (gO .In b=e_) Q4!):ph X B E (.Compare a [.In] [b] pos) (g2 Hh g h):=D3 (Tn c) M5 (λz z z h=>r9 (f:=id) h) j i d
noncomputable def uh:D->f_ D
 |.a8 c=>a_ (.ci c)
 |.ci c=>a_ (.ci c)
 |_=>c_
noncomputable def Uu:D->f_ D
 |.int i=>a_ (.int i)
 |.bl b=>a_ (.int (if b then 1 else 0))
 |_=>c_
def Uo{p:v_}(v:Gl X "tuple")(u:X.mg "tuple"=c_)(w:dj X B E e g)(s:Q! (aU [e] X.env=(e_,I_ e X.env)::aU [] X.env) Q2!)(m:Q! ((dW pos (aU [] X.env)).any (·.1)=e_) Q2!):ck X B E (.Call (.Name "tuple" p) [e] [] pos) (g1 uh g):=
 PE.imp (jg Ay v u lA (de w f9 s) (by decide) (by decide) s m) λσ H Q q=>GI (λG H x y d c o f Q q=>by
  unfold uh at f;split at f
  .cases f;obtain⟨l,i,rfl,j,dl⟩:=o.a8 c;exact⟨l,i,_6,.inl ⟨j,λp r=>q _ (c0 G p (.ci i)) _ (c6.new c _ r) (gz c r dl)⟩⟩
  .cases f;have n:=o;obtain⟨l,i,rfl,j,dl⟩:=o.ci c;obtain ad|⟨_,_,_,z,_⟩|⟨_,_,_,z,_⟩|⟨_,_,_,z,_⟩:=n
   .exact⟨l,i,_6,.inr ⟨j,q _ G H (c6.refl c) ad⟩⟩
   .cases z
   .cases z
   .cases z
  .cases f) q
def Yi{p:v_}(n:Gl X "int")(m:X.mg "int"=c_)(o:dj X B E e g)(j:Q! (aU [e] X.env=(e_,I_ e X.env)::aU [] X.env) Q2!)(f:Q! ((dW pos (aU [] X.env)).any (·.1)=e_) Q2!):ck X B E (.Call (.Name "int" p) [e] [] pos) (g1 Uu g):=
 PE.imp (jg N5 n m _l (de o f9 j) (by decide) (by decide) j f) λσ H Q q=>GI (λG H x r d i l c Q q=>by
  unfold Uu at c;split at c
  .cases c;rw[l.int];exact .inl ⟨_,_6,q _ G H (c6.refl i) _6⟩
  .cases c;rw[l.bl];exact .inr ⟨_,_6,q _ G H (c6.refl i) _6⟩
  .cases c) q
end
section
variable{X:Cx}{G0 B:Hp}{E:EK}{e a b:Expr}{es:b_ Expr}{g h:En->bi}{pos:v_}
noncomputable def Kx(i:h_)(g:En->bi):En->fq:=λU=>match U[i]? with
 |some (.ow c)=>(g U).then λd=>if _7 c<aG then .nx (U.set i (.ow (c++[d])))else .st
 |_=>.st
def ce.owAt{K:KA}{G H:Hp}{σ:St}{U:En}{i:h_}{f:b_ D}(R:ce K B G H σ U)(h:U[i]?=a_ (.ow f)):∃a c,σ[i]?=a_ (a_ (V.ref a))/\H a=a_ (.a8 c)/\bt K G f c/\G a=c_/\B a=c_:=by obtain⟨o,d,a,c,m,l,j⟩:=R.sl i _ h;subst m;obtain⟨g,b⟩:=R.own i _ a h _6 d;exact⟨a,c,d,l,j,g,b⟩
def U7{i:h_}{x:k_}{p m f:v_}(hv:PE X (.Name x p) (fh i))(ha:ck X B E e g)
  (r:Q! (gQ (.Name x p) "append" X.env (I_ (.Name x p) X.env)=I_ (.Name x p) X.env) Q2!)
  (u:Q! (((dW f (aU [e] X.env)).all (λx=> !x.1)&&(lG f (iA [] X.env)).all (λx=>x.1.isSome)
  &&decide (([e]:b_ Expr).length+([]:b_ fP).length+(if([]:b_ fP).isEmpty then 0 else 1)<30))=d_) Q2!)
  (o:Q! ((m.endLine==f.line)=d_) Q2!) (N:Q! (aU [e] X.env=(e_,I_ e X.env)::aU [] X.env) Q2!) (n:Q! ((dW f (aU [] X.env)).any (·.1)=e_) Q2!)
  (z:Q! (eR (.Call (.Attribute (.Name x p) "append" m) [e] [] f) c_ pos.line X.env=pure e_) Q2!):
  ja X G0 B E (.Expr (.Call (.Attribute (.Name x p) "append" m) [e] [] f) pos) (Kx i g):=
 PS.imp (je (oz dF kB kC qi hv (yc ha f9 N) r u o N n) z) λD σ H ⟨G,U,R,Q,q⟩=>by
  unfold Kx at q;cases w:U[i]? with
  |none=>rw[w]at q;exact q.elim
  |some sl=>
   rw[w]at q;cases sl with
   |ow I=>
    dsimp only at q;obtain⟨l,J,M,y,L,q4,q5⟩:=R.owAt w;refine⟨.ref l,M,.inl ⟨_6,J,h8.of y⟩,G,U,R,?_⟩;have j:=jv Q q;unfold ac;cases C:g U with
    |er c=>rw[C]at j;exact j
    |st=>rw[C]at j;exact j
    |ok d=>
     rw[C]at j;have j:js (kx X) G0 B E G (if _7 I<aG then .nx (U.set i (.ow (I++[d])))else .st) D:=j
     by_cases A:_7 I<aG
     .rw[aO A]at j;intro ws G1 H1 s al;obtain⟨d',dr,v,vr,z1,Y,dv,z3,T⟩:=al;cases z1;subst Y T;have O:=s.hh _ _ y;have g1:=s.fr _ _ y q4 _6;refine⟨l,J,v,_6,_6,O,by rw[<-L.length];exact A,?_⟩;exact j σ G1 _ s.gg (ce.wr (R.ext s) w M O ((L.am s.gg).append (bt.pv dv))) (c6.wr (Q.trans s) g1 q5)
     .rw[aJ A]at j;exact j.elim
   |no=>exact q.elim
   |pu _=>exact q.elim
   |bo _=>exact q.elim
   |od _ _=>exact q.elim
def Fq(T:F_)(z:T="list"\/T="tuple")(l:g_)(f:q_ aC)(n:h_)(b:g_)(c:q_ aC)(v:h_)(q:f_ g_)(o:q_ (f_ aC))(y:¬(!f.isEmpty&&dP (f.size+c.size))=d_)(j:f.size<=aG)(p:f.size+c.size<=aG+1):
  _g (z_.«list.extend» ⟨[.ref l,.ref b],[]⟩) (λZ R s=>s.1.get? l=a_ {cls:=.type "list",dict:=c_,data:=.seq f n,slots:=#[]}/\s.1.get? b=a_ {cls:=.type T,dict:=q,data:=.seq c v,slots:=o}/\R (.ok (.ret bV)) {s with heap:=s.1.update l (pM λx=>x++c),toks:=s.toks}):=
 .of_wp λr w A R s h=>by
  obtain⟨G,g,d,C,os⟩:=s;obtain⟨m,u,h⟩:=h;have M:=AutoSeq1.idx_int;have L:=_o;have J:=AutoSeq1.sub_list_list;have I:=AutoSeq1.sub_tuple_list;have H:=AutoSeq1.sub_list_tuple;have i:(f++c).size<=aG+1:=by rw[Array.size_append];exact p
  obtain rfl|rfl:=z
  .wp_walk using(kN m _6 (hz:=j) (_hz':=i)),iG m,iG u;exact⟨_,_6,h⟩
  .wp_walk using(kN m _6 (hz:=j) (_hz':=i)),iG m,iG u;exact⟨_,_6,h⟩
inductive rExtD(K:KA)(x:V)(vs:b_ V)(H:Hp)(Q:VK):Prop
 |mk (l b xs zs) (_:x=.ref l) (_:vs=[.ref b]) (_:H l=a_ (.a8 xs)) (_:(h8 K H b zs\/ng K H b zs)) (_:_7 xs+_7 zs<=aG) (_:Q .fm (c0 H l (.a8 (xs++zs)))):rExtD K x vs H Q
def Dr:LP X "list.extend" (rExtD (kx X)):=by
 intro L s σ H x vs v us Q I O U h;obtain⟨l,b,xs,N,rfl,rfl,M,hB,hz,q⟩:=h;cases O;obtain⟨u,rfl,Y⟩:=U.pv;cases Y;obtain⟨z,i,n,r,hl,e⟩:=I.lstM M;have C:∃T f m p j,(T="list"\/T="tuple")/\dg N f/\s.1.get? b=a_ {cls:=.type T,dict:=p,data:=.seq f.toArray m,slots:=j}:=by
  obtain hB|hB:=hB
  .obtain⟨f,w,A,_⟩:=I.list hB;obtain⟨⟨cls,dd,data,y⟩,m,J,c,d,q⟩:=A;simp only at c d q;subst c d q;exact⟨_,f,m,_,y,.inl _6,w,J⟩
  .obtain⟨f,w,A,_⟩:=I.tuple hB;obtain⟨⟨cls,dd,data,y⟩,J,c,m,q⟩:=A;simp only at c q;subst c q;exact⟨_,f,m,_,y,.inr _6,w,J⟩
 obtain⟨T,f,m,p,j,hT,w,e2⟩:=C;have α:=w.length;have G:i.toArray.size+f.toArray.size<=aG:=by rw[aX,aX];lia
 have o:¬(!i.toArray.isEmpty&&dP (i.toArray.size+f.toArray.size))=d_:=by rw[zr G,_A];exact p_
 refine fC F.slot_list_extend ⟨_,e,_6⟩ F.entry_list_extend (F.args_list_extend_2 _ _)
  (Fq T hT l i.toArray n b f.toArray m p j o (by rw[aX];lia) (by lia)) ⟨e,e2,?_⟩
 refine⟨.fm,_,I.lset (its':=i++f) M e (by simp) (r.append w) ?_,_6,q⟩;rw[bS]
 lia
noncomputable def Ky(i:h_)(g:En->bi):En->fq:=λU=>match U[i]? with
 |some (.ow c)=>(g U).then λd=>match nv d with
  |some es=>if _7 c+_7 es<=aG then .nx (U.set i (.ow (c++es)))else .st
  |none=>.st
 |_=>.st
def U9{i:h_}{x:k_}{p m f:v_}(hv:PE X (.Name x p) (fh i))(ha:dj X B E e g)
  (u:Q! (gQ (.Name x p) "extend" X.env (I_ (.Name x p) X.env)=I_ (.Name x p) X.env) Q2!)
  (w:Q! (((dW f (aU [e] X.env)).all (λx=> !x.1)&&(lG f (iA [] X.env)).all (λx=>x.1.isSome)
  &&decide (([e]:b_ Expr).length+([]:b_ fP).length+(if([]:b_ fP).isEmpty then 0 else 1)<30))=d_) Q2!)
  (s:Q! ((m.endLine==f.line)=d_) Q2!) (hs:Q! (aU [e] X.env=(e_,I_ e X.env)::aU [] X.env) Q2!) (o:Q! ((dW f (aU [] X.env)).any (·.1)=e_) Q2!)
  (N:Q! (eR (.Call (.Attribute (.Name x p) "extend" m) [e] [] f) c_ pos.line X.env=pure e_) Q2!):
  ja X G0 B E (.Expr (.Call (.Attribute (.Name x p) "extend" m) [e] [] f) pos) (Ky i g):=
 PS.imp (je (oz dF kE kF Dr hv (de ha f9 hs) u w s hs o) N) λD σ H ⟨G,U,R,ex,q⟩=>by
  unfold Ky at q;cases A:U[i]? with
  |none=>rw[A]at q;exact q.elim
  |some sl=>
   rw[A]at q;cases sl with
   |ow z=>
    dsimp only at q;obtain⟨l,T,q1,L,Y,q4,q5⟩:=R.owAt A;refine⟨.ref l,q1,.inl ⟨_6,T,h8.of L⟩,G,U,R,?_⟩;have j:=jv ex q;unfold ac;cases O:g U with
    |er c=>rw[O]at j;exact j
    |st=>rw[O]at j;exact j
    |ok d=>
     rw[O]at j;cases y:nv d with
     |none=>
      have j:js (kx X) G0 B E G (match nv d with
       |some es=>if _7 z+_7 es<=aG then .nx (U.set i (.ow (z++es)))else .st
       |none=>.st) D:=j
      rw[y]at j;exact j.elim
     |some es=>
      have j:js (kx X) G0 B E G (match nv d with
       |some es=>if _7 z+_7 es<=aG then .nx (U.set i (.ow (z++es)))else .st
       |none=>.st) D:=j
      rw[y]at j;dsimp only at j
      by_cases hl:_7 z+_7 es<=aG
      .rw[aO hl]at j;intro ws G1 H1 r al;obtain⟨v,rfl,av⟩:=h9.pv al;have h1:=r.hh _ _ L;have g1:=r.fr _ _ L q4 _6;have M:∃b n,v=.ref b/\(h8 (kx X) H1 b n\/ng (kx X) H1 b n)/\bt (kx X) G1 es n:=by
        cases d with
        |a8 Q=>cases y;obtain⟨b,n,J,I,C⟩:=av.a8 r.gh;exact⟨b,n,J,.inl I,C⟩
        |ci Q=>cases y;obtain⟨b,n,J,I,C⟩:=av.ci r.gh;exact⟨b,n,J,.inr I,C⟩
        |_=>cases y
       obtain⟨b,n,rfl,sq,dl⟩:=M;have l1:=Y.length;have l2:=dl.length;refine⟨l,b,T,n,_6,_6,h1,sq,by lia,?_⟩;exact j σ G1 _ r.gg (ce.wr (R.ext r) A q1 h1 ((Y.am r.gg).append dl)) (c6.wr (ex.trans r) g1 q5)
      .rw[aJ hl]at j;exact j.elim
   |no=>exact q.elim
   |pu _=>exact q.elim
   |bo _=>exact q.elim
   |od _ _=>exact q.elim
end
noncomputable def cf:D->f_ cj
 |.int i=>a_ (.inl i)
 |.str x=>a_ (.inr x)
 |_=>c_
def g9(k:cj):cf (kD k)=a_ k:=by cases k<;>rfl
noncomputable def cx:b_ (D×D)->cj->f_ D
 |[],_=>c_
 |(k,d)::r,j=>if cf k=a_ j then a_ d else cx r j
def CV(a:b_ (D×D))(j:cj):l_:=a.any λp=>decide (cf p.1=a_ j)
def Hd(a:b_ (D×D))(j:cj)(v:D):b_ (D×D):=if CV a j=d_ then a.map (λp=>if cf p.1=a_ j then(p.1,v)else p)else a++[(kD j,v)]
section
variable{K:KA}{G:Hp}
theorem f8.length:∀{a:b_ (D×D)}{es:b_ (cj×V)},f8 K G a es->_7 a=_7 es
 |[],_,h=>by rw[show _=[]from h];rfl
 |(_,_)::_,_,⟨k,v,r,c,_,_,b⟩=>by rw[c,aR,aR,f8.length b]
theorem f8.ky:∀{a:b_ (D×D)}{es:b_ (cj×V)},f8 K G a es->∀j,(∀d,cx a j=a_ d->∃v,c8 es j=a_ v/\gy K G d v)/\(cx a j=c_->c8 es j=c_)
 |[],es,h,j=>by rw[show es=[]from h];exact⟨λd e=>(by cases e),λq=>pf⟩
 |(k,d)::r,es,h,j=>by
  obtain⟨g,v,t,rfl,rfl,m,n⟩:=h;obtain⟨l,i⟩:=f8.ky n j;unfold cx;rw[g9]
  by_cases e:g=j
  .subst e;rw[aO _6];exact⟨λb z=>⟨v,gj _6,by cases z;exact m⟩,λz=>by cases z⟩
  .rw[aJ (λz=>e (aZ z))];refine⟨λb z=>?_,λz=>?_⟩
   .obtain⟨u,f,c⟩:=l b z;exact⟨u,(fg e).trans f,c⟩
   .exact(fg e).trans (i z)
theorem f8.has:∀{a:b_ (D×D)}{es:b_ (cj×V)},f8 K G a es->∀j,CV a j=es.any λc=>decide (c.1=j)
 |[],es,h,j=>by rw[show es=[]from h];rfl
 |(k,i)::r,es,h,j=>by
  obtain⟨d,u,t,rfl,rfl,g,f⟩:=h;have b:=f8.has f j;unfold CV at b⊢;rw[iY,iY,b]
  congr 1
  rw[g9]
  by_cases e:d=j
  .simp[e]
  .rw[t_ e,t_ λz=>e (aZ z)]
theorem f8.repl{d:D}{v:V}(g:gy K G d v):∀{a:b_ (D×D)}{es:b_ (cj×V)},f8 K G a es->∀j,f8 K G (a.map λp=>if cf p.1=a_ j then(p.1,d)else p) (es.map λb=>if b.1=j then(b.1,v)else b)
 |[],es,h,j=>by rw[show es=[]from h];rfl
 |(k,m)::r,es,h,j=>by
  obtain⟨c,u,t,rfl,rfl,i,l⟩:=h;have f:=f8.repl g l j;rw[bK,bK];dsimp only;rw[g9]
  by_cases e:c=j
  .rw[aO e,aO (by rw[e])];exact⟨c,v,_,_6,_6,g,f⟩
  .rw[aJ e,aJ λz=>e (aZ z)];exact⟨c,u,_,_6,_6,i,f⟩
theorem f8.snoc{d:D}{v:V}(b:gy K G d v):∀{a:b_ (D×D)}{es:b_ (cj×V)},f8 K G a es->∀j,f8 K G (a++[(kD j,d)]) (es++[(j,v)])
 |[],es,h,j=>by rw[show es=[]from h];exact⟨j,v,[],_6,_6,b,_6⟩
 |(k,g)::r,es,h,j=>by obtain⟨c,u,t,rfl,rfl,e,f⟩:=h;exact⟨c,u,_,_6,_6,e,f8.snoc b f j⟩
def f8.put{d:D}{v:V}(b:gy K G d v){a:b_ (D×D)}{es:b_ (cj×V)}(h:f8 K G a es)(j:cj):f8 K G (Hd a j d) (cv es j v):=by
 unfold Hd cv;rw[h.has j]
 by_cases e:(es.any λc=>decide (c.1=j))=d_
 .rw[aO e,aO e];exact h.repl b j
 .rw[aJ e,aJ e];exact h.snoc b j
end
section
variable{X:Cx}{G0 B:Hp}{E:EK}{e a b:Expr}{es:b_ Expr}{g h k:En->bi}{pos:v_}
def Arg.dctK{K:KA}{G H:Hp}{c:b_ (D×D)}{v:V}(s:a6 G H)(h:Arg K G H (.h7 e_ c) v):∃a es,v=.ref a/\H a=a_ (.dK es)/\f8 K G c es:=by
 obtain ⟨a,f,d⟩|⟨_,_,_,z,_⟩|⟨j,i,a,z,f,d⟩|⟨_,_,_,z,_⟩:=h
 .obtain ⟨_,es,q,r⟩|⟨z,_⟩:=d
  .exact⟨a,es,f,s _ _ q,r⟩
  .cases z
 .cases z
 .cases z;obtain ⟨_,es,q,r⟩|⟨z,_⟩:=d
  .exact⟨a,es,f,q,r⟩
  .cases z
 .cases z
noncomputable def U4(i:h_):En->fq:=λU=>.nx (U.set i (.od e_ []))
def ce.setD{K:KA}{G H:Hp}{σ:St}{U:En}{i:h_}{a:g_}(R:ce K B G H σ U)(c:H a=c_):ce K B G (c0 H a (.dK [])) (σ.set i (a_ (.ref a))) (U.set i (.od e_ [])):=R.newO (c6.own R.gh _ c) c (aq R.gh c) ⟨a,[],_6,ae,_6⟩
def FD{i:h_}{x:k_}{c p:v_}(f:PS X (.Assign [.Name x c] (.Dict [] [] p) pos) (Ba Vm (ij i))):ja X G0 B E (.Assign [.Name x c] (.Dict [] [] p) pos) (U4 i):=
 PS.imp f λD σ H ⟨G,U,R,e,q⟩=>λa d=>q _ G _ (a6.refl G) (R.setD d) (e.trans (c6.own R.gh _ d))
def ce.odAt{K:KA}{G H:Hp}{σ:St}{U:En}{i:h_}{c:b_ (D×D)}(R:ce K B G H σ U)(h:U[i]?=a_ (.od e_ c)):∃a es,σ[i]?=a_ (a_ (V.ref a))/\H a=a_ (.dK es)/\f8 K G c es/\G a=c_/\B a=c_:=by obtain⟨o,d,a,f,m,l,j⟩:=R.sl i _ h;subst m;obtain⟨g,b⟩:=R.own i _ a h _6 d;exact⟨a,f,d,l,j,g,b⟩
def ce.wrD{K:KA}{G H:Hp}{σ:St}{U:En}{i:h_}{f c:b_ (D×D)}{a:g_}{es d:b_ (cj×V)}(R:ce K B G H σ U)(l:U[i]?=a_ (.od e_ f))(j:σ[i]?=a_ (a_ (V.ref a)))(m:H a=a_ (.dK es))(dl:f8 K G c d):
  ce K B G (c0 H a (.dK d)) σ (U.set i (.od e_ c)):=R.wrO l _6 j ⟨a,d,_6,ae,dl⟩
def i0{K:KA}{G H:Hp}{d:D}{v:V}{k:cj}(h:Arg K G H d v)(e:cf d=a_ k):v=kV k:=by
 cases d with
 |int i=>cases e;exact h.int
 |str x=>cases e;exact h.str
 |_=>cases e
noncomputable def Nf(i:h_)(f d:En->bi):En->fq:=λU=>match U[i]? with
 |some (.od e_ c)=>(d U).then λv=>(f U).then λk=>match cf k with
  |some j=>if _7 c<aG then .nx (U.set i (.od e_ (Hd c j v)))else .st
  |none=>.st
 |_=>.st
def FJ{i:h_}{x:k_}{p d:v_}{f r:Expr}(Y:X.A.units+5<cP)(T:PE X (.Name x p) (fh i))(hk:dj X B E f g)(m:ck X B E r h)
  (hs:Q! (eR r (a_ (.Subscript (.Name x p) f d)) pos.line X.env=pure e_) Q2!):ja X G0 B E (.Assign [.Subscript (.Name x p) f d] r pos) (Nf i g h):=
 PS.imp (M6 Y T hk m hs) λD σ H ⟨G,U,R,w,q⟩=>by
  unfold Nf at q;cases n:U[i]? with
  |none=>rw[n]at q;exact q.elim
  |some N=>
   rw[n]at q;cases N with
   |od t s=>
    cases t with
    |true=>exact q.elim
    |false=>
     dsimp only at q;obtain⟨l,es,L,J,I,Q,O⟩:=R.odAt n;refine⟨G,U,R,(jv w q).am λdv Z q v G1 H1 o dn=>⟨.ref l,L,G1,U,R.ext o,(jv (K:=(kx X)) (w.trans o) (js.same o.gg q)).am λdk Z q y G2 H2 C ay=>?_⟩⟩;have c:=o.trans C;cases z:cf dk with
     |none=>rw[z]at q;exact q.elim
     |some j=>
      rw[z]at q;dsimp only at q
      by_cases u:_7 s<aG
      .rw[aO u]at q;have M:=c.hh _ _ J;have g2:=c.fr _ _ J Q _6;rw[i0 ay z];refine⟨l,_,_6,DPut.k M (by rw[<-I.length];exact u),?_⟩;exact q σ G2 _ C.gg (ce.wrD (R.ext c) n L M ((I.am c.gg).put (dn.am C.gg) j)) (c6.wr (w.trans c) g2 O)
      .rw[aJ u]at q;exact q.elim
   |no=>exact q.elim
   |pu _=>exact q.elim
   |bo _=>exact q.elim
   |ow _=>exact q.elim
end
noncomputable def cq:Expr->l_
 |.Starred _ _=>e_
 |_=>d_
def ag{e:Expr}{es:b_ Expr}{a:T_}(h:cq e=d_):aU (e::es) a=(e_,I_ e a)::aU es a:=by cases e<;>first|rfl|cases h
theorem i8:∀{es:b_ Expr}{b:T_}{a:v_},es.all cq=d_->(dW a (aU es b)).any (·.1)=e_
 |[],_,_,_=>rfl
 |e::es,b,a,h=>by rw[bO,aH]at h;rw[ag h.1];show((e_||(dW a (aU es b)).any (·.1)))=e_;rw[i8 h.2];rfl
theorem gi:∀{es:b_ Expr}{b:T_}{a:v_},es.all cq=d_->(dW a (aU es b)).all (λx=> !x.1)=d_
 |[],_,_,_=>rfl
 |e::es,b,a,h=>by rw[bO,aH]at h;rw[ag h.1];show((d_&&(dW a (aU es b)).all (λx=> !x.1)))=d_;rw[gi h.2];rfl
def ux{e f:Expr}{a:T_}{b:v_}(h:cq e=d_)(c:cq f=d_):dW b (aU [e,f] a)=[(e_,I_ e a),(e_,I_ f a)]:=by rw[ag h,ag c];rfl
noncomputable def D1:Expr->l_
 |.UnaryOp .Not _ _=>e_
 |.BoolOp _ _ _=>e_
 |.IfExp _ _ _ _=>e_
 |.Compare _ _ _ _=>e_
 |_=>d_
set_option tactic.hygienic true in
def B4{a:Expr}{c:T_}(h:D1 a=d_):∀b,isTrue a c b=(do let v <-b;standAt a.pos;mK [v] (truthy v)):=by
 intro b;cases a<;>first|rfl|(cases h;done)|skip
 rename_i d x p;cases d<;>first|rfl|cases h
noncomputable def so:Expr->l_
 |.Slice _ _ _ _=>e_
 |_=>d_
def Pr{b:Expr}(h:so b=d_):Ce b:=by intro o i;cases b<;>first|rfl|cases h
noncomputable def jc:Expr->l_
 |.Set _ _ _=>e_
 |_=>d_
def j8{a:mR}{b:Expr}(h:jc b=d_):gO a b=e_:=by cases b<;>first|rfl|cases h
def gu{e:Expr}{a:T_}(h:jc e=d_):∀x,fW e a x=pure x:=by intro x;cases e<;>first|rfl|cases h
def zp{d a:mR}{b c:Expr}(h:jc c=d_):qA [d,a] [b,c]=e_:=j8 h
noncomputable def jb:Expr->l_
 |.ListComp _ _ _ _=>e_
 |.SetComp _ _ _ _=>e_
 |.DictComp _ _ _ _ _=>e_
 |_=>d_
def bg{e:Expr}{t:f_ Expr}{n:h_}{a:T_}(h:jb e=d_):eR e t n a=pure e_:=by cases e<;>first|rfl|cases h
noncomputable def gf:Expr->l_
 |.Call _ _ _ _=>e_
 |_=>d_
def d8{o:Expr}{a:k_}{b:T_}{w:N! aC}(h:gf o=d_):gQ o a b w=w:=by cases o<;>first|rfl|cases h
end Pu
namespace L2
set_option tactic.hygienic true in
def DI{K:aK}{h:r_}{i:k_->f_ aC}{x:k_}{C:g_}{e:b_ aC}{a:F_}(X:K.In h)(E:i x=a_ (.ref C))(q:dH K C e a=d_):OwnCls x C e a i h:=by
 refine⟨E,?_⟩;unfold dH at q;split at q
 .rename_i I J u B;split at q
  .rename_i N L r p o m n j c A;simp only[aH,W_,lJ]at q;obtain⟨⟨⟨⟨⟨rfl,rfl⟩,b⟩,z⟩,f⟩,d⟩:=q;obtain⟨y,bs,mro,w,v,G,s,sub,M,g,H⟩:=J;dsimp only at c b f d;subst c b;obtain⟨l⟩:=u;obtain rfl:l=[r,p,o,m,a_ (.builtin n),j]:=A;exact⟨L,w,y,v,bs,G,s,sub,M,g,I,r,p,o,m,j,_,X _ _ B,.of_isNs (PySem.W.isNs_of_in X f),PySem.W.nsMap_none_of_in X f d,PySem.W.tail_of_in X z⟩
  .cases q
 .cases q
structure rJ(bmB:b_ aC)(newId:F_):Prop where
 facts:∃Bn inN bmN B nid initId,ExcBaseFacts Bn newId inN bmN/\bmB.contains (.type Bn)=d_/\ExcBaseFacts B nid initId bmB
def GW(C:g_)(E:XK)(t:TA):TS:=λz σ H=>t σ H λa b=>_7 a<=aG/\E (.ref C) c_ b
def Ub{X:Cx}{x:k_}{C:g_}{i:b_ aC}{c:F_}{E:XK}{a:Expr}{bc:b_ Expr}{t:TA}{np b l:v_}(hc:X.calm=d_)(hg:Gl X x)(A:X.mg x=a_ (.ref C))(hx:dH X.K C i c=d_)(B:rJ i c)
  (hp:jh (Bb X.prog X.w) X E)(ha:PA X (a::bc) t)(p:Q! ((x==("__debug__":k_))=e_) Q1!)(G:Q! (aU (a::bc) X.env=(e_,I_ a X.env)::aU bc X.env) Q2!)(m:Q! ((dW b (aU bc X.env)).any (·.1)=e_) Q2!):
  PS X (.Raise (a_ (.Call (.Name x np) (a::bc) [] b)) c_ l) (GW C E t):=by
 intro d s σ H D I h;obtain⟨Bn,μ,Γ,B',δ,j,Fn,u,FB⟩:=B.facts;obtain⟨Q,N,nm,q,bs,g,U,sub,ab,v,dd,k0,k1,k2,k3,k5,mN,hC,hN,n,T⟩:=(DI I.ok.q7.kin A hx).obj;refine wpAny_Raise_call_subU (C:=C) (nm:=nm) (q:=q) (N:=N) (bs:=bs) (bm:=Q) (hdct:=g) (sn:=U) (sub:=sub) (ab:=ab) (col:=v) (dd:=dd) (k0:=k0) (k1:=k1) (k2:=k2) (k3:=k3) (k5:=k5) Fn u FB (mN:=mN) (T.hasType FB.hasBase) (I.ok.hd hc)
  (by rw[G];show(e_||(dW b (aU bc X.env)).any (·.1))=e_;rw[m];rfl) n (ma I hg A ⟨_6,?_⟩ p)
 have J:=ha b d s σ H _ I h;rw[G]at J⊢;refine iB (cA J (λO Y ⟨vs,M,f,r,hl,qE⟩=>⟨_6,?_,f.bk _ _ hC,hN.keeps f.bk,T.keeps f.bk,λh' e made=>?_⟩) λZ Z y=>y)
 .show (_7 O)<=aG;rw[<-r.length];exact hl
 .obtain⟨tt,L,_,_⟩:=made.there;refine hp d σ M Y (.ref e) _ f ⟨e,.ref C,M,_6,_6,f.ln,Un.kd made.keeps,f.e6.kd made.keeps,⟨made.new,Sg f.e6 made.new,.inl (λo z=>by rw[L]at z;cases z;rfl),⟨_,_,L,_6,_6,by simp,.inl (by simp),.inl (by simp)⟩⟩,qE⟩
section
variable{X:Cx}{au:b_ (g_×D_)}{σ:St}{H:Hp}{s:aE}
noncomputable abbrev Cx.qG(X:Cx)(a:g_):Cx:={X with A:=X.A.mark (a_ (.ref a)),calm:=e_}
def Cx.Ok.qG(ok:X.Ok)(a:g_):(X.qG a).Ok:=
 ⟨ok.q7,ok.kind,ok.rC,ok.blt,ok.above,ok.inj,ok.has,ok.cab,λz=>u_ (show e_=d_ from z) (by decide),ok.frames,ok.stk,ok.exf,ok.bs,ok.bsz,ok.noex,ok.exfs,ok.qN,ok.frf⟩
def a9.qG(I:a9 X au σ H s)(a:g_):a9 (X.qG a) au σ H s:=⟨I.ok.qG a,I.os,I.ln,I.base,I.qX,I.cell,I.free,I.oD,I.q0,I.e6,I.len⟩
def BM{p f:Hp}{d c:aE}{a:g_}{cls:aC}{Q:_r->aE->Prop}{E:aC->aE->Prop}(b:X.stack=X.env::X.g8)(e:X.env.frame=a_ X.env.locals)(i:X.ex=[])(I:a9 X au σ p d)(J:a9 X au σ f c)(un:Un (vp X.stack) [] p f d.1 c.1)(B:qJ d.1 c.1 f a cls)
  (h:∀g,a9 X au σ f {c with heap:=g}->qJ d.1 g f a cls->Q () {c with heap:=g}):
  aP (aW X.prog X.w) X.A (nN (.ref a) X.env) (λZ v=>aP (aW X.prog X.w) X.A (S? (.ref a) c_) Q E v) E c:=by
 have n:=J.ok.frames;have st:=J.stack;rw[b]at n st;refine Mv n st e e B (λT j=>⟨?_,J.e6.fresh j⟩) λm G z c1 u Z=>Jp (fr:=vp X.stack) u λl C y L q=>h l (a9.chg (s:={c with heap:=m}) (h':=l) i I (a9.chg (h':=m) i I J z (by rw[b];exact c1)) y L) q;cases r:d.1.get? T with
 |none=>rfl
 |some o=>obtain⟨M,x⟩:=un.there T o r (by simp);exact u_ (bM (aM x) j) (cQ _)
def CZ{M:_q}{l:bT}{j e:Hp}{f b:aE}{a:g_}{cls:aC}{Q:_r->aE->Prop}{E:aC->aE->Prop}(g:X.ex=[])(I:a9 X au σ j f)(J:a9 X au σ e b)(i:qJ f.1 b.1 e a cls)
  (h:∀d,a9 X au σ e {b with heap:=d}->qJ f.1 d e a cls->Q () {b with heap:=d}):aP M l (S? (.ref a) c_) Q E b:=
 Jp (fr:=vp X.stack) i λd m n c x=>h d (a9.chg g I J n c) x
end
section
variable{X:Cx}{k:h_}{f Cy:g_}{fd:fA}{ps:b_ k_}{sp:Sp}{x y:k_}{p yp cpos epos hpos pos:v_}{e:Expr}{es:b_ Expr}{t:TA}{u:TS}{b₀:s_}{suite:b_ s_}
def Vu{c:b_ (g_×D_)}{σ:St}{H:Hp}{s:aE}{Q:VK}{J:XK}{L:aC->aE->Prop}{M:aC->aE->Prop}(F:kz X.prog X.w X.K X.mg X.base (Bb X.prog X.w) k f fd ps sp)(hr:io k X.A)(hg:Gl X x)(hm:X.mg x=a_ (.ref f))(hk:cT X.K (.ref f)=d_)(hb:lv X.K fd ps [])
  (ha:PA X.qd (e::es) t)(I:a9 X c σ H s)(h:t σ H λB l=>sp B l Q J)(G:(x==("__debug__":k_))=e_)(he:aU (e::es) X.env=(e_,I_ e X.env)::aU es X.env)(C:(dW cpos (aU es X.env)).any (·.1)=e_)
  (hq:∀v d u g,a9 X c σ d g->eu v u->Q v d->L u g) (Y:∀l j d g a cls,a9 X c σ l j->a9 X c σ d g->Un (vp X.stack) [] l d j.1 g.1->qJ j.1 g.1 d a cls->J cls c_ d->M (.ref a) g):
  aP (aW X.prog X.w) X.A (I_ (.Call (.Name x p) (e::es) [] cpos) X.env) L M s:=by
 refine fM (ma I hg hm ?_ G);refine kR (h₀:=X.base) I.ok.q7.kin hk (cA (ha cpos c s σ H _ (I.qK _) h) (λo j ⟨B,l,i,r,q⟩=>⟨i.qY,?_⟩) λZ Z z=>cS z) he C;have i:=i.o0;have hl:_7 o=_7 ps:=by rw[<-r.length];exact F.len _ _ _ _ q
 have m:=hb j o i.qY (by rw[dZ];exact hl);rw[dZ]at m;refine e? (lD (F.run X.A X.stack j l ⟨o,[]⟩ o B Q J hr i.env0 m r q) λO g z=>?_);cases O with
 |ok fl=>
  cases fl with
  |ret u=>obtain⟨v,d,I2,N,T⟩:=i.after z;exact hq v d u g I2 N T
  |next=>exact cS z
  |brk=>exact cS z
  |cont=>exact cS z
 |error ev=>obtain⟨a,cls,d,rfl,os,n,un,E,ex,U⟩:=z;exact Y l j d g a cls i (i.call' os un E n λb z=>u_ z (by simp)) un ex U
end
section
open PySem.W PySem.Calls
variable{K:aK}{x t c:aC}{H:r_->Prop}
def W1(ty:∀(M:_q)(h:r_),K.In h->H h->oO M h (i? x) t)(e:kitCls K t c=a_ d_)(q:(t==c)=e_):Answers (λs=>K.In s.1/\H s.1) x c d_:=by
 intro o u a w A R s n;obtain⟨m,g,d,f,os⟩:=s;obtain⟨⟨X,p⟩,j⟩:=n;have LT:=ty (aW a w) m X p;unfold z_.«isinstance.nested»;refine aA (LT.at ?_);rw[aJ (by rw[q];decide)];obtain⟨i,l,b⟩:=kit_cls (M:=aW a w) X e;have r:oO (aW a w) m (lX x c) d_:=LT.andThen b;refine aA (i.at ?_);rw[aO (by decide)]
 k_delta "plainIsInstance";refine aA (aA (l.at ?_))
 simp only[iF,m_,A_];refine aA (r.at ?_)
 first|exact aD (aD (j f))|(simp only[K_];first|exact aD (aD (j f))|exact aD (j f))
def W2{a:aV}{w:bP}{A:bT}{E:aC->aE->Prop}{s:aE}{Q:aC->aE->Prop}(ty:∀(M:_q)(h:r_),K.In h->H h->oO M h (i? x) t)(e:kitCls K t c=a_ d_)(q:(t==c)=e_)
  (X:K.In s.1)(p:H s.1)(d:x≠.builtin "__main__.__loader__#opaque")(h:∀b,Q (.bool d_) {s with toks:=b}):aP (aW a w) A (call (.builtin "isinstance") [x,c]) Q E s:=
 call_isinstance (S:=λz R s=>(K.In s.1/\H s.1)/\∀b,R (.ok (.ret (.bool d_))) {s with toks:=b}) (λa w A R s f=>isinstance_outer (W1 ty e q 0 _ a w A R s f) d) ⟨⟨X,p⟩,h⟩
end
section
variable{X:Cx}{au:b_ (g_×D_)}{σ:St}{H:Hp}{s:aE}{a:g_}{oe:D_}
noncomputable abbrev Cx.jp(X:Cx)(a:g_)(oe:D_):Cx:={X with A:=X.A.mark (a_ (.ref a)),calm:=e_,pn:=(a,oe)::X.pn}
def Cx.Ok.jp(ok:X.Ok)(a:g_)(oe:D_):(X.jp a oe).Ok:=
 ⟨ok.q7,ok.kind,ok.rC,ok.blt,ok.above,ok.inj,ok.has,ok.cab,λz=>u_ (show e_=d_ from z) (by decide),ok.frames,ok.stk,ok.exf,ok.bs,ok.bsz,ok.noex,ok.exfs,ok.qN,ok.frf⟩
def a9.jp(I:a9 X au σ H s)(g:s.1.get? a=a_ oe)(f:H a=c_)(n:a≠X.env.locals)(c:a∉X.fs)(d:∀v,oe.data≠.cell v):a9 (X.jp a oe) au σ H s:=
 ⟨I.ok.jp a oe,I.os,I.ln,I.base,I.qX,I.cell,I.free,I.oD,λp b=>by
  rcases o_.mp (show p∈(a,oe)::(X.pn++au)from b)with rfl|b
  .exact⟨g,f,n,c,d⟩
  .exact I.q0 p b,I.e6,I.len⟩
def a9.unheld(ok:X.Ok)(I:a9 (X.jp a oe) au σ H s):a9 X au σ H s:=⟨ok,I.os,I.ln,I.base,I.qX,I.cell,I.free,I.oD,λp b=>I.q0 p (bJ _ b),I.e6,I.len⟩
def Qy{T:F_}{E:aC->aE->Prop}(e:iN X.K oe.cls (.type T)=a_ d_)(q:(oe.cls==.type T)=e_):lf ((X.jp a oe).qK E) (.builtin "isinstance") (λxs H Q=>xs=[.ref a,.ty T]/\Q (.bl d_) H):=by intro au s σ H xs f Q I r h;obtain⟨rfl,h⟩:=h;obtain⟨u,i,rfl,d,b⟩:=V4 r;cases d;cases b;have g:=(I.q0 (a,oe) bI).1;exact W2 (K:=X.K) (H:=λh=>h.get? a=a_ oe) (λM h n g=>(pD g).andThen .now) e q I.qY g (λz=>nomatch z) λc=>⟨.bl d_,H,I.qs c,_6,h⟩
def B9{M:_q}{A:bT}{E:aC->aE->Prop}{i:h_}{n:k_}{x:v_}{Q:_r->aE->Prop}(I:a9 X au σ H s)(hN:X.N.Nodup)(O:X.N[i]?=a_ n)(hk:X.env.scope.names.lookup n=a_ .local)
  (h:∀L,a9 X au (σ.set i c_) H L->Q () L):aP M A (do bindName X.env n .none;unbindBehindTheSuite X.env n x) Q E s:=by
 obtain⟨m,hn,hl⟩:=id I.qX;have r:i<_7 σ:=by rw[I.len];exact(i_.mp O).1
 have nk:∀b o,X.kt.1.get? b=a_ o->b≠X.env.locals:=λb o e=>bE (bM (aM e) I.ok.above);have cne:=I.cne;refine wpAny_nameGoes_keeps hk hn (by rw[I.ok.kind];rfl) λh' v B f=>h _ ⟨I.ok,I.os,I.ln,⟨λb o e n G l=>(f.2 b (nk b o e)).trans (I.base.keep b o e n G l),λb o e n G l=>?_,I.base.free,λb o e l=>?_,I.base.qM,I.base.nw,I.base.qw⟩,⟨_,B,λj y T g w e3=>?_⟩,λy c e=>?_,I.free,I.oD,λp hp=>?_,λb ob e=>?_,by simpa using I.len⟩
 .obtain⟨Y,g⟩:=I.base.slot b o e n G l;exact⟨Y,(f.2 b (nk b o e)).trans g⟩
 .obtain⟨o',g⟩:=I.base.there b o e l;exact⟨o',(f.2 b (nk b o e)).trans g⟩
 .by_cases C:j=i
  .subst C;rw[aQ r]at w;cases w
  .rw[aN (cW C)]at w;obtain⟨U,r',q⟩:=hl j y T g w e3;refine⟨U,r',?_⟩;obtain ⟨k,e⟩|⟨k,c,e,z⟩:=q
   .have:y≠n:=λe=>C (zq hN g (e▸O));exact .inl ⟨k,by simp[this,e]⟩
   .exact .inr ⟨k,c,e,z.sameBut f (cne y c e)⟩
 .obtain⟨J,z⟩:=I.cell y c e;exact⟨J,z.sameBut f (cne y c e)⟩
 .obtain⟨e,n,ne,nf,d⟩:=I.q0 p hp;exact⟨(f.2 p.1 ne).trans e,n,ne,nf,d⟩
 .refine(I.e6 b ob e).qZ (λc J u q=>(f.2 c ?_).trans q) (λZ q=>q) λZ Z q=>q
  rintro rfl
  obtain rfl|u:=u
  .rw[I.free]at e;cases e
  .rw[I.free]at u;cases u
end
section
variable{P:aV}{w:bP}{K:aK}{mg:k_->f_ aC}{base:r_}
def Fun.okE{x b:k_}{st:s_}{f:g_}{j:fA}{N ps:b_ k_}{k:h_}{g:Sp}(F:Fun K x b st f j)(S:pc N ps (aj st))(len:∀d H Q E,g d H Q E->_7 d=_7 ps)
   (e:∀(c:aC)(A:bT)(a:b_ T_)(s:aE)(H:Hp)(d:b_ V)(Q:VK)(E:XK),j.code=c->io k (A.deeper (oN b (aj st) s.1.1.size f c))->g d H Q E->
   ∃t,qR (ly (Bb P w) P w K mg base N b (aj st) f c A a s H E) (bx st) t/\t {nx:=λz p=>Q .fm p,rt:=Q} (i9 N d) H):kz P w K mg base (Bb P w) (k+1) f j ps g:=by
 obtain⟨r,od,kV,o,q,u,c,ct,l,rfl,m,i⟩:=F.ex;exact Zt m i S len λA a s H d Q E n h=>e c A a s H d Q E _6 n h
def kz.calm{k:h_}{f:g_}{g:fA}{ps:b_ k_}{d:Sp}(F:kz P w K mg base (Bb P w) k f g ps d):kz P w K mg base N0 k f g ps (λb H Q Z=>d b H Q E0):=by
 refine⟨λb H Q E h=>F.len b H Q E0 h,λA a s H c i b Q E l o m r h=>lD (F.run A a s H c i b Q E0 l o m r h) λj p z=>?_⟩;cases j with
 |ok n=>cases n<;>exact z
 |error e=>obtain⟨_,_,_,_,_,_,_,_,_,q⟩:=z;exact q.elim
end
end L2
namespace Pu
open L2
def Rq{P:aV}{w:bP}{e:aK}{mg:k_->f_ aC}{base:r_}{x b:k_}{st:s_}{f:g_}{i:fA}{N ps:b_ k_}{k:h_}{ms:b_ l_}{Fb:En->fq}(F:Fun e x b st f i)(S:pc N ps (aj st))(m:_7 ms=_7 ps)
   (d:∀(c:aC)(A:bT)(a:b_ T_)(s:aE)(H r:Hp)(E:XK),i.code=c->io k (A.deeper (oN b (aj st) s.1.1.size f c))->
   sv (ly (Bb P w) P w e mg base N b (aj st) f c A a s H E) r H (ek ⟨e,mz mg⟩ E) (bx st) Fb):
  kz P w e mg base (Bb P w) (k+1) f i ps (spPu ⟨e,mz mg⟩ ms (OH ms N.length Fb)):=by
 refine F.okE S (λj H Q E h=>h.1.trans m) λc A a s H j Q E n l h=>?_;obtain⟨u,o,G,v,g,p,q⟩:=h;exact⟨_,d c A a s H G E n l,G,_,Jn o g p,c6.refl g,X1 g q⟩
inductive spOw(K:KA)(ms:b_ l_)(f:b_ D->bi)(vs:b_ V)(H:Hp)(Q:VK)(E:XK):Prop
 |mk (_:_7 vs=_7 ms) (_:GOk H) (G ds) (_:a6 G H) (_:h9 K G H ms ds vs) (_:dL (ek K E) G H (f ds) λd=>∃es,d=.a8 es/\∀a ws G' H',c6 G H G' H'->H a=c_->G' a=c_->H' a=a_ (.a8 ws)->bt K G' es ws->Q (.ref a) H'):spOw K ms f vs H Q E
end Pu
namespace L2
def CY{U:Lf}{P:aV}{w:bP}{K:aK}{T:k_->f_ aC}{base:r_}{f:g_}{m d:k_}{g:Arguments}{i:b_ s_}{a:eL}{dV kV O pm h ct oc:aC}{an od:f_ g_}
  {γ:q_ (f_ aC)} {N ps:b_ k_} {Y:Sp} (lk:K.lookup f=a_ ⟨oc,od,.func (cY m d g i a dV kV O pm an h ct),γ⟩) (ε:fB K h d=d_) (S:pc N ps a)
  (len:∀l H Q E,Y l H Q E->_7 l=_7 ps)
  (B:∀(A:bT)(c:b_ T_)(s:aE)(H:Hp)(l:b_ V)(Q:VK)(E:XK),Y l H Q E->
   ∃t,qR (ly U P w K T base N d a f h A c s H E) i t/\t {nx:=λZ p=>Q .fm p,rt:=Q} (i9 N l) H):
  kz P w K T base U 0 f (cY m d g i a dV kV O pm an h ct) ps Y:=by
 refine⟨len,λA c s H κ us l Q E hr M hb r G=>?_⟩;have hl:=len _ _ _ _ G;have KX:K.In s.1:=M.q7.kin.keeps λb o e=>(M.bs b o e).1;have δ:s.1.NoLimit:=M.q7.nolimit.keeps λb o e=>(M.bs b o e).1;have z:∀y∈ps.zip us,a.names.lookup y.1=a_ .local\/(a.names.lookup y.1=a_ .cell/\((jT (s.1.1.size+1) a.names []).lookup y.1).isSome=d_):=λ⟨n,v⟩ hy=>by
  rcases S.par n (mZ hy).1 with q|q
  .exact .inl q
  .exact .inr ⟨q,lE _ _ _ (.inl q)⟩
 refine C! hr.depth (KX _ _ lk) _6 S.co S.gen _6 (f? KX ε) (hb _ _ _ _ ?_);refine g? S.kind z λΔ he s1 x=>?_;subst he;refine⟨δ.keeps x.toInCall.keep,codeAny_func ?_⟩;obtain⟨t,ht,hq⟩:=B A c s H l Q E G;have I:a9 (ly U P w K T base N d a f h A c s H E) [] (i9 N l) H s1:=Bt S hr.hd M hl r x;refine cA (ht [] s1 (i9 N l) H _ I hq) (λfl s' C=>?_) λe s' C=>C;have L:∀{j:St}{p:Hp}{v:V}{u:aC},a9 (ly U P w K T base N d a f h A c s H E) [] j p s'->eu v u->Q v p->CE c P w H s Q u s':=
  λ{j p v u} J rv q=>⟨v,p,J.os,J.ln,J.base,J.e6,rv,q⟩
 cases fl with
 |ret u=>obtain⟨v,j,p,J,rv,q⟩:=C;exact L J rv q
 |next=>obtain⟨j,p,J,q⟩:=C;exact L (v:=V.fm) (u:=bV) J _6 q
 |brk=>obtain⟨_,_,_,q⟩:=C;exact cS q
 |cont=>obtain⟨_,_,_,q⟩:=C;exact cS q
end L2
namespace Pu
open L2
def AU(C:g_)(f e:k_):Sp:=λd H Q z=>∃x c b a,d=[.ref x,b,a]/\H x=a_ (.rK C c [])/\Q .fm (c0 H x (.rK C c [(f,b),(e,a)]))
inductive rN(P:aV)(w:bP)(K:aK)(mg:k_->f_ aC)(base:r_)(c n1 n2:k_):Prop
 |mk (C f fd) (_:mg c=a_ (.ref C)) (_:Cls K C) (_:pd K C n1) (_:pd K C n2) (_:n1≠n2) (_:Mk K C f) (_:lv K fd ["self",n1,n2] []) (_:kz P w K mg base N0 0 f fd ["self",n1,n2] (AU C n1 n2)):rN P w K mg base c n1 n2
def Dc:s_->f_ (k_×k_×k_)
 | .Assign c e _ => (match c with
  | [.Attribute o a _] => (match o, e with
   |.Name s _,.Name b _=>a_ (s,a,b)
   |_,_=>c_)
  |_=>c_)
 |_=>c_
def wt{st:s_}{s a b:k_}(h:Dc st=a_ (s,a,b)):∃p q r t,st=.Assign [.Attribute (.Name s p) a q] (.Name b r) t:=by
 unfold Dc at h;split at h
 .split at h
  .split at h
   .cases h;exact⟨_,_,_,_,_6⟩
   .cases h
  .cases h
 .cases h
def Sj(st:s_)(b a:k_):l_:=match bx st with
 |[d,c]=>decide (Dc d=a_ (("self":k_),b,b))&&decide (Dc c=a_ (("self":k_),a,a))&&decide (b≠a)&&[("self":k_),b,a].all λx=>decide ((aj st).names.lookup x=a_ .local)&&!(x==("__debug__":k_))&&!(x==("__classdict__":k_))
 |_=>e_
set_option tactic.hygienic true in
def Wx{P:aV}{w:bP}{K:aK}{n:k_->f_ aC}{base:r_}{f C:g_}{i a d h:k_}{st:s_}{kV l y g ct O:aC}{z od:f_ g_}{o:q_ (f_ aC)}
  (T:K.lookup f=a_ ⟨O,od,.func (cY i a (dh st) (bx st) (aj st) .none kV l y z g ct),o⟩)(r:fB K g a=d_)(S:pc ["self",d,h] ["self",d,h] (aj st))
  (ok:Sj st d h=d_) (c:Cls K C) (a1:pd K C d) (a2:pd K C h):kz P w K n base N0 0 f (cY i a (dh st) (bx st) (aj st) .none kV l y z g ct) ["self",d,h] (AU C d h):=by
 refine CY T r S (λB H Q E ⟨x,u,j,m,e,_⟩=>by rw[e];rfl) λA b s H B Q E ⟨x,u,j,m,e,hx,q⟩=>?_;subst e;unfold Sj at ok;split at ok
 .rename_i s1 s2 eb;simp only[aH,j_,lJ,bO,List.all_nil,and_true]at ok;obtain⟨⟨⟨f1,f2⟩,ne⟩,⟨⟨l0,d0⟩,κ⟩,⟨⟨Y,d1⟩,d2⟩,⟨U,d3⟩,d4⟩:=ok;obtain⟨N,p2,M,p4,rfl⟩:=wt f1;obtain⟨L,p6,J,p8,rfl⟩:=wt f2;rw[eb];have v:∀p,PE (ly N0 P w K n base ["self",d,h] a (aj st) f g A b s H E) (.Name "self" p) (fh 0):=λp=>o4 _6 (.inl l0);have I:∀p,PE (ly N0 P w K n base ["self",d,h] a (aj st) f g A b s H E) (.Name d p) (fh 1):=λp=>o4 _6 (.inl Y) d1 d2;have G:∀p,PE (ly N0 P w K n base ["self",d,h] a (aj st) f g A b s H E) (.Name h p) (fh 2):=λp=>o4 _6 (.inl U) d3 d4;refine⟨_,jn (T9 (v N) (I M) _6) (mf (T9 (v L) (G J) _6)),?_⟩;refine⟨j,_6,.ref x,_6,x,C,u,[],_6,hx,c,a1,by simp,?_⟩;refine⟨m,_6,.ref x,_6,x,C,u,[(d,j)],_6,ae,c,a2,by simp,?_⟩;show Q .fm _;rw[ya,show m4 h m [(d,j)]=[(d,j),(h,m)]from by unfold m4;rw[aJ ne];rfl];exact q
 .cases ok
def Z9(cls:k_->f_ (k_×k_))(f:k_)(d:D):f_ D:=match d with
 | .obj (.Name c _) fs => (match cls c with
  |some (b,a)=>if f=b\/f=a then fs.lookup f else c_
  |none=>c_)
 |_=>c_
def Wq(cls:k_->f_ (k_×k_))(f:k_)(g:En->bi):En->bi:=λU=>(g U).bind λd=>bi.of (Z9 cls f d)
theorem qW.ky{K:KA}{G:Hp}{f:k_}:∀{fs:b_ (k_×D)}{a:b_ (k_×V)}{d:D},qW K G fs a->fs.lookup f=a_ d->∃v,a.lookup f=a_ v/\gy K G d v
 |[],_,_,_,e=>by cases e
 |(n,m)::r,_,d,⟨v,t,l,j,i⟩,e=>by
  subst l;rw[dA]at e
  by_cases b:f=n
  .subst b;rw[show(f==f)=d_ from by simp]at e;cases e;exact⟨v,by rw[dA,show(f==f)=d_ from by simp],j⟩
  .have c:(f==n)=e_:=by simpa using b
   rw[c]at e;obtain⟨u,h,g⟩:=qW.ky i e;exact⟨u,by rw[dA,c];exact h,g⟩
section
variable{X:Cx}{B:Hp}{E:EK}{e:Expr}{es:b_ Expr}{g h:En->bi}{pos p:v_}{f:k_}{cls:k_->f_ (k_×k_)}
def EJ(L:∀c j i,cls c=a_ (j,i)->rN X.prog X.w X.K X.mg X.base c j i)(N:dj X B E e g)(M:gf e=d_):ck X B E (.Attribute e f pos) (Wq cls f g):=
 PE.imp (DE N (d8 M)) λσ H Q ⟨G,U,R,q⟩=>⟨G,U,R,(dL.bind q).am λd Z q v s H1 r av=>by
  obtain⟨d',b,x⟩:=dL.of q;clear q;cases d with
  |obj T fs=>
   cases T with
   |Name c p=>
     change (match cls c with
    |some (j,i)=>if f=j\/f=i then fs.lookup f else c_
    |none=>c_)=a_ d' at b
     cases m:cls c with
     |none=>rw[m]at b;cases b
     |some y=>
      obtain⟨j,i⟩:=y;rw[m]at b;dsimp only at b
      by_cases l:f=j\/f=i
      .rw[aO l]at b;obtain⟨C,fi,fd,J,O,a1,a2,_⟩:=L c j i m;obtain⟨a,u,rfl,⟨dx,o⟩,df⟩:gy (kx X) s (.obj (.Name c p) fs) v:=by
        obtain z|⟨_,_,_,z,_⟩|⟨_,_,_,z,_⟩|⟨_,_,_,z,_⟩:=av
        .exact z
        .cases z
        .cases z
        .cases z
       obtain⟨n,I,dv⟩:=df.ky b;have Y:(kx X).A c=C:=by show mz X.mg c=C;unfold mz;rw[J]
       rw[Y]at o;exact⟨a,C,dx,u,n,_6,r.gh _ _ o,O,by rcases l with rfl|rfl<;>assumption,I,x n s H1 r dv⟩
      .rw[aJ l]at b;cases b
   |_=>cases b
  |_=>cases b⟩
noncomputable def Ut(c b a:k_)(d:b_ D):bi:=match d with
 |[j,i]=>.ok (.obj (.Name c ⟨0,0,0,0⟩) [(b,j),(a,i)])
 |_=>.st
def EH{x n m:k_}{a j:Expr}{r:En->ey}(hc:rN X.prog X.w X.K X.mg X.base x n m)(hr:io 1 X.A)(hg:Gl X x)(ha:Ij X B E [e_,e_] [a,j] r)(v:(x==("__debug__":k_))=e_)
  (he:aU [a,j] X.env=(e_,I_ a X.env)::aU [j] X.env)(s:(dW pos (aU [j] X.env)).any (·.1)=e_):ck X B E (.Call (.Name x p) [a,j] [] pos) (fj (Ut x n m) r):=by
 obtain⟨C,fi,fd,L,hC,a1,a2,ne,M,bd,F⟩:=hc;refine PE.imp (X4 (k:=0) (E:=E0) M F hr hg L bd .nil JZ ha v he s) λσ H Q ⟨G,U,R,q⟩=>⟨G,U,R,(Qw q).am λds Z q vs c l a al=>?_⟩;intro y b J u Y;obtain⟨d1,dr,i,vr,rfl,rfl,I,h2⟩:=al;obtain⟨d2,μ,d,T,rfl,rfl,z,h4,h5⟩:=h2;subst h4 h5;refine⟨y,b,i,d,_6,ae,_6,?_⟩;rw[ya];have I:gy (kx X) c d1 i:=I;have z:gy (kx X) c d2 d:=z;have O:c6 c l c (c0 l b (.own y)):=c6.own a.gh _ u;have o:c0 l b (.own y) y=c_:=by rw[aa Y.symm];exact J
 have eb:c6 c (c0 l b (.own y)) (c0 c y (.rK C b [(n,i),(m,d)])) (c0 (c0 l b (.own y)) y (.rK C b [(n,i),(m,d)])):=c6.new O.gh _ o;have N:c y=c_:=aq a.gh J;have eC:(kx X).A x=C:=by show mz X.mg x=C;unfold mz;rw[L]
 refine q (.ref y) _ _ ((a.trans O).trans eb) ⟨y,_,_6,⟨b,by rw[eC];exact ae⟩,i,_,_6,I.am (bf N _),d,[],_6,z.am (bf N _),_6⟩
end
end Pu
namespace L2
open PySem.W
def Ox{b:aV}{w:bP}{A:bT}{E:aC->aE->Prop}{s:aE}{K:Frag}{a C:g_}{m:D_}{e:f_ D_}{Q:f_ aC->aE->Prop}(X:K.In s.1)(J:InstAt s.1 a m C e)
  (j:findIn K (.ref C) "__getattribute__"=a_ (a_ (.builtin "BaseException.__getattribute__")))(o:findIn K (.ref C) "__getattr__"=a_ c_)(q:_P K C e "__class__"=a_ (.bind (.builtin "getset_descriptor.__get__") (.builtin "object.__class__")))
  (hB:subIn K (.ref C) (.type "BaseException")=a_ d_) (n:mroIn K C (.type "object")=a_ d_) (h:Q (a_ (.ref C)) {s with toks:=s.toks+1}):aP (aW b w) A (pW (.ref a) "__class__") Q E s:=by
 obtain⟨p,g,d,t,os⟩:=s;have l:=J.type (M:=aW b w);have x:=_H (M:=aW b w) X j;have L2:=_H (M:=aW b w) X o;have v:=looks_find (M:=aW b w) X J q;have f:(mJ "BaseException.__getattribute__"==mJ "object.__getattribute__")=e_:=by decide+kernel
 unfold pW getAttrBy? getAttrBy;refine aA (wpAny_mkText (aA (eO (cK (aA (l.at (aA (x.at ?_))))))));dsimp only;rw[aJ (by rw[f,_A];exact p_)];unfold getAttrByItsOwn hookBefore;refine aA ?_;show aP _ _ (nQ (.ref C) "__getattr__") _ _ _;refine L2.at ?_;refine aA (eO (cK ?_));show aP _ _ (boundAndCalled _ _ _) _ _ _;unfold boundAndCalled;refine aA (mS (F.attr_ValueError.ga.bind (.ref a)) ?_);show aP _ _ (call (.builtin "BaseException.__getattribute__") [.ref a,.str "__class__" t]) _ _ _;have u:=looks_subIn (M:=aW b w) X hB;have r:Looks (aW b w) p (lX (.ref a) (.type "BaseException")) d_:=l.andThen u;have i:builtinKind "BaseException.__getattribute__"=a_ .slot:=by decide+kernel
 have c:splitId "BaseException.__getattribute__"=a_ ("BaseException","__getattribute__"):=by decide+kernel
 have y:=F.args_bexc_ga (.ref a) (.str "__class__" t);refine e? (codeAny_call_builtin F.attr_ValueError.ga.plain F.entry_bexc_ga ?_);simp only[checkBuiltinCall,i,c];refine aA (r.at ?_)
 repeat (any_goals (first|assumption|(with_reducible refine l.at ?_)|(with_reducible refine v.at ?_)|wp_step))
 refine class_get (ox:=m) (od:=e) X J n ?_;refine aD ?_;exact handed_on _6 (aD h)
end L2
namespace L2
structure ol(K:aK)(C:g_):Prop where
 ga:bW K (.ref C) "__getattribute__"=a_ (a_ (.builtin "BaseException.__getattribute__"))
 gt:bW K (.ref C) "__getattr__"=a_ c_
 be:cH K (.ref C) (.type "BaseException")=a_ d_
 cl:bW K (.ref C) "__class__"=a_ (a_ (.builtin "object.__class__"))
 sp:u? K (.builtin "object.__class__") "__get__"=a_ (a_ (.builtin "getset_descriptor.__get__"))
 tk:T? K (.builtin "object.__class__")=a_ d_
 mro:mM K C (.type "object")=a_ d_
def ol.is{K:aK}{C:g_}(P:ol K C):(_t K C).isSome=d_:=by obtain⟨b,a,_⟩:=B_.mp P.mro;rw[a];rfl
set_option tactic.hygienic true in
def S9{K:aK}{a C:g_}{d:D_}(P:ol K C)(l:d.cls=.ref C)(o:_m d=d_):PySem.W.KitX K (.ref a) (.ref C) (λh=>h.get? a=a_ d/\∀f,d.dict=a_ f->∃od,h.get? f=a_ od) where
 ty:=λ_ _ _ I=>l▸(pD I.1).andThen .now
 it:=λ_ _ X _=>by
  have b:=P.is;unfold _t at b;split at b
  .rename_i i;intro L G H x k q;unfold isType loadHead;exact aA (wpAny_loadPart (k _ _ (X _ _ i)) (aD q))
  .cases b
 ne:=λh p y r n v X g=>by
  have b:=P.is;refine Bool.eq_false_iff.mpr λq=>?_;have e:C=p:=U? (W_.mp q);subst e;unfold _t at b;split at b
  .rename_i i;have z:=(X _ _ i).symm.trans g;cases z
  .cases b
 ca:=λ{m w A E Q s} X I k=>by
  obtain⟨c,J⟩:∃c,b! s.1 a d C c:=by
   cases j:d.dict with
   |none=>exact⟨c_,I.1,l,o,by rw[j];trivial⟩
   |some f=>obtain⟨od,h⟩:=I.2 f j;exact⟨a_ od,I.1,l,o,by rw[j];exact h⟩
  have u:_P K C c "__class__"=a_ (.bind (.builtin "getset_descriptor.__get__") (.builtin "object.__class__")):=by obtain⟨B,e⟩:=E_.mp P.is;unfold _P;rw[e,pE,P.cl,pE];simp[P.sp,P.tk]
  exact Ox X J P.ga P.gt u P.be P.mro k
end L2
namespace Pu
open L2
structure SC where
 N:b_ k_
 sc:eL
 td:b_ k_
 lam:l_
 blk:l_
structure FS where
 ms:b_ l_
 f:b_ D->bi
structure XT where
 rL:k_->l_
 sub:k_->k_->l_
 ve:k_->l_
 qy:k_->k_->l_
 qT:k_->l_
 pp:k_->l_
 plain:k_->l_
 cls:k_->f_ (k_×k_)
structure GT where
 qQ:k_->f_ FS
 rc:k_->f_ k_
 xs:XT
 lam:Expr->b_ (k_×D)->b_ D->bi
 own:k_->l_
 cls:k_->f_ (k_×k_)
noncomputable def lq:b_ k_:=["len","list","tuple","int","isinstance","range","all","any","sorted","set","min","max","abs","str","bool","dict","enumerate","zip","reversed","ValueError"]
def Qh(X:Cx):Prop:=∃c P,(c,P,X.env.qual++"<lambda>")∈K7/\X.env.code=.ref c/\n! X.base c P/\
 (∃a o,X.mg "__builtins__"=a_ (.ref a)/\a≠kQ/\a≠cD/\X.base.get? a=a_ o/\o.cls=.type "module"/\o.dict=a_ kQ/\o.data=.plain)/\
 (∀y c,X.env.cells.lookup y=a_ c->X.kt.1.1.size<=c)/\∀y∈qg,X.fn y=e_
structure RoomL(k:h_)(A:bT):Prop where
 hd:A.handled=c_
 dp:A.depth+3*k+5<d?
 un:A.units+16*k+190<cP
def RoomL.of{k:h_}{A:bT}(r:io k A):RoomL k A:=⟨r.hd,r.dp,by have:=r.un;lia⟩
def Qi(P:aV)(w:bP)(K:aK)(c:k_->f_ aC)(base:r_)(k:h_)(e:Expr)(fs:b_ (k_×D))(j:b_ D)(d:D):Prop:=
 ∀(A:bT)(b:b_ T_)(s:aE)(H G:Hp)(a:g_)(g:b_ aC)(f:b_ V)(Q:VK),RoomL k A->Env0 P w K c base A b s H->GOk H->a6 G H->gy ⟨K,mz c⟩ G (.obj e fs) (.ref a)->bt ⟨K,mz c⟩ G j f->dg f g->
  (∀v i h,c6 G H i h->gy ⟨K,mz c⟩ i d v->Q v h)->gX (aW P w) A (.call (.ref a) ⟨g,[]⟩) (CR (Bb P w) b P w H s Q E0) s
structure nc(X:Cx)(C:SC)(T:GT)(E:XK):Prop where
 n:X.N=C.N
 s:X.env.scope=C.sc
 nd:C.N.Nodup
 calm:X.calm=d_
 units:X.A.units+65<cP
 qQ:∀x s,T.qQ x=a_ s->∃k f fd ps,io k X.A/\X.mg x=a_ (.ref f)/\cT X.K (.ref f)=d_/\lv X.K fd ps []/\kz X.prog X.w X.K X.mg X.base (Bb X.prog X.w) k f fd ps (spPu (kx X) s.ms s.f)
 rc:∀x y,T.rc x=a_ y->∃t,X.mg x=a_ (.str y t)
 bl:∀x∈lq,X.mg x=c_
 rL:∀x,T.xs.rL x=d_->∃C bm newId,X.mg x=a_ (.ref C)/\dH X.K C bm newId=d_/\rJ bm newId
 sub:∀c y,T.xs.sub c y=d_->∃Cy,X.mg y=a_ (.ref Cy)/\aS X.K (.ref (mz X.mg c)) (.ref Cy)=a_ d_
 ve:∀c,T.xs.ve c=d_->iN X.K (.ref (mz X.mg c)) (.type "ValueError")=a_ d_
 qy:∀c y,T.xs.qy c y=d_->∃Cy,X.mg y=a_ (.ref Cy)/\aS X.K (.ref (mz X.mg c)) (.ref Cy)=a_ e_
 qT:∀x,T.xs.qT x=d_->∃C,C∈rg/\X.mg x=a_ (.ref C)
 pp:∀c,T.xs.pp c=d_->mz X.mg c∉rg
 plain:∀c,T.xs.plain c=d_->ol X.K (mz X.mg c)/\mz X.mg c∉rg
 acc:Acc X E
 kc:C.blk=e_->X.ex=[]/\X.stack=X.env::X.g8/\X.env.frame=a_ X.env.locals
 lamc:C.lam=d_->Qh X
 lams:∀e fs ds d,T.lam e fs ds=.ok d->∃k,io k X.A/\Qi X.prog X.w X.K X.mg X.base k e fs ds d
 own:∀x s,T.own x=d_->T.qQ x=a_ s->∃k f fd ps,io k X.A/\X.mg x=a_ (.ref f)/\cT X.K (.ref f)=d_/\lv X.K fd ps []/\kz X.prog X.w X.K X.mg X.base (Bb X.prog X.w) k f fd ps (spOw (kx X) s.ms s.f)
 cls:∀c n1 n2,T.cls c=a_ (n1,n2)->io 1 X.A/\rN X.prog X.w X.K X.mg X.base c n1 n2
def vis(a:eL)(x:k_):l_:=match a.names.lookup x with
 |some .local=>d_
 |some .cell=>d_
 |some .free=>d_
 |_=>e_
def Ek{a:eL}{x:k_}(h:vis a x=d_):BY a x:=by
 unfold vis at h;unfold BY;cases e:a.names.lookup x with
 |none=>rw[e]at h;cases h
 |some k=>rw[e]at h;cases k<;>first|exact .inl _6|exact .inr (.inl _6)|exact .inr (.inr _6)|cases h
def F0(a:eL)(x:k_):l_:=match a.names.lookup x with
 |some .local=>d_
 |some .cell=>d_
 |_=>e_
def nu{a:eL}{x:k_}(h:F0 a x=d_):L2.N1 a x:=by
 unfold F0 at h;unfold L2.N1;cases e:a.names.lookup x with
 |none=>rw[e]at h;cases h
 |some k=>rw[e]at h;cases k<;>first|exact .inl _6|exact .inr _6|cases h
noncomputable def kg(x:k_):l_:= !(x==("__debug__":k_))&&!(x==("__classdict__":k_))
def ou{x:k_}(h:kg x=d_):(x==("__debug__":k_))=e_:=by unfold kg at h;simp only[aH,lJ]at h;exact h.1
def ud{x:k_}(h:kg x=d_):(x==("__classdict__":k_))=e_:=by unfold kg at h;simp only[aH,lJ]at h;exact h.2
noncomputable def Sv(x:k_):b_ k_->h_->f_ h_
 |[],_=>c_
 |y::r,i=>if x=y then a_ i else Sv x r (i+1)
theorem Dl{x:k_}:∀{l:b_ k_}{i j:h_},Sv x l i=a_ j->i<=j/\l[j-i]?=a_ x
 |[],_,_,h=>by cases h
 |y::r,i,j,h=>by
  unfold Sv at h
  by_cases e:x=y
  .rw[aO e]at h;cases h;subst e;exact⟨aL _,by simp⟩
  .rw[aJ e]at h;obtain⟨b,a⟩:=Dl h;refine⟨by lia,?_⟩;rw[show j-i=(j-(i+1))+1 by lia];simpa using a
def slot(C:SC)(x:k_):f_ h_:=if vis C.sc x&&kg x then Sv x C.N 0 else c_
def kf{C:SC}{x:k_}{i:h_}(h:slot C x=a_ i):C.N[i]?=a_ x/\vis C.sc x=d_/\kg x=d_:=by
 unfold slot at h
 by_cases e:(vis C.sc x&&kg x)=d_
 .rw[aO e]at h;rw[aH]at e;obtain⟨_,q⟩:=Dl h;exact⟨by simpa using q,e.1,e.2⟩
 .rw[aJ e]at h;cases h
def vw(C:SC)(x:k_):l_:=decide (C.sc.names.lookup x=a_ .globalImplicit)&&kg x
section
variable{X:Cx}{C:SC}{T:GT}{B:Hp}{E:EK}{x:k_}{i:h_}{pos:v_}
def nc.var{d:XK}(O:nc X C T d)(h:slot C x=a_ i):PE X (.Name x pos) (fh i):=by obtain⟨c,b,a⟩:=kf h;exact o4 (by rw[O.n];exact c) (by rw[O.s];exact Ek b) (ou a) (ud a)
def nc.gl{a:XK}(O:nc X C T a)(h:vw C x=d_):Gl X x/\(x==("__debug__":k_))=e_:=by unfold vw at h;rw[aH]at h;refine⟨?_,ou h.2⟩;show X.env.scope.names.lookup x=_;rw[O.s];exact y_ h.1
end
def gd:En->bi:=λz=>.st
def CW:En->ey:=λz=>.st
def pb:En->fq:=λz=>.st
section
variable{X:Cx}{B G0:Hp}{E:EK}{e tg:Expr}{es:b_ Expr}
def bq:ck X B E e gd:=λa s σ H Q I ⟨G,U,R,q⟩=>q.elim
def IA:Qj X B E e gd:=λa s σ H Q I ⟨G,U,R,q⟩=>q.elim
def w9:ph X B E e gd:=λa s σ H Q I ⟨G,U,R,q⟩=>q.elim
def Zl{c:b_ l_}:Ij X B E c es CW:=λb a s σ H Q I ⟨G,U,R,q⟩=>q.elim
def jr{st:s_}:ja X G0 B E st pb:=λa s σ H D I ⟨G,U,R,x,q⟩=>q.elim
end
theorem vn{y:k_}:∀{l:b_ (k_×gK)},(y,fQ)∈l↔y∈cz l
 |[]=>by simp[cz]
 |(n,k)::r=>by
  unfold cz
  by_cases h:k=.free
  .subst h;rw[aO _6,fR,fR,vn];constructor
   .rintro (z|z)
    .cases z;exact .inl _6
    .exact .inr z
   .rintro (z|z)
    .subst z;exact .inl _6
    .exact .inr z
  .rw[aJ h,fR,vn];constructor
   .rintro (z|z)
    .cases z;exact u_ _6 h
    .exact z
   .exact .inr
def jq(a b:eL):eL:=
 {a with names:=a.names.map λ(n,k)=>if(k==.free&&b.kind==.function&&b.names.lookup n==a_ .cell)then(n,.cell)else(n,k)}
def slots(C:SC):b_ k_->f_ (b_ h_)
 |[]=>a_ []
 |y::r=>match slot C y,slots C r with
  |some i,a_ is=>a_ (i::is)
  |_,_=>c_
noncomputable def Lm(C:SC)(a:eL)(y:k_):l_:=
 (decide (C.sc.names.lookup y=a_ .cell)||decide (C.sc.names.lookup y=a_ .free)) &&
 (decide ((jq a C.sc).names.lookup y=a_ .cell)||decide ((jq a C.sc).names.lookup y=a_ .free))
def ue(a:eL):b_ k_:=(a.names.filter λy=>y.2==.cell).map λy=>y.1
def Kp(a:eL):(a.names.filter λy=>y.2==.cell)=(ue a).map λx=>(x,eM):=by
 unfold ue;rw[nI];refine(List.map_id' _).symm.trans (F? λy b=>?_);have:=(Z_.mp b).2;obtain⟨n,k⟩:=y;have:k=.cell:=by simpa using this
 rw[this];rfl
noncomputable def m8(C:SC)(a:eL)(xs:b_ k_):l_:=
 decide (a.kind=.function)&&(decide ((ue a).length<=1)&&(ue a).all λy=>decide (y∈xs))&&(a.names.all λy=> !decide (y.2=.local)||decide (a.names.lookup y.1=a_ .local)) &&
 (xs.all λx=>decide (a.names.lookup x=a_ .local)||decide (a.names.lookup x=a_ .cell))&&decide ((xs++cz a.names).Nodup)&&(cz a.names).all (Lm C a)
theorem Hs{C:SC}:∀{M:b_ k_}{d:b_ h_},slots C M=a_ d->∀{X:Cx}{a:eL}{g:b_ (k_×g_)},X.N=C.N->X.env.scope=C.sc->(∀y∈M,∃c,g.lookup y=a_ c)->M.all (Lm C a)=d_->Caps X a g M d
 |[],d,h,X,a,g,_,_,_,_=>by cases h;exact _6
 |y::r,d,h,X,a,g,m,e,n,j=>by
  unfold slots at h;cases f:slot C y with
  |none=>rw[f]at h;cases h
  |some i=>
   cases l:slots C r with
   |none=>rw[f,l]at h;cases h
   |some is=>
    rw[f,l]at h;cases h;rw[bO,aH]at j;obtain⟨p,o,s⟩:=kf f;have b:=j.1;unfold Lm at b;rw[aH,dN,dN,j_,j_,j_,j_]at b;refine⟨i,is,_6,⟨by rw[m];exact p,by rw[e];exact Ek o,?_,n y (bI),?_⟩,Hs l m e (λz q=>n z (bJ _ q)) j.2⟩
    .show X.env.scope.names.lookup y≠_;rw[e];rcases b.1 with z|z<;>rw[z]<;>decide
    .have:mL a X.env=jq a C.sc:=by unfold mL jq;rw[<-e];rfl
     rw[this];exact b.2
theorem Hr{C:SC}(n:C.N.Nodup):∀{M:b_ k_}{a:b_ h_},slots C M=a_ a->M.Nodup->a.Nodup/\∀i∈a,∃y∈M,C.N[i]?=a_ y
 |[],a,h,_=>by cases h;exact⟨nR,λi f=>by simp at f⟩
 |y::r,a,h,s=>by
  unfold slots at h;cases c:slot C y with
  |none=>rw[c]at h;cases h
  |some i=>
   cases g:slots C r with
   |none=>rw[c,g]at h;cases h
   |some is=>
    rw[c,g]at h;cases h;obtain⟨q,p⟩:=G_.mp s;obtain⟨o,m⟩:=Hr n g p;obtain⟨l,_,_⟩:=kf c;refine⟨G_.mpr ⟨λf=>?_,o⟩,λj e=>?_⟩
    .obtain⟨z,d,b⟩:=m i f;rw[l]at b;cases b;exact q d
    .rcases o_.mp e with rfl|e
     .exact⟨y,bI,l⟩
     .obtain⟨z,d,b⟩:=m j e;exact⟨z,bJ _ d,b⟩
theorem m7(b:T_):∀(a:b_ (k_×gK))(d:b_ (k_×g_)),(∀y∈cz a,∃c,b.cells.lookup y=a_ c)->∃i,gx b a d=a_ i
 |[],d,_=>⟨d,_6⟩
 |(n,k)::r,d,h=>by
  unfold gx
  by_cases g:k=.free
  .subst g;rw[aO _6];obtain⟨c,e⟩:=h n (by unfold cz;rw[aO _6];exact bI);rw[e];exact m7 b r _ λy f=>h y (by unfold cz;rw[aO _6];exact bJ _ f)
  .rw[aJ g];exact m7 b r d λy f=>h y (by unfold cz;rw[aJ g];exact f)
theorem m6(b:T_):∀(a:b_ (k_×gK))(e d:b_ (k_×g_)),gx b a e=a_ d->∀y,(e.lookup y=c_)->y∉cz a->d.lookup y=c_
 |[],e,d,h,y,q,_=>by cases h;exact q
 |(n,k)::r,e,d,h,y,q,m=>by
  unfold gx at h
  by_cases f:k=.free
  .subst f;rw[aO _6]at h;unfold cz at m;rw[aO _6,fR,not_or]at m;cases g:b.cells.lookup n with
   |none=>rw[g]at h;cases h
   |some c=>
    rw[g]at h;refine m6 b r _ d h y ?_ m.2;have i:(y==n)=e_:=by simpa using m.1
    rw[dA,i];exact q
  .rw[aJ f]at h;unfold cz at m;rw[aJ f]at m;exact m6 b r e d h y q m
def j6{X:Cx}{C:SC}{T:GT}{a:eL}{xs:b_ k_}{l:b_ h_}{B:XK}(O:nc X C T B)(ok:X.Ok)(h:m8 C a xs=d_)(i:slots C (cz a.names)=a_ l):∃j,kO X a j (ue a) xs (cz a.names) l:=by
 unfold m8 at h;simp only[aH,j_]at h;obtain⟨⟨⟨⟨⟨A,p⟩,z⟩,w⟩,o⟩,m⟩:=h;have b:∀y∈cz a.names,∃c,X.env.cells.lookup y=a_ c:=λy d=>by have q:=J_.mp m y d;unfold Lm at q;rw[aH,dN,j_,j_,<-O.s]at q;exact ok.has y q.1
 obtain⟨j,g⟩:=m7 X.env a.names [] b;obtain⟨E,r,u⟩:=j!.mp o;have f:∀y∈cz a.names,∃c,j.lookup y=a_ c:=λy d=>j5 X.env _ _ j g y (.inr (vn.mpr d));refine⟨j,g,A,Kp a,p.1,λy d=>?_,λy d e=>?_,λx i=>?_,λx i=>m6 X.env _ _ j g x _6 (λv=>u x i x v _6),o,(Hr O.nd i r).1,Hs i O.n O.s f m⟩
 .exact y_ (J_.mp p.2 y d)
 .have q:=J_.mp z y d;rw[H_ e]at q;exact y_ (by simpa using q)
 .have q:=J_.mp w x i;rw[dN,j_,j_]at q;exact q
def e8(C:SC)(a:eL)(xs:b_ k_):SC:=⟨xs++cz a.names,jq a C.sc,[],e_,d_⟩
def kn{X:Cx}{C:SC}{T:GT}{a:eL}{f:b_ (k_×g_)}{xs:b_ k_}{l:XK}(O:nc X C T l)(h:m8 C a xs=d_)(i b c e d){g:XK}(j:Acc (d9 X a f (xs++cz a.names) xs i b c e d) g):nc (d9 X a f (xs++cz a.names) xs i b c e d) (e8 C a xs) T g where
 n:=rfl
 s:=by show mL a X.env=_;unfold mL;show _=jq a C.sc;unfold jq;rw[<-O.s];rfl
 nd:=by unfold m8 at h;simp only[aH,j_]at h;exact h.1.2
 calm:=O.calm
 units:=O.units
 qQ:=O.qQ
 rc:=O.rc
 bl:=O.bl
 rL:=O.rL
 sub:=O.sub
 ve:=O.ve
 qy:=O.qy
 qT:=O.qT
 pp:=O.pp
 plain:=O.plain
 acc:=j
 kc:=λh=>by cases h
 lamc:=λh=>by cases h
 lams:=O.lams
 own:=O.own
 cls:=O.cls
def nc.goes{X:Cx}{C:SC}{T:GT}{E:XK}(O:nc X C T E):jh (Bb X.prog X.w) X E:=O.acc.goes
def nc.none{X:Cx}{C:SC}{T:GT}{E:XK}(O:nc X C T E):nc X C T E0:=⟨O.n,O.s,O.nd,O.calm,O.units,O.qQ,O.rc,O.bl,O.rL,O.sub,O.ve,O.qy,O.qT,O.pp,O.plain,m5,O.kc,O.lamc,O.lams,O.own,O.cls⟩
def nc.qd{X:Cx}{C:SC}{T:GT}{E:XK}(O:nc X C T E):nc X.qd C T E0:=⟨O.n,O.s,O.nd,O.calm,O.units,O.qQ,O.rc,O.bl,O.rL,O.sub,O.ve,O.qy,O.qT,O.pp,O.plain,m5,O.kc,O.lamc,O.lams,O.own,O.cls⟩
end Pu
namespace Pu
open L2 PySem.SeqAt
def AC(A:bT)(s:aE)(y x:aC)(b:l_):Prop:=
 ∀(a:aV)(w:bP)(E:aC->aE->Prop)(Q:aC->aE->Prop),Q (.bool b) s->aP (aW a w) A (pX .Lt y x) Q E s
noncomputable def t7(e c:h_->l_)(a:l_):b_ h_->l_
 |[]=>a
 |i::r=>if e i then t7 e c a r else c i
def Vw(l m:g_)(xs a:q_ aC)(n k:h_)(dd dm:f_ g_)(O N:q_ (f_ aC))(e c:h_->l_):
  _g (z_.«tuple.__lt__» ⟨[.ref l,.ref m],[]⟩) (λA R s=>
   s.1.get? l=a_ {cls:=.type "tuple",dict:=dd,data:=.seq xs n,slots:=O}/\
   s.1.get? m=a_ {cls:=.type "tuple",dict:=dm,data:=.seq a k,slots:=N}/\
   (∀j (p:j<xs.size) (q:j<a.size),EqAt A.in1 s xs[j] a[j] (e j)/\(e j=e_->AC A.in1 s xs[j] a[j] (c j)))/\
   R (.ok (.ret (.bool (t7 e c (decide (xs.size<a.size)) (eW (P! xs.size a.size)))))) s):=
 .of_wp λf w A R s h=>by
  obtain⟨L,g,d,J,os⟩:=s;obtain⟨T,Q,M,h⟩:=h;have f2:=_o;have Y:(xs.toList.zip a.toList).length=P! xs.size a.size:=by simp
  wp_walk using iX T,iX Q,iK _ (λbc b E=>b.1=c_/\E=⟨L,g,d,J,os⟩/\∃i,
   bc=(xs.toList.zip a.toList).drop i/\R (.ok (.ret (.bool (t7 e c (decide (xs.size<a.size)) ((eW (P! xs.size a.size)).drop i))))) ⟨L,g,d,J,os⟩) _
  case turn=>
   rintro⟨y,x⟩ bc b E ⟨v,rfl,i,r,o⟩
   have B:i<(xs.toList.zip a.toList).length:=by
    by_cases z:i<(xs.toList.zip a.toList).length
    .exact z
    .rw[_U (mC z)]at r;cases r
   have G:i<P! xs.size a.size:=by rw[<-Y];exact B
   have p:i<xs.size:=by lia
   have q:i<a.size:=by lia
   rw[cU B]at r;injection r with C u
   obtain rfl:y=xs[i]:=by simpa using C_ Prod.fst C
   obtain rfl:x=a[i]:=by simpa using C_ Prod.snd C
   have U:(eW (P! xs.size a.size)).drop i=i::(eW (P! xs.size a.size)).drop (i+1):=by simp[cU,G]
   rw[U]at o;refine aA ((M i p q).1 f w _ _ ?_);cases H:e i with
   |true=>
    simp only[t7,H,K_]at o
    wp_walk
    exact⟨_6,_6,i+1,u,o⟩
   |false=>
    simp only[t7,H,m_,A_]at o;rw[aO (show(!false)=d_ from rfl)];refine aA (gV (aA ((M i p q).2 H f w _ _ ?_)))
    wp_walk
    exact⟨_,_6,o⟩
  case fin=>
   rintro⟨b1,b2⟩ E ⟨v,rfl,i,r,o⟩
   simp only at v;subst v;have I:P! xs.size a.size<=i:=by
    by_cases z:i<(xs.toList.zip a.toList).length
    .rw[cU z]at r;cases r
    .lia
   rw[_U (by simpa using I)]at o
   wp_walk
   exact⟨_,_6,by simpa[Builtin.Tuple.tupleCompareSizes,t7]using o⟩
  case h=>exact⟨_6,_6,0,_6,by simpa using h⟩
mutual
def Wb:gN->gN->f_ l_
 |.int i,.int j=>a_ (decide (i<j))
 |.str x,.str y=>a_ (decide (x.cps.toList<y.cps.toList))
 |.tuple xs,.tuple ys=>di xs ys
 |_,_=>c_
def di:b_ gN->b_ gN->f_ l_
 |[],[]=>a_ e_
 |[],_::_=>a_ d_
 |_::_,[]=>a_ e_
 |x::xs,y::ys=>match Wb x y,di xs ys with
  |some a,a_ b=>a_ (if cO x y then b else a)
  |_,_=>c_
end
def me(xs a:b_ gN)(j:h_):l_:=match xs[j]?,a[j]? with
 |some x,a_ y=>(Wb x y).getD e_
 |_,_=>e_
def og{x y:gN}{xs d:b_ gN}{c:l_}(h:di (x::xs) (y::d)=a_ c):∃a b,Wb x y=a_ a/\di xs d=a_ b/\c=if cO x y then b else a:=by
 rw[di]at h;cases e:Wb x y with
 |none=>rw[e]at h;cases h
 |some a=>
  cases f:di xs d with
  |none=>rw[e,f]at h;cases h
  |some b=>rw[e,f]at h;cases h;exact⟨a,b,_6,_6,_6⟩
theorem zd{e c:h_->l_}{a:l_}:∀l:b_ h_,t7 e c a (l.map (· +1))=t7 (λj=>e (j+1)) (λj=>c (j+1)) a l
 |[]=>rfl
 |i::r=>by rw[bK];unfold t7;rw[zd r]
theorem Mp:∀{xs f:b_ gN}{c:l_},di xs f=a_ c->t7 (pairEq xs f) (me xs f) (decide (_7 xs<_7 f)) (eW (P! xs.length f.length))=c
 |[],[],c,h=>by cases h;rfl
 |[],_::_,c,h=>by cases h;simp[t7]
 |_::_,[],c,h=>by cases h;simp[t7]
 |x::xs,y::f,c,h=>by
  obtain⟨a,b,l,i,rfl⟩:=og h;have e:P! (x::xs).length (y::f).length=P! xs.length (_7 f)+1:=by simp
  have g:=Mp i;rw[e,List.range_succ_eq_map];unfold t7;have n:pairEq (x::xs) (y::f) 0=cO x y:=rfl;have o:me (x::xs) (y::f) 0=a:=by simp[me,l]
  rw[n,o,show(Nat.succ:h_->h_)=(· +1)from rfl,zd];have d:(decide ((x::xs).length<(y::f).length))=decide (_7 xs<_7 f):=by simp
  rw[d];have m:(λj=>pairEq (x::xs) (y::f) (j+1))=pairEq xs f:=rfl;have c1:(λj=>me (x::xs) (y::f) (j+1))=me xs f:=rfl;rw[m,c1,g]
mutual
theorem r8:∀(da db:gN)(A:bT)(s:aE)(a b:aC)(as bs:b_ g_)(c:l_),_M s.1 a da as->_M s.1 b db bs->da.canLay0=d_->db.canLay0=d_->A.units+P! da.depth db.depth<cP->
  Wb da db=a_ c->AC A s a b c
 |.int i,db,A,s,_,_,_,_,c,ra,rb,ha,hb,hu,h=>by
  cases db<;>cases h
  cases ra;cases rb;exact λprog w E Q q=>(show aP _ _ (cI .Lt _ _) _ _ _ from _e q)
 |.str i,db,A,s,_,_,_,_,c,ra,rb,ha,hb,hu,h=>by
  cases db<;>cases h
  cases ra;cases rb;exact λprog w E Q q=>(show aP _ _ (cI .Lt _ _) _ _ _ from PyProof.Rows.lt_str q)
 |.tuple xs,.tuple ys,A,s,_,_,_,_,c,ra,rb,ha,hb,hu,h=>by
  cases ra with
  |@tuple l o vs n _ as₁ h1 h2 h3 h4=>
   cases rb with
   |@tuple l' o' vs' n' _ bs₁ k1 k2 k3 k4=>
    have h':di xs ys=a_ c:=h;have n1:vs.size=xs.length:=by simpa using ReadsAll.length _ _ _ h4
    have n2:vs'.size=ys.length:=by simpa using ReadsAll.length _ _ _ k4
    obtain⟨cl,dd,dt,sl⟩:=o;obtain⟨cl',dd',dt',sl'⟩:=o';simp only at h2 h3 k2 k3;subst h2 h3 k2 k3;intro prog w E Q q;refine o! (op:=.Lt) ⟨_,h1,_6⟩ ⟨_,k1,_6⟩ F.slot_tuple_lt F.entry_tuple_lt (F.args_tuple_lt_2 _ _) (Vw l l' vs vs' n n' dd dd' sl sl' (pairEq xs ys) (me xs ys)) ⟨h1,k1,λj p r=>⟨?_,λZ=>?_⟩,?_⟩ (room_here hu)
    .have z:=eqAt_readsAll xs ys A.in1 s vs.toList vs'.toList _ _ h4 k4 ha hb (room_in hu) j (by simpa using p) (by simpa using r);simpa using z
    .have z:=ri xs ys A.in1 s vs.toList vs'.toList _ _ c h4 k4 ha hb (room_in hu) h' j (by simpa using p) (by simpa using r);simpa using z
    .have e:=Mp h';rw[<-n1,<-n2]at e;rw[e];exact show iR c≠jM/\Q (.bool c) s from⟨(λx=>nomatch x),q⟩
 |.none,_,_,_,_,_,_,_,_,_,_,_,_,_,h|.bool _,_,_,_,_,_,_,_,_,_,_,_,_,_,h|.list _,_,_,_,_,_,_,_,_,_,_,_,_,_,h|.dict _,_,_,_,_,_,_,_,_,_,_,_,_,_,h=>by cases h
 |.tuple _,.none,_,_,_,_,_,_,_,_,_,_,_,_,h|.tuple _,.bool _,_,_,_,_,_,_,_,_,_,_,_,_,h|.tuple _,.int _,_,_,_,_,_,_,_,_,_,_,_,_,h|.tuple _,.str _,_,_,_,_,_,_,_,_,_,_,_,_,h|.tuple _,.list _,_,_,_,_,_,_,_,_,_,_,_,_,h|.tuple _,.dict _,_,_,_,_,_,_,_,_,_,_,_,_,h=>by cases h
theorem ri:∀(xs ys:b_ gN)(A:bT)(s:aE)(vs ws:b_ aC)(as bs:b_ g_)(c:l_),ReadsAll s.1 vs xs as->ReadsAll s.1 ws ys bs->bA xs=d_->bA ys=d_->
  A.units+P! (cN xs) (cN ys)<cP->di xs ys=a_ c->∀j (p:j<_7 vs) (q:j<_7 ws),AC A s vs[j] ws[j] (me xs ys j)
 |[],_,_,_,_,_,_,_,_,ra,_,_,_,_,_,j,p,_=>by cases ra;exact u_ p (Nat.not_lt_zero _)
 |_::_,[],_,_,_,_,_,_,_,_,rb,_,_,_,_,j,_,q=>by cases rb;exact u_ q (Nat.not_lt_zero _)
 |x::xs,y::ys,A,s,_,_,_,_,c,ra,rb,ha,hb,hu,h,j,p,q=>by
  have ha':x.canLay0=d_/\bA xs=d_:=by simpa[bA]using ha
  have hb':y.canLay0=d_/\bA ys=d_:=by simpa[bA]using hb
  obtain⟨a,b,h1,h2,_⟩:=og h;cases ra with
  |cons r rs=>
   cases rb with
   |cons r' rs'=>
    cases j with
    |zero=>
     have e:me (x::xs) (y::ys) 0=a:=by simp[me,h1]
     rw[e];exact r8 x y A s _ _ _ _ a r r' ha'.1 hb'.1 (room_head hu) h1
    |succ j=>exact ri xs ys A s _ _ _ _ b rs rs' ha'.2 hb'.2 (room_tail hu) h2 j (l? p) (l? q)
end
def RT(d e:D):f_ l_:=match cw d,cw e with
 |some p,a_ q=>if cG p&&cG q then Wb p q else c_
 |_,_=>c_
def Uv(d e:D):f_ D:=match JM d e with
 |some r=>a_ r
 |none=>(RT d e).map .bl
def Po{f:gN->gN->f_ l_}{d e:D}{b:l_}(h:(match cw d,cw e with
 |some p,a_ q=>if(cG p&&cG q)=d_ then f p q else c_
 |_,_=>c_)=a_ b):∃p q,cw d=a_ p/\cw e=a_ q/\cG p=d_/\cG q=d_/\f p q=a_ b:=by
 cases c:cw d with
 |none=>rw[c]at h;cases h
 |some p=>
  cases g:cw e with
  |none=>rw[c,g]at h;cases h
  |some q=>
   rw[c,g]at h;dsimp only at h
   by_cases a:(cG p&&cG q)=d_
   .rw[aO a]at h;rw[aH]at a;exact⟨p,q,_6,_6,a.1,a.2,h⟩
   .rw[aJ a]at h;cases h
section
variable{X:Cx}
inductive rOrd(K:KA)(f:D->D->f_ l_)(x:V)(y:V)(H:Hp)(Q:VK):Prop
 |mk (G dx dy b) (_:a6 G H) (_:Arg K G H dx x) (_:Arg K G H dy y) (_:f dx dy=a_ b) (_:Q (.bl b) H):rOrd K f x y H Q
def DQ(l:X.A.units+64<cP):n5 X (cI .Lt) (rOrd (kx X) RT):=by intro e s σ H x y v u Q I h g q;obtain⟨G,C,B,b,c,r,o,a,q⟩:=q;obtain⟨p,j,n,m,d,f,a⟩:=Po a;obtain⟨z,ra⟩:=bu I c r h n;obtain⟨bs,i⟩:=bu I c o g m;exact r8 p j X.A s v u z bs b ra i (canLay_of_shaped d) (canLay_of_shaped f) (room_of_shaped d l) a X.prog X.w _ _ ⟨.bl b,H,I,_6,q⟩
def T8{K:KA}{c:n_->n_->l_}{f:D->D->f_ l_}{g:D->D->f_ D}(s:∀d e,g d e=match o9 c d e with
 |some r=>a_ r
 |none=>(f d e).map .bl):dq K g (λx y H Q=>rI0 (λi j=>.bl (c i j)) x y H Q\/rOrd K f x y H Q):=λG H x y m l d n p o a Q q=>by
 rw[s]at a;cases h:o9 c m l with
 |some r=>rw[h]at a;cases (a);exact .inl (zy G H x y m l d n p o h Q q)
 |none=>
  rw[h]at a;cases e:f m l with
  |none=>rw[e]at a;cases (a)
  |some b=>rw[e]at a;cases (a);exact .inr ⟨G,m,l,b,n,p,o,e,q _ G H (c6.refl n) _6⟩
def DJ{c:n_->n_->l_}{f:D->D->f_ l_}{g:D->D->f_ D}(i:∀d e,g d e=match o9 c d e with
 |some r=>a_ r
 |none=>(f d e).map .bl) (x y d:D) (a:g x y=a_ d):∃b,d=.bl b:=by
 rw[i]at a;cases h:o9 c x y with
 |some r=>rw[h]at a;cases a;exact I8 _ _ _ h
 |none=>rw[h]at a;exact r9 (f:=id) a
end
end Pu
namespace Pu
open L2
noncomputable def rf:b_ D->f_ (b_ cj)
 |[]=>a_ []
 |d::r=>match cf d,rf r with
  |some k,a_ a=>a_ (k::a)
  |_,_=>c_
theorem F7:∀a:b_ cj,rf (a.map kD)=a_ a
 |[]=>rfl
 |k::a=>by
  show(match cf (kD k),rf (a.map kD)with
   |some k,a_ a=>a_ (k::a)
   |_,_=>c_)=_
  rw[g9,F7 a]
def Tg:D->f_ NK
 |.ci a=>(rf a).map .inr
 |d=>(cf d).map .inl
noncomputable def Km:b_ D->f_ ah
 |[]=>a_ []
 |d::r=>match Tg d,Km r with
  |some k,a_ a=>a_ (k::a)
  |_,_=>c_
def ar:D->f_ ah
 |.ci a=>Km a
 |_=>c_
def Th:∀k:NK,Tg (DX k)=a_ k
 |.inl (.inl _)=>rfl
 |.inl (.inr _)=>rfl
 |.inr a=>by show(rf (a.map kD)).map mI=_;rw[F7];rfl
theorem Mu:∀a:ah,Km (a.map DX)=a_ a
 |[]=>rfl
 |k::a=>by
  show(match Tg (DX k),Km (a.map DX)with
   |some k,a_ a=>a_ (k::a)
   |_,_=>c_)=_
  rw[Th,Mu a]
def k6(a:ah):ar (kT a)=a_ a:=Mu a
theorem tm{K:KA}{G:Hp}:∀{g:b_ D}{f:b_ V}{b:b_ cj},bt K G g f->rf g=a_ b->f=b.map kV
 |[],_,_,h,e=>by cases e;exact h
 |d::r,_,b,⟨v,t,m,l,j⟩,e=>by
  unfold rf at e;cases a:cf d with
  |none=>rw[a]at e;cases e
  |some k=>
   cases c:rf r with
   |none=>rw[a,c]at e;cases e
   |some i=>rw[a,c]at e;cases e;rw[m,tm j c,i0 (H:=G) (.inl l) a];rfl
def BE{K:KA}{G:Hp}{d:D}{v:V}{k:NK}(h:gy K G d v)(e:Tg d=a_ k):nkAt G k v:=by
 have pv:∀{d:D},gy K G d v->(cf d).map nD=a_ k->nkAt G k v:=λ{d} h e=>by
  cases b:cf d with
  |none=>rw[b]at e;cases e
  |some j=>rw[b]at e;cases e;exact i0 (H:=G) (.inl h) b
 cases d with
 |ci c=>
  obtain⟨a,i,rfl,g,f⟩:=h;have e:(rf c).map mI=a_ k:=e;cases b:rf c with
  |none=>rw[b]at e;cases e
  |some l=>rw[b]at e;cases e;exact⟨a,_6,by rw[<-tm f b];exact g⟩
 |_=>exact pv h e
theorem Fj{K:KA}{G:Hp}:∀{g:b_ D}{f:b_ V}{b:ah},bt K G g f->Km g=a_ b->NkL G b f
 |[],_,_,h,e=>by cases e;exact h
 |d::r,_,b,⟨v,t,m,l,j⟩,e=>by
  unfold Km at e;cases a:Tg d with
  |none=>rw[a]at e;cases e
  |some k=>
   cases c:Km r with
   |none=>rw[a,c]at e;cases e
   |some i=>rw[a,c]at e;cases e;exact⟨v,t,m,BE l a,Fj j c⟩
noncomputable def fk:b_ (D×D)->ah->f_ D
 |[],_=>c_
 |(k,d)::r,j=>if ar k=a_ j then a_ d else fk r j
def Wv(a:b_ (D×D))(j:ah):l_:=a.any λp=>decide (ar p.1=a_ j)
def Hf(a:b_ (D×D))(j:ah)(v:D):b_ (D×D):=if Wv a j=d_ then a.map (λp=>if ar p.1=a_ j then(p.1,v)else p)else a++[(kT j,v)]
section
variable{K:KA}{G:Hp}
theorem fu.length:∀{a:b_ (D×D)}{es:b_ (ah×V)},fu K G a es->_7 a=_7 es
 |[],_,h=>by rw[show _=[]from h];rfl
 |(_,_)::_,_,⟨k,v,r,c,_,_,b⟩=>by rw[c,aR,aR,fu.length b]
theorem fu.ky:∀{a:b_ (D×D)}{es:b_ (ah×V)},fu K G a es->∀j,(∀d,fk a j=a_ d->∃v,c8 es j=a_ v/\gy K G d v)/\(fk a j=c_->c8 es j=c_)
 |[],es,h,j=>by rw[show es=[]from h];exact⟨λd e=>(by cases e),λq=>pf⟩
 |(k,d)::r,es,h,j=>by
  obtain⟨b,v,t,rfl,rfl,m,n⟩:=h;obtain⟨l,i⟩:=fu.ky n j;unfold fk;rw[k6 b]
  by_cases e:b=j
  .subst e;rw[aO _6];exact⟨λc z=>⟨v,gj _6,by cases z;exact m⟩,λz=>by cases z⟩
  .rw[aJ (λz=>e (aZ z))];refine⟨λc z=>?_,λz=>?_⟩
   .obtain⟨u,g,f⟩:=l c z;exact⟨u,(fg e).trans g,f⟩
   .exact(fg e).trans (i z)
theorem fu.has:∀{a:b_ (D×D)}{es:b_ (ah×V)},fu K G a es->∀j,Wv a j=es.any λd=>decide (d.1=j)
 |[],es,h,j=>by rw[show es=[]from h];rfl
 |(k,i)::r,es,h,j=>by
  obtain⟨b,u,t,rfl,rfl,g,f⟩:=h;have c:=fu.has f j;unfold Wv at c⊢;rw[iY,iY,c]
  congr 1
  rw[k6 b]
  by_cases e:b=j
  .simp[e]
  .rw[t_ e,t_ λz=>e (aZ z)]
theorem fu.repl{d:D}{v:V}(g:gy K G d v):∀{a:b_ (D×D)}{es:b_ (ah×V)},fu K G a es->∀j,fu K G (a.map λp=>if ar p.1=a_ j then(p.1,d)else p) (es.map λc=>if c.1=j then(c.1,v)else c)
 |[],es,h,j=>by rw[show es=[]from h];rfl
 |(k,m)::r,es,h,j=>by
  obtain⟨b,u,t,rfl,rfl,i,l⟩:=h;have f:=fu.repl g l j;rw[bK,bK];dsimp only;rw[k6 b]
  by_cases e:b=j
  .rw[aO e,aO (by rw[e])];exact⟨b,v,_,_6,_6,g,f⟩
  .rw[aJ e,aJ λz=>e (aZ z)];exact⟨b,u,_,_6,_6,i,f⟩
theorem fu.snoc{d:D}{v:V}(b:gy K G d v):∀{a:b_ (D×D)}{es:b_ (ah×V)},fu K G a es->∀j,fu K G (a++[(kT j,d)]) (es++[(j,v)])
 |[],es,h,j=>by rw[show es=[]from h];exact⟨j,v,[],_6,_6,b,_6⟩
 |(k,g)::r,es,h,j=>by obtain⟨c,u,t,rfl,rfl,e,f⟩:=h;exact⟨c,u,_,_6,_6,e,fu.snoc b f j⟩
def fu.put{d:D}{v:V}(b:gy K G d v){a:b_ (D×D)}{es:b_ (ah×V)}(h:fu K G a es)(j:ah):fu K G (Hf a j d) (cv es j v):=by
 unfold Hf cv;rw[h.has j]
 by_cases e:(es.any λc=>decide (c.1=j))=d_
 .rw[aO e,aO e];exact h.repl b j
 .rw[aJ e,aJ e];exact h.snoc b j
end
def Arg.keys{K:KA}{G H:Hp}{d:D}{v:V}{a:ah}(s:a6 G H)(h:Arg K G H d v)(e:ar d=a_ a):∃b,v=.ref b/\p0 H a b:=by
 cases d with
 |ci j=>obtain⟨b,c,i,g,f⟩:=h.tup0 s;exact⟨b,i,c,g,(Fj f e).am λz z q=>s _ _ q⟩
 |_=>cases e
def Arg.dctT{K:KA}{G H:Hp}{b:b_ (D×D)}{v:V}(s:a6 G H)(h:Arg K G H (.h7 d_ b) v):∃a es,v=.ref a/\Rd H a (.dT es)/\fu K G b es:=by
 obtain ⟨a,d,c⟩|⟨_,_,_,z,_⟩|⟨f,e,a,z,d,c⟩|⟨_,_,_,z,_⟩:=h
 .obtain ⟨z,_⟩|⟨_,o,es,q,r⟩:=c
  .cases z
  .exact⟨a,es,d,.inr ⟨o,s _ _ q⟩,r⟩
 .cases z
 .cases z;obtain ⟨z,_⟩|⟨_,es,q,r⟩:=c
  .cases z
  .exact⟨a,es,d,.inl q,r⟩
 .cases z
def xa(d e:D):f_ D:=match e with
 |.h7 e_ a=>(cf d).map λj=>.bl (cx a j).isSome
 |.h7 d_ a=>(ar d).map λj=>.bl (fk a j).isSome
 |e=>Hh d e
def i7(d e:D):f_ D:=match e with
 |.h7 e_ a=>(cf d).map λj=>.bl !(cx a j).isSome
 |.h7 d_ a=>(ar d).map λj=>.bl !(fk a j).isSome
 |e=>qm d e
section
variable{X:Cx}
inductive qx(neg:l_)(x:V)(y:V)(H:Hp)(Q:VK):Prop
 |mk (a o) (_:y=.ref a) (_:qt H a x o) (_:Q (.bl (if neg then !o.isSome else o.isSome)) H):qx neg x y H Q
def To(e:X.A.units+5<cP):n5 X (cI .In) (qx e_):=by intro b s σ H x y v u Q I d c q;obtain⟨a,o,rfl,f,q⟩:=q;cases c;exact OL e I f d λh g=>⟨.bl o.isSome,H,g,_6,q⟩
def Gp(e:X.A.units+5<cP):n5 X (cI .NotIn) (qx d_):=by intro b s σ H x y v u Q I d c q;obtain⟨a,o,rfl,f,q⟩:=q;cases c;exact Wn e I f d λh g=>⟨.bl !o.isSome,H,g,_6,q⟩
def Sh{K:KA}{neg:l_}{G H:Hp}{x y:V}{c d:D}{a:b_ (D×D)}(f:a6 G H)(r:Arg K G H c x)(p:Arg K G H (.h7 e_ a) y)(b:((cf c).map λj=>D.bl (if neg then !(cx a j).isSome else(cx a j).isSome))=a_ d)(Q:VK)(q:∀v m i,c6 G H m i->gy K m d v->Q v i):qx neg x y H Q:=by
 cases ek:cf c with
 |none=>rw[ek]at b;cases b
 |some j=>
  rw[ek]at b;cases b;obtain⟨l,g,rfl,n,dl⟩:=Arg.dctK f p;rw[i0 r ek];have e:(cx a j).isSome=(c8 g j).isSome:=by
   cases h:cx a j with
   |none=>rw[(dl.ky j).2 h];rfl
   |some d=>obtain⟨v,o,_⟩:=(dl.ky j).1 d h;rw[o];rfl
  refine⟨l,c8 g j,_6,qt.k n,q _ G H (c6.refl f) ?_⟩;show gy K G (.bl (if neg=d_ then !(cx a j).isSome else(cx a j).isSome)) _;rw[e];rfl
def Si{K:KA}{neg:l_}{G H:Hp}{x y:V}{h d:D}{a:b_ (D×D)}(f:a6 G H)(u:Arg K G H h x)(s:Arg K G H (.h7 d_ a) y)(c:((ar h).map λj=>D.bl (if neg then !(fk a j).isSome else(fk a j).isSome))=a_ d)(Q:VK)(q:∀v n m,c6 G H n m->gy K n d v->Q v m):qx neg x y H Q:=by
 cases ek:ar h with
 |none=>rw[ek]at c;cases c
 |some j=>
  rw[ek]at c;cases c;obtain⟨l,g,rfl,p,dl⟩:=Arg.dctT f s;obtain⟨b,rfl,o⟩:=Arg.keys f u ek;have e:(fk a j).isSome=(c8 g j).isSome:=by
   cases i:fk a j with
   |none=>rw[(dl.ky j).2 i];rfl
   |some d=>obtain⟨v,r,_⟩:=(dl.ky j).1 d i;rw[r];rfl
  refine⟨l,c8 g j,_6,.inr ⟨g,j,b,p,_6,o,_6⟩,q _ G H (c6.refl f) ?_⟩;show gy K G (.bl (if neg=d_ then !(fk a j).isSome else(fk a j).isSome)) _;rw[e];rfl
def T6:dq (kx X) xa (λx y H Q=>rInD (kx X) e_ x y H Q\/qx e_ x y H Q):=λG H x y f g d b e c a Q q=>by
 unfold xa at a;split at a
 .exact .inr (Sh (neg:=e_) b e c a Q q)
 .exact .inr (Si (neg:=e_) b e c a Q q)
 .exact .inl (M5 G H x y f _ d b e c a Q q)
def Gy:dq (kx X) i7 (λx y H Q=>rInD (kx X) d_ x y H Q\/qx d_ x y H Q):=λG H x y f g d b e c a Q q=>by
 unfold i7 at a;split at a
 .exact .inr (Sh (neg:=d_) b e c a Q q)
 .exact .inr (Si (neg:=d_) b e c a Q q)
 .exact .inl (Kt G H x y f _ d b e c a Q q)
def CT(x y d:D)(h:xa x y=a_ d):∃b,d=.bl b:=by
 unfold xa at h;split at h
 .obtain⟨j,_,rfl⟩:=x_.mp h;exact⟨_,_6⟩
 .obtain⟨j,_,rfl⟩:=x_.mp h;exact⟨_,_6⟩
 .exact r9 (f:=id) h
def Pj(x y d:D)(h:i7 x y=a_ d):∃b,d=.bl b:=by
 unfold i7 at h;split at h
 .obtain⟨j,_,rfl⟩:=x_.mp h;exact⟨_,_6⟩
 .obtain⟨j,_,rfl⟩:=x_.mp h;exact⟨_,_6⟩
 .exact r9 (f:=λb=> !b) h
end
abbrev Ev:=SC->Expr->En->bi
def fw(T:GT)(a:Ev):Prop:=∀X C B (E:XK) e,nc X C T E->ck X B (ek (kx X) E) e (a C e)
def Aw(T:GT)(a:Ev):Prop:=∀X C B (E:XK) e,nc X C T E->ph X B (ek (kx X) E) e (a C e)
section
variable{X:Cx}{B:Hp}{E:EK}{e a b:Expr}{es:b_ Expr}{g h:En->bi}{pos:v_}
def F3:D->l_
 |.fm=>d_
 |_=>e_
noncomputable def B6:D->D->f_ D
 |d,.fm=>a_ (.bl (F3 d))
 |.bl b,.bl c=>a_ (.bl (b==c))
 |.fm,.bl _=>a_ (.bl e_)
 |_,_=>c_
noncomputable def lg:D->D->f_ D
 |d,.fm=>a_ (.bl (!F3 d))
 |.bl b,.bl c=>a_ (.bl (!(b==c)))
 |.fm,.bl _=>a_ (.bl d_)
 |_,_=>c_
def we{K:KA}{G H:Hp}{d:D}{v:V}(h:Arg K G H d v):decide (v=.fm)=F3 d:=by
 obtain h|⟨j,a,c,rfl,rfl,_⟩|⟨t,i,a,rfl,rfl,_⟩|⟨gs,a,es,rfl,rfl,_⟩:=h
 .cases d with
  |fm=>cases (show v=.fm from h);rfl
  |bl b=>cases (show v=.bl b from h);rfl
  |int b=>cases (show v=.int b from h);rfl
  |str b=>cases (show v=.str b from h);rfl
  |ci j=>obtain⟨a,c,rfl,_⟩:=h;rfl
  |a8 j=>obtain⟨a,c,rfl,_⟩:=h;rfl
  |h7 t i=>obtain⟨a,rfl,_⟩:=h;rfl
  |obj C fs=>obtain⟨a,c,rfl,_⟩:=h;rfl
  |fn f=>cases (show v=.ref _ from h);rfl
 .rfl
 .rfl
 .rfl
def Yo(f:l_->l_):R2:=λx y H Q=>(∃b c,x=.bl b/\y=.bl c/\Q (.bl (f (b==c))) H)\/∃c,x=.fm/\y=.bl c/\Q (.bl (f e_)) H
def DS:n5 X (cI .Is) (Yo id):=by
 intro i s σ H x y v u Q I f d h;obtain ⟨b,c,rfl,rfl,q⟩|⟨c,rfl,rfl,q⟩:=h
 .cases f;cases d;exact wpAny_is_plain _6 ⟨.bl (b==c),H,I,(by cases b<;>cases c<;>rfl),q⟩
 .cases f;cases d;exact wpAny_is_plain _6 ⟨.bl e_,H,I,_6,q⟩
def Xx:n5 X (cI .IsNot) (Yo λb=> !b):=by
 intro i s σ H x y v u Q I f d h;obtain ⟨b,c,rfl,rfl,q⟩|⟨c,rfl,rfl,q⟩:=h
 .cases f;cases d;exact wpAny_isNot_plain _6 ⟨.bl (!(b==c)),H,I,(by cases b<;>cases c<;>rfl),q⟩
 .cases f;cases d;exact wpAny_isNot_plain _6 ⟨.bl d_,H,I,_6,q⟩
def T7{K:KA}:dq K B6 (λx y H Q=>(y=.fm/\Q (.bl (decide (x=.fm))) H)\/Yo id x y H Q):=λG H x y m l d f j i c Q q=>by
 unfold B6 at c;split at c
 .cases c;refine .inl ⟨i.fm,?_⟩;rw[we j];exact q _ G H (c6.refl f) _6
 .cases c;exact .inr (.inl ⟨_,_,j.bl,i.bl,q _ G H (c6.refl f) _6⟩)
 .cases c;exact .inr (.inr ⟨_,j.fm,i.bl,q _ G H (c6.refl f) _6⟩)
 .cases c
def Gx{K:KA}:dq K lg (λx y H Q=>(y=.fm/\Q (.bl (!decide (x=.fm))) H)\/Yo (λb=> !b) x y H Q):=λG H x y m l d f j i c Q q=>by
 unfold lg at c;split at c
 .cases c;refine .inl ⟨i.fm,?_⟩;rw[we j];exact q _ G H (c6.refl f) _6
 .cases c;exact .inr (.inl ⟨_,_,j.bl,i.bl,q _ G H (c6.refl f) _6⟩)
 .cases c;exact .inr (.inr ⟨_,j.fm,i.bl,q _ G H (c6.refl f) _6⟩)
 .cases c
def Sm{f:D->D->f_ D}(c:f=B6\/f=lg)(x y d:D)(h:f x y=a_ d):∃b,d=.bl b:=by
 obtain rfl|rfl:=c
 .unfold B6 at h;split at h<;>first|(cases h;exact⟨_,_6⟩)|cases h
 .unfold lg at h;split at h<;>first|(cases h;exact⟨_,_6⟩)|cases h
noncomputable def Ck:mR->f_ (D->D->f_ D)
 |.Eq=>a_ k9
 |.NotEq=>a_ Hj
 |.Lt=>a_ Uv
 |.LtE=>a_ JN
 |.Gt=>a_ JO
 |.GtE=>c_
 |.In=>a_ xa
 |.NotIn=>a_ i7
 |.Is=>a_ B6
 |.IsNot=>a_ lg
def xn{c:mR}{f:D->D->f_ D}(j:Ck c=a_ f)(i:X.A.units+65<cP):∃r,n5 X (cI c) r/\dq (kx X) f r/\∀x y d,f x y=a_ d->∃b,d=.bl b:=by
 cases c<;>cases j
 .exact⟨_,Tj (by lia),M4,λz z z h=>r9 (f:=id) h⟩
 .exact⟨_,DN (by lia),Ya,λz z z h=>r9 (f:=λb=> !b) h⟩
 .exact⟨_,IC.or (DQ (by lia)),T8 λz z=>rfl,DJ λz z=>rfl⟩
 .exact⟨_,ID,zy,I8⟩
 .exact⟨_,IE,zy,I8⟩
 .exact⟨_,DR.or DS,T7,Sm (.inl _6)⟩
 .exact⟨_,Xy.or Xx,Gx,Sm (.inr _6)⟩
 .exact⟨_,(Tn i).or (To (by lia)),T6,CT⟩
 .exact⟨_,(Pn i).or (Gp (by lia)),Gy,Pj⟩
end
def B2(C:SC)(e:Expr):f_ h_:=match e with
 |.Name x _=>slot C x
 |_=>c_
def OJ(C:SC)(e:Expr):f_ (h_×h_):=match e with
 |.Compare l [.Eq] [r] _=>(B2 C l).bind λi=>(B2 C r).map λj=>(i,j)
 |_=>c_
def OA(C:SC)(c a b:Expr):f_ ((h_×h_)×h_×h_):=(OJ C c).bind λp=>(B2 C a).bind λk=>(B2 C b).map λl=>(p,k,l)
def ig(d:Ev)(C:SC)(e:Expr):En->bi:=match e with
 | .Name x _ => (match slot C x with
  |some i=>az i
  |none=>d C e)
 | .IfExp c a b _ => (match OA C c a b with
  |some q=>Wr (g2 k9 (az q.1.1) (az q.1.2)) (az q.2.1) (az q.2.2)
  |none=>d C e)
 |_=>d C e
noncomputable def Rw(a:Ev)(C:SC):b_ l_->b_ Expr->En->ey
 |[],[]=>af
 |m::b,e::c=>ac (if m then ig a C e else a C e) (Rw a C b c)
 |_,_=>CW
def mq(a:Ev)(C:SC):b_ Expr->En->ey
 |[]=>af
 |e::b=>ac (a C e) (mq a C b)
noncomputable def An(T:GT)(C:SC)(x:k_):En->bi:=match slot C x with
 |some i=>jd i
 | c_ => if vw C x then (match T.rc x with
  |some y=>gC (.str y)
  | c_ => (match T.qQ x with
   |some _=>gC (.fn x)
   |none=>gd))else gd
def Fu(f:Expr->En->bi):b_ Expr->En->bi
 |[]=>gd
 |[a]=>f a
 |a::r=>Js (f a) (Fu f r)
def Sa(f:Expr->En->bi):b_ Expr->En->bi
 |[]=>gd
 |[a]=>f a
 |a::r=>LL (f a) (Sa f r)
noncomputable def uz(a:Ev)(C:SC)(l:Expr)(b:b_ mR)(e:b_ Expr):En->bi:=match b,e with
 | [d], [r] => (match Ck d with
  |some f=>if jc r then g2 f (ig a C l) (ig a C r)else gd
  |none=>gd)
 | [d, c], [m, r] => (match Ck d, Ck c with
  |some f,a_ g=>if jc r then yx f g (ig a C l) (ig a C m) (ig a C r)else gd
  |_,_=>gd)
 |_,_=>gd
section
variable{T:GT}{ev tv:Ev}{X:Cx}{C:SC}{B:Hp}{E:XK}{pos:v_}
def uc(O:nc X C T E){e:Expr}{i:h_}{a:EK}(h:B2 C e=a_ i):dj X B a e (az i):=by
 unfold B2 at h;split at h
 .exact rn i (O.var h)
 .cases h
def BC(O:nc X C T E){e:Expr}{q:h_×h_}{c:EK}(h:OJ C e=a_ q):ph X B c e (g2 k9 (az q.1) (az q.2)):=by
 unfold OJ at h;split at h
 .obtain⟨i,b,h⟩:=B_.mp h;obtain⟨j,a,rfl⟩:=x_.mp h;exact Z6 (by have:=O.units;lia) (uc O b) (uc O a)
 .cases h
def bj(h:fw T ev)(O:nc X C T E)(e:Expr):dj X B (ek (kx X) E) e (ig ev C e):=by
 have d:dj X B (ek (kx X) E) e (ev C e):=zz (h X C B E e O);cases e with
 |Name x p=>
  show dj X B _ _ (match slot C x with
   |some i=>az i
   |none=>ev C (.Name x p))
  cases f:slot C x with
  |none=>exact d
  |some i=>exact rn i (O.var f)
 |IfExp c a b p=>
  show dj X B _ _ (match OA C c a b with
   |some q=>Wr (g2 k9 (az q.1.1) (az q.1.2)) (az q.2.1) (az q.2.2)
   |none=>ev C (.IfExp c a b p))
  cases f:OA C c a b with
  |none=>exact d
  |some q=>obtain⟨n,m,f⟩:=B_.mp f;obtain⟨k,j,f⟩:=B_.mp f;obtain⟨l,g,rfl⟩:=x_.mp f;exact HH (BC O m) (uc O j) (uc O g)
 |_=>exact d
theorem wd(h:fw T ev)(O:nc X C T E):∀{ms:b_ l_}{es:b_ Expr},es.all cq=d_->Ij X B (ek (kx X) E) ms es (Rw ev C ms es)
 |[],[],_=>f9
 |[],_::_,_=>Zl
 |_::_,[],_=>Zl
 |m::ms,e::es,a=>by
  rw[bO,aH]at a;cases m with
  |true=>exact de (bj h O e) (wd h O a.2) (ag a.1)
  |false=>exact yc (h X C B E e O) (wd h O a.2) (ag a.1)
theorem l7(h:fw T ev)(O:nc X C T E):∀{es:b_ Expr},es.all cq=d_->Ij X B (ek (kx X) E) (es.map λz=>e_) es (mq ev C es)
 |[],_=>f9
 |e::es,a=>by rw[bO,aH]at a;exact yc (h X C B E e O) (l7 h O a.2) (ag a.1)
theorem kj:∀{es:b_ Expr},Cg (es.map λz=>e_)=d_
 |[]=>rfl
 |_::es=>by show(!false&&Cg (es.map λz=>e_))=d_;rw[kj (es:=es)];rfl
def Xo(O:nc X C T E){x:k_}:ck X B (ek (kx X) E) (.Name x pos) (An T C x):=by
 unfold An;cases b:slot C x with
 |some i=>exact Kv i (O.var b)
 |none=>
  dsimp only
  by_cases a:vw C x=d_
  .rw[aO a];obtain⟨g1,g2⟩:=O.gl a;cases d:T.rc x with
   |some y=>obtain⟨t,q⟩:=O.rc x y d;exact Yh g1 q g2
   |none=>
    cases c:T.qQ x with
    |some s=>obtain⟨k,f,e,ps,_,q,_⟩:=O.qQ x s c;exact EI g1 q g2
    |none=>exact bq
  .rw[aJ a];exact bq
theorem Lg{f:Expr->En->bi}{E:EK}(h:∀e,ck X B E e (f e)):∀{vs:b_ Expr},ck X B E (.BoolOp .And vs pos) (Fu f vs)
 |[]=>bq
 |[a]=>Um (h a)
 |a::b::r=>EN (h a) (Lg h (vs:=b::r))
theorem Tp{f:Expr->En->bi}{E:EK}(h:∀e,ck X B E e (f e)):∀{vs:b_ Expr},ck X B E (.BoolOp .Or vs pos) (Sa f vs)
 |[]=>bq
 |[a]=>Um (h a)
 |a::b::r=>JQ (h a) (Tp h (vs:=b::r))
def Z8{E:EK}{e:Expr}:V9 X B E e gd:=λb a s σ H Q I ⟨G,U,R,q⟩=>q.elim
theorem Lh{f:Expr->En->bi}{E:EK}(h:∀e,ph X B E e (f e)):∀{vs:b_ Expr},V9 X B E (.BoolOp .And vs pos) (Fu f vs)
 |[]=>Z8
 |[a]=>Hg (h a)
 |a::b::r=>Na (h a) (Lh h (vs:=b::r))
theorem Tq{f:Expr->En->bi}{E:EK}(h:∀e,ph X B E e (f e)):∀{vs:b_ Expr},V9 X B E (.BoolOp .Or vs pos) (Sa f vs)
 |[]=>Z8
 |[a]=>Ym (h a)
 |a::b::r=>FU (h a) (Tq h (vs:=b::r))
set_option tactic.hygienic true in
def Q5(h:fw T ev)(O:nc X C T E){l:Expr}{a:b_ mR}{i:b_ Expr}:ck X B (ek (kx X) E) (.Compare l a i pos) (uz ev C l a i)/\ph X B (ek (kx X) E) (.Compare l a i pos) (uz ev C l a i):=by
 unfold uz;split
 .rename_i n r;cases p:Ck n with
  |none=>exact⟨bq,w9⟩
  |some f=>
   dsimp only
   by_cases b:jc r=d_
   .rw[aO b];obtain⟨v,g,d,s⟩:=xn (X:=X) p O.units;exact⟨EL g d (bj h O l) (bj h O r) (j8 b),D3 g d s (bj h O l) (bj h O r) (j8 b)⟩
   .rw[aJ b];exact⟨bq,w9⟩
 .rename_i n j m r;cases p:Ck n with
  |none=>exact⟨bq,w9⟩
  |some f=>
   cases o:Ck j with
   |none=>exact⟨bq,w9⟩
   |some w=>
    dsimp only
    by_cases b:jc r=d_
    .rw[aO b];obtain⟨v,g,d,s⟩:=xn (X:=X) p O.units;obtain⟨u,e,c,q⟩:=xn (X:=X) o O.units;exact⟨Uh g d e c (bj h O l) (bj h O m) (bj h O r) (zp b),Pv g d e c q (bj h O l) (bj h O m) (bj h O r) (zp b)⟩
    .rw[aJ b];exact⟨bq,w9⟩
 .exact⟨bq,w9⟩
end
section
variable{X:Cx}{au:b_ (g_×D_)}{σ:St}{G H:Hp}{s:aE}{B:Hp}{E:EK}{e a b:Expr}{g h:En->bi}{pos p:v_}
noncomputable def lr:b_ D->f_ (b_ l_)
 |[]=>a_ []
 |.bl b::r=>(lr r).map (b::·)
 |_::_=>c_
theorem wj{K:KA}:∀{i:b_ D}{bs:b_ l_}{c:b_ V}{f:b_ aC},lr i=a_ bs->bt K G i c->dg c f->f=bs.map iR
 |[],bs,c,f,h,d,r=>by cases h;cases (show c=[]from d);cases r;rfl
 |d::i,bs,c,f,h,dl,r=>by
  obtain⟨v,q,rfl,m,n⟩:=dl;cases d with
  |bl b=>
   unfold lr at h;cases e:lr i with
   |none=>rw[e]at h;cases h
   |some o=>
    rw[e]at h;cases h;cases r with
    |cons l j=>cases (show v=.bl b from m);cases (show _=iR b from l);rw[bK,wj e n j]
  |_=>cases h
def Ax(bs:b_ l_)(f:b_ l_->(h_->l_))(c:f=λbs i=>bs.getD i e_):(eW bs.length).all (f bs)=bs.all id/\(eW bs.length).any (f bs)=bs.any id:=by
 subst c;have e:(eW bs.length).map (λi=>bs.getD i e_)=bs:=by
  apply E!
  .simp
  .intro i j d;simp[jN,d]
 constructor
 .have:=C_ (λl=>l.all id) e;simp only[List.all_map]at this;simpa[m?]using this
 .have:=C_ (λl=>l.any id) e;simp only[List.any_map]at this;simpa[m?]using this
inductive rAllD(K:KA)(an:l_)(xs:b_ V)(H:Hp)(Q:VK):Prop
 |mk (G l vs ds bs) (_:xs=[.ref l]) (_:h8 K H l vs) (_:bt K G ds vs) (_:lr ds=a_ bs) (_:Q (.bl (if an then bs.any id else bs.all id)) H):rAllD K an xs H Q
def Ex{A:bT}{f:aV}{w:bP}{bs:b_ l_}{c:q_ aC}(e:c.toList=bs.map iR):TruthOf f w A (λi v=>c[i]?=a_ v) (λi=>bs.getD i e_):=by
 intro i v s Q E m n;have d:c.toList[i]?=a_ v:=by simpa using m
 rw[e,bY]at d;cases l:bs[i]? with
 |none=>rw[l]at d;cases d
 |some b=>rw[l]at d;cases d;have j:Q (bs.getD i e_) s:=n;rw[jN,l]at j;exact dG j
def N4(z:X.calm=d_):lf X (.builtin "all") (rAllD (kx X) e_):=by
 intro au s σ H xs L Q I r q;obtain⟨G,l,J,O,bs,rfl,m,dl,C,q⟩:=q;obtain⟨u,rfl,v⟩:=ik r;cases v;obtain⟨c,n,d,_⟩:=I.list m;have e:=wj C dl n;have x:l<s.1.1.size:=by obtain⟨o,j,_⟩:=d.isList;exact aM j
 have W:=Walks.list (prog:=X.prog) (w:=X.w) (A:=X.A.in1) (show X.A.in1.handled=c_ from I.ok.hd z) s.1.1.size l (bE x) c.toArray;refine call_all_walk (iD d.isList ⟨s.1.1.size,_,_,_,_,_,λi=>bs.getD i e_,_6,W,⟨⟨_,aI _ _6,_6,_6⟩,d.isList.at λo j=>aB _ j⟩,Ex (by simpa using e),λN M y=>?_⟩);refine⟨.bl _,H,I.kd λb o e=>y b o (by simpa using bE (aM e)) (aB _ e),?_,q⟩;have f:c.toArray.size=_7 bs:=by rw[aX,e,bB]
 rw[f,(Ax bs _ _6).1];rfl
def Ur:D->f_ D
 |.a8 c=>(lr c).map λbs=>.bl (bs.all id)
 |_=>c_
def EO(v:X.calm=d_)(u:Gl X "all")(r:X.mg "all"=c_)(w:dj X B E e g)(j:aU [e] X.env=(e_,I_ e X.env)::aU [] X.env):ck X B E (.Call (.Name "all" p) [e] [] pos) (g1 Ur g):=
 PE.imp (jm (N4 v) u r PyProof.Rows.boot_all (de w f9 j) (by decide) (by decide) j _6) λσ H Q q=>GI (λG H x y d i z c Q q=>by
  cases y with
  |a8 m=>
   unfold Ur at c;dsimp only at c;cases f:lr m with
   |none=>rw[f]at c;cases c
   |some bs=>rw[f]at c;cases c;obtain⟨l,n,rfl,o,dl⟩:=z.a8 i;exact⟨G,l,n,m,bs,_6,o,dl,f,q _ G H (c6.refl i) _6⟩
  |_=>cases c) q
end
def Vd(x:k_):b_ D:=x.cps.toList.map λc=>.str ⟨#[c]⟩
def LR(x:k_):It:=⟨λi z=>i<x.cps.size,λi H v a=>a=H/\∃c,x.cps[i]?=a_ c/\v=.str ⟨#[c]⟩,λi z=>x.cps.size<=i⟩
def Lb{P:aV}{w:bP}{K:aK}{tg:Expr}(g:g_)(x:k_)(t:Z?):qO P w K tg (LR x) [g] g (λi h=>h.IsStrIter g "str_ascii_iterator" x t i) where
 mem:=by simp
 obj:=λi h st b j=>by
  have e:b=g:=by simpa using j
  subst e;obtain⟨o,e,c,d⟩:=st;exact⟨o,e,λv z=>by rw[d]at z;cases z⟩
 keep:=λi h n st k=>let ⟨o,N,r⟩:=st;⟨o,k g (by simp) o N,r⟩
 item:=by intro X u p y L i f s σ H E I m st q;subst u p y;obtain⟨J,G,O,C,B,A⟩:=m g (by simp);have a:i<x.cps.size:=q;refine wpAny_pyNext_ascii_item st (c:=x.cps[i]) (by simp[a]) λn l M=>?_;have T:a9 X f σ H {s with heap:=n,toks:=s.toks+1}:=I.ii (t':=s.toks+1) (λb o j e=>(M.2 b j).trans e) J G C B A;obtain⟨o,e,c,d⟩:=id l;exact⟨_,_6,Bs (s:={s with heap:=n,toks:=s.toks+1}) e c d (by decide) ⟨.str ⟨#[x.cps[i]]⟩,H,T,⟨_,_6⟩,⟨_6,_,by simp[a],_6⟩,l,λb j=>(m b j).1⟩⟩
 done:=by intro X u p y L i f s σ H E I m st q;subst u p y;obtain⟨J,G,O,C,B,A⟩:=m g (by simp);have a:x.cps.size<=i:=q;exact wpAny_pyNext_ascii_end (I.ok.hd L) st (by simp[a]) λn Q=>⟨_6,I.ii (t':=s.toks) (λb o j e=>Q b o j e) J G C B A⟩
 self:=λZ Z Z Z Z st h=>wpAny_pyIter_striter_ascii st h
def Qa{P:aV}{w:bP}{K:aK}{tg:Expr}(g:g_)(x:k_)(t:Z?):qO P w K tg (LR x) [g] g (λi h=>h.IsStrIter g "str_iterator" x t i) where
 mem:=by simp
 obj:=λi h st b j=>by
  have e:b=g:=by simpa using j
  subst e;obtain⟨o,e,c,d⟩:=st;exact⟨o,e,λv z=>by rw[d]at z;cases z⟩
 keep:=λi h n st k=>let ⟨o,N,r⟩:=st;⟨o,k g (by simp) o N,r⟩
 item:=by intro X u p y L i f s σ H E I m st q;subst u p y;obtain⟨J,G,O,C,B,A⟩:=m g (by simp);have a:i<x.cps.size:=q;refine wpAny_pyNext_wide_item st (c:=x.cps[i]) (by simp[a]) λn l M=>?_;have T:a9 X f σ H {s with heap:=n,toks:=s.toks+1}:=I.ii (t':=s.toks+1) (λb o j e=>(M.2 b j).trans e) J G C B A;obtain⟨o,e,c,d⟩:=id l;exact⟨_,_6,Bs (s:={s with heap:=n,toks:=s.toks+1}) e c d (by decide) ⟨.str ⟨#[x.cps[i]]⟩,H,T,⟨_,_6⟩,⟨_6,_,by simp[a],_6⟩,l,λb j=>(m b j).1⟩⟩
 done:=by intro X u p y L i f s σ H E I m st q;subst u p y;obtain⟨J,G,O,C,B,A⟩:=m g (by simp);have a:x.cps.size<=i:=q;exact wpAny_pyNext_wide_end (I.ok.hd L) st (by simp[a]) λn Q=>⟨_6,I.ii (t':=s.toks) (λb o j e=>Q b o j e) J G C B A⟩
 self:=λZ Z Z Z Z st h=>wpAny_pyIter_striter_wide st h
def Ss{K:KA}{x:k_}{S:Hp->Hp->Prop}:rm K (LR x) (Vd x) S:=λi G H m f=>by
 unfold Vd;refine⟨λd a=>?_,λb=>?_⟩
 .rw[bY]at a;cases e:x.cps.toList[i]? with
  |none=>rw[e]at a;cases a
  |some c=>
   rw[e]at a;cases a;have g:i<x.cps.size:=by simpa using(i_.mp e).1
   refine⟨g,λv n ⟨z,l,j,h⟩=>?_⟩;subst z;have:x.cps.toList[i]?=a_ l:=by simpa using j
   rw[e]at this;cases this;exact⟨G,c6.refl f,h⟩
 .rw[bB]at b;show x.cps.size<=i;simpa using b
section
variable{X:Cx}{G0 B:Hp}{E:EK}{e a b c tg iter:Expr}{g h:En->bi}{pos p:v_}
def IP(K:aK)(f:TE):TI:=λσ H R=>f σ H λx d=>(∃a,x=.ref a/\(((∃xs,h8 K d a xs)/\R (LU K a) d)\/((∃xs,ng K d a xs)/\R (LQ K a) d)))\/∃z,x=.str z/\R (LR z) d
def M0{l:Expr}{w:TE}(J:PE X l w):PI X tg l (IP X.K w):=by
 intro j s σ H R I h;refine c9 (J j s σ H _ I h) λv d ⟨x,n,f,r,C⟩=>?_;obtain ⟨a,e,⟨⟨xs,u⟩,q⟩|⟨⟨xs,u⟩,q⟩⟩|⟨z,e,q⟩:=C
 .subst e;cases r;obtain⟨m,A,p,G⟩:=f.list u;refine iD p.isList ?_;refine⟨d.1.1.size,[d.1.1.size],_,_,n,_6,f.kd (t':=d.toks) λb o e=>aB _ e,B8 a _,⟨_,aI _ _6,_6,_6⟩,λb i=>?_,q⟩;have e:b=d.1.1.size:=by simpa using i
  subst e;exact f.qU (aL _) (f.e6.fresh (aL _))
 .subst e;cases r;obtain⟨m,A,p,G⟩:=f.tuple u;refine wpAny_pyIter_tuple (show d.1.IsTuple a m.toArray from p) ?_;refine⟨d.1.1.size,[d.1.1.size],_,_,n,_6,f.kd (t':=d.toks) λb o e=>aB _ e,Ar a _,⟨_,aI _ _6,_6,_6⟩,λb i=>?_,q⟩;have e:b=d.1.1.size:=by simpa using i
  subst e;exact f.qU (aL _) (f.e6.fresh (aL _))
 .subst e;obtain⟨t,rfl⟩:=r;cases y:z.cps.all (· <128)
  .refine wpAny_pyIter_wide y ⟨d.1.1.size,[d.1.1.size],_,_,n,_6,f.kd (t':=d.toks) λb o e=>aB _ e,Qa _ z t,⟨_,aI _ _6,_6,_6⟩,λb i=>?_,q⟩;have e:b=d.1.1.size:=by simpa using i
   subst e;exact f.qU (aL _) (f.e6.fresh (aL _))
  .refine wpAny_pyIter_ascii y ⟨d.1.1.size,[d.1.1.size],_,_,n,_6,f.kd (t':=d.toks) λb o e=>aB _ e,Lb _ z t,⟨_,aI _ _6,_6,_6⟩,λb i=>?_,q⟩;have e:b=d.1.1.size:=by simpa using i
   subst e;exact f.qU (aL _) (f.e6.fresh (aL _))
def Cb:D->f_ (b_ D)
 |.a8 d=>a_ d
 |.ci d=>a_ d
 |.str x=>a_ (Vd x)
 |_=>c_
noncomputable def jl(g:En->bi):En->ey:=λU=>match g U with
 | .ok d => (match Cb d with
  |some f=>.ok f
  |none=>.st)
 |.er c=>.er c
 |.st=>.st
def AG{G H:Hp}{U:En}{P:b_ D->Prop}(q:f' E G H (jl g U) P):dL E G H (g U) λd=>∃f,Cb d=a_ f/\P f:=by
 unfold jl at q;cases e:g U with
 |ok d=>
  rw[e]at q;dsimp only at q;cases i:Cb d with
  |some f=>rw[i]at q;exact⟨f,i,q⟩
  |none=>rw[i]at q;exact q.elim
 |er c=>rw[e]at q;exact q
 |st=>rw[e]at q;exact q
def sk(h:V8 X B E e g):N2 X B E tg e (jl g):=PI.imp (M0 h) λσ H R ⟨G,U,A,q⟩=>⟨G,U,A,(AG q).am λd Z ⟨L,f,q⟩ v o m j y=>by
 have J:a6 B m:=A.bh.trans j.hh;cases d with
 |a8 x=>
  cases f;obtain ⟨a,l,rfl,s,dl⟩|⟨w,a,l,z,rfl,s,dl⟩|⟨t,u,a,z,_⟩|⟨_,_,_,z,_⟩:=y
  .exact .inl ⟨a,_6,.inl ⟨⟨l,h8.am j.gh s⟩,q _ o m j (J8 (λI C ⟨i,r⟩ n=>⟨h8.am (i.trans n) s,i⟩) dl)⟩⟩
  .cases z;exact .inl ⟨a,_6,.inl ⟨⟨l,h8.am J s⟩,q _ o m j (J8 (λI C ⟨i,r⟩ n=>⟨h8.am r s,i⟩) dl)⟩⟩
  .cases z
  .cases z
 |ci x=>
  cases f;obtain ⟨a,l,rfl,s,dl⟩|⟨w,a,l,z,rfl,s,dl⟩|⟨t,u,a,z,_⟩|⟨_,_,_,z,_⟩:=y
  .exact .inl ⟨a,_6,.inr ⟨⟨l,ng.of (j.gh _ _ s)⟩,q _ o m j (Su (λI C ⟨i,r⟩ n=>⟨ng.of ((i.trans n) _ _ s),i⟩) dl)⟩⟩
  .cases z
  .cases z
  .cases z
 |str z=>cases f;exact .inr ⟨z,y.str,q _ o m j Ss⟩
 |fm=>cases f
 |bl _=>cases f
 |int _=>cases f
 |h7 _ _=>cases f
 |obj _ _=>cases f
 |fn _=>cases f⟩
def M1(h:dj X B E e g):N3 X B E tg e (jl g):=PI.imp (M0 h) λσ H R ⟨G,U,u,q⟩=>⟨G,U,u,(AG q).am λd Z ⟨A,f,q⟩ v o n i m=>by
 cases d with
 |a8 l=>cases f;obtain⟨a,j,rfl,s,dl⟩:=m.a8 i.gh;exact .inl ⟨a,_6,.inl ⟨⟨j,s⟩,q _ o n i (J8 (λy w x r=>⟨h8.am x.hh s,x.gg⟩) dl)⟩⟩
 |ci l=>cases f;obtain⟨a,j,rfl,s,dl⟩:=m.ci i.gh;exact .inl ⟨a,_6,.inr ⟨⟨j,s⟩,q _ o n i (Su (λy w x r=>⟨ng.am x.hh s,x.gg⟩) dl)⟩⟩
 |str z=>cases f;exact .inr ⟨z,m.str,q _ o n i Ss⟩
 |fm=>cases f
 |bl _=>cases f
 |int _=>cases f
 |h7 _ _=>cases f
 |obj _ _=>cases f
 |fn _=>cases f⟩
def Rp(ps:b_ gN)(q:gN):f_ h_:=ps.findIdx? λy=>cO y q
noncomputable def ug:D->D->f_ D
 | .a8 xs, d => (match ff xs, cw d with
  |some ps,a_ q=>if bA ps&&cG q&&decide (_7 xs<=aG)then(Rp ps q).map λj=>.int (j:h_)else c_
  |_,_=>c_)
 |_,_=>c_
def xy:D->D->f_ D
 | .a8 xs, d => (match ff xs, cw d with
  |some ps,a_ q=>if bA ps&&cG q then a_ (.int (ps.countP (λy=>cO y q):h_))else c_
  |_,_=>c_)
 |_,_=>c_
inductive rMt(K:KA)(f:D->D->f_ D)(x:V)(vs:b_ V)(H:Hp)(Q:VK):Prop
 |mk (G dx dy y d) (_:a6 G H) (_:Arg K G H dx x) (_:vs=[y]) (_:Arg K G H dy y) (_:f dx dy=a_ d) (_:∀v,gy K G d v->Q v H):rMt K f x vs H Q
def Ph(hu:X.A.units+65<cP):AB X "list.index" (rMt (kx X) ug):=by
 intro α s σ H x vs v us Q I Y rv q;obtain⟨G,dx,dy,y,d,M,ax,rfl,ay,i,q⟩:=q;obtain⟨u,rfl,ru⟩:=rv.pv;cases dx with
 |a8 xs=>
  unfold ug at i;dsimp only at i;cases L:ff xs with
  |none=>rw[L]at i;cases i
  |some ps=>
   cases U:cw dy with
   |none=>rw[L,U]at i;cases i
   |some m=>
    rw[L,U]at i;dsimp only at i
    by_cases z:(bA ps&&cG m&&decide (_7 xs<=aG))=d_
    .rw[aO z]at i;simp only[aH,j_]at z;obtain⟨⟨h1,h2⟩,h3⟩:=z;cases J:Rp ps m with
     |none=>rw[J]at i;cases i
     |some j=>
      rw[J]at i;cases i;obtain⟨as,ra⟩:=bu (p:=.list ps) I M ax Y (by unfold cw;rw[L]);obtain⟨bs,rb⟩:=bu I M ay ru U;cases ra with
      |@list l o f n _ _ g1 g2 g3 g4=>
       obtain⟨cls,dd,data,sl⟩:=o;simp only at g2 g3;subst g2 g3;have hm:=G? ps _ _ h1 g4;have w:f.size=_7 ps:=by rw[<-hm,bB];simp
       unfold Rp at J;obtain⟨w1,w2,w3⟩:=List.findIdx?_eq_some_iff_getElem.mp J;have nz:∀(k:h_)(C:k<f.size),cO (jW s.1 f[k]) m=cO (ps[k]'(by lia)) m:=λk C=>by
        congr 1
        have:(f.toList.map (jW s.1))[k]?=ps[k]?:=by rw[hm]
        rw[bY,bF (by simpa using C),bF (by lia)]at this;simpa using this
       have hz:_7 ps<=aG:=by
        have:_7 xs=_7 ps:=by obtain⟨l',μ,rfl,sq,dl⟩:=ax.a8 M;cases Y;obtain⟨χ,N,pl,_⟩:=I.list sq;obtain⟨o',r,Γ,n',T⟩:=pl.isList;rw[g1]at r;cases r;cases T;rw[dl.length,N.length,<-w];simp
        lia
       have γ:(aG:n_)<2^63-1:=by decide
       refine fC _B ⟨_,g1,_6⟩ PySem.F.entry_list_index (PySem.F.args_list_index_2 _ _)
        (PySem.SeqAt.list_indexAt l f n dd sl u (λy=>cO (jW s.1 y) m) j (by lia) (by lia) ?_ ?_) ⟨g1,λy hy=>p! g4 rb h1 (fE h2) (jL h2 hu) y hy,?_⟩
       .show cO (jW s.1 f[j]) m=d_;rw[nz j (by lia)];exact w2
       .intro k C O;show cO (jW s.1 f[k]) m=e_;rw[nz k C];have:=w3 k O;simpa using this
       .exact⟨.int j,H,I.qs _,⟨_,_6⟩,q _ _6⟩
    .rw[aJ z]at i;cases i
 |_=>cases i
end
end Pu
namespace L2
def Xq{n:n_}(h:n<=16777216):_b n=e_:=by
 unfold _b;rw[M_];have:(aG:n_)=16777216:=by decide
 lia
def Ze(l:g_)(o:D_)(items:q_ aC)(n:h_)(x:n_)(u:Z?)(f:o.cls=.type "tuple")(z:o.data=.seq items n)(j:items.isEmpty=e_)(L:2<=x)(J:x<2^20)(hz:items.size*x.toNat<=16777216):
  _g (z_.«tuple.__mul__» ⟨[.ref l,.int x u],[]⟩) (λZ R s=>s.1.get? l=a_ o/\R (.ok (.ret (bH s.1.1.size))) {s with heap:=s.1.push {cls:=jF "tuple",data:=v? (iS (λb a=>b++a) #[] (aT x.toNat items))}}):=
 .of_wp λi w A R s h=>by
  obtain⟨I,g,d,G,os⟩:=s;obtain⟨v,h⟩:=h;obtain⟨H,od,q,p⟩:=o;subst f z;unfold z_.«tuple.__mul__»;have r:(decide (x< -2^63)||decide (x>=2^63))=e_:=by rw[w?,M_,M_];lia
  wp_walk
  rw[aJ (by rw[r];decide)];refine aA (kP v _6 ?_);have E:(items.isEmpty||x==1)=e_:=by rw[j,Bool.false_or];exact w_.mpr (by lia)
  rw[aJ (by rw[E];decide)];have B:((items.size:h_):n_)*x<=16777216:=by
   have e:x=((x.toNat:h_):n_):=by lia
   rw[e,<-Int.natCast_mul];lia
  have C:(decide (x<=0)||items.isEmpty)=e_:=by rw[j,Bool.or_false,M_];lia
  rw[aJ (by rw[C];decide)];rw[aJ (by lia),aJ (by rw[Xq B];decide)];have y:iS (λb a=>b++a) #[] (aT x.toNat items)=(aT x.toNat items.toList).flatten.toArray:=by have:=kr items.toList x.toNat [];simpa using this
  have c:(iS (λb a=>b++a) #[] (aT x.toNat items)).size<=aG:=by rw[y,aX,xt,eE,pN];exact hz
  first
   |exact aA (m:=iH _) (cR (aD ⟨_,_6,h⟩) c)
   |exact aA (m:=iH _) (cR ⟨_,_6,h⟩ c)
def Vx(l:g_)(o:D_)(a:q_ aC)(n:h_)(u:Z?)(b:o.cls=.type "tuple")(i:o.data=.seq a n):
  _g (z_.«tuple.__mul__» ⟨[.ref l,.int 1 u],[]⟩) (λz R s=>s.1.get? l=a_ o/\R (.ok (.ret (bH l))) s):=
 .of_wp λc w A R s h=>by
  obtain⟨p,g,d,j,os⟩:=s;obtain⟨q,h⟩:=h;obtain⟨m,od,f,e⟩:=o;subst b i;unfold z_.«tuple.__mul__»
  wp_walk
  exact⟨_,_6,h⟩
def k7:fillsNumberSlot (.type "tuple") "mul"=pure e_:=PySem.fillsNumberSlot_seq (id:="tuple.__mul__") (r:=a_ (.builtin "tuple.__rmul__")) F.slot_tuple_mul.lookup (by decide+kernel) F.slot_tuple_rmul.lookup (by decide+kernel)
def uo:seqRepeat? (.type "tuple")=pure (a_ (.builtin "tuple.__mul__")):=by unfold seqRepeat?;rw[q! (T:="tuple") (name:="__mul__") (id:="tuple.__mul__") F.slot_tuple_mul.lookup (by decide+kernel),q! (T:="tuple") (name:="__rmul__") (id:="tuple.__rmul__") F.slot_tuple_rmul.lookup (by decide+kernel)];rfl
def Ho(a:n_)(t:Z?)(l:g_)(o:D_)(b:q_ aC)(n:h_)(c:o.cls=.type "tuple")(j:o.data=.seq b n):_g (z_.«int.__rmul__» ⟨[.int a t,.ref l],[]⟩) (λz R s=>s.1.get? l=a_ o/\R (.ok (.ret jM)) s):=
 .of_wp λe w A R s h=>by
  obtain⟨q,g,d,m,os⟩:=s;obtain⟨r,h⟩:=h;obtain⟨p,od,i,f⟩:=o;subst c j
  wp_walk;exact⟨_,_6,h⟩
section
variable{X:Cx}
inductive rRepT(K:aK)(x:V)(y:V)(H:Hp)(Q:VK):Prop
 |mk (l k xs) (_:x=.ref l) (_:y=.int k) (_:ng K H l xs) (_:xs≠[]) (_:1<=k) (_:k<2^20) (_:_7 xs*k.toNat<=16777216) (_:(k=1->Q (.ref l) H)) (_:∀p,H p=c_->Q (.ref p) (c0 H p (.ci (aT k.toNat xs).flatten))):rRepT K x y H Q
def X0:n5 X (fS .Mult) (rRepT X.K):=by
 intro w s σ H x y v u Q I J G h;obtain⟨l,k,xs,rfl,rfl,M,m,B,N,z,L,q⟩:=h;cases J;obtain⟨t,rfl⟩:=G;obtain⟨c,r,⟨o,e,d,n,i⟩,_⟩:=I.tuple M;have A:=r.length
 by_cases p:k=1
 .subst p;exact gZ (T:="tuple") (U:="int") (by decide) ⟨_,e,d⟩ (λj=>jJ j 1 t) k7 nA gA uo F.slot_int_index.lookup
   (fC gA (jJ s 1 t) mB (lI _ _) (Ho 1 t l o c.toArray n d i)
    ⟨e,_6,⟨_,e,d⟩,fC F.slot_tuple_mul ⟨_,e,d⟩ F.entry_tuple_mul (F.args_tuple_mul_2 _ _) (Vx l o c.toArray n t d i) ⟨e,⟨.ref l,H,I,_6,L _6⟩⟩⟩)
 have B:2<=k:=by lia
 have g:c.toArray.isEmpty=e_:=by
  cases c with
  |nil=>cases xs with
   |nil=>exact u_ _6 m
   |cons _ _=>cases A
  |cons a b=>rfl
 refine gZ (T:="tuple") (U:="int") (by decide) ⟨_,e,d⟩ (λj=>jJ j k t) k7 nA gA uo F.slot_int_index.lookup
  (fC gA (jJ s k t) mB (lI _ _) (Ho k t l o c.toArray n d i)
   ⟨e,_6,⟨_,e,d⟩,fC F.slot_tuple_mul ⟨_,e,d⟩ F.entry_tuple_mul (F.args_tuple_mul_2 _ _) (Ze l o c.toArray n k t d i g B N (by rw[aX,<-A];exact z)) ⟨e,?_⟩⟩)
 have f:iS (λE C=>E++C) #[] (aT k.toNat c.toArray)=(aT k.toNat c).flatten.toArray:=by have:=kr c k.toNat [];rw[kM]at this;exact this
 rw[f];exact⟨.ref _,_,I.nn (o:=.ci (aT k.toNat xs).flatten) (t':=s.toks) (λZ Z q=>aB _ q) (aL _) ⟨by rw[xt,pN];exact z,_,r.rep k.toNat,⟨_,aI _ _6,_6,0,_6⟩⟩,_6,q _ I.fresh⟩
def Xj(l:g_)(o:D_)(a:q_ aC)(n:h_)(x:n_)(u:Z?)(e:o.cls=.type "list")(c:o.dict=c_)(r:o.data=.seq a n)(y:¬(!Builtin.List.listFitsIndex x)=d_)(v:¬a.size*x.toNat>(2^63-1) / 8)(f:¬dP (a.size*x.toNat)=d_):
  _g (z_.«list.__mul__» ⟨[.ref l,.int x u],[]⟩) (λZ R s=>s.1.get? l=a_ o/\R (.ok (.ret (bH s.1.1.size))) {s with heap:=s.1.push {cls:=jF "list",data:=v? (iS (λm j=>m++j) #[] (aT (if a.isEmpty=d_ then 0 else x.toNat) a))}}):=
 .of_wp λi w A R s h=>by
  obtain⟨C,g,d,z,os⟩:=s;obtain⟨E,h⟩:=h;obtain⟨B,od,q,p⟩:=o;subst e c r;have b:=AutoListH.joined_fits f
  wp_walk;refine wpAny_ite_false (t_ (Nat.not_lt.mpr b)) ?_;wp_walk;exact⟨_,_6,h⟩
def U1(a:n_)(t:Z?)(l:g_)(o:D_)(b:q_ aC)(n:h_)(c:o.cls=.type "list")(j:o.data=.seq b n):_g (z_.«int.__rmul__» ⟨[.int a t,.ref l],[]⟩) (λz R s=>s.1.get? l=a_ o/\R (.ok (.ret jM)) s):=
 .of_wp λe w A R s h=>by
  obtain⟨q,g,d,m,os⟩:=s;obtain⟨r,h⟩:=h;obtain⟨p,od,i,f⟩:=o;subst c j
  wp_walk;exact⟨_,_6,h⟩
inductive rRepL(K:aK)(x:V)(y:V)(H:Hp)(Q:VK):Prop
 |mk (l k xs) (_:x=.ref l) (_:y=.int k) (_:h8 K H l xs) (_:-(2^63)<=k) (_:k<2^63) (_:_7 xs*k.toNat<=aG) (_:∀p,H p=c_->Q (.ref p) (c0 H p (.a8 (aT k.toNat xs).flatten))):rRepL K x y H Q
def Xz:n5 X (fS .Mult) (rRepL X.K):=by
 intro A s σ H x y v u Q I J G h;obtain⟨l,k,xs,rfl,rfl,M,O,N,B,q⟩:=h;cases J;obtain⟨t,rfl⟩:=G;obtain⟨b,r,⟨o,n,e,j,z,C⟩,_⟩:=I.list M;have L:=r.length;have f:b.toArray.size*k.toNat<=aG:=by rw[aX,<-L];exact B
 have i:¬b.toArray.size*k.toNat>(2^63-1) / 8:=by
  have:(aG:h_)<=(2^63-1) / 8:=by decide
  lia
 have g:¬(!Builtin.List.listFitsIndex k)=d_:=by rw[j? O N];exact p_
 have c:¬dP (b.toArray.size*k.toNat)=d_:=by rw[zr f];exact p_
 have d:iS (λw p=>w++p) #[] (aT (if b.toArray.isEmpty=d_ then 0 else k.toNat) b.toArray)=(aT k.toNat b).flatten.toArray:=by
  have Y:∀m:h_,iS (λw p=>w++p) #[] (aT m b.toArray)=(aT m b).flatten.toArray:=λm=>by have:=kr b m [];rw[kM]at this;exact this
  rw[Y];cases b with
  |nil=>simp
  |cons a r'=>rw[aJ (by simp)]
 refine gZ (T:="list") (U:="int") (by decide) ⟨_,e,j⟩ (λE=>jJ E k t) noFill_list_mul nA gA repeat_list F.slot_int_index.lookup
  (fC gA (jJ s k t) mB (lI _ _) (U1 k t l o b.toArray n j C)
   ⟨e,_6,⟨_,e,j⟩,fC F.slot_list_mul ⟨_,e,j⟩ F.entry_list_mul (F.args_list_mul_2 _ _) (Xj l o b.toArray n k t j z C g i c) ⟨e,?_⟩⟩)
 rw[d];exact⟨.ref _,_,I.lnew (t':=s.toks) (r.rep k.toNat) (by rw[xt,pN];exact B),_6,q _ I.fresh⟩
end
end L2
namespace Pu
open L2
section
variable{X:Cx}{G0 B:Hp}{E:EK}{e a b c tg iter:Expr}{g h:En->bi}{pos p:v_}
def Pg(hu:X.A.units+65<cP):AB X "list.count" (rMt (kx X) xy):=by
 intro C s σ H x vs v us Q I T U q;obtain⟨G,dx,dy,y,d,z,ax,rfl,ay,f,q⟩:=q;obtain⟨u,rfl,Y⟩:=U.pv;cases dx with
 |a8 xs=>
  unfold xy at f;dsimp only at f;cases r:ff xs with
  |none=>rw[r]at f;cases f
  |some ps=>
   cases w:cw dy with
   |none=>rw[r,w]at f;cases f
   |some j=>
    rw[r,w]at f;dsimp only at f
    by_cases m:(bA ps&&cG j)=d_
    .rw[aO m]at f;simp only[aH]at m;obtain⟨L,J⟩:=m;cases f;obtain⟨as,ra⟩:=bu (p:=.list ps) I z ax T (by unfold cw;rw[r]);obtain⟨bs,rb⟩:=bu I z ay Y w;cases ra with
     |@list l o i n _ _ g1 g2 N M=>
      obtain⟨cls,dd,data,O⟩:=o;simp only at g2 N;subst g2 N;have hm:=G? ps _ _ L M;refine fC _C ⟨_,g1,_6⟩ PySem.F.entry_list_count (PySem.F.args_list_count_2 _ _)
       (PySem.SeqAt.list_countAt l i n dd O u (λy=>cO (jW s.1 y) j)) ⟨g1,λy hy=>p! M rb L (fE J) (jL J hu) y hy,?_⟩
      have ec:i.toList.countP (λy=>cO (jW s.1 y) j)=ps.countP (λy=>cO y j):=by rw[<-hm,List.countP_map];rfl
      rw[ec];exact⟨.int _,H,I.qs _,⟨_,_6⟩,q _ _6⟩
    .rw[aJ m]at f;cases f
 |_=>cases f
def gM(f:D->D->f_ D)(g h:En->bi):En->bi:=λU=>(g U).bind λx=>match x with
 |.a8 xs=>(h U).bind λy=>bi.of (f (.a8 xs) y)
 |_=>.st
def Z7{f:D->D->f_ D}{m:k_}{id:F_}{I A:v_}(slot:Slot "list" m id)(n:i? (.builtin id)=pure (.type "method_descriptor"))(Y:AB X id (rMt (kx X) f))(T:dj X B E a g)(he:dj X B E e h)
  (hb:gQ a m X.env (I_ a X.env)=I_ a X.env)(o:cq e=d_)(hl:(I.endLine==A.line)=d_):ck X B E (.Call (.Attribute a m I) [e] [] A) (gM f g h):=
 PE.imp (oz dF slot n Y T (de he f9 (ag o)) hb (by rw[gi (by rw[bO,o];rfl)];rfl) hl (ag o) _6) λσ H Q ⟨G,U,R,q⟩=>⟨G,U,R,(dL.bind q).am λdx Z i x w J j C=>by
  cases dx with
  |a8 xs=>
   have u:=C;obtain⟨l,M,rfl,N,dl⟩:=C.a8 j.gh;refine⟨.inl ⟨_6,M,N⟩,w,U,R.ext j,?_⟩;have i:dL E w J ((h U).bind λy=>bi.of (f (.a8 xs) y)) _:=dL.ext j i;unfold ac;cases r:h U with
   |ok z=>rw[r]at i;obtain⟨d,ed,O⟩:=dL.of (show dL E w J (bi.of (f (.a8 xs) z)) _ from i);intro ws L H2 s al;obtain⟨y,rfl,ay⟩:=h9.pv al;exact⟨L,.a8 xs,z,y,d,s.gh,u.ext s,_6,ay,ed,λv dn=>O v L H2 (j.trans s) dn⟩
   |er c=>rw[r]at i;exact i
   |st=>rw[r]at i;exact i
  |_=>exact i.elim⟩
def G9{ap cp:v_}(d:X.A.units+65<cP)(f:dj X B E a g)(l:dj X B E e h)(m:gf a=d_)(i:cq e=d_)(j:(ap.endLine==cp.line)=d_):ck X B E (.Call (.Attribute a "index" ap) [e] [] cp) (gM ug g h):=
 Z7 _B PySem.F.type_list_index (Ph d) f l (d8 m) i j
def Ui{ap cp:v_}(d:X.A.units+65<cP)(f:dj X B E a g)(l:dj X B E e h)(m:gf a=d_)(i:cq e=d_)(j:(ap.endLine==cp.line)=d_):ck X B E (.Call (.Attribute a "count" ap) [e] [] cp) (gM xy g h):=
 Z7 _C PySem.F.type_list_count (Pg d) f l (d8 m) i j
noncomputable def mx:D->D->f_ D
 |.int i,.int j=>if(-(2^64)<i/\i<2^64)\/(-(2^64)<j/\j<2^64)then a_ (.int (i*j))else c_
 |.str x,.int n=>if x.length*n.toNat<=aG/\-(2^20)<=n/\n<2^20 then a_ (.str (Txt.mul x n))else c_
 |.ci xs,.int n=>if xs≠[]/\1<=n/\n<2^20/\xs.length*n.toNat<=16777216 then a_ (.ci (aT n.toNat xs).flatten)else c_
 |.a8 xs,.int n=>if xs.length*n.toNat<=aG/\-(2^20)<=n/\n<2^20 then a_ (.a8 (aT n.toNat xs).flatten)else c_
 |_,_=>c_
def IH{x:k_}{n:n_}(h:x.length*n.toNat<=aG/\-(2^20)<=n/\n<2^20):MulOk x n:=by
 obtain⟨d,o,m⟩:=h;refine⟨?_,λa b=>?_,λa b=>?_⟩
 .simp only[w?,M_]
  lia
 .intro j;have f:x.length<=aG:=by
   have:1<=n.toNat:=by lia
   exact cB (Nat.le_mul_of_pos_right _ this) d
  have i:(aG:n_)=2^24:=rfl;have l:(2^63-1:n_) / n>=2^43-1:=by
   rw[ge_iff_le,Int.le_ediv_iff_mul_le (by lia)];have:(2^43-1:n_)*n<=(2^43-1)*2^20:=Int.mul_le_mul_of_nonneg_left (by lia) (by decide)
   lia
  lia
 .unfold Builtin.Str.tooLong;simp only[gt_iff_lt,M_,Nat.not_lt];exact d
theorem tq{K:KA}{G:Hp}{f:b_ D}{d:b_ V}(dl:bt K G f d):∀n:h_,bt K G (aT n f).flatten (aT n d).flatten
 |0=>rfl
 |n+1=>by rw[fH,iC,fH,iC];exact dl.append (tq dl n)
inductive rMulD(K:KA)(x:V)(y:V)(H:Hp)(Q:VK):Prop
 |mk (G dx dy d) (_:a6 G H) (_:Arg K G H dx x) (_:Arg K G H dy y) (_:mx dx dy=a_ d) (_:∀v G' H',c6 G H G' H'->gy K G' d v->Q v H'):rMulD K x y H Q
set_option tactic.hygienic true in
def Xw:n5 X (fS .Mult) (rMulD (kx X)):=by
 intro i s σ H x y v u Q I r o q;obtain⟨G,dx,Y,d,m,C,L,f,q⟩:=q;unfold mx at f;split at f
 .split at f
  .rename_i j;cases f;rw[C.int]at r;rw[L.int]at o;exact DO i s σ H _ _ _ _ Q I r o ⟨_,_,_6,_6,j,q _ G H (c6.refl m) _6⟩
  .cases f
 .split at f
  .rename_i j;cases f;rw[C.str]at r;rw[L.int]at o;obtain⟨t,rfl⟩:=r;obtain⟨U,rfl⟩:=o;exact SB.mul (IH j) λO k=>⟨.str _,H,I.qs _,⟨_,_6⟩,q _ G H (c6.refl m) _6⟩
  .cases f
 .split at f
  .rename_i xs n j;cases f;have N:=C;obtain⟨l,w,rfl,M,dl⟩:=C.ci m;rw[L.int]at o;have J:=dl.length;refine X0 i s σ H _ _ _ _ Q I r o ⟨l,n,w,_6,_6,M,λz=>j.1 (X_.mp (by rw[J,z];rfl)),j.2.1,j.2.2.1,by rw[<-J];exact j.2.2.2,λT=>q _ G H (c6.refl m) (by subst T;rw[show(aT (1:n_).toNat xs).flatten=xs from dZ xs];rcases N with ad|⟨_,_,_,z,_⟩|⟨_,_,_,z,_⟩|⟨_,_,_,z,_⟩<;>first|exact ad|cases z),λp A=>q _ (c0 G p (.ci (aT n.toNat w).flatten)) _ (c6.new m _ A) (gz m A (tq dl n.toNat))⟩
  .cases f
 .split at f
  .rename_i xs n j;cases f;obtain⟨l,w,rfl,M,dl⟩:=C.a8 m;rw[L.int]at o;have J:=dl.length;exact Xz i s σ H _ _ _ _ Q I r o ⟨l,n,w,_6,_6,M,by lia,by lia,by rw[<-J];exact j.1,λp A=>q _ (c0 G p (.a8 (aT n.toNat w).flatten)) _ (c6.new m _ A) (m9 m A (tq dl n.toNat))⟩
  .cases f
 .cases f
def EC(j:dj X B E a g)(i:dj X B E b h):ck X B E (.BinOp a .Mult b pos) (g2 mx g h):=B5 Xw (λG H x y n m d f r o l Q q=>⟨G,n,m,d,f,r,o,l,q⟩) j i
def Fw(g h:En->bi):En->bi:=λU=>(g U).bind λx=>(h U).bind λy=>match x,y with
 |.a8 xs,.int n=>if _7 xs*n.toNat<=aG/\-(2^20)<=n/\n<2^20 then .ok (.a8 (aT n.toNat xs).flatten)else .st
 |_,_=>.st
set_option tactic.hygienic true in
def Tt(A:Qj X B E a g)(m:IsL g)(z:dj X B E b h):Qj X B E (.BinOp a .Mult b pos) (Fw g h):=
 PE.imp (Z5 DL A z) λσ H Q ⟨G,U,R,q⟩=>⟨G,U,R,(dL.bind q).am λJ o u=>by
  obtain⟨xs,rfl⟩:=m U J o
  .refine⟨xs,_6,λl s N H1 r O T w dl=>⟨N,U,R.ext r,((dL.bind u).ext r).am λI _ d y M H2 f L=>?_⟩⟩;cases I with
   |int n=>
    dsimp only at d;split at d
    .rename_i x;obtain⟨Y,C,v⟩:=d;cases C;have i:=r.trans f;refine⟨l,n,s,_6,L.int,f.hh _ _ w,by lia,by lia,by rw[<-dl.length];exact x.1,λp j=>?_⟩;exact v p _ M _ (i.trans (c6.own f.gh _ j)) (aq i.hh j) (aq f.gh j) ae (tq (dl.am f.gg) n.toNat)
    .exact d.elim
   |_=>exact d.elim⟩
def Wz:IsL (Fw g h):=λU d e=>by
 unfold Fw at e;cases i:g U with
 |er c=>rw[i]at e;cases e
 |st=>rw[i]at e;cases e
 |ok x=>
  rw[i]at e;cases f:h U with
  |er c=>rw[f]at e;cases e
  |st=>rw[f]at e;cases e
  |ok y=>
   rw[f]at e;cases x with
   |a8 xs=>
    cases y with
    |int n=>
     have e:(if _7 xs*n.toNat<=aG/\-(2^20)<=n/\n<2^20 then bi.ok (.a8 (aT n.toNat xs).flatten)else .st)=.ok d:=e;split at e
     .cases e;exact⟨_,_6⟩
     .cases e
    |_=>cases e
   |_=>cases e
theorem Ic:∀{xs:b_ V}{d:b_ aC},_7 xs=_7 d->(∀(i:h_) x u,xs[i]?=a_ x->d[i]?=a_ u->eu x u)->dg xs d
 |[],[],_,_=>.nil
 |[],_::_,h,_=>by simp at h
 |_::_,[],h,_=>by simp at h
 |x::xs,u::d,h,f=>.cons (f 0 x u _6 _6) (Ic (by simpa using h) λi y v l j=>f (i+1) y v (by simpa using l) (by simpa using j))
end
inductive n7 where
 |ok (d:D) (U:En)
 |er (c:k_)
 |st
def qu(K:KA)(f B:Hp)(E:EK)(G:Hp)(σ:St)(r:n7)(P:D->Hp->Hp->En->Prop):Prop:=match r with
 |.ok d e=>∀b a,a6 G b->ce K B b a σ e->c6 f B b a->P d b a e
 |.er c=>∀b a,c6 f B b a->E c a
 |.st=>L_
inductive tEf(K:KA)(G0 B:Hp)(E:EK)(g:En->n7)(σ:St)(H:Hp)(Q:VK):Prop
 |mk (G U) (_:ce K B G H σ U) (_:c6 G0 B G H) (_:qu K G0 B E G σ (g U) λd G' H' _=>∀v,gy K G' d v->Q v H'):tEf K G0 B E g σ H Q
inductive tEt(K:KA)(G0 B:Hp)(E:EK)(g:En->n7)(σ:St)(H:Hp)(Q:l_->Hp->Prop):Prop
 |mk (G U) (_:ce K B G H σ U) (_:c6 G0 B G H) (_:qu K G0 B E G σ (g U) λd G' H' _=>∃b,d=.bl b/\Q b H'):tEt K G0 B E g σ H Q
abbrev Qg(X:Cx)(a B:Hp)(E:EK)(e:Expr)(g:En->n7):Prop:=PE X e (tEf (kx X) a B E g)
abbrev NA(X:Cx)(a B:Hp)(E:EK)(e:Expr)(g:En->n7):Prop:=PT X e (tEt (kx X) a B E g)
noncomputable def bi.ef(r:bi)(U:En):n7:=match r with
 |.ok d=>.ok d U
 |.er c=>.er c
 |.st=>.st
def Sd(g:En->bi):En->n7:=λU=>(g U).ef U
section
variable{X:Cx}{G0 B:Hp}{E:EK}{e a b c tg iter:Expr}{g h k:En->bi}{f:En->n7}{pos p:v_}{ss tt:b_ s_}{F1 F2:En->fq}
def RX{K:KA}{G H:Hp}{σ:St}{U:En}{r:bi}{P:D->Hp->Hp->En->Prop}(R:ce K B G H σ U)(x:c6 G0 B G H)(q:qu K G0 B E G σ (r.ef U) P):dL E G H r λd=>∀j i,c6 G H j i->P d j i U:=by
 cases r with
 |ok d=>exact λj i e=>q j i e.gg (R.ext e) (x.trans e)
 |er c=>exact λj i e=>q j i (x.trans e)
 |st=>exact q
def Lu(h:ck X B E e g):Qg X G0 B E e (Sd g):=PE.imp h λσ H Q ⟨G,U,R,x,q⟩=>⟨G,U,R,(RX R x q).am λd z q v l j e i=>q l j e v i⟩
noncomputable def R8(c:En->bi)(i d:En->n7):En->n7:=λU=>match c U with
 |.ok (.bl d_)=>i U
 |.ok (.bl e_)=>d U
 |.ok _=>.st
 |.er c=>.er c
 |.st=>.st
def Rj{o n:En->n7}(v:ph X B E c g)(y:Qg X G0 B E a o)(w:Qg X G0 B E b n):Qg X G0 B E (.IfExp c a b pos) (R8 g o n):=
 PE.imp (zw v y w) λσ H Q ⟨G,U,R,x,q⟩=>⟨G,U,R,by
  unfold R8 at q;cases r:g U with
  |er c=>rw[r]at q;exact λl j e=>q l j (x.trans e)
  |st=>rw[r]at q;exact q
  |ok d=>
   rw[r]at q;cases d with
   |bl t=>
    cases t with
    |true=>
     refine⟨d_,_6,λu z i=>⟨u,U,R.ext i,x.trans i,?_⟩⟩;dsimp only at q;cases ef:o U with
     |ok d m=>rw[ef]at q;exact λl j s=>q l j (i.gg.trans s)
     |er c=>rw[ef]at q;exact q
     |st=>rw[ef]at q;exact q
    |false=>
     refine⟨e_,_6,λu z i=>⟨u,U,R.ext i,x.trans i,?_⟩⟩;dsimp only at q;cases ef:n U with
     |ok d m=>rw[ef]at q;exact λl j s=>q l j (i.gg.trans s)
     |er c=>rw[ef]at q;exact q
     |st=>rw[ef]at q;exact q
   |_=>exact q.elim⟩
def R7(p:D->D->f_ D)(f:En->n7)(h:En->bi):En->n7:=λU=>match f U with
 |.ok x d=>((h d).bind λy=>bi.of (p x y)).ef d
 |.er c=>.er c
 |.st=>.st
def BA{l:mR}{j:D->D->f_ D}{r:R2}(ho:n5 X (cI l) r)(hp:dq (kx X) j r)(m:∀x y d,j x y=a_ d->∃b,d=.bl b)(ha:Qg X G0 B E a f)(hb:dj X B E b h)(hm:gO l b=e_):NA X G0 B E (.Compare a [l] [b] pos) (R7 j f h):=
 PT.imp (M7 ho ha hb hm) λσ H Q ⟨G,U,R,x,q⟩=>⟨G,U,R,x,by
  unfold R7 at q;cases ef:f U with
  |er c=>rw[ef]at q;exact q
  |st=>rw[ef]at q;exact q
  |ok u i=>
   rw[ef]at q;intro I H1 M C L v dn;have q1:qu (kx X) G0 B E I σ (((h i).bind λy=>bi.of (j u y)).ef i) λd J z Z=>∃b,d=.bl b/\Q b z:=by
    dsimp only at q;cases n:(h i).bind λy=>bi.of (j u y)with
    |ok d=>rw[n]at q;exact λJ z s=>q J z (M.trans s)
    |er c=>rw[n]at q;exact q
    |st=>rw[n]at q;exact q
   have Y:=RX C L q1;refine⟨I,i,C,(dL.bind Y).am λdy Z N y G2 H2 o ay=>?_⟩;obtain⟨d,A,O⟩:=dL.of N;obtain⟨b,rfl⟩:=m _ _ _ A;refine hp G2 H2 v y u dy (.bl b) o.gh (Arg.ext o (.inl dn)) ay A _ λw G3 H3 e3 dw=>?_;obtain⟨b',eb,T⟩:=O G3 H3 (o.trans e3);cases eb;exact⟨b,dw,T⟩⟩
noncomputable def Yq(f:En->n7)(F1 F2:En->fq):En->fq:=λU=>match f U with
 |.ok (.bl d_) d=>F1 d
 |.ok (.bl e_) d=>F2 d
 |.ok _ _=>.st
 |.er c=>.er c
 |.st=>.st
def JF(o:NA X G0 B E c f)(s:sv X G0 B E ss F1)(r:sv X G0 B E tt F2):ja X G0 B E (.If c ss tt pos) (Yq f F1 F2):=
 PS.imp (Ua o s r) λD σ H ⟨G,U,R,x,q⟩=>⟨G,U,R,x,by
  unfold Yq at q;cases ef:f U with
  |er c=>rw[ef]at q;exact q
  |st=>rw[ef]at q;exact q
  |ok d i=>
   rw[ef]at q;intro n u l m j;cases d with
   |bl t=>
    refine⟨t,_6,?_⟩;cases t with
    |true=>exact⟨n,i,m,j,js.same l q⟩
    |false=>exact⟨n,i,m,j,js.same l q⟩
   |_=>exact q.elim⟩
noncomputable def Nk(i:h_)(f:En->n7):En->fq:=λU=>match f U with
 |.ok d j=>.nx (j.set i (.pu d))
 |.er c=>.er c
 |.st=>.st
def FC{i:h_}{x:k_}{j:v_}(o:PS X (.Assign [.Name x j] e pos) (Ba (tEf (kx X) G0 B E f) (ij i))):ja X G0 B E (.Assign [.Name x j] e pos) (Nk i f):=
 PS.imp o λD σ H ⟨G,U,R,x,q⟩=>⟨G,U,R,x,by
  unfold Nk at q;cases ef:f U with
  |er c=>rw[ef]at q;exact q
  |st=>rw[ef]at q;exact q
  |ok d l=>
   rw[ef]at q;intro w u n s m v r;exact q _ w u n (s.set r) m⟩
noncomputable def D8(f:En->n7):En->fq:=λU=>match f U with
 |.ok _ d=>.nx d
 |.er c=>.er c
 |.st=>.st
def Yt(h:Qg X G0 B E e f)(m:eR e c_ pos.line X.env=pure e_):ja X G0 B E (.Expr e pos) (D8 f):=
 PS.imp (je h m) λD σ H ⟨G,U,R,x,q⟩=>⟨G,U,R,x,by
  unfold D8 at q;cases ef:f U with
  |er c=>rw[ef]at q;exact q
  |st=>rw[ef]at q;exact q
  |ok d i=>
   rw[ef]at q;intro r o l n j v s;exact q σ r o l n j⟩
def Ff{i:b_ (g_×D_)}{σ:St}{H:Hp}{s:aE}{a:g_}{d:b_ (cj×V)}{k:cj}{v:V}{u r:aC}{A:bT}{E:aC->aE->Prop}{Q:aC->aE->Prop}(I:a9 X i σ H s)(e:H a=a_ (.dK d))(hl:_7 d<aG)(G:eu (kV k) u)(J:eu v r)
  (h1:∀l w m,c8 d k=a_ l->eu l w->a9 X i σ H m->Q w m)(Y:∀m,c8 d k=c_->a9 X i σ (c0 H a (.dK (cv d k v))) m->Q r m):
  aP (aW X.prog X.w) A (call (.builtin "dict.setdefault") [.ref a,u,r]) Q E s:=by
 obtain⟨z,x,C,rel,y⟩:=Bo I.e6 e;refine iT dO y.typeIs mT (mD _ _ _) (kt_meets_setdefault (ao X.prog X.w) a (t6 G) x r)
  ⟨C,y,by rw[<-rel.length];exact z,λw M=>?_,λT h' n N=>?_⟩
 .have:=rel.val k;rw[M]at this;cases j:c8 d k with
  |none=>rw[j]at this;cases this
  |some l=>rw[j]at this;exact h1 l w _ j this (I.qs _)
 .have o:=rel.val k;rw[T]at o;have j:c8 d k=c_:=by
   cases j:c8 d k with
   |none=>rfl
   |some l=>rw[j]at o;cases o
  refine Y _ j ?_;have U:∃q,h'.get? a=a_ q:=let ⟨q,_,_,O,_⟩:=n;⟨q,O⟩;have L:(cv d k v).length<=aG:=by have:=i5 d k v;lia
  exact qa I (by rw[e];exact eF) N U (Ri L x (rel.put k J) n)
end
section
variable{X:Cx}{G0 B:Hp}{E:EK}{e a b c tg iter:Expr}{g h k:En->bi}{f:En->n7}{pos p:v_}
noncomputable def Df(i:h_)(o n:En->bi):En->n7:=λU=>match U[i]? with
 | a_ (.od e_ l) => (match o U with
  | .ok q => (match n U with
   | .ok m => (match cf q with
    | a_ j => if l.length < aG then (match cx l j with
     |some d=>.ok d U
     |none=>.ok m (U.set i (.od e_ (Hd l j m))))else .st
    |none=>.st)
   |.er c=>.er c
   |.st=>.st)
  |.er c=>.er c
  |.st=>.st)
 |_=>.st
def Py{K:KA}{G:Hp}{i:b_ (D×D)}{es:b_ (cj×V)}(dl:f8 K G i es){j:cj}(h:c8 es j=c_):cx i j=c_:=by
 cases e:cx i j with
 |none=>rfl
 |some d=>obtain⟨v,q,_⟩:=(dl.ky j).1 d e;rw[h]at q;cases q
def Ot{i:h_}{x:k_}{ke ve:Expr}{ap cp:v_}(hv:PE X (.Name x p) (fh i))(hk:dj X B E ke g)(ζ:ck X B E ve h)(hn:cq ke=d_)(η:cq ve=d_)(N:(ap.endLine==cp.line)=d_):
  Qg X G0 B E (.Call (.Attribute (.Name x p) "setdefault" ap) [ke,ve] [] cp) (Df i g h):=by
 intro r s σ H Q I ⟨G,U,R,ex,q⟩;unfold Df at q;cases ed:U[i]? with
 |none=>rw[ed]at q;exact q.elim
 |some sl=>
  rw[ed]at q;cases sl with
  |od t m=>
   cases t with
   |true=>exact q.elim
   |false=>
    dsimp only at q;obtain⟨l,es,q1,q2,q3,q4,q5⟩:=R.odAt ed;have χ:((dW cp (aU [ke,ve] X.env)).all (λx=> !x.1)&&(lG cp (iA [] X.env)).all (λx=>x.1.isSome)
    &&decide (([ke,ve]:b_ Expr).length+([]:b_ fP).length+(if([]:b_ fP).isEmpty then 0 else 1)<30))=d_:=by rw[gi (by rw[bO,bO,hn,η];rfl)];rfl
    refine oE _6 χ N cZ dO gE (c9 (hv r s σ H (λv M=>v=.ref l/\M=H) I ⟨_,q1,_6,_6⟩) λu s1 ⟨v,M,I1,r1,e1,O⟩=>?_);subst e1 O;cases (r1);obtain⟨t1,t2,_⟩:=J6 I1 (.inl ⟨es,.inl q2⟩);refine⟨t1,t2,?_⟩;rw[ux hn η];have qk:dL (E) G M (g U) λC=>dL E G M (h U) λo=>∃j,cf C=a_ j/\_7 m<aG/\qu (kx X) G0 B E G σ (match cx m j with
     |some d=>.ok d U
     |none=>.ok o (U.set i (.od e_ (Hd m j o)))) λd L J Z=>∀v,gy (kx X) L d v->Q v J:=by
     cases eg:g U with
     |er c=>rw[eg]at q;exact λL J e=>q L J (ex.trans e)
     |st=>rw[eg]at q;exact q
     |ok C=>
      rw[eg]at q;dsimp only at q;show dL E G M (h U) _;cases eh:h U with
      |er c=>rw[eh]at q;exact λL J e=>q L J (ex.trans e)
      |st=>rw[eh]at q;exact q
      |ok o=>
       rw[eh]at q;dsimp only at q;cases ej:cf C with
       |none=>rw[ej]at q;exact q.elim
       |some j=>
        rw[ej]at q;dsimp only at q
        by_cases N:_7 m<aG
        .rw[aO N]at q;exact⟨j,_6,N,q⟩
        .rw[aJ N]at q;exact q.elim
    refine eB _6 (iB (eQ (c9 (hk r s1 σ M (λy H2=>∃Y C,c6 G M Y H2/\Arg (kx X) Y H2 C y/\dL E G M (h U) λo=>∃j,cf C=a_ j/\_7 m<aG/\qu (kx X) G0 B E G σ (match cx m j with
     |some d=>.ok d U
     |none=>.ok o (U.set i (.od e_ (Hd m j o)))) λd L J Z=>∀v,gy (kx X) L d v->Q v J) I1 ⟨G,U,R,qk.am λC Z qk y Y H2 O ay=>⟨Y,C,O,ay,qk⟩⟩) λyv s2 ⟨y,H2,I2,ry,Y,C,O,ay,qv⟩=>?_)))
    refine eQ (c9 (ζ r s2 σ H2 (λz H3=>∃T o j,c6 Y H2 T H3/\gy (kx X) T o z/\cf C=a_ j/\_7 m<aG/\qu (kx X) G0 B E G σ (match cx m j with
     |some d=>.ok d U
     |none=>.ok o (U.set i (.od e_ (Hd m j o)))) λd L J Z=>∀v,gy (kx X) L d v->Q v J) I2 ⟨Y,U,R.ext O,(qv.ext O).am λo Z ⟨j,ej,N,q⟩ z T H3 e3 dz=>⟨T,o,j,e3,dz,ej,N,q⟩⟩) λzv s3 ⟨z,H3,I3,rz,T,o,j,e3,dz,ej,φ,q⟩=>jD ?_)
    have n:=O.trans e3;have h3:=n.hh _ _ q2;have g3:=n.fr _ _ q2 q4 _6;have A:=q3.am n.gg;have R3:=R.ext n;rw[i0 ay ej]at ry;refine Ff I3 h3 (by rw[<-A.length];exact φ) ry rz (λv' w s' ev ρ I'=>?_) λs' ev I'=>?_
    .cases el:cx m j with
     |none=>rw[(A.ky j).2 el]at ev;cases (ev)
     |some d=>rw[el]at q;obtain⟨v2,z1,z2⟩:=(A.ky j).1 d el;rw[z1]at ev;cases (ev);exact⟨v',H3,I',ρ,q T H3 n.gg R3 (ex.trans n) v' z2⟩
    .have el:=Py A ev;rw[el]at q;exact⟨z,_,I',rz,q T _ n.gg (ce.wrD R3 ed q1 h3 (A.put dz j)) (c6.wr (ex.trans n) g3 q5) z dz⟩
  |no=>exact q.elim
  |pu _=>exact q.elim
  |bo _=>exact q.elim
  |ow _=>exact q.elim
def Z0(d:b_ (D×D)):b_ D:=d.map (·.1)
theorem Bl{K:KA}{G:Hp}:∀{d:b_ (D×D)}{es:b_ (cj×V)},f8 K G d es->bt K G (Z0 d) (es.map λp=>kV p.1)
 |[],es,h=>by rw[show es=[]from h];rfl
 |(_,_)::_,es,⟨k,v,r,j,l,m,i⟩=>by subst j l;refine⟨kV k,_,_6,?_,Bl i⟩;cases k<;>rfl
def j9:D->f_ D
 |.a8 i=>a_ (.a8 i)
 |.ci i=>a_ (.a8 i)
 |.h7 e_ d=>a_ (.a8 (Z0 d))
 |_=>c_
def IK{P:aV}{w:bP}{k:cj}{v:aC}(h:(ao P w).is k v=d_):eu (kV k) v:=by
 rcases b9 (show wy k v=d_ from h)with⟨i,t,rfl,rfl⟩|⟨x,t,rfl,rfl⟩
 .exact⟨t,_6⟩
 .exact⟨t,_6⟩
def Iw(hc:X.calm=d_):lf X (.type "list") (λxs H Q=>∃p es,xs=[.ref p]/\H p=a_ (.dK es)/\∀l,H l=c_->Q (.ref l) (c0 H l (.a8 (es.map λp=>kV p.1)))):=by
 intro L s σ H xs us Q I r h;obtain⟨p,es,rfl,Y,q⟩:=h;obtain⟨u,rfl,O⟩:=ik r;cases O;obtain⟨z,hd,M,rel,dd⟩:=Bo I.e6 Y;obtain⟨ep,da⟩:=dd.dictAt;refine PySem.W.kdl_call (PySem.W.kdl_dict (knd:=ao X.prog X.w) (kvs:=M) (ep:=ep) hd) (I.ok.hd hc) da (by rw[<-rel.length];exact z) λh' N v c' hk hS ⟨hn,j⟩=>?_;have U:dg (es.map λp=>kV p.1) v.toList:=by
  refine Ic (by rw[bB,rel.length];simp[hn]) λi x u d n=>?_;obtain⟨k,y,ek,C⟩:=j i u (by simpa using n);rw[bY]at d;have A:∀{l:b_ (cj×V)}{m:b_ (cj×aC)},KV l m->∀(i:h_)(p:cj×V)(q:cj×aC),l[i]?=a_ p->m[i]?=a_ q->p.1=q.1:=by
   intro l m r;induction r with
   |nil=>intro i p q e;simp at e
   |@cons a b as bs hh t T=>
    intro i p q d n;cases i with
    |zero=>simp at d n;subst d n;exact hh.1
    |succ i=>exact T i p q (by simpa using d) (by simpa using n)
  cases G:es[i]? with
  |none=>rw[G]at d;cases d
  |some J=>rw[G]at d;cases d;have:=A rel i J (k,y) G ek;show eu (kV J.1) u;rw[this];exact IK C
 refine⟨.ref _,_,I.nn (t':=N) (o:=.a8 (es.map λp=>kV p.1)) hk (aL _) ⟨by rw[bB];exact z,v.toList,c',U,by simpa using hS⟩,_6,q _ I.fresh⟩
def Gq(z:X.calm=d_)(y:Gl X "list")(x:X.mg "list"=c_)(A:dj X B E e g)(w:cq e=d_):Qj X B E (.Call (.Name "list" p) [e] [] pos) (g1 j9 g):=
 PE.imp (jg (lf.or Cj (Iw z)) y x _h (de A f9 (ag w)) (by decide) (by decide) (ag w) _6) λσ H Q ⟨G,U,R,q⟩=>⟨G,U,R,by
  unfold ac;unfold g1 at q;cases e:g U with
  |er c=>rw[e]at q;exact q
  |st=>rw[e]at q;exact q
  |ok L=>
   rw[e]at q;obtain⟨d,n,N,J,r⟩:=dL.of (show dL E G H (bi.of (j9 L)) _ from q);subst J;intro m u O i M;obtain⟨v,rfl,s⟩:=h9.pv M;unfold j9 at n;split at n
   .cases n;obtain⟨l,m,rfl,o,dl⟩:=s.a8 i.gh;exact .inl ⟨l,m,_6,.inl o,λp j=>r p m u _ (i.trans (c6.own i.gh _ j)) (aq i.hh j) (aq i.gh j) ae dl⟩
   .cases n;obtain⟨l,m,rfl,o,dl⟩:=s.ci i.gh;exact .inl ⟨l,m,_6,.inr o,λp j=>r p m u _ (i.trans (c6.own i.gh _ j)) (aq i.hh j) (aq i.gh j) ae dl⟩
   .cases n;obtain⟨l,I,rfl,C,dl⟩:=Arg.dctK i.gh s;exact .inr ⟨l,I,_6,C,λp j=>r p _ u _ (i.trans (c6.own i.gh _ j)) (aq i.hh j) (aq i.gh j) ae (Bl dl)⟩
   .cases n⟩
def O6:IsL (g1 j9 g):=λU d h=>by
 unfold g1 at h;cases e:g U with
 |er c=>rw[e]at h;cases h
 |st=>rw[e]at h;cases h
 |ok j=>
  rw[e]at h;have i:bi.of (j9 j)=.ok d:=h;unfold j9 at i;split at i
  .cases i;exact⟨_,_6⟩
  .cases i;exact⟨_,_6⟩
  .cases i;exact⟨_,_6⟩
  .cases i
end
section
variable{X:Cx}{G0 B:Hp}{E:EK}{e a b:Expr}{es:b_ Expr}{g h k:En->bi}{pos p:v_}
def JT:ck X B E (.Dict [] [] pos) (gC (.h7 e_ [])):=
 PE.imp Gw λσ H Q ⟨G,U,R,q⟩ p c=>q (.ref p) (c0 G p (.dK [])) _ (c6.new R.gh _ c) ⟨p,_6,.inl ⟨_6,[],ae,_6⟩⟩
def Iq:lf X (.type "dict") (λxs H Q=>∃p es,xs=[.ref p]/\H p=a_ (.dK es)/\∀l,H l=c_->Q (.ref l) (c0 H l (.dK es))):=by
 intro c s σ H xs x Q I r h;obtain⟨p,es,rfl,j,q⟩:=h;obtain⟨u,rfl,f⟩:=ik r;cases f;obtain⟨z,n,d,rel,w⟩:=Bo I.e6 j;refine kt_call_dict n w (by rw[<-rel.length];exact z) λy m i=>?_;refine⟨.ref _,_,I.nn (t':=s.toks) (o:=.dK es) (λb u e=>?_) (aL _) ⟨z,w_.mpr (cW (bE I.big)),d,rel,m⟩,_6,q _ (I.e6.fresh (aL _))⟩;have v:b≠s.1.1.size:=λz=>by subst z;exact cQ _ (aM e)
 rw[i.2 b v];exact aB _ e
def ce.setDc{K:KA}{G d H f:Hp}{σ:St}{U:En}{i:h_}{a:g_}{c:b_ (D×D)}{es:b_ (cj×V)}(R:ce K B G H σ U)(e:c6 G H d f)(j:H a=c_)(m:d a=c_)(l:f a=a_ (.dK es))(n:f8 K d c es):ce K B d f (σ.set i (a_ (.ref a))) (U.set i (.od e_ c)):=R.newO e j m ⟨a,es,_6,l,n⟩
inductive tOd(K:KA)(B:Hp)(E:EK)(g:En->bi)(σ:St)(H:Hp)(Q:VK):Prop
 |mk (G U) (_:ce K B G H σ U) (_:dL E G H (g U) λd=>∃kvs,d=.h7 e_ kvs/\∀a es G' H',c6 G H G' H'->H a=c_->G' a=c_->H' a=a_ (.dK es)->f8 K G' kvs es->Q (.ref a) H'):tOd K B E g σ H Q
def Xr(o:Gl X "dict")(n:X.mg "dict"=c_)(r:dj X B E e g)(i:cq e=d_):PE X (.Call (.Name "dict" p) [e] [] pos) (tOd (kx X) B E g):=
 PE.imp (jg Iq o n _i (de r f9 (ag i)) (by decide) (by decide) (ag i) _6) λσ H Q ⟨G,U,R,q⟩=>⟨G,U,R,by
  unfold ac;cases e:g U with
  |er c=>rw[e]at q;exact q
  |st=>rw[e]at q;exact q
  |ok z=>
   rw[e]at q;obtain⟨m,rfl,j⟩:=q;intro y x A d w;obtain⟨v,rfl,u⟩:=h9.pv w;obtain⟨l,es,rfl,s,dl⟩:=Arg.dctK d.gh u;exact⟨l,es,_6,s,λp f=>j p es x _ (d.trans (c6.own d.gh _ f)) (aq d.hh f) (aq d.gh f) ae dl⟩⟩
def D9(i:h_)(g:En->bi):En->fq:=λU=>(g U).then λd=>match d with
 |.h7 e_ c=>.nx (U.set i (.od e_ c))
 |_=>.st
def Yw{i:h_}{x:k_}{c:v_}(l:PS X (.Assign [.Name x c] e pos) (Ba (tOd (kx X) B E g) (ij i))):ja X G0 B E (.Assign [.Name x c] e pos) (D9 i g):=
 PS.imp l λD σ H ⟨G,U,R,e,q⟩=>⟨G,U,R,(jv e q).am λd z q=>by
  cases d with
  |h7 t f=>
   cases t with
   |false=>exact⟨f,_6,λa es s r j m o n dl=>q _ s r j.gg (R.setDc j m o n dl) (e.trans j)⟩
   |true=>exact q.elim
  |fm=>exact q.elim
  |bl _=>exact q.elim
  |int _=>exact q.elim
  |str _=>exact q.elim
  |ci _=>exact q.elim
  |a8 _=>exact q.elim
  |obj _ _=>exact q.elim
  |fn _=>exact q.elim⟩
end
def zh(b:b_ (D×D))(a:b_ (cj×D)):b_ (D×D):=a.foldl (λc p=>Hd c p.1 p.2) b
def PD(K:KA)(G:Hp):b_ (cj×D)->b_ (cj×V)->Prop
 |[],[]=>_Z
 |(j,d)::r,(k,v)::q=>j=k/\gy K G d v/\PD K G r q
 |_,_=>L_
theorem PD.merge{K:KA}{G:Hp}:∀{l:b_ (cj×D)}{q:b_ (cj×V)}{kvs:b_ (D×D)}{es:b_ (cj×V)},PD K G l q->f8 K G kvs es->f8 K G (zh kvs l) (oj es q)
 |[],[],_,_,_,h=>h
 |(j,d)::r,(k,v)::q,kvs,es,⟨e,a,t⟩,h=>by subst e;exact PD.merge (l:=r) (q:=q) t (h.put a j)
def Do:nQ (.type "list") "keys"=pure c_:=am_miss_of_fast (by decide+kernel)
def t9:nQ (.type "list") "__getattr__"=pure c_:=by rw[typeLookup_type,F!];kernel_rfl
def Dh(a:g_)(c:q_ aC)(n:h_)(i:q_ (f_ aC))(u:Z?):
  _g (z_.«object.__getattribute__» ⟨[.ref a,.str "keys" u],[]⟩) (λA R s=>s.1.get? a=a_ {cls:=.type "list",dict:=c_,data:=.seq c n,slots:=i}/\raisesAttr (.ref a) "keys" A R s):=
 Meets.of_wp λf w A R s b=>by
  obtain⟨l,g,d,h,os⟩:=s;obtain⟨j,b⟩:=b;have m:(⟨l,g,d,h,os⟩:aE).TypeIs (.ref a) "list":=⟨_,j,_6⟩;have e:=Do;unfold z_.«object.__getattribute__»
  repeat (any_goals (first|assumption|wp_step))
  exact R! (A:=A.in1) b.1 b.2 (attrMsg_fits (by decide+kernel) (by rw[eS];decide))
def Ds{c:aV}{w:bP}{A:bT}{E:aC->aE->Prop}{h:r_}{g:q_ M!}{d:Drawn}{t:h_}{os:OsState}{a:g_}{f:q_ aC}{n:h_}{l:q_ (f_ aC)}{Q:f_ aC->aE->Prop}(o:h.get? a=a_ {cls:=.type "list",dict:=c_,data:=.seq f n,slots:=l})(u:A.handled=c_)
  (r:∀j q,(∀b m,h.get? b=a_ m->j.get? b=a_ m)->Q c_ ⟨j,g,d,q,os⟩):aP (aW c w) A (pW (.ref a) "keys") Q E ⟨h,g,d,t,os⟩:=by
 have s:(⟨h,g,d,t,os⟩:aE).TypeIs (.ref a) "list":=⟨_,o,_6⟩;have G:=sub_AttributeError;have C:=F.slot_list_getattribute.lookup;have B:=F.slot_list_getattribute.bind (.ref a);have z:=t9;unfold pW getAttrBy? getAttrBy
 repeat (any_goals (first|assumption|((with_reducible show aP _ _ (call (mJ "list.__getattribute__") _ _) _ _ _);refine fC F.slot_list_getattribute s F.entry_list_ga (F.args_list_getattribute_2 _ _) (Dh a f n l _) ⟨o,u,λj p e i=>?_⟩)|wp_step))
 obtain⟨x,v,y⟩:=i.there;show aP _ _ (kS _ _ _ _ _ _ _) _ _ _;unfold kS
 repeat (any_goals (first|assumption|wp_step))
 exact r j _ i.keeps
def gm:entryFor table "dict.update.loop"=a_ z_.«dict.update.loop»:=entryFor_of_tree (by kernel_rfl)
def cc:plainId "dict.update.loop"=d_:=by decide+kernel
def pa(m:h_):b_ h_->Prop
 |[]=>_Z
 |k::r=>m<=k/\k<6/\pa (k+1) r
def pa.am{m a:h_}(h:a<=m):∀{S:b_ h_},pa m S->pa a S
 |[],_=>trivial
 |_::_,⟨d,c,b⟩=>⟨cB h d,c,b⟩
theorem pa.len:∀{S:b_ h_}{m:h_},m<=6->pa m S->_7 S+m<=6
 |[],m,h,_=>by simpa using h
 |k::r,m,_,⟨c,b,a⟩=>by have:=pa.len (by lia) a;rw[aR];lia
theorem pa.lt:∀{S:b_ h_}{m:h_},pa m S->∀k∈S,m<=k/\k<6
 |[],_,_,k,h=>by simp at h
 |a::r,m,⟨d,c,b⟩,k,h=>by
  rcases o_.mp h with rfl|h
  .exact⟨d,c⟩
  .have:=pa.lt b k h;exact⟨by lia,this.2⟩
def SetIt(h:r_)(I a:g_)(slot i n b:h_):Prop:=h.get? I=a_ {cls:=.type "set_iterator",data:=.fields #[cX slot,cX i,.ref a,cX n,cX b]}
section
variable{prog:aV}{w:bP}{A:bT}{E:aC->aE->Prop}{s:aE}{a I:g_}{S:b_ h_}{es:q_ (n_×aC)}{ep i:h_}
def SetIt.ty{slot n:h_}(h:SetIt s.1 I a slot i n ep):s.TypeIs (.ref I) "set_iterator":=⟨_,h,_6⟩
end
section
variable{X:Cx}
theorem pa.pw:∀{S:b_ h_}{m:h_},pa m S->(S.map iO).Pairwise (· <=·)
 |[],_,_=>oF
 |k::r,m,⟨e,d,a⟩=>by
  rw[bK];refine List.Pairwise.cons (λx b=>?_) (pa.pw a);obtain⟨j,c,rfl⟩:=Y_.mp b;have:=(pa.lt a j c).1;show(k:n_)<=(j:n_)
  lia
end
end Pu
namespace Pu
open L2 PySem.W
def li(n:h_)(b:h_->h_->l_){α:Type}:KasT α->(α->Prop)->Prop
 |.ret a,R=>R a
 |.ask i j k,R=>i<n/\j<n/\li n b (k (b i j)) R
section
variable{n:h_}{cmp:h_->h_->l_}
theorem li.am{α:Type}{R b:α->Prop}(h:∀a,R a->b a):∀{t:KasT α},li n cmp t R->li n cmp t b
 |.ret a,g=>h a g
 |.ask i j k,⟨g1,g2,c⟩=>⟨g1,g2,li.am h c⟩
theorem li.bind{α β:Type}{f:α->KasT β}{R:β->Prop}:∀{t:KasT α},li n cmp t (λa=>li n cmp (f a) R)->li n cmp (t.bind f) R
 |.ret a,g=>g
 |.ask i j k,⟨g1,g2,b⟩=>⟨g1,g2,li.bind b⟩
theorem li.wp{α:Type}{C:h_->h_->(l_->aE->Prop)->aE->Prop}{R:α->Prop}{Q:α->aE->Prop}{s:aE}(c:∀i j (K:l_->aE->Prop),i<n->j<n->K (cmp i j) s->C i j K s)(b:∀a,R a->Q a s):
  ∀{t:KasT α},li n cmp t R->t.kasWp C Q s
 |.ret a,g=>b a g
 |.ask i j k,⟨g1,g2,d⟩=>c i j _ g1 g2 (li.wp c b d)
structure Ord(n:h_)(cmp:h_->h_->l_):Prop where
 as:∀i j,i<n->j<n->i≠j->cmp j i= !cmp i j
 tr:∀i j k,i<n->j<n->k<n->cmp i j=d_->cmp j k=d_->cmp i k=d_
noncomputable def At(p:q_ h_)(i:h_):h_:=p.getD i 0
def fD(n:h_)(p:q_ h_):Prop:=p.toList.Perm (eW n)
def fD.size{p:q_ h_}(h:fD n p):p.size=n:=by have:=List.Perm.length_eq h;simpa using this
def Et{p:q_ h_}{i:h_}(h:i<p.size):At p i=p[i]:=by unfold At;simp[Array.getD,h]
def fD.lt{p:q_ h_}(h:fD n p){i:h_}(b:i<n):At p i<n:=by
 have a:i<p.size:=by rw[h.size];exact b
 rw[Et a];exact _a.mp (h.mem_iff.mp (by simp))
def fD.ne{p:q_ h_}(h:fD n p){i j:h_}(f:i<n)(d:j<n)(e:i≠j):At p i≠At p j:=by
 have b:i<p.size:=by rw[h.size];exact f
 have a:j<p.size:=by rw[h.size];exact d
 rw[Et b,Et a];have c:p.toList.Nodup:=(h.nodup_iff).mpr List.nodup_range;intro z;have pw:=R_.mp c;rcases t! e with q|q
 .exact pw i j (by simpa using b) (by simpa using a) q (by simpa using z)
 .exact pw j i (by simpa using a) (by simpa using b) q (by simpa using z.symm)
def So(cmp:h_->h_->l_)(p:q_ h_)(m:h_):Prop:=∀a b,a<b->b<m->cmp (At p a) (At p b)=d_
def De(cmp:h_->h_->l_)(p:q_ h_)(m:h_):Prop:=∀a b,a<b->b<m->cmp (At p b) (At p a)=d_
def So.succ{p:q_ h_}{m:h_}(O:Ord n cmp)(c:fD n p)(o:1<=m)(d:m<n)(h:So cmp p m)(i:cmp (At p m) (At p (m-1))=e_):So cmp p (m+1):=by
 intro a b g l
 by_cases f:b<m
 .exact h a b g f
 .obtain rfl:b=m:=by lia
  have e:cmp (At p (b-1)) (At p b)=d_:=by have:=O.as (At p b) (At p (b-1)) (c.lt d) (c.lt (by lia)) (c.ne d (by lia) (by lia));rw[this,i];rfl
  by_cases j:a=b-1
  .rw[j];exact e
  .exact O.tr _ _ _ (c.lt (by lia)) (c.lt (by lia)) (c.lt d) (h a (b-1) (by lia) (by lia)) e
def De.succ{p:q_ h_}{m:h_}(O:Ord n cmp)(c:fD n p)(l:1<=m)(g:m<n)(h:De cmp p m)(f:cmp (At p m) (At p (m-1))=d_):De cmp p (m+1):=by
 intro a b e j
 by_cases d:b<m
 .exact h a b e d
 .obtain rfl:b=m:=by lia
  by_cases i:a=b-1
  .rw[i];exact f
  .exact O.tr _ _ _ (c.lt g) (c.lt (by lia)) (c.lt (by lia)) f (h a (b-1) (by lia) (by lia))
theorem Io{p:q_ h_}(O:Ord n cmp)(a:fD n p):∀(f m:h_),1<=m->m+f<=n->So cmp p m->li n cmp (kas_asc p f m) (λk=>m<=k/\k<=m+f/\So cmp p k/\(k<m+f->cmp (At p k) (At p (k-1))=d_))
 |0,m,c,d,h=>⟨aL _,aL _,h,λz=>by lia⟩
 |f+1,m,c,d,h=>by
  refine⟨a.lt (show m<n by lia),a.lt (show m-1<n by lia),?_⟩;show li n cmp (if cmp (At p m) (At p (m-1))=d_ then KasT.ret m else kas_asc p f (m+1)) _
  by_cases b:cmp (At p m) (At p (m-1))=d_
  .rw[aO b];exact⟨aL _,by lia,h,λq=>b⟩
  .rw[aJ b];refine(Io O a f (m+1) (by lia) (by lia) (h.succ O a c (by lia) (by simpa using b))).am λk g=>?_;obtain⟨g1,g2,i,e⟩:=g;exact⟨by lia,by lia,i,λz=>e (by lia)⟩
theorem Lr{p:q_ h_}(O:Ord n cmp)(a:fD n p):∀(f m:h_),2<=m->m+f<=n->De cmp p m->li n cmp (S! f p m 0) (λr=>r.1=p/\r.2.2=0/\m<=r.2.1/\r.2.1<=m+f/\De cmp p r.2.1)
 |0,m,l,j,h=>⟨_6,_6,aL _,aL _,h⟩
 |f+1,m,l,j,h=>by
  have i:At p m<n:=a.lt (by lia);have c:At p (m-1)<n:=a.lt (by lia);refine⟨i,c,?_⟩;show li n cmp (if cmp (At p m) (At p (m-1))=d_ then(if 0>0 then S! f (u! p (m-(0+1)) m) (m+1) 0 else S! f p (m+1) 0)
   else .ask (At p (m-1)) (At p m) λd=>if d=d_ then .ret (p,m,0)else S! f p (m+1) (0+1)) _
  by_cases b:cmp (At p m) (At p (m-1))=d_
  .rw[aO b,aJ (by lia)];refine(Lr O a f (m+1) (by lia) (by lia) (h.succ O a (by lia) (by lia) b)).am λr g=>?_;obtain⟨g1,g2,s,q,o⟩:=g;exact⟨g1,g2,by lia,by lia,o⟩
  .rw[aJ b];have e:cmp (At p (m-1)) (At p m)=d_:=by have:=O.as (At p m) (At p (m-1)) i c (a.ne (by lia) (by lia) (by lia));rw[this];simpa using b
   refine⟨c,i,?_⟩;dsimp only;rw[aO e];exact⟨_6,_6,aL _,(show m<=m+(f+1) by lia),h⟩
def fD.rev{p:q_ h_}(a:fD n p)(i j:h_):fD n (u! p i j):=(_u.mp (mirror_perm p i j _)).trans a
def fD.bub{p:q_ h_}(a:fD n p)(i j:h_):fD n (bubble p i j):=(_u.mp (bubble_perm p i j)).trans a
def u7{p:q_ h_}{i:h_}:At p i=(p[i]?).getD 0:=by unfold At;simp[Array.getD_eq_getD_getElem?]
def Qp{p:q_ h_}{m:h_}(a:m<=p.size){k:h_}(b:k<m):At (u! p 0 m) k=At p (m-1-k):=by
 rw[u7,u7];unfold u!;rw[getElem?_mirror_all a];rw[aO (by lia)]
 congr 2
 lia
def Vq{p:q_ h_}{m:h_}(O:Ord n cmp)(e:fD n p)(o:1<=m)(l:m<=n)(h:De cmp p m):li n cmp (kas_tail3 m n p) (λr=>fD n r.2/\1<=r.1/\r.1<=n/\So cmp r.2 r.1):=by
 unfold kas_tail3;have d:=e.rev 0 m;have f:So cmp (u! p 0 m) m:=λa b j i=>by
  have c:m<=p.size:=by rw[e.size];exact l
  rw[Qp c (by lia),Qp c i];exact h _ _ (by lia) (by lia)
 refine li.bind ((Io O d (n-m) m o (by lia) f).am λk g=>?_);obtain⟨g1,g2,q,_⟩:=g;exact⟨d,by lia,by lia,q⟩
def Q8{p:q_ h_}(O:Ord n cmp)(c:fD n p)(f:2<=n):li n cmp (kas_count n p) (λr=>fD n r.2/\1<=r.1/\r.1<=n/\So cmp r.2 r.1):=by
 unfold kas_count;refine li.bind ((Io O c (n-1) 1 (aL _) (by lia) (λa b o f=>by lia)).am λm g=>?_);obtain⟨g1,g2,d,q⟩:=g
 by_cases e:(m==n)=d_
 .rw[aO e];exact⟨c,g1,by lia,d⟩
 .rw[aJ e];have ne:m≠n:=λz=>e (by rw[z];exact U_ _)
  by_cases h:m>1
  .rw[aO h];refine⟨c.lt (show 0<n by lia),c.lt (show m-1<n by lia),?_⟩;have:cmp (At p 0) (At p (m-1))=d_:=d 0 (m-1) (by lia) (by lia);show li n cmp (if cmp (At p 0) (At p (m-1))=d_ then _ else _) _;rw[aO this];exact⟨c,g1,by lia,d⟩
  .rw[aJ h];obtain rfl:m=1:=by lia
   have s:=q (by lia);unfold kas_descPart;refine li.bind ((Lr O c (n-2) 2 (aL _) (by lia) (λa b o f=>?_)).am λr g=>?_)
   .obtain rfl:b=1:=by lia
    obtain rfl:a=0:=by lia
    exact s
   .obtain⟨l,j,v,u,i⟩:=g;rw[l,j,aJ (by lia)];exact Vq O c (by lia) (by lia) i
theorem zx{p:q_ h_}{k:h_}(O:Ord n cmp)(b:fD n p)(c:k<n)(g:So cmp p k):∀(f l r:h_),l<=r->r<=k->r-l<=f->(∀a,a<l->cmp (At p a) (At p k)=d_)->(∀a,r<=a->a<k->cmp (At p k) (At p a)=d_)->
  li n cmp (V? p k f l r) (λm=>m<=k/\(∀a,a<m->cmp (At p a) (At p k)=d_)/\(∀a,m<=a->a<k->cmp (At p k) (At p a)=d_))
 |0,l,r,s,j,q,i,h=>by
  obtain rfl:l=r:=by lia
  exact⟨j,i,h⟩
 |f+1,l,r,s,j,q,i,h=>by
  unfold V?
  by_cases o:l>=r
  .rw[aO o];obtain rfl:l=r:=by lia
   exact⟨j,i,h⟩
  .rw[aJ o];have v:(l+r) / 2<k:=by lia
   refine⟨b.lt c,b.lt (by lia),?_⟩;show li n cmp (if cmp (At p k) (At p ((l+r) / 2))=d_ then V? p k f l ((l+r) / 2)else V? p k f ((l+r) / 2+1) r) _
   by_cases d:cmp (At p k) (At p ((l+r) / 2))=d_
   .rw[aO d];refine zx O b c g f l _ (by lia) (by lia) (by lia) i λa x u=>?_
    by_cases z:a=(l+r) / 2
    .rw[z];exact d
    .exact O.tr _ _ _ (b.lt c) (b.lt (by lia)) (b.lt (by lia)) d (g _ _ (by lia) u)
   .rw[aJ d];have e:cmp (At p ((l+r) / 2)) (At p k)=d_:=by have:=O.as (At p k) (At p ((l+r) / 2)) (b.lt c) (b.lt (by lia)) (b.ne c (by lia) (by lia));rw[this];simpa using d
    refine zx O b c g f _ r (by lia) (by lia) (by lia) (λa w=>?_) h
    by_cases z:a=(l+r) / 2
    .rw[z];exact e
    .exact O.tr _ _ _ (b.lt (by lia)) (b.lt (by lia)) (b.lt c) (g a _ (by lia) (by lia)) e
def Qo{p:q_ h_}{k l:h_}(c:k<p.size)(d:l<=k)(i:h_):At (bubble p k (k-l)) i=if i=l then At p k else if l<i/\i<=k then At p (i-1)else At p i:=by
 rw[u7,getElem?_bubble c (k-l) (by lia),u7,u7,u7];have e:k-(k-l)=l:=by lia
 by_cases a:i=l
 .subst a;simp[e]
 .by_cases b:l<i/\i<=k
  .simp[e,a,b]
  .simp[e,a,b]
theorem Lk(O:Ord n cmp):∀(f k:h_)(p:q_ h_),fD n p->1<=k->k+f=n->So cmp p k->li n cmp (kas_bin f p k) (λq=>fD n q/\So cmp q n)
 |0,k,p,d,v,u,c=>by
  obtain rfl:k=n:=by lia
  exact⟨d,c⟩
 |f+1,k,p,d,v,u,c=>by
  unfold kas_bin;have j:k<n:=by lia
  refine li.bind ((zx O d j c k 0 k (cM _) (aL _) (by lia) (λa h=>by lia) (λa h y=>by lia)).am λl g=>?_);obtain⟨g1,g2,w⟩:=g;refine Lk O f (k+1) _ (d.bub _ _) (by lia) (by lia) λa b e x=>?_;have i:k<p.size:=by rw[d.size];exact j
  rw[Qo i g1,Qo i g1]
  by_cases s:a=l
  .rw[aO s,aJ (by lia),aO (by lia)];exact w _ (by lia) (by lia)
  .rw[aJ s]
   by_cases r:l<a/\a<=k
   .rw[aO r,aJ (by lia),aO (by lia)];exact c _ _ (by lia) (by lia)
   .rw[aJ r]
    by_cases o:b=l
    .rw[aO o];exact g2 _ (by lia)
    .rw[aJ o]
     by_cases m:l<b/\b<=k
     .rw[aO m];exact c _ _ (by lia) (by lia)
     .rw[aJ m];exact c _ _ e (by lia)
def Y3(O:Ord n cmp)(c:2<=n):li n cmp (kas_sort n) (λq=>fD n q/\So cmp q n):=by
 unfold kas_sort;refine li.bind ((Q8 O (by unfold fD;simp) c).am λr g=>?_);obtain⟨g1,g2,d,a⟩:=g
 by_cases b:r.1<n
 .rw[aO b];have:max r.1 1=r.1:=by lia
  rw[this];exact Lk O _ _ _ g1 g2 (by lia) a
 .rw[aJ b];obtain e:r.1=n:=by lia
  rw[e]at a;exact⟨g1,a⟩
end
end Pu
namespace Pu
open L2 PySem.SeqAt PySem.W
def BB(i j:n_):cO (.int i) (.int j)=(i==j):=by rw[cO]
theorem wq:∀(c d:b_ n_),mO (c.map .int) (d.map .int)=decide (c=d)
 |[],[]=>by simp[mO]
 |[],_::_=>by simp[mO]
 |_::_,[]=>by simp[mO]
 |i::c,j::d=>by
  rw[bK,bK,mO,wq c d,BB]
  by_cases h:i=j<;>simp[h]
theorem oh:∀(k l:b_ n_),di (k.map .int) (l.map .int)=a_ (decide (k<l))
 |[],[]=>by simp[di]
 |[],_::_=>by simp[di]
 |_::_,[]=>by simp[di]
 |i::k,j::l=>by
  rw[bK,bK,di,oh k l,BB];show a_ (if(i==j)=d_ then decide (k<l)else decide (i<j))=_
  congr 1
  by_cases h:i=j
  .subst h;simp[dS]
  .have:(i==j)=e_:=by simpa using h
   rw[this];simp[dS,h]
theorem fx:∀k:b_ n_,bA (k.map .int)=d_
 |[]=>rfl
 |i::k=>by rw[bK,bA,fx k];rfl
theorem j7:∀k:b_ n_,cN (k.map .int)=0
 |[]=>rfl
 |i::k=>by rw[bK,cN,j7 k];rfl
def Rk(x:k_)(c:b_ n_):b_ n_:=x.cps.toList.map iO++(-1)::c
theorem Lv:∀(a b:b_ h_)(c d:b_ n_),(a.map iO++(-1)::c<b.map iO++(-1)::d)↔(a<b\/(a=b/\c<d))
 |[],[],c,d=>by simp[dS]
 |[],j::b,c,d=>by
  simp only[nF,kM,bK,pF,dS];have g:(-1:n_)<iO j:=Int.lt_of_lt_of_le (by decide) (v! j);have f:([]:b_ h_)<j::b:=by simp
  simp only[g,f,true_or]
 |i::a,[],c,d=>by
  simp only[nF,kM,bK,pF,dS];have m:(0:n_)<=iO i:=v! i;have g:¬iO i<(-1:n_):=λz=>by lia
  have f:iO i≠(-1:n_):=λz=>by lia
  have l:¬(i::a<([]:b_ h_)):=by simp
  simp[g,f,l]
 |i::a,j::b,c,d=>by
  simp only[bK,pF,dS,Lv a b c d];have g:(iO i<iO j)↔i<j:=Int.ofNat_lt;have f:(iO i=iO j)↔i=j:=Int.ofNat_inj;rw[g,f];constructor
  .rintro (h|⟨rfl,h|⟨rfl,h⟩⟩)
   .exact .inl (.inl h)
   .exact .inl (.inr ⟨_6,h⟩)
   .exact .inr ⟨_6,h⟩
  .rintro ((h|⟨rfl,h⟩)|⟨e,h⟩)
   .exact .inl h
   .exact .inr ⟨_6,.inl h⟩
   .cases e;exact .inr ⟨_6,.inr ⟨_6,h⟩⟩
def GZ:h_->b_ n_->b_ gN->Prop
 |0,k,xs=>k≠[]/\xs=k.map .int
 |1,k,xs=>∃i c,k=i::c/\xs=[.int i,.tuple (c.map .int)]
 |_,k,xs=>∃x c,k=Rk x c/\_N x=d_/\xs=[.str x,.tuple (c.map .int)]
def Y6{x y:k_}(e:x.cps.toList=y.cps.toList):x=y:=by cases x;cases y;exact C_ _ (w!.mp e)
def Nt(c d:b_ n_):di [.tuple (c.map .int)] [.tuple (d.map .int)]=a_ (decide (c<d)):=by
 have b:Wb (.tuple (c.map .int)) (.tuple (d.map .int))=a_ (decide (c<d)):=by rw[Wb];exact oh c d
 have a:cO (.tuple (c.map .int)) (.tuple (d.map .int))=decide (c=d):=by rw[cO];exact wq c d
 rw[di,b,a];show a_ (if decide (c=d)=d_ then e_ else decide (c<d))=_
 by_cases z:c=d
 .subst z;simp
 .simp[z]
def GY{b:h_}{k l:b_ n_}{xs f:b_ gN}(h:GZ b k xs)(a:GZ b l f):di xs f=a_ (decide (k<l)):=by
 match b,h,a with
 |0,h,a=>rw[h.2,a.2];exact oh k l
 |1,h,a=>
  obtain⟨i,c,rfl,rfl⟩:=h;obtain⟨j,d,rfl,rfl⟩:=a;rw[di,Nt,BB];show a_ (if(i==j)=d_ then decide (c<d)else decide (i<j))=_
  congr 1
  by_cases z:i=j
  .subst z;simp[dS]
  .have:(i==j)=e_:=by simpa using z
   rw[this];simp[dS,z]
 |_+2,h,a=>
  obtain⟨x,c,rfl,_,rfl⟩:=h;obtain⟨y,d,rfl,_,rfl⟩:=a;have m:Wb (.str x) (.str y)=a_ (decide (x.cps.toList<y.cps.toList)):=by rw[Wb]
  rw[di,Nt,m];have n:cO (.str x) (.str y)=decide (x=y):=by rw[cO];by_cases e:x=y<;>simp[e]
  rw[n];show a_ (if decide (x=y)=d_ then decide (c<d)else decide (x.cps.toList<y.cps.toList))=_
  congr 1
  have q:decide (Rk x c<Rk y d)=decide (x.cps.toList<y.cps.toList\/(x.cps.toList=y.cps.toList/\c<d)):=decide_eq_decide.mpr (Lv x.cps.toList y.cps.toList c d);rw[q]
  by_cases z:x=y
  .subst z;simp[_D]
  .have g:x.cps.toList≠y.cps.toList:=λe=>z (Y6 e);simp[z,g]
def FT(b:h_)(d:gN):Prop:=if b<2 then∃i,d=.int i else∃x,d=.str x
def Eb{b:h_}{k:b_ n_}{xs:b_ gN}(h:GZ b k xs):bA xs=d_/\cN xs<=1/\∃d r,FT b d/\xs=d::r:=by
 match b,h with
 |0,h=>
  obtain⟨a,rfl⟩:=h;refine⟨fx k,by rw[j7];lia,?_⟩;cases k with
  |nil=>exact u_ _6 a
  |cons i c=>exact⟨_,_,⟨i,_6⟩,_6⟩
 |1,h=>
  obtain⟨i,c,rfl,rfl⟩:=h;refine⟨?_,?_,_,_,⟨i,_6⟩,_6⟩
  .rw[bA,bA,bA,jO,jO,fx c];rfl
  .rw[cN,cN,cN,iE,iE,j7 c];simp
 |_+2,h=>
  obtain⟨x,c,rfl,ok,rfl⟩:=h;refine⟨?_,?_,_,_,by unfold FT;rw[aJ (by lia)];exact⟨x,_6⟩,_6⟩
  .rw[bA,bA,bA,jO,jO,fx c,ok];rfl
  .rw[cN,cN,cN,iE,iE,j7 c];simp
section
variable{prog:aV}{w:bP}{A:bT}{E:aC->aE->Prop}{s:aE}
theorem Sx{e:l_}{Q:l_->aE->Prop}:∀(xs d:b_ gN)(u p:b_ aC)(i:h_)(J bs:b_ g_)(c:l_),ReadsAll s.1 u xs J->ReadsAll s.1 p d bs->bA xs=d_->bA d=d_->
  A.units+P! (cN xs) (cN d)<cP->di xs d=a_ c->e=decide (xs.length<d.length)->(i=0->∀x y,xs.head?=a_ x->d.head?=a_ y->(∃a b,x=.int a/\y=.int b)\/∃a b,x=.str a/\y=.str b)->Q c s->KatLex prog w A d_ e Q (u.zip p) i s
 |[],[],u,p,i,J,bs,c,ra,f,H,G,o,g,h,I,q=>by cases ra;cases f;cases g;subst h;exact kat_nil q
 |[],y::d,u,p,i,J,bs,c,ra,f,H,G,o,g,h,I,q=>by
  cases ra;cases f;cases g;have:e=d_:=by rw[h];simp
  subst this;exact kat_nil q
 |x::xs,[],u,p,i,J,bs,c,ra,f,H,G,o,g,h,I,q=>by
  cases ra;cases f;cases g;have:e=e_:=by rw[h];simp
  subst this;exact kat_nil q
 |x::xs,y::d,_,_,i,_,_,c,ra,f,H,G,o,g,h,I,q=>by
  have l:x.canLay0=d_/\bA xs=d_:=by simpa[bA]using H
  have j:y.canLay0=d_/\bA d=d_:=by simpa[bA]using G
  obtain⟨a,b,M,U,rfl⟩:=og g;cases ra with
  |@cons v vr _ _ γ β r T=>
   cases f with
   |@cons v' O _ _ α Y B L=>
    refine kat_cons (eqAt_reads x y A s _ _ _ _ r B l.1 j.1 (room_head o) prog w _ _ ?_);cases N:cO x y with
    |true=>rw[N,aO _6]at q;exact kat_yes (Sx xs d _ _ (i+1) _ _ b T L l.2 j.2 (room_tail o) U (by rw[h];simp) (λz=>by lia) q)
    |false=>
     rw[N,aJ (by simp)]at q;refine kat_no ?_
     by_cases C:i=0
     .rcases I C x y rfl rfl with⟨m,n,rfl,rfl⟩|⟨m,n,rfl,rfl⟩
      .subst C;cases r;cases B;cases M;exact oneLt_int q
      .subst C;cases r;cases B;cases M;exact oneLt_str q
     .have:(i==0)=e_:=by simpa using C
      rw[this,_A];exact kat_one _ _ (r8 x y A s _ _ _ _ a r B l.1 j.1 (room_head o) M prog w _ _ q)
def CD{b:h_}{x y:aC}{xs c:b_ gN}{as bs:b_ g_}{k l:b_ n_}{Q:l_->aE->Prop}(C:_M s.1 x (.tuple xs) as)(B:_M s.1 y (.tuple c) bs)(m:GZ b k xs)(g:GZ b l c)(hu:A.units+1<cP)(h:Q (decide (k<l)) s):
  aP (aW prog w) A (keyLt' (tuples' d_) x y) Q E s:=by
 obtain⟨c1,U,i1,r1,e,T⟩:=Eb m;obtain⟨Y,d2,i2,r2,d,O⟩:=Eb g;have L:=GY m g;cases C with
 |@tuple a o z n _ β N h2 M v=>
  cases B with
  |@tuple a' o' f n' _ α J k2 I p=>
   have H:z.size=_7 xs:=by simpa using ReadsAll.length _ _ _ v
   have G:f.size=_7 c:=by simpa using ReadsAll.length _ _ _ p
   refine kat_lt N M J I (Sx xs c _ _ 0 _ _ _ v p c1 Y ?_ L (by rw[H,G]) (λZ x y r q=>?_) h)
   .have:P! (cN xs) (cN c)<=1:=cB (Nat.min_le_left _ _) U
    lia
   .rw[T]at r;rw[O]at q;cases r;cases q;unfold FT at e d
    by_cases u:b<2
    .rw[aO u]at e d;obtain⟨i,rfl⟩:=e;obtain⟨j,rfl⟩:=d;exact .inl ⟨_,_,_6,_6⟩
    .rw[aJ u]at e d;obtain⟨i,rfl⟩:=e;obtain⟨j,rfl⟩:=d;exact .inr ⟨_,_,_6,_6⟩
def i'(s:aE)(b:h_):b_ aC->b_ (b_ n_)->Prop
 |[],[]=>_Z
 |v::a,k::c=>(∃xs d,_M s.1 v (.tuple xs) d/\GZ b k xs)/\i' s b a c
 |_,_=>L_
theorem i'.len{b:h_}:∀{a:b_ aC}{c:b_ (b_ n_)},i' s b a c->_7 c=_7 a
 |[],[],_=>rfl
 |[],_::_,h=>h.elim
 |_::_,[],h=>h.elim
 |v::a,k::c,⟨_,h⟩=>by rw[aR,aR,i'.len h]
theorem i'.get{b:h_}:∀{a:b_ aC}{c:b_ (b_ n_)},i' s b a c->∀{i:h_},i<_7 a->∃xs f,_M s.1 (a.getD i bV) (.tuple xs) f/\GZ b (c.getD i []) xs
 |[],_,_,i,h=>by simp at h
 |_::_,[],h,_,_=>h.elim
 |v::a,k::c,⟨e,_⟩,0,_=>e
 |v::a,k::c,⟨_,h⟩,i+1,d=>by have:=i'.get h (i:=i) (by simpa using d);simpa using this
def FV(b:h_)(v:aC):Prop:=if b<2 then∃n t,v=nM n t else∃x t,v=oW x t
theorem i'.firsts{b:h_}:∀{e:b_ aC}{m:b_ (b_ n_)},i' s b e m->∃fs,KatTups s.1 e fs/\fs.length=e.length/\∀v∈fs,FV b v
 |[],[],_=>⟨[],.nil,_6,λv h=>by simp at h⟩
 |[],_::_,h=>h.elim
 |_::_,[],h=>h.elim
 |v::e,k::m,⟨⟨xs,N,r,x⟩,h⟩=>by
  obtain⟨fs,I,H,G⟩:=i'.firsts h;obtain⟨_,_,d,q,c,rfl⟩:=Eb x;cases r with
  |@tuple a o l n _ J B z y f=>
   cases g:l.toList with
   |nil=>rw[g]at f;cases f
   |cons u L=>
    rw[g]at f;cases f with
    |cons r M=>
     have C:FV b u:=by
      unfold FT at c;unfold FV
      by_cases p:b<2
      .rw[aO p]at c⊢;obtain⟨i,rfl⟩:=c;cases r with
       |int _ t=>exact⟨_,_,_6⟩
      .rw[aJ p]at c⊢;obtain⟨i,rfl⟩:=c;cases r with
       |str _ t=>exact⟨_,_,_6⟩
     refine⟨u::fs,KatTups.cons B z y ?_ I,by simp[H],λv j=>?_⟩
     .have:l.toList[0]?=a_ u:=by rw[g];rfl
      simpa using this
     .rcases o_.mp j with rfl|j
      .exact C
      .exact G v j
noncomputable def vc(a:b_ (b_ n_))(i j:h_):l_:=decide (a.getD i []<a.getD j [])
def Tr{a:b_ (b_ n_)}(d:a.Nodup):Ord a.length (vc a) where
 as:=λi j c b ne=>by
  have e:a.getD i []≠a.getD j []:=by
   rw[show a.getD i []=a[i] by simp[c],show a.getD j []=a[j] by simp[b]];have pw:=R_.mp d;rcases t! ne with q|q
   .exact pw i j c b q
   .exact(pw j i b c q).symm
  unfold vc
  by_cases z:a.getD i []<a.getD j []
  .have:¬a.getD j []<a.getD i []:=λy=>_D _ (oP z y);rw[H_ z,t_ this];rfl
  .have:a.getD j []<a.getD i []:=x! z (cW e);rw[H_ this,t_ z];rfl
 tr:=λi j k Z Z Z g f=>by unfold vc at *;exact H_ (oP (y_ g) (y_ f))
def Cf(prog:aV)(w:bP)(A:bT)(c a:b_ aC)(R:q_ h_->Prop)(s:aE):Prop:=
 ∀E:aC->aE->Prop,aP (aW prog w) A (keyKind' c.toArray) (λκ d=>d=s/\∀e:aC->aE->Prop,aP (aW prog w) A (sortRuns'.run (x? κ (c.toArray.zip a.toArray) #[] 7 c_)) (λr b=>
  b=s/\failedOf r.2=c_/\∃p:q_ h_,R p/\p.size=_7 a/\(arrOf r.2).map (·.2)=_V (p.toList.map λi=>a.getD i bV)) e s) E s
def FM{b:h_}{d vs:b_ aC}{a:b_ (b_ n_)}(h:d.length=vs.length)(f:i' s b d a)(u:2<=vs.length)(l:vs.length<64)(U:a.Nodup)(hu:A.units+1<cP):
  Cf prog w A d vs (λp=>fD vs.length p/\So (vc a) p vs.length) s:=by
 intro E;have Y:=f.len;obtain⟨fs,f1,f2,B⟩:=f.firsts;have y:∀{T:aC},(T==T)=d_->(T !=jF "tuple")=d_->(∀v∈fs,Looks (aW prog w) s.1 (i? v) T)->aP (aW prog w) A (keyKind' d.toArray) (λκ e=>e=s/\∀C:aC->aE->Prop,aP (aW prog w) A (sortRuns'.run (x? κ (d.toArray.zip vs.toArray) #[] 7 c_)) (λr c=>
  c=s/\failedOf r.2=c_/\∃p:q_ h_,(fD vs.length p/\So (vc a) p vs.length)/\p.size=vs.length/\(arrOf r.2).map (·.2)=_V (p.toList.map λi=>vs.getD i bV)) C s) E s:=λ{T} J I H=>by
  refine kat_kind (T:=T) f1 (by lia) H J ?_;rw[I];refine⟨_6,λC=>?_⟩;have o:=Tr U;rw[Y,h]at o;refine cA (kat_run (Q:=λst c=>c=s/\failedOf st=c_/\∃p:q_ h_,(fD vs.length p/\So (vc a) p vs.length)/\p.size=vs.length/\(arrOf st).map (·.2)=_V (p.toList.map λi=>vs.getD i bV))
   (G:=λp e=>e=s/\fD vs.length p/\So (vc a) p vs.length) h u l (λp st e g1 g2 g3 z=>⟨z.1,g3,p,z.2,g1,kat_snds h g2⟩) ?_) (λZ Z x=>x) (λZ Z x=>x)
  refine li.wp (cmp:=vc a) (n:=vs.length) (R:=λp=>fD vs.length p/\So (vc a) p vs.length) (λi j K hi hj q=>?_) (λp r=>⟨_6,r⟩) (Y3 o u);obtain⟨xs,as,O,M⟩:=f.get (i:=i) (by lia);obtain⟨ys,bs,N,L⟩:=f.get (i:=j) (by lia);exact CD O N M L hu q
 by_cases m:b<2
 .refine y (T:=.type "int") (by decide) (by decide) λv g=>?_;have:=B v g;unfold FV at this;rw[aO m]at this;obtain⟨n,t,rfl⟩:=this;exact Looks.of_pure _6
 .refine y (T:=.type "str") (by decide) (by decide) λv g=>?_;have:=B v g;unfold FV at this;rw[aJ m]at this;obtain⟨n,t,rfl⟩:=this;exact Looks.of_pure _6
end
noncomputable def Kk(h:r_)(a:g_)(b:b_ aC):r_:=((h.update a (pM λz=>(#[]:q_ aC))).push (oQ "tuple" b.toArray 0)).push (oQ "list" #[] 0)
def Tc{h:r_}{a:g_}{c:b_ aC}{b:g_}{o:D_}(e:h.get? b=a_ o)(ne:b≠a):(Kk h a c).get? b=a_ o:=by unfold Kk;refine aB _ (aB _ ?_);rw[H? _ _ _ _ ne];exact e
def OutOf(R:q_ h_->Prop)(a b:b_ aC):Prop:=(_7 a<2/\b=a)\/(2<=_7 a/\∃p:q_ h_,R p/\p.size=_7 a/\b=p.toList.map λi=>a.getD i bV)
def OutOf.len{R:q_ h_->Prop}{b a:b_ aC}(h:OutOf R b a):_7 a=_7 b:=by
 obtain ⟨_,rfl⟩|⟨_,p,_,c,rfl⟩:=h
 .rfl
 .rw[bB,eE,c]
section
variable{prog:aV}{w:bP}{A:bT}{E:aC->aE->Prop}{s:aE}
def K3{a:g_}{b:b_ aC}{n:h_}{P:PySem.Fin->aE->Prop}{R:q_ h_->Prop}(m:s.1.get? a=a_ (oQ "list" b.toArray n))(hz:_7 b<=1000)(B:2<=_7 b->Cf prog w A b b R {s with heap:=Kk s.1 a b})
  (h:∀f:b_ aC,OutOf R b f->P (.done (.ret .none)) {s with heap:=sortedHeap s.1 a b f.toArray}):aP (aW prog w) A (z_.«list.sort» ⟨[.ref a],[]⟩) P E s:=by
 have H:a<s.1.1.size:=aM m;have o:_7 b<=aG:=by rw[eS];lia
 obtain⟨q,j⟩:∃q,(s.1.update a (pM λZ=>(#[]:q_ aC))).get? a=a_ (oQ "list" #[] q):=⟨_,get?_update_seq m λZ=>#[]⟩;have c:(Kk s.1 a b).get? a=a_ (oQ "list" #[] q):=aB _ (aB _ j);rw[list_sort_plain];refine aA (listItems_at m _6 (aA (I? m _6 ?_ (by simpa using o) (cM _))));refine aA (T! j _6 (aA (lK (aA (wpAny_newList (cK ?_) (cM _))) o)));show aP (aW prog w) A _ P E {s with heap:=Kk s.1 a b};dsimp only
 by_cases e:b.toArray.size<2
 .have d:_7 b<2:=by simpa using e
  rw[aO e,aO e];refine aA (aD ?_);rw[StateT.run_pure];refine aA (aD ?_);dsimp only;have C:Array.map (λx:Keyed=>x.2) (b.toArray.zip b.toArray)=b.toArray:=by apply w!.mp;rw[Array.toList_map,Array.toList_zip];exact List.map_snd_zip (aL _)
  rw[show(arrOf (x? general' (b.toArray.zip b.toArray) #[] 7 c_)).map (·.2)=b.toArray from C];refine aA (T! c _6 (aA (I? c _6 ?_ (cM _) (cB (eZ (aX ..)) (by lia)))));simp only[bne_self_eq_false,m_,A_];exact aD (h b (.inl ⟨d,_6⟩))
 .have d:2<=_7 b:=by simpa using e
  rw[aJ e,aJ e];refine aA (cA (B d _) (λκ y g=>?_) λZ Z x=>x);obtain⟨rfl,g⟩:=g;refine aA (cA (g _) (λr y g=>?_) λZ Z x=>x);obtain⟨rfl,v,p,z,u,l⟩:=g;obtain⟨⟨⟩,st⟩:=r;dsimp only at v l⊢;rw[l,v];have G:(p.toList.map λi=>b.getD i bV).length<=aG:=by rw[bB,eE,u];exact o
  refine aA (T! c _6 (aA (I? c _6 ?_ (cM _) (cB (eZ (aX ..)) (by lia)))));simp only[bne_self_eq_false,m_,A_];exact aD (h _ (.inr ⟨d,p,z,u,_6⟩))
end
noncomputable def IL:D->f_ n_
 |.int i=>a_ i
 |_=>c_
noncomputable def wu:b_ D->f_ (b_ n_)
 |[]=>a_ []
 |d::a=>match IL d,wu a with
  |some i,a_ r=>a_ (i::r)
  |_,_=>c_
def Sy:D->f_ (b_ n_)
 |.ci a=>match wu a with
  |some (i::r)=>a_ (i::r)
  |_=>c_
 |_=>c_
def w4:b_ D->f_ (b_ (b_ n_))
 |[]=>a_ []
 |d::a=>match Sy d,w4 a with
  |some k,a_ r=>a_ (k::r)
  |_,_=>c_
theorem y7:∀{c:b_ D}{b:b_ n_},wu c=a_ b->c=b.map D.int
 |[],b,h=>by cases h;rfl
 |d::c,b,h=>by
  unfold wu at h;cases a:IL d with
  |none=>rw[a]at h;cases h
  |some i=>
   cases e:wu c with
   |none=>rw[a,e]at h;cases h
   |some r=>rw[a,e]at h;cases h;cases d<;>first|(cases a;rw[y7 e];rfl)|cases a
def W7{d:D}{k:b_ n_}(h:Sy d=a_ k):k≠[]/\d=.ci (k.map D.int):=by
 unfold Sy at h;cases d with
 |ci b=>
  dsimp only at h;cases e:wu b with
  |none=>rw[e]at h;cases h
  |some a=>
   rw[e]at h;cases a with
   |nil=>cases h
   |cons i r=>cases h;exact⟨by simp,by rw[y7 e]⟩
 |_=>cases h
def zb{d:D}{b:b_ D}{c:b_ (b_ n_)}(h:w4 (d::b)=a_ c):∃k r,Sy d=a_ k/\w4 b=a_ r/\c=k::r:=by
 unfold w4 at h;cases a:Sy d with
 |none=>rw[a]at h;cases h
 |some k=>
  cases e:w4 b with
  |none=>rw[a,e]at h;cases h
  |some r=>rw[a,e]at h;cases h;exact⟨k,r,_6,_6,_6⟩
theorem wa:∀a:b_ n_,ff (a.map D.int)=a_ (a.map gF)
 |[]=>rfl
 |i::r=>by rw[bK,ff,wa r];rfl
section
variable{X:Cx}{au:b_ (g_×D_)}{σ:St}{G H:Hp}{s:aE}
theorem F8(I:a9 X au σ H s)(f:a6 G H):∀{e:b_ D}{c:b_ (b_ n_)}{a:b_ V}{b:b_ aC},w4 e=a_ c->bt (kx X) G e a->dg a b->i' s 0 b c
 |[],c,a,b,h,dl,r=>by cases h;cases (show a=[]from dl);cases r;trivial
 |d::e,c,a,b,h,dl,r=>by
  obtain⟨k,u,m,l,rfl⟩:=zb h;obtain⟨v,q,rfl,n,o⟩:=dl;obtain⟨j,rfl⟩:=W7 m;cases r with
  |cons g i=>refine⟨?_,F8 I f l o i⟩;obtain⟨p,ra⟩:=ui I f n g (show cw (.ci (k.map D.int))=a_ (.tuple (k.map gF)) by rw[cw,wa]);exact⟨_,p,ra,j,_6⟩
end
noncomputable def J3(x:b_ n_×D):b_ (b_ n_×D)->b_ (b_ n_×D)
 |[]=>[x]
 |y::r=>if x.1<y.1 then x::y::r else y::J3 x r
def Aj(l:b_ (b_ n_×D)):b_ (b_ n_×D):=l.foldr J3 []
theorem vq(x:b_ n_×D):∀l,(J3 x l).Perm (x::l)
 |[]=>.refl _
 |y::r=>by
  unfold J3;split
  .exact .refl _
  .exact((vq x r).cons y).trans (List.Perm.swap x y r)
theorem su:∀l,(Aj l).Perm l
 |[]=>.refl _
 |x::r=>(vq x _).trans ((su r).cons x)
set_option tactic.hygienic true in
theorem Me{x:b_ n_×D}:∀{l:b_ (b_ n_×D)},l.Pairwise (λa b=>a.1<b.1)->(∀y∈l,y.1≠x.1)->(J3 x l).Pairwise (λa b=>a.1<b.1)
 |[],_,_=>by unfold J3;exact List.pairwise_singleton _ _
 |y::r,h,e=>by
  unfold J3;obtain⟨f,g⟩:=_c.mp h;split
  .rename_i c;refine _c.mpr ⟨λz d=>?_,h⟩;rcases o_.mp d with rfl|d
   .exact c
   .exact oP c (f z d)
  .rename_i c;have lt:y.1<x.1:=x! c (e y (.head _));refine _c.mpr ⟨λz d=>?_,Me g λz d=>e z (.tail _ d)⟩;rcases o_.mp ((vq x r).mem_iff.mp d)with rfl|d
   .exact lt
   .exact f z d
theorem Hu:∀{l:b_ (b_ n_×D)},(l.map (·.1)).Nodup->(Aj l).Pairwise (λa b=>a.1<b.1)
 |[],_=>oF
 |x::r,h=>by obtain⟨f,d⟩:=G_.mp (show(x.1::r.map (·.1)).Nodup from h);refine Me (Hu d) λy c e=>f ?_;rw[<-e];exact J? ((su r).mem_iff.mp c)
def Pq{d:b_ (b_ n_)}{c:b_ D}{p:q_ h_}(u:_7 d=_7 c)(q:d.Nodup)(l:fD c.length p)(s:So (vc d) p c.length):p.toList.map (λi=>c.getD i D.fm)=(Aj (d.zip c)).map (·.2):=by
 have e:p.toList.map (λi=>(d.getD i [],c.getD i D.fm))=Aj (d.zip c):=by
  have n:(p.toList.map λi=>(d.getD i [],c.getD i D.fm)).Perm (d.zip c):=by
   have:(eW c.length).map (λi=>(d.getD i [],c.getD i D.fm))=d.zip c:=by
    refine E! (by simp[u]) λi h m=>?_;have:i<_7 c:=by simpa using h
    have:i<_7 d:=by omega
    simp[*]
   rw[<-this];exact List.Perm.map _ l
  have o:((d.zip c).map (·.1)).Nodup:=by rw[List.map_fst_zip (by omega)];exact q
  refine List.Perm.eq_of_pairwise (le:=λa b:b_ n_×D=>a.1<b.1) (λa b z z h m=>u_ (oP h m) (_D _)) ?_ (Hu o) (n.trans (su _).symm);rw[List.pairwise_map,R_];intro i j w v g;have r:=l.size;have f:j<_7 c:=by rw[<-r];simpa using v
  have:=s i j g f;rw[Et (by omega),Et (by omega)]at this;simpa[vc]using this
 rw[<-e,nI];rfl
end Pu
section
namespace PySem
section
variable{prog:aV}{w:bP}{K:Type}[P_ K]{knd:_Y prog w K}{A:bT}{E:aC->aE->Prop}{s:aE}
def mh{d a:g_}{xs:b_ (K×g_×aC)}{k:K}{dflt:aC}{Q:aC->aE->Prop}(u:knd.room A)(c:knd.is s.1 k a)(G:s.1.DictOfH knd d xs)
  (J:∀v,(pA xs k).map (·.2)=a_ v->Q v {s with toks:=s.toks+knd.draws k})
  (I:pA xs k=c_->∀q,q.DictOfH knd d (nG xs k a dflt)->bN d s.1 q->Q dflt {s with heap:=q,toks:=s.toks+knd.draws k})
  (B:_7 xs<=aG):aP (aW prog w) A (n? d (.ref a) dflt) Q E s:=by
 obtain⟨o,M,L,h,H,g,m,l,n⟩:=G;unfold n?
 try with_reducible refine cK ?_
 refine aA (knd.pyHash u c ?_);refine aA (wpAny_dictFind_heap (s:={s with toks:=s.toks+knd.draws k}) u c h g m l n ?_ ?_)
 .intro b;have i:k∉xs.map (·.1):=not_mem_keys_of_get b;refine aA (gV (aA (U! (hz:=by have e:=pS m;lia) (s:={s with toks:=s.toks+knd.draws k}) h g (aD (I (lL b) _ ⟨_,_,L+1,dR _ h (W? (jP g _)),
   H.mapDictKeys _,jP g _,?_,?_,?_⟩ (dQ ..))))))
  .rw[V! (lL b)];simp[m,nP]
  .rw[V! (lL b)];intro x f;rcases O_.mp f with f|f
   .exact knd.keeps (l x f) h g (dQ ..)
   .simp only[N_]at f;subst f;exact knd.keeps c h g (dQ ..)
  .rw[V! (lL b)];rw[pT,jE];refine⟨n,by simp,?_⟩;intro x f y r;simp only[bK,nF,N_]at r;subst r;exact λe=>i (e▸f)
 .intro j p z;have C:(pA xs k).map (·.2)=a_ p.2:=by rw[atKey_of_get n z];rfl
  refine aA (dI (s:={s with toks:=s.toks+knd.draws k}) h g ?_);rw[entry_at m j,z];exact aA (gV (aD (J _ C)))
def o7(knd:_Y prog w K)(d a:g_)(m:(d==dD)=e_)(dflt:aC):
  MeetsIn prog w (z_.«dict.setdefault» ⟨[.ref d,.ref a,dflt],[]⟩) (λA R s=>knd.room A.in1/\∃k xs,knd.is s.1 k a/\s.1.DictOfH knd d xs/\_7 xs<=aG/\
   (∀v,(pA xs k).map (·.2)=a_ v->R (.ok (.ret v)) {s with toks:=s.toks+knd.draws k})/\
   (pA xs k=c_->∀c,c.DictOfH knd d (nG xs k a dflt)->bN d s.1 c->R (.ok (.ret dflt)) {s with heap:=c,toks:=s.toks+knd.draws k})):=
 .of_wp λA R s ⟨j,k,xs,b,g,h,o,n⟩=>by unfold z_.«dict.setdefault»;refine aA ?_;unfold Builtin.Dict.keyAndDefault;refine aA (fK g.typeIs ?_);show aP _ _ (pure (d,bH a,a_ dflt)) _ _ s;refine aD ?_;show aP _ _ (if(d==dD)=d_ then _ else(n? d (.ref a) dflt>>=_)) _ _ s;rw[aJ (by rw[m];exact p_)];exact aA (mh j b g (λv i=>aD ⟨v,_6,o v i⟩) (λl c f e=>aD ⟨dflt,_6,n l c f e⟩) h)
end
end PySem
namespace Pu
open L2
section
variable{X:Cx}{G0 B:Hp}{E:EK}{e a b:Expr}{es:b_ Expr}{g h k:En->bi}{pos p:v_}
noncomputable def U5(i:h_):En->fq:=λU=>.nx (U.set i (.od d_ []))
def ce.setDT{K:KA}{G H:Hp}{σ:St}{U:En}{i:h_}{a:g_}(R:ce K B G H σ U)(c:H a=c_):ce K B G (c0 H a (.dT [])) (σ.set i (a_ (.ref a))) (U.set i (.od d_ [])):=R.newO (c6.own R.gh _ c) c (aq R.gh c) ⟨a,[],_6,ae,_6⟩
def Yv{i:h_}{x:k_}{c p:v_}(f:PS X (.Assign [.Name x c] (.Dict [] [] p) pos) (Ba Vn (ij i))):ja X G0 B E (.Assign [.Name x c] (.Dict [] [] p) pos) (U5 i):=
 PS.imp f λD σ H ⟨G,U,R,e,q⟩=>λa d=>q _ G _ (a6.refl G) (R.setDT d) (e.trans (c6.own R.gh _ d))
def ce.odAtT{K:KA}{G H:Hp}{σ:St}{U:En}{i:h_}{c:b_ (D×D)}(R:ce K B G H σ U)(h:U[i]?=a_ (.od d_ c)):∃a es,σ[i]?=a_ (a_ (V.ref a))/\H a=a_ (.dT es)/\fu K G c es/\G a=c_/\B a=c_:=by obtain⟨o,d,a,f,m,l,j⟩:=R.sl i _ h;subst m;obtain⟨g,b⟩:=R.own i _ a h _6 d;exact⟨a,f,d,l,j,g,b⟩
def ce.wrDT{K:KA}{G H:Hp}{σ:St}{U:En}{i:h_}{f c:b_ (D×D)}{a:g_}{es d:b_ (ah×V)}(R:ce K B G H σ U)(l:U[i]?=a_ (.od d_ f))(j:σ[i]?=a_ (a_ (V.ref a)))(m:H a=a_ (.dT es))(dl:fu K G c d):
  ce K B G (c0 H a (.dT d)) σ (U.set i (.od d_ c)):=R.wrO l _6 j ⟨a,d,_6,ae,dl⟩
def Bi{i:b_ (g_×D_)}{σ:St}{H:Hp}{s:aE}{a b:g_}{f:b_ (ah×V)}{k:ah}{v:V}{r:aC}{A:bT}{E:aC->aE->Prop}{Q:aC->aE->Prop}(N:A.units+5<cP)(I:a9 X i σ H s)(e:H a=a_ (.dT f))(C:p0 H k b)(hl:_7 f<aG)(J:eu v r)
  (Y:∀l w m,c8 f k=a_ l->eu l w->a9 X i σ H m->Q w m)(U:∀m,c8 f k=c_->a9 X i σ (c0 H a (.dT (cv f k v))) m->Q r m):
  aP (aW X.prog X.w) A (call (.builtin "dict.setdefault") [.ref a,.ref b,r]) Q E s:=by
 obtain⟨z,x,xs,rel,G⟩:=Fm I.e6 e;have L:_7 xs<=aG:=by rw[<-eA rel];exact z
 have d:=rel.val k;refine iT dO G.typeIs mT (mD _ _ _) (o7 (bw X.prog X.w) a b x r)
  ⟨b8 N,k,xs,l9 I.e6 C,G,L,λw M=>?_,λT h' o O=>?_⟩
 .rw[M]at d;cases j:c8 f k with
  |none=>rw[j]at d;cases d
  |some l=>rw[j]at d;exact Y l w _ j d (I.qs _)
 .rw[T]at d;have j:c8 f k=c_:=by
   cases j:c8 f k with
   |none=>rfl
   |some l=>rw[j]at d;cases d
  refine U _ j ?_;have n:(cv f k v).length<=aG:=by have:=i5 f k v;lia
  obtain⟨q,es,ep,u,g2,g3,g4,_,g5⟩:=o;refine qa I (by rw[e];exact eF) O ⟨q,u⟩ ⟨n,x,_,(rel.put k C J).keeps λc ys y=>?_,q,es,ep,u,g2,g3,g4,g5⟩;rw[aa (Ms y e (λz=>nomatch z))];exact y
def y6(i:h_)(n m:En->bi):En->n7:=λU=>match U[i]? with
 | a_ (.od d_ f) => (match n U with
  | .ok o => (match m U with
   | .ok l => (match ar o with
    | a_ j => if f.length < aG then (match fk f j with
     |some d=>.ok d U
     |none=>.ok l (U.set i (.od d_ (Hf f j l))))else .st
    |none=>.st)
   |.er c=>.er c
   |.st=>.st)
  |.er c=>.er c
  |.st=>.st)
 |_=>.st
noncomputable def D7(i:h_)(f d:En->bi):En->fq:=λU=>match U[i]? with
 |some (.od d_ c)=>(d U).then λv=>(f U).then λk=>match ar k with
  |some j=>if _7 c<aG then .nx (U.set i (.od d_ (Hf c j v)))else .st
  |none=>.st
 |_=>.st
def Ys{i:h_}{x:k_}{p d:v_}{f s:Expr}(Y:X.A.units+5<cP)(T:PE X (.Name x p) (fh i))(hk:dj X B E f g)(m:ck X B E s h)
  (hs:Q! (eR s (a_ (.Subscript (.Name x p) f d)) pos.line X.env=pure e_) Q2!):ja X G0 B E (.Assign [.Subscript (.Name x p) f d] s pos) (D7 i g h):=
 PS.imp (M6 Y T hk m hs) λD σ H ⟨G,U,R,z,q⟩=>by
  unfold D7 at q;cases n:U[i]? with
  |none=>rw[n]at q;exact q.elim
  |some N=>
   rw[n]at q;cases N with
   |od t u=>
    cases t with
    |false=>exact q.elim
    |true=>
     dsimp only at q;obtain⟨l,es,L,J,I,Q,O⟩:=R.odAtT n;refine⟨G,U,R,(jv z q).am λdv Z q v G1 H1 r dn=>⟨.ref l,L,G1,U,R.ext r,(jv (K:=(kx X)) (z.trans r) (js.same r.gg q)).am λdk Z q y G2 H2 o ay=>?_⟩⟩;have c:=r.trans o;cases C:ar dk with
     |none=>rw[C]at q;exact q.elim
     |some j=>
      rw[C]at q;dsimp only at q
      by_cases w:_7 u<aG
      .rw[aO w]at q;have M:=c.hh _ _ J;have g2:=c.fr _ _ J Q _6;obtain⟨b,rfl,hb⟩:=Arg.keys o.gh ay C;refine⟨l,_,_6,DPut.t M hb (by rw[<-I.length];exact w),?_⟩;exact q σ G2 _ o.gg (ce.wrDT (R.ext c) n L M ((I.am c.gg).put (dn.am o.gg) j)) (c6.wr (z.trans c) g2 O)
      .rw[aJ w]at q;exact q.elim
   |no=>exact q.elim
   |pu _=>exact q.elim
   |bo _=>exact q.elim
   |ow _=>exact q.elim
def Pz{K:KA}{G:Hp}{c:b_ (D×D)}{es:b_ (ah×V)}(dl:fu K G c es){j:ah}(h:c8 es j=c_):fk c j=c_:=by
 cases e:fk c j with
 |none=>rfl
 |some d=>obtain⟨v,q,_⟩:=(dl.ky j).1 d e;rw[h]at q;cases q
def Jk{i:h_}{x:k_}{ke ve:Expr}{ap cp:v_}(hu:X.A.units+5<cP)(hv:PE X (.Name x p) (fh i))(hk:dj X B E ke g)(ζ:ck X B E ve h)(hn:cq ke=d_)(η:cq ve=d_)(O:(ap.endLine==cp.line)=d_):
  Qg X G0 B E (.Call (.Attribute (.Name x p) "setdefault" ap) [ke,ve] [] cp) (y6 i g h):=by
 intro o s σ H Q I ⟨G,U,R,ex,q⟩;unfold y6 at q;cases ed:U[i]? with
 |none=>rw[ed]at q;exact q.elim
 |some sl=>
  rw[ed]at q;cases sl with
  |od t f=>
   cases t with
   |false=>exact q.elim
   |true=>
    dsimp only at q;obtain⟨l,es,q1,q2,q3,q4,q5⟩:=R.odAtT ed;have ψ:((dW cp (aU [ke,ve] X.env)).all (λx=> !x.1)&&(lG cp (iA [] X.env)).all (λx=>x.1.isSome)
    &&decide (([ke,ve]:b_ Expr).length+([]:b_ fP).length+(if([]:b_ fP).isEmpty then 0 else 1)<30))=d_:=by rw[gi (by rw[bO,bO,hn,η];rfl)];rfl
    refine oE _6 ψ O cZ dO gE (c9 (hv o s σ H (λv N=>v=.ref l/\N=H) I ⟨_,q1,_6,_6⟩) λu s1 ⟨v,N,I1,r1,e1,M⟩=>?_);subst e1 M;cases (r1);obtain⟨t1,t2,_⟩:=J6 I1 (.inr ⟨es,.inl q2⟩);refine⟨t1,t2,?_⟩;rw[ux hn η];have qk:dL (E) G N (g U) λC=>dL E G N (h U) λn=>∃j,ar C=a_ j/\_7 f<aG/\qu (kx X) G0 B E G σ (match fk f j with
     |some d=>.ok d U
     |none=>.ok n (U.set i (.od d_ (Hf f j n)))) λd L J Z=>∀v,gy (kx X) L d v->Q v J:=by
     cases eg:g U with
     |er c=>rw[eg]at q;exact λL J e=>q L J (ex.trans e)
     |st=>rw[eg]at q;exact q
     |ok C=>
      rw[eg]at q;dsimp only at q;show dL E G N (h U) _;cases eh:h U with
      |er c=>rw[eh]at q;exact λL J e=>q L J (ex.trans e)
      |st=>rw[eh]at q;exact q
      |ok n=>
       rw[eh]at q;dsimp only at q;cases ej:ar C with
       |none=>rw[ej]at q;exact q.elim
       |some j=>
        rw[ej]at q;dsimp only at q
        by_cases O:_7 f<aG
        .rw[aO O]at q;exact⟨j,_6,O,q⟩
        .rw[aJ O]at q;exact q.elim
    refine eB _6 (iB (eQ (c9 (hk o s1 σ N (λy H2=>∃Y C,c6 G N Y H2/\Arg (kx X) Y H2 C y/\dL E G N (h U) λn=>∃j,ar C=a_ j/\_7 f<aG/\qu (kx X) G0 B E G σ (match fk f j with
     |some d=>.ok d U
     |none=>.ok n (U.set i (.od d_ (Hf f j n)))) λd L J Z=>∀v,gy (kx X) L d v->Q v J) I1 ⟨G,U,R,qk.am λC Z qk y Y H2 M ay=>⟨Y,C,M,ay,qk⟩⟩) λyv s2 ⟨y,H2,I2,ry,Y,C,M,ay,qv⟩=>?_)))
    refine eQ (c9 (ζ o s2 σ H2 (λz H3=>∃T n j,c6 Y H2 T H3/\gy (kx X) T n z/\ar C=a_ j/\_7 f<aG/\qu (kx X) G0 B E G σ (match fk f j with
     |some d=>.ok d U
     |none=>.ok n (U.set i (.od d_ (Hf f j n)))) λd L J Z=>∀v,gy (kx X) L d v->Q v J) I2 ⟨Y,U,R.ext M,(qv.ext M).am λn Z ⟨j,ej,O,q⟩ z T H3 e3 dz=>⟨T,n,j,e3,dz,ej,O,q⟩⟩) λzv s3 ⟨z,H3,I3,rz,T,n,j,e3,dz,ej,χ,q⟩=>jD ?_)
    have m:=M.trans e3;have h3:=m.hh _ _ q2;have g3:=m.fr _ _ q2 q4 _6;have r:=q3.am m.gg;have R3:=R.ext m;obtain⟨b,rfl,hb⟩:=Arg.keys M.gh ay ej;cases (show yv=bH b from ry);refine Bi hu I3 h3 (hb.am λZ Z q=>e3.hh _ _ q) (by rw[<-r.length];exact χ) rz (λv' w s' ev τ I'=>?_) λs' ev I'=>?_
    .cases el:fk f j with
     |none=>rw[(r.ky j).2 el]at ev;cases (ev)
     |some d=>rw[el]at q;obtain⟨v2,z1,z2⟩:=(r.ky j).1 d el;rw[z1]at ev;cases (ev);exact⟨v',H3,I',τ,q T H3 m.gg R3 (ex.trans m) v' z2⟩
    .have el:=Pz r ev;rw[el]at q;exact⟨z,_,I',rz,q T _ m.gg (ce.wrDT R3 ed q1 h3 (r.put dz j)) (c6.wr (ex.trans m) g3 q5) z dz⟩
  |no=>exact q.elim
  |pu _=>exact q.elim
  |bo _=>exact q.elim
  |ow _=>exact q.elim
end
noncomputable def Vv:Expr->l_
 |.Call (.Name x _) _ _ _=>decide (x≠"len")&&decide (x≠"int")&&decide (x≠"str")
 |.Tuple _ _ _=>d_
 |.Name x _=>decide (x="row")||decide (x="fact")
 |_=>e_
noncomputable def K8:h_->Expr->b_ k_
 |0,_=>[]
 |n+1,e=>match e with
  |.Call (.Attribute (.Name x _) m _) (k::r) _ _=>(if(m="setdefault"||m="get")&&Vv k then[x]else[])++(r.flatMap (K8 n))
  |.Call (.Attribute o _ _) _ _ _=>K8 n o
  |.Compare l _ a _=>K8 n l++a.flatMap (K8 n)
  |.BoolOp _ b _=>b.flatMap (K8 n)
  |.UnaryOp _ e _=>K8 n e
  |.BinOp l _ r _=>K8 n l++K8 n r
  |_=>[]
def K9:h_->b_ s_->b_ k_
 |0,_=>[]
 |n+1,a=>a.flatMap λs=>match s with
  |.For _ d b o _=>K8 n d++K9 n b++K9 n o
  |.While c b o _=>K8 n c++K9 n b++K9 n o
  |.If c b o _=>K8 n c++K9 n b++K9 n o
  |.Assign [.Subscript (.Name x _) k _] v _=>(if Vv k then[x]else[])++K8 n v
  |.Assign _ v _=>K8 n v
  |.Expr e _=>K8 n e
  |.Return (a_ e) _=>K8 n e
  |_=>[]
end Pu
end
namespace Pu
open L2
noncomputable def jx:D->D->f_ D
 |.a8 xs,.int i=>atI xs i
 |.ci xs,.int i=>atI xs i
 | .str z, .int i => if z.length <= aG then (match atI z.cps.toList i with
  |some c=>a_ (.str ⟨#[c]⟩)
  |none=>c_)else c_
 |.h7 e_ a,k=>(cf k).bind (cx a)
 |.h7 d_ a,k=>(ar k).bind (fk a)
 |_,_=>c_
inductive rIxD(x:V)(y:V)(H:Hp)(Q:VK):Prop
 |mk (a v) (_:x=.ref a) (_:qt H a y (a_ v)) (_:Q v H):rIxD x y H Q
section
variable{X:Cx}{B:Hp}{E:EK}{a b:Expr}{g h:En->bi}{pos:v_}
def W5(m:X.A.units+5<cP):IxR X rIxD:=by intro value c e s σ H x y v u Q I j i q n;obtain⟨l,w,rfl,f,q⟩:=q;cases j;exact tail_any (Fk I f) PySem.F.slot_dict_getitem.lookup (Oe m I f i λp r o d=>⟨w,H,o,d,q⟩) n
set_option tactic.hygienic true in
def X9{K:KA}:dq K jx (λx y H Q=>RP K x y H Q\/rIxD x y H Q):=λG H x y J z d f o n e Q q=>by
 unfold jx at e;split at e
 .obtain⟨l,p,rfl,r,dl⟩:=o.a8 f;obtain⟨v,i,m⟩:=dl.atI e;exact .inl (.inl ⟨l,p,_,v,_6,n.int,r,i,q _ G H (c6.refl f) m⟩)
 .obtain⟨l,p,rfl,r,dl⟩:=o.ci f;obtain⟨v,i,m⟩:=dl.atI e;exact .inl (.inr (.inl ⟨l,p,_,v,_6,n.int,r,i,q _ G H (c6.refl f) m⟩))
 .split at e
  .rename_i A;split at e
   .rename_i c I;cases e;exact .inl (.inr (.inr ⟨_,_,c,o.str,n.int,A,I,q _ G H (c6.refl f) _6⟩))
   .cases e
  .cases e
 .rename_i s;cases ek:cf z with
  |none=>rw[ek]at e;cases e
  |some j=>rw[ek]at e;obtain⟨l,w,rfl,u,dl⟩:=Arg.dctK f o;obtain⟨v,i,m⟩:=(dl.ky j).1 d e;rw[i0 n ek];refine .inr ⟨l,v,_6,?_,q _ G H (c6.refl f) m⟩;rw[<-i];exact qt.k u
 .rename_i s;cases ek:ar z with
  |none=>rw[ek]at e;cases e
  |some j=>rw[ek]at e;obtain⟨l,w,rfl,u,dl⟩:=Arg.dctT f o;obtain⟨v,i,m⟩:=(dl.ky j).1 d e;obtain⟨b,rfl,C⟩:=Arg.keys f n ek;refine .inr ⟨l,v,_6,?_,q _ G H (c6.refl f) m⟩;rw[<-i];exact .inr ⟨w,j,b,u,_6,C,_6⟩
 .cases e
def JR(c:X.A.units+5<cP)(f:dj X B E a g)(e:dj X B E b h)(d:Ce b:=by intro _ _;rfl):ck X B E (.Subscript a b pos) (g2 jx g h):=PE.imp (JX (CK.or (W5 c)) f e d) λσ H Q q=>LG X9 q
end
end Pu
namespace L2
def a9.drew{X:Cx}{a:b_ (g_×D_)}{σ:St}{H:Hp}{s:aE}(I:a9 X a σ H s)(c:Drawn):a9 X a σ H {s with drawn:=c}:=by have:=I.step (h':=s.1) (H':=H) (g':=s.gens) (d':=c) (t':=s.toks) (ch:=[]) (λq z=>nomatch z) (λb o q q q e q=>e) (λb o q q q e q=>⟨o.slots,e⟩) (λb o q q n=>n) (λb o q e=>⟨o,e⟩) (λq q z=>z) (λq q q z=>z) (λq q z=>z) (λq z=>z) I.e6 I.ln;exact this
end L2
namespace Pu
open L2 PySem.SeqAt PySem.W
theorem Lp{K:KA}{G:Hp}{a:b_ D}{b:b_ V}(dl:bt K G a b):∀{ps:b_ h_},(∀i∈ps,i<_7 a)->bt K G (ps.map λi=>a.getD i D.fm) (ps.map λi=>b.getD i V.fm)
 |[],_=>rfl
 |i::r,h=>by
  refine⟨_,_,_6,?_,Lp dl λj f=>h j (.tail _ f)⟩;have c:∀{a:b_ D}{b:b_ V}(i:h_),bt K G a b->i<_7 a->gy K G (a.getD i D.fm) (b.getD i V.fm):=by
   intro a;induction a with
   |nil=>intro b i _ h;simp at h
   |cons d a e=>
    intro b i dl h;obtain⟨v,m,rfl,g,l⟩:=dl;cases i with
    |zero=>exact g
    |succ i=>simpa using e i l (by simpa using h)
  exact c i dl (h i (.head _))
theorem Nw{a:b_ V}{b:b_ aC}(r:dg a b):∀{ps:b_ h_},(∀i∈ps,i<_7 a)->dg (ps.map λi=>a.getD i V.fm) (ps.map λi=>b.getD i bV)
 |[],_=>.nil
 |i::q,h=>by
  refine .cons ?_ (Nw r λj e=>h j (.tail _ e));have c:∀{a:b_ V}{b:b_ aC}(i:h_),dg a b->i<_7 a->eu (a.getD i V.fm) (b.getD i bV):=by
   intro a b i r;induction r generalizing i with
   |nil=>intro h;simp at h
   |cons f t d=>
    intro h;cases i with
    |zero=>exact f
    |succ i=>simpa using d i (by simpa using h)
  exact c i r (h i (.head _))
noncomputable def Sz:D->f_ (b_ n_)
 |.ci [.str x,.ci a]=>if _N x then(wu a).map (Rk x)else c_
 |_=>c_
def q9:b_ D->f_ (b_ (b_ n_))
 |[]=>a_ []
 |d::a=>match Sz d,q9 a with
  |some k,a_ r=>a_ (k::r)
  |_,_=>c_
set_option tactic.hygienic true in
def W8{d:D}{k:b_ n_}(h:Sz d=a_ k):∃x c,_N x=d_/\k=Rk x c/\d=.ci [.str x,.ci (c.map D.int)]:=by
 unfold Sz at h;split at h
 .rename_i x a;split at h
  .rename_i ok;cases e:wu a with
   |none=>rw[e]at h;cases h
   |some c=>rw[e]at h;cases h;exact⟨x,c,ok,_6,by rw[y7 e]⟩
  .cases h
 .cases h
def zc{d:D}{b:b_ D}{c:b_ (b_ n_)}(h:q9 (d::b)=a_ c):∃k r,Sz d=a_ k/\q9 b=a_ r/\c=k::r:=by
 unfold q9 at h;cases a:Sz d with
 |none=>rw[a]at h;cases h
 |some k=>
  cases e:q9 b with
  |none=>rw[a,e]at h;cases h
  |some r=>rw[a,e]at h;cases h;exact⟨k,r,_6,_6,_6⟩
def ny(b:b_ D):f_ (h_×b_ (b_ n_)):=match w4 b with
 |some a=>a_ (0,a)
 |none=>(q9 b).map λa=>(2,a)
theorem Bx:∀{b:b_ D}{a:b_ (b_ n_)},w4 b=a_ a->_7 a=_7 b
 |[],a,h=>by cases h;rfl
 |d::b,a,h=>by obtain⟨k,r,_,c,rfl⟩:=zb h;rw[aR,aR,Bx c]
theorem By:∀{b:b_ D}{a:b_ (b_ n_)},q9 b=a_ a->_7 a=_7 b
 |[],a,h=>by cases h;rfl
 |d::b,a,h=>by obtain⟨k,r,_,c,rfl⟩:=zc h;rw[aR,aR,By c]
set_option tactic.hygienic true in
def Ka{a:b_ D}{b:h_}{c:b_ (b_ n_)}(h:ny a=a_ (b,c)):_7 c=_7 a:=by
 unfold ny at h;split at h
 .rename_i e;cases h;exact Bx e
 .cases e:q9 a with
  |none=>rw[e]at h;cases h
  |some k=>rw[e]at h;cases h;exact By e
noncomputable def rk(a:b_ D):f_ (b_ D):=if _7 a<2 then a_ a else if _7 a<64 then(match ny a with
  |some (_,b)=>if b.Nodup then a_ ((Aj (b.zip a)).map (·.2))else c_
  |none=>c_)else c_
noncomputable def Ac:D->f_ D
 |.a8 b=>(rk b).map .a8
 |.h7 d_ a=>(rk (a.map (·.1))).map .a8
 |_=>c_
def Ht{a d:b_ D}(h:rk a=a_ d):_7 a<64/\((_7 a<2/\d=a)\/(2<=_7 a/\∃b e,ny a=a_ (b,e)/\e.Nodup/\d=(Aj (e.zip a)).map (·.2))):=by
 unfold rk at h
 by_cases g:_7 a<2
 .rw[aO g]at h;cases h;exact⟨by lia,.inl ⟨g,_6⟩⟩
 .rw[aJ g]at h
  by_cases c:_7 a<64
  .rw[aO c]at h;cases i:ny a with
   |none=>rw[i]at h;cases h
   |some p=>
    obtain⟨b,e⟩:=p;rw[i]at h;dsimp only at h
    by_cases f:e.Nodup
    .rw[aO f]at h;cases h;exact⟨c,.inr ⟨by lia,b,e,_6,f,_6⟩⟩
    .rw[aJ f]at h;cases h
  .rw[aJ c]at h;cases h
section
variable{X:Cx}{au:b_ (g_×D_)}{σ:St}{G H:Hp}{s:aE}
theorem Bz(I:a9 X au σ H s)(i:a6 G H):∀{g:b_ D}{f:b_ (b_ n_)}{a:b_ V}{b:b_ aC},q9 g=a_ f->bt (kx X) G g a->dg a b->i' s 2 b f
 |[],f,a,b,h,dl,r=>by cases h;cases (show a=[]from dl);cases r;trivial
 |d::g,f,a,b,h,dl,r=>by
  obtain⟨k,w,n,m,rfl⟩:=zc h;obtain⟨v,u,rfl,o,p⟩:=dl;obtain⟨x,c,ok,rfl,rfl⟩:=W8 n;cases r with
  |cons j l=>
   refine⟨?_,Bz I i m p l⟩;have e:cw (.ci [.str x,.ci (c.map D.int)])=a_ (.tuple [.str x,.tuple (c.map gF)]):=by rw[cw,ff,ff,ff,cw,cw,wa]
   obtain⟨q,ra⟩:=ui I i o j e;exact⟨_,q,ra,x,c,_6,ok,_6⟩
set_option tactic.hygienic true in
def Kb(I:a9 X au σ H s)(f:a6 G H){a:b_ D}{b:h_}{g:b_ (b_ n_)}{c:b_ V}{d:b_ aC}(h:ny a=a_ (b,g))(dl:bt (kx X) G a c)(r:dg c d):i' s b d g:=by
 unfold ny at h;split at h
 .rename_i e;cases h;exact F8 I f e dl r
 .cases e:q9 a with
  |none=>rw[e]at h;cases h
  |some k=>rw[e]at h;cases h;exact Bz I f e dl r
end
section
variable{X:Cx}{B:Hp}{E:EK}{e:Expr}{g:En->bi}{pos p:v_}
def Hv{f:b_ (g_×D_)}{σ:St}{G H:Hp}{s:aE}{a:g_}{j:b_ D}{Q:VK}(hu:X.A.units+5<cP)(I:a9 X f σ H s)(sg:a6 G H)
  (η:∀(Q':b_ aC->aE->Prop)(E':aC->aE->Prop),(∀d' h' n c C l,(∀b o,s.1.get? b=a_ o->h'.get? b=a_ o)->dg C c->bt (kx X) G l C->rk l=a_ j->Q' c {s with heap:=h',toks:=n,drawn:=d'})->aP (aW X.prog X.w) X.A.in1 (collect (.ref a)) Q' E' s)
  (q:∀p d,H p=c_->bt (kx X) G j d->Q (.ref p) (c0 H p (.a8 d))):aP (aW X.prog X.w) X.A (call (.builtin "sorted") [.ref a]) (EP X f σ Q) X.xe s:=by
 refine Calls.call_function_entry kind_sorted plain_sorted entry_sorted (args_sorted1 _) ?_;unfold z_.«sorted»;refine aA (m:=checkCount "sorted" 1 1 _) (aD (aA (η _ _ λL h n c C l k1 M dl e=>?_)));obtain⟨Φ,hh⟩:=Ht e;have n1:_7 c=_7 C:=M.length.symm;have U:_7 C=_7 l:=dl.length.symm;have zl:_7 c<=aG:=by rw[eS];lia
 refine aA (wpAny_newList ?_ zl);have I1:a9 X f σ H {s with heap:=h,toks:=n,drawn:=L}:=(I.drew L).kd k1;have y:(h.push (oQ "list" c.toArray 0)).get? h.objs.size=a_ (oQ "list" c.toArray 0):=aI _ _6;have O:∀b o,h.get? b=a_ o->(h.push (oQ "list" c.toArray 0)).get? b=a_ o/\b≠h.objs.size:=λb o e=>⟨aB _ e,bE (aM e)⟩;have hR:2<=_7 c->Cf X.prog X.w X.A.in1.in1 c c (λp=>fD c.length p/\∃b u,ny l=a_ (b,u)/\u.Nodup/\So (vc u) p c.length/\j=(Aj (u.zip l)).map (·.2)) {s with heap:=Kk (h.push (oQ "list" c.toArray 0)) h.objs.size c,toks:=n,drawn:=L}:=λh2=>by
  obtain ⟨z,_⟩|⟨_,b,u,T,N,hd⟩:=hh
  .lia
  .have I2:a9 X f σ H {s with heap:=Kk (h.push (oQ "list" c.toArray 0)) h.objs.size c,toks:=n,drawn:=L}:=I1.kd (t':=n) λb o e=>Tc (O b o e).1 (O b o e).2;have ka:=Kb I2 sg T dl M;intro E';refine cA (FM (prog:=X.prog) (w:=X.w) (A:=X.A.in1.in1) (vs:=c) _6 ka h2 (by lia) N (by show X.A.units+1+1+1<cP;lia) E') (λκ s' g=>⟨g.1,λE2=>cA (g.2 E2) (λr s2 g2=>?_) λZ Z x=>x⟩) λZ Z x=>x;obtain⟨g1,g2,p,⟨g3,g4⟩,g5,g6⟩:=g2;exact⟨g1,g2,p,⟨g3,b,u,T,N,g4,hd⟩,g5,g6⟩
 refine aA (cK (cL slot_list_sort ⟨_,y,_6⟩ entry_list_sort (K3 (s:={s with heap:=h.push (oQ "list" c.toArray 0),toks:=n,drawn:=L}) y (by lia) hR λv ho=>⟨_,_6,aD ⟨_,_6,?_⟩⟩) (args_list_sort _)));obtain⟨ep,ε⟩:=sortedHeap_at (out:=v.toArray) y;have Y:∃d,bt (kx X) G j d/\dg d v:=by
  obtain ⟨z,rfl⟩|⟨z,p,⟨hp,b,u,T,N,hs,hd⟩,Δ,rfl⟩:=ho
  .obtain ⟨_,rfl⟩|⟨z2,_⟩:=hh
   .exact⟨C,dl,M⟩
   .lia
  .have J:fD l.length p:=by rw[<-U,<-n1];exact hp
   have α:So (vc u) p l.length:=by rw[<-U,<-n1];exact hs
   have lt:∀i∈p.toList,i<_7 l:=λi hi=>_a.mp (J.mem_iff.mp hi);rw[hd,<-Pq (Ka T) N J α];exact⟨_,Lp dl lt,Nw M λi hi=>by rw[U];exact lt i hi⟩
 obtain⟨d,d',v'⟩:=Y;have z:_7 d<=aG:=by rw[v'.length,ho.len];exact zl
 refine⟨.ref h.objs.size,_,I1.nn (a:=h.objs.size) (o:=.a8 d) (t':=n) (λb o e=>?_) (aL _) ⟨z,v,ep,v',ε⟩,_6,q _ d (I1.e6.fresh (aL _)) d'⟩;have β:=aM e;rw[sortedHeap_old (O b o e).2 (by rw[bX];exact oH β)];exact(O b o e).1
def Ak{c:b_ (g_×D_)}{σ:St}{G H:Hp}{s:aE}{a:g_}{d:b_ aC}{l:b_ V}{n h:b_ D}{Q:VK}(y:X.A.units+5<cP)(I:a9 X c σ H s)(v:a6 G H)(x:dg l d)(dl:bt (kx X) G n l)(e:rk n=a_ h)
  (r:∀(j:b_ aC->aE->Prop)(u:aC->aE->Prop),(∀i m,(∀b o,s.1.get? b=a_ o->i.get? b=a_ o)->j d {s with heap:=i,toks:=m})->aP (aW X.prog X.w) X.A.in1 (collect (.ref a)) j u s)
  (q:∀p f,H p=c_->bt (kx X) G h f->Q (.ref p) (c0 H p (.a8 f))):aP (aW X.prog X.w) X.A (call (.builtin "sorted") [.ref a]) (EP X c σ Q) X.xe s:=
 Hv y I v (λj u z=>r j u λi m k=>z s.drawn i m d l n k x dl e) q
def rG(h:r_)(d:g_)(es:q_ mE)(a:h_):Prop:=∃o,h.get? d=a_ o/\o.ExactDict/\o.data=.dict es a
section
variable{prog:aV}{w:bP}{A:bT}{E:aC->aE->Prop}{s:aE}{d:g_}{es:q_ mE}{ep:h_}
def rG.ty(h:rG s.1 d es ep):s.TypeIs (.ref d) "dict":=let ⟨o,b,a,_⟩:=h;⟨o,b,a.1⟩
def Hn{Q:aC->aE->Prop}(h:(d==dD)=e_)(f:rG s.1 d es ep)
  (i:Q (.ref s.1.1.size) {s with heap:=s.1.push {cls:=.type "dict_keyiterator",data:=.fields #[.ref d,.int 0 0,.int es.size 0,.int ep 0]}}):
  aP (aW prog w) A (a! (.ref d)) Q E s:=by
 have b:=f.ty;obtain⟨o,c,j,a⟩:=id f;refine wpAny_pyIter_slot b F.slot_dict_iter (cL F.slot_dict_iter b F.entry_dict_iter ?_ (F.args_dict_iter_1 _));unfold z_.«dict.__iter__»;refine aA ?_;unfold Builtin.Dict.dictSlotNone;refine aA (fK b ?_);show aP _ _ (pure (bH d)) _ _ s;refine aD ?_;show aP _ _ (gY d>>=_) _ _ s;unfold gY;rw[aJ (by rw[h];exact p_)];refine aA (aD ?_);refine aA (dI c a ?_);refine aA (gG c a ?_);refine aA (cR (aD ⟨_,_6,"dict_keyiterator",_,⟨_,aI _ _6,_6⟩,F.slot_dict_keyiterator_next.lookup,?_⟩));simpa[cX]using i
def Hm{b:g_}{i:h_}{Q:f_ aC->aE->Prop}(a:s.1.IsKeyIter b d i es.size ep)(r:rG s.1 d es ep)(j:i<es.size)
  (x:∀q,q.IsKeyIter b d (i+1) es.size ep->bN b s.1 q->Q (a_ es[i].key) {s with heap:=q}):aP (aW prog w) A (eY (.ref b)) Q E s:=by
 obtain⟨o,n,v,m⟩:=id a;obtain⟨od,h,u,l⟩:=id r;unfold eY;refine aA (eO (cJ (name:=fF "__next__") a.typeIs gH
  (cL gH a.typeIs mU ?_ (mF _))))
 refine aA (aD ?_);refine aA ?_;refine aA ?_
 first|refine aA (fU a.typeIs (aD ?_))|refine aA (iI a.typeIs (aD ?_))
 refine aA (nS n m ?_);have f:eP "dict_keyiterator"=e_:=by decide
 simp only[f,m_,A_];show aP _ _ (if(bH d==bV)=d_ then _ else _) _ _ s;rw[aJ (show¬((bH d==bV)=d_)from p_)];refine aA (aD ?_);refine aA (dI h l ?_);rw[aJ (by simp)];refine aA (aD ?_);refine aA (gG h l ?_);rw[aJ (by simp)];refine aD ?_;simp only[show¬((i:n_)<0)from by omega,A_,fG,cC j];refine aA ?_
 first|refine aA (fU a.typeIs (aD ?_))|refine aA (iI a.typeIs (aD ?_))
 refine aA (G! a.typeIs ?_);show aP _ _ (pB (.ref b) 1 (cX ((i:n_)+1))>>=_) _ _ s;refine aA (gW n m (by simp) ?_);have c:(s.1.update b (iZ (·.setIfInBounds 1 (cX ((i:n_)+1))))).IsKeyIter b d (i+1) es.size ep:=
  ⟨_,dR _ n (jA (fN m _)),(oG ..).trans v,by rw[fN m];simp[cX]⟩
 refine aA (cK ?_);refine aA (G! (s:={s with heap:=s.1.update b (iZ (·.setIfInBounds 1 (cX ((i:n_)+1))))}) c.typeIs ?_);show aP _ _ (pure es[i].key) _ _ _;exact aD (aD ⟨_,_6,aD (x _ c (dQ ..))⟩)
def Nd{j:g_}{Q:f_ aC->aE->Prop}(u:A.handled=c_)(c:s.1.IsKeyIter j d es.size es.size ep)(r:rG s.1 d es ep)
  (x:∀q,lB j s.1 q->Q c_ {s with heap:=q}):aP (aW prog w) A (eY (.ref j)) Q E s:=by
 obtain⟨o,l,y,n⟩:=id c;obtain⟨od,h,v,i⟩:=id r;unfold eY;refine aA (eO (cJ (name:=fF "__next__") c.typeIs gH
  (cL gH c.typeIs mU ?_ (mF _))))
 refine aA (aD ?_);refine aA ?_;refine aA ?_
 first|refine aA (fU c.typeIs (aD ?_))|refine aA (iI c.typeIs (aD ?_))
 refine aA (nS l n ?_);have f:eP "dict_keyiterator"=e_:=by decide
 simp only[f,m_,A_];show aP _ _ (if(bH d==bV)=d_ then _ else _) _ _ s;rw[aJ (show¬((bH d==bV)=d_)from p_)];refine aA (aD ?_);refine aA (dI h i ?_);rw[aJ (by simp)];refine aA (aD ?_);refine aA (gG h i ?_);rw[aJ (by simp)];refine aD ?_;simp only[show¬((es.size:n_)<0)from by omega,A_,fG,_Q (aL es.size)];refine aA ?_
 first|refine aA (fU c.typeIs (aD ?_))|refine aA (iI c.typeIs (aD ?_))
 show aP _ _ (pB (.ref j) 0 .none>>=_) _ _ s;refine aA (gW l n (by simp) ?_);show aP _ _ (y! (.type "StopIteration") []>>=_) _ _ _;refine aA ?_;simp only[y!,o?];refine aA (cR ?_ (by size_fits));refine aA (m:=jQ _ _) (mS (a:=bV) (by first|rfl|(simp only[jQ];rfl)) ?_);refine cR ?_ (by size_fits);simp only[raiseNew];refine aA (K? ?_);rw[show A.in1.handled=c_ from u];refine aA (aD (W! ?_));refine aA (fL (T:="StopIteration") (b:=d_) ⟨_,aI _ _6,_6⟩ nT ?_);exact aD (x _ (((dQ ..).extBut.push _).push _))
def Qe(y:A.handled=c_)(I:g_)(l:d≠I):Walks prog w A I [I,d] [I] es.size (λi v=>∃e,es[i]?=a_ e/\v=e.key) (λi h=>h.IsKeyIter I d i es.size ep/\rG h d es ep) where
 sub:=λb a=>by simp at a;simp[a]
 frame:=λz z z st u=>⟨st.1.at λo e=>u I (by simp) o e,let ⟨o,q,n⟩:=st.2;⟨o,u d (by simp) o q,n⟩⟩
 item:=λi s Q E x st j=>Hm st.1 st.2 x λr f c=>j _ r s.toks ⟨_,cC x,_6⟩ ⟨f,let ⟨o,q,n⟩:=st.2;⟨o,c.extBut d o l q,n⟩⟩ λb o a e=>c.extBut b o (λh=>a (by simp[h])) e
 done:=λs Q E st j=>Nd y st.1 st.2 λr m=>j r s.toks λb o a e=>m b o (λh=>a (by simp[h])) e
 self:=λz z z z st j=>X! st.1 j
def Y4(lo:(d==dD)=e_):z! prog w "dict" d d es.size (λi v=>∃e,es[i]?=a_ e/\v=e.key) (λh=>rG h d es ep) where
 type:=λz a=>a.ty
 there:=λz a=>let ⟨_,b,_⟩:=a;⟨aM b,aM b⟩
 keep:=λz z a j=>let ⟨o,b,f⟩:=a;⟨o,j d (.inl _6) o b,f⟩
 notList:=by decide
 notTuple:=by decide
 hint:=λz z z z a c=>PySem.W.kdl_hint_dict a.ty c
 iter:=λz z l a=>⟨_,_,(λz z c=>Hn lo a c),Qe l _ (let ⟨_,b,_⟩:=a;bE (aM b)),⟨⟨_,aI _ _6,_6,_6⟩,let ⟨o,b,f⟩:=a;⟨o,aB _ b,f⟩⟩⟩
end
noncomputable def gT(G H:Hp):Hp:=λb=>match H b with
 |some (.ci a)=>a_ (.ci a)
 |_=>G b
def Dg{G H:Hp}{b:g_}{a:b_ V}(h:H b=a_ (.ci a)):gT G H b=a_ (.ci a):=by unfold gT;rw[h]
set_option tactic.hygienic true in
def Jw{G H:Hp}{b:g_}(h:∀a,H b≠a_ (.ci a)):gT G H b=G b:=by
 unfold gT;split
 .rename_i a e;exact u_ e (h a)
 .rfl
def nq{G H:Hp}(d:a6 G H):c6 G H (gT G H) H:=by
 refine⟨λb u q=>?_,a6.refl H,λb u q=>?_,λb u q g z=>?_⟩
 .have:=d b u q
  by_cases c:∃a,u=.ci a
  .obtain⟨a,rfl⟩:=c;exact Dg this
  .rw[Jw λa e=>c ⟨a,by rw[this]at e;cases e;rfl⟩];exact q
 .by_cases c:∃a,H b=a_ (.ci a)
  .obtain⟨a,e⟩:=c;rw[Dg e]at q;rw[e];exact q
  .rw[Jw λa e=>c ⟨a,e⟩]at q;exact d b u q
 .rw[Jw λa e=>by rw[q]at e;cases e;cases z];exact g
def Rf{K:KA}{G:Hp}(k:cj):gy K G (kD k) (kV k):=by cases k<;>exact _6
theorem Lq{K:KA}{G:Hp}:∀a:b_ cj,bt K G (a.map kD) (a.map kV)
 |[]=>rfl
 |k::r=>⟨_,_,_6,Rf k,Lq r⟩
def Rg{K:KA}{G H:Hp}{k:NK}{v:V}(h:nkAt H k v):gy K (gT G H) (DX k) v:=by
 cases k with
 |inl k=>rw[show v=kV k from h];exact Rf k
 |inr a=>obtain⟨b,rfl,q⟩:=h;exact⟨b,_,_6,Dg q,Lq a⟩
theorem Fi{K:KA}{G H:Hp}:∀{b:ah}{a:b_ V},NkL H b a->bt K (gT G H) (b.map DX) a
 |[],_,h=>h
 |_::_,_,⟨v,t,e,d,c⟩=>⟨v,t,e,Rg d,Fi c⟩
def Jj{K:KA}{G H:Hp}{k:ah}{b:g_}(h:p0 H k b):gy K (gT G H) (kT k) (.ref b):=by obtain⟨a,d,c⟩:=h;exact⟨b,a,_6,Dg d,Fi c⟩
theorem Cu{K:KA}{G H:Hp}:∀{es:b_ (ah×V)}{xs:b_ (ah×g_×aC)},KT H es xs->bt K (gT G H) (es.map λp=>kT p.1) (xs.map λq=>V.ref q.2.1)/\dg (xs.map λq=>V.ref q.2.1) (xs.map λq=>bH q.2.1)
 |_,_,.nil=>⟨_6,.nil⟩
 |_,_,.cons h t=>⟨⟨_,_,_6,Jj h.2.1,(Cu (K:=K) (G:=G) t).1⟩,.cons _6 (Cu (K:=K) (G:=G) t).2⟩
theorem gw{K:KA}{G:Hp}:∀{a:b_ (D×D)}{es:b_ (ah×V)},fu K G a es->a.map (·.1)=es.map λp=>kT p.1
 |[],_,h=>by rw[show _=[]from h];rfl
 |(_,_)::_,_,⟨k,v,r,d,c,_,b⟩=>by rw[d,bK,bK,gw b,c]
def FP(X:Cx):b_ V->Hp->VK->Prop:=λxs H Q=>(∃a d G h c,xs=[.ref a]/\h8 X.K H a d/\a6 G H/\bt (kx X) G h d/\rk h=a_ c/\∀p b,H p=c_->bt (kx X) G c b->Q (.ref p) (c0 H p (.a8 b)))\/
 ∃a f G c,xs=[.ref a]/\Rd H a (.dT f)/\a6 G H/\rk (f.map λp=>kT p.1)=a_ c/\∀p b,H p=c_->bt (kx X) (gT G H) c b->Q (.ref p) (c0 H p (.a8 b))
def Iy(N:X.A.units+5<cP)(hc:X.calm=d_):lf X (.builtin "sorted") (FP X):=by
 intro L s σ H xs us Q I r q;obtain ⟨a,J,G,ds,C,rfl,sq,n,dl,e,q⟩|⟨a,es,G,C,rfl,ha,n,e,q⟩:=q
 .obtain⟨u,rfl,v⟩:=ik r;cases v;obtain⟨f,j,pl,_⟩:=I.list sq;have η:=(Ht e).1;have n1:_7 f=_7 J:=j.length.symm;have n2:_7 J=_7 ds:=dl.length.symm;have m:_7 f<=aG:=by rw[eS];lia
  refine Ak N I n j dl e (λQ' E' x=>collect_list pl.isList (x _ _ λb o e=>?_) m) q;rw[H? _ _ _ _ (bE (aM e))];exact aB _ e
 .obtain⟨u,rfl,v⟩:=ik r;cases v;obtain⟨z,hd,xs,rel,o,l,ep,h1,h2,h3,T,_⟩:=show fb X.prog X.w H s.1 a (.dT es)from Rd.ok ha I.e6;obtain⟨dl,j⟩:=Cu (K:=kx X) (G:=G) rel;have M:l.size=_7 xs:=by have:=C_ fT T;simpa using this
  have m:l.size<=aG:=by rw[M,<-eA rel];exact z
  refine Ak (G:=gT G H) N I (nq n).gh j dl e (λQ' E' x=>?_) q;refine _W (A:=X.A.in1) (Y4 (es:=l) (ep:=ep) hd) (I.ok.hd hc) ⟨o,h1,h2,h3⟩ m λh' Y c hk d=>?_;have ew:c.toList=xs.map λq=>bH q.2.1:=by
   refine oI λi=>?_
   by_cases O:i<c.size
   .have y:c.toList[i]?=a_ c[i]:=by rw[eK];exact cC O
    obtain⟨e,e1,e2⟩:=d.2 i c[i] (cC O);have h:l.toList[i]?=a_ e:=by rw[eK];exact e1
    rw[T,bY]at h;rw[y,bY,e2];cases U:xs[i]? with
    |none=>rw[U]at h;cases h
    |some q=>rw[U]at h;cases h;rfl
   .rw[jB (by rw[eE];lia),jB (by rw[bB,<-M,<-d.1];lia)]
  rw[ew];exact x h' Y hk
set_option tactic.hygienic true in
def Px(u:X.A.units+5<cP)(y:X.calm=d_)(w:Gl X "sorted")(v:X.mg "sorted"=c_)(z:dj X B E e g)(m:aU [e] X.env=(e_,I_ e X.env)::aU [] X.env):ck X B E (.Call (.Name "sorted" p) [e] [] pos) (g1 Ac g):=
 PE.imp (jm (Iy u y) w v PyProof.Rows.boot_sorted (de z f9 m) (by decide) (by decide) m _6) λσ H Q q=>GI (λG H x J d b o a Q q=>by
  unfold Ac at a;split at a
  .rename_i n;cases e:rk n with
   |none=>rw[e]at a;cases a
   |some f=>rw[e]at a;cases a;obtain⟨l,r,rfl,s,dl⟩:=o.a8 b;exact .inl ⟨l,r,G,n,f,_6,s,b,dl,e,λp c h j=>q _ (c0 G p (.a8 c)) _ (c6.new b _ h) (m9 b h j)⟩
  .rename_i i;cases e:rk (i.map (·.1))with
   |none=>rw[e]at a;cases a
   |some f=>rw[e]at a;cases a;obtain⟨l,I,rfl,C,dl⟩:=Arg.dctT b o;rw[gw dl]at e;exact .inr ⟨l,I,G,f,_6,C,b,e,λp c h j=>q _ (c0 (gT G H) p (.a8 c)) _ ((nq b).trans (c6.new (nq b).gh _ h)) (m9 (nq b).gh h j)⟩
  .cases a) q
end
end Pu
namespace ST
open PySem.SetTable
abbrev Ris(xs:q_ h_):Prop:=xs.toList.Pairwise (· <·)
def Ris.lt{xs:q_ h_}(h:Ris xs){a b x y:h_}(c:a<b)(e:xs[a]?=a_ x)(d:xs[b]?=a_ y):x<y:=by rw[<-eK]at e d;obtain⟨g,rfl⟩:=i_.mp e;obtain⟨f,rfl⟩:=i_.mp d;exact R_.mp h a b g f c
def Ris.inj{xs:q_ h_}(h:Ris xs){a b x:h_}(d:xs[a]?=a_ x)(c:xs[b]?=a_ x):a=b:=by
 rcases Nat.lt_trichotomy a b with z|z|z
 .exact u_ (h.lt z d c) (cQ _)
 .exact z
 .exact u_ (h.lt z c d) (cQ _)
structure Own(mask:h_)(owner:q_ (f_ h_))(L:b_ h_):Prop where
 size:owner.size=mask+1
 nd:L.Nodup
 le:∀j∈L,j<=mask
 nz:∀(j i:h_),owner[j]?=a_ (a_ i)↔L[i]?=a_ j
def Own.none{mask:h_}{a:q_ (f_ h_)}{L:b_ h_}(O:Own mask a L){j:h_}(f:j<=mask):(a.getD j (a_ 0)).isNone=d_↔j∉L:=by
 have b:j<a.size:=by rw[O.size];lia
 have d:a.getD j (a_ 0)=a[j]:=by simp[Array.getD,b]
 rw[d];cases e:a[j]with
 |none=>refine⟨λq z=>?_,λq=>rfl⟩;obtain⟨i,c⟩:=y? z;have:=(O.nz j i).mpr c;rw[cC b,e]at this;cases this
 |some i=>refine⟨λz=>(by cases z),λz=>u_ (eT ((O.nz j i).mp ?_)) z⟩;rw[cC b,e]
end ST
namespace L2
section
variable{prog:aV}{w:bP}{A:bT}{E:aC->aE->Prop}{s:aE}
inductive ElK(prog:aV)(w:bP)(h:r_)(e:n_×aC)(k:ah):Prop
 |mk (_:e.1=(bw prog w).hash k) (b) (_:e.2=.ref b) (_:il prog w h k b):ElK prog w h e k
def ElsK(prog:aV)(w:bP)(h:r_):b_ (n_×aC)->b_ ah->Prop
 |[],a=>a=[]
 |e::b,a=>∃k r,a=k::r/\ElK prog w h e k/\ElsK prog w h b r
theorem ElsK.len{h:r_}:∀{es:b_ (n_×aC)}{a:b_ ah},ElsK prog w h es a->_7 es=_7 a
 |[],a,e=>by rw[show a=[]from e];rfl
 |_::_,_,⟨k,r,e,_,t⟩=>by rw[e,aR,aR,t.len]
end
def Wv(T:b_ ah)(k:ah):l_:=T.any λx=>decide (x=k)
end L2
namespace Pu
open L2
def KeysIn(a:aV)(w:bP)(h:r_):b_ aC->b_ ah->Prop
 |[],c=>c=[]
 |v::d,c=>∃k r b,c=k::r/\v=.ref b/\il a w h k b/\KeysIn a w h d r
theorem KeysIn.len{a:aV}{w:bP}{h:r_}:∀{d:b_ aC}{c:b_ ah},KeysIn a w h d c->_7 d=_7 c
 |[],c,e=>by rw[show c=[]from e];rfl
 |_::_,_,⟨k,r,b,e,_,_,t⟩=>by rw[e,aR,aR,t.len]
def DrIt(h:r_)(I T a:g_)(i n b:h_):Prop:=h.get? I=a_ {cls:=.type "set_iterator",data:=.fields #[.ref T,cX i,.ref a,cX n,cX b]}
section
variable{prog:aV}{w:bP}{A:bT}{E:aC->aE->Prop}{s:aE}{a I T:g_}{es:q_ (n_×aC)}{ep i:h_}{t:SetTable}{ys:b_ h_}
def DrIt.ty{n:h_}(h:DrIt s.1 I T a i n ep):s.TypeIs (.ref I) "set_iterator":=⟨_,h,_6⟩
end
end Pu
namespace L2
section
variable{X:Cx}{au:b_ (g_×D_)}{σ:St}{H:Hp}{s:aE}{h':r_}{t':h_}{fs:b_ g_}
def a9.turnedL(I:a9 X au σ H s)(f:∀b∈fs,qI X au H b)(k:∀b o,b∉fs->s.1.get? b=a_ o->h'.get? b=a_ o):a9 X au σ H {s with heap:=h',toks:=t'}:=by
 have nk:∀{b:g_}{o:HO},H b=a_ o->b∉fs:=λ{b o} q c=>by rw[(f b c).1]at q;cases q
 refine I.step (g':=s.gens) (d':=s.drawn) (ch:=fs) (λb c=>?_) (λb o Z Z a q Z=>k b o a q) (λb o Z Z a q Z=>⟨o.slots,k b o a q⟩) (λb o Z q n=>n) (λb o a q=>⟨o,k b o a q⟩)
  (λb h q=>q) (λb o v q=>q) (λb y q=>q) (λm l=>?_) (λb i q=>?_) I.ln
 .obtain⟨J,x,G,w,u,p⟩:=f b c;exact⟨w,x,u,p⟩
 .obtain⟨o,A,B,j,r⟩:=l;exact⟨o,A,B,k _ o (λc=>(f _ c).2 _6) j,r⟩
 .refine(I.e6 b i q).qZ (λd e g r=>k d e ?_ r) (λd z=>z) (λd h z=>z) λd E C z=>z;obtain z|z:=g
  .rw[z];exact nk q
  .exact nk z
def a9.rd(I:a9 X au σ H s)(f:∀b∈fs,qI X au H b)(k:∀b o,b∉fs->s.1.get? b=a_ o->h'.get? b=a_ o){x y:V}{u v:aC}(j:h'.get? s.1.1.size=a_ {cls:=.type "tuple",data:=.seq #[u,v]})(p:eu x u)(l:eu y v):
  a9 X au σ (c0 H s.1.1.size (.ci [x,y])) {s with heap:=h',toks:=t'}:=by
 have iV:H s.1.1.size=c_:=I.e6.fresh (aL _);have nk:∀{b:g_}{o:HO},H b=a_ o->b∉fs:=λ{b o} q a=>by rw[(f b a).1]at q;cases q
 have up:∀{b:g_}{o:HO},H b=a_ o->c0 H s.1.1.size (.ci [x,y]) b=a_ o:=λq=>(aa (ak q iV)).trans q;refine I.step (g':=s.gens) (d':=s.drawn) (ch:=fs) (λb a=>?_) (λb o Z Z c q Z=>k b o c q) (λb o Z Z c q Z=>⟨o.slots,k b o c q⟩) (λb o Z q n=>?_) (λb o c q=>⟨o,k b o c q⟩)
  (λb h q=>up q) (λb o v q=>up q) (λb y q=>up q) (λm A=>?_) (λb i q=>?_) I.ln
 .obtain⟨Q,G,O,E,C,B⟩:=f b a;exact⟨E,G,C,B⟩
 .rw[aa (bE (aM q))];exact n
 .obtain⟨o,J,L,w,r⟩:=A;exact⟨o,J,L,k _ o (λa=>(f _ a).2 _6) w,r⟩
 .by_cases a:b=s.1.1.size
  .subst a;rw[ae]at q;cases q;exact⟨by rw[eS];simp,[u,v],.cons p (.cons l .nil),_,j,_6,0,_6⟩
  .rw[aa a]at q;refine(I.e6 b i q).qZ (λd e g r=>k d e ?_ r) (λd z=>up z) (λd h z=>up z) λd N M z=>up z;obtain z|z:=g
   .rw[z];exact nk q
   .exact nk z
end
end L2
namespace Pu
open L2
def OY(K:aK)(a:g_):It:=
 ⟨λi H=>∃xs x,h8 K H a xs/\xs[i]?=a_ x,λi H v b=>∃p x,H p=c_/\v=.ref p/\b=c0 H p (.ci [.int (i:n_),x])/\∀xs,h8 K H a xs->xs[i]?=a_ x,λi H=>∃xs,h8 K H a xs/\_7 xs<=i⟩
def SI(e b a:g_)(i:h_)(h:r_):Prop:=(∃nk,nU h e b (i:n_) nk)/\h.IsListIter b a i
def P9{P:aV}{w:bP}{K:aK}{G:b_ Expr}{k1}{tp:v_}(a e d:g_)(n:e≠d):qO P w K (.Tuple G k1 tp) (OY K a) [e,d] e (SI e d a) where
 mem:=by simp
 obj:=λi h st b c=>by
  obtain⟨⟨nk,f⟩,o,Q,hc,hd⟩:=st;rcases o_.mp c with rfl|c
  .exact⟨_,f,λv z=>by
    have z':mQ _=lY v:=z;cases z'⟩
  .have e:b=d:=by simpa using c
   subst e;exact⟨o,Q,λv z=>by rw[hd]at z;cases z⟩
 keep:=λi h h' st k=>⟨let ⟨nk,f⟩:=st.1;⟨nk,k e (by simp) _ f⟩,st.2.at λo q=>k d (by simp) o q⟩
 item:=by
  intro X hP N hK hc i j s σ H E I m st U;subst hP N hK;obtain⟨xs,x,B,M⟩:=U;obtain⟨L,J,p,hz⟩:=I.list B;obtain⟨u,hu,ru⟩:=J.get M;obtain⟨⟨nk,f⟩,g⟩:=st;obtain⟨f0,f1,f2,f3,f4,f5⟩:=m e (by simp);obtain⟨g0,g1,g2,g3,g4,g5⟩:=m d (by simp);have iV:H s.1.1.size=c_:=I.e6.fresh (aL _);have A:e<s.1.1.size:=aM f;refine wpAny_pyNext_enum_item f g p.isList (x:=u) (by simpa using hu) n λh1 α r O ψ T=>?_;refine⟨_,_6,p? α λC Y sb=>?_⟩;have l:bN e h1 C:=sb;have k2:∀b o,b≠e->b≠d->s.1.get? b=a_ o->C.get? b=a_ o:=λb o y ε q=>l.extBut b o y (T b o y ε q);have t2:C.get? s.1.1.size=a_ {cls:=.type "tuple",data:=.seq #[.int (i:n_) s.toks,u]}:=l.extBut _ _ (cE A) O;have η:∀{b:g_}{o:HO},H b=a_ o->b≠s.1.1.size/\b≠e/\b≠d:=λ{b o} q=>⟨ak q iV,ak q f0,ak q g0⟩;have ch:∀b,b∉[e,d]->b≠e/\b≠d:=λb c=>by simpa using c
  have I2:a9 X j σ (c0 H s.1.1.size (.ci [.int (i:n_),x])) {s with heap:=C,toks:=s.toks+1}:=I.rd m (λb o c q=>k2 b o (ch b c).1 (ch b c).2 q) t2 ⟨_,_6⟩ ru;refine⟨.ref s.1.1.size,_,I2,_6,⟨_,x,iV,_6,_6,λys hy=>by rw[I.list_inj hy B];exact M⟩,⟨⟨u,?_⟩,?_⟩,λb c=>?_⟩
  .have:((i+1:h_):n_)=(i:n_)+1:=by push_cast;rfl
   rw[this];exact Y
  .exact r.at λo q=>l.extBut d o (cW n) q
  .have z:=(m b c).1;have:b<s.1.1.size:=by
    rcases o_.mp c with rfl|c
    .exact A
    .have z:b=d:=by simpa using c
     subst z;obtain⟨o,Q,_⟩:=g;exact aM Q
   rw[aa (bE this)];exact z
 done:=by intro X hP N hK hc i j s σ H E I m st U;subst hP N hK;obtain⟨xs,B,M⟩:=U;obtain⟨L,J,p,hz⟩:=I.list B;obtain⟨⟨nk,f⟩,g⟩:=st;obtain⟨g0,g1,g2,g3,g4,g5⟩:=m d (by simp);have hl:=J.length;exact wpAny_pyNext_enum_end (I.ok.hd hc) f g p.isList (by simp;lia) λh' eb=>⟨_6,I.ii (t':=s.toks) (λb o c e=>eb b o c e) g0 g1 g3 g4 g5⟩
 self:=λZ Z Z Z Z st h=>let ⟨_,f⟩:=st.1;lM f h
def nh:h_->b_ D->b_ D
 |_,[]=>[]
 |i,d::r=>.ci [.int (i:n_),d]::nh (i+1) r
theorem vm:∀(i:h_)(a:b_ D),(nh i a).length=_7 a
 |_,[]=>rfl
 |i,d::r=>by rw[nh,aR,aR,vm]
theorem vk:∀(i j:h_)(a:b_ D),(nh i a)[j]?=(a[j]?).map λd=>.ci [.int ((i+j:h_):n_),d]
 |_,_,[]=>by simp[nh]
 |i,0,d::r=>by simp[nh]
 |i,j+1,d::r=>by rw[nh,dE,dE,vk (i+1) j r];rw[show i+1+j=i+(j+1) by lia]
section
variable{X:Cx}{B:Hp}{E:EK}{e:Expr}{g:En->bi}{pos p tp:v_}{tes:b_ Expr}{k1:h_}
def Sr{K:KA}{a:g_}{r:Hp}{l:b_ D}{b:b_ V}{S:Hp->Hp->Prop}(h:∀G H,S G H->a6 G H->h8 K H a b/\a6 r G)(dl:bt K r l b):rm K (OY K a) (nh 0 l) S:=λi G H s f=>by
 obtain⟨q,g⟩:=h G H s f;refine⟨λd c=>?_,λn=>⟨b,q,by rw[vm]at n;rw[<-dl.length];exact n⟩⟩;rw[vk,Nat.zero_add]at c;cases j:l[i]? with
 |none=>rw[j]at c;cases c
 |some I=>rw[j]at c;cases c;obtain⟨v,o,C⟩:=dl.get j;refine⟨⟨b,v,q,o⟩,λx J ⟨p,y,m,A,w,u⟩=>?_⟩;subst A w;have z:=u b q;rw[o]at z;cases z;exact⟨_,c6.new f (.ci [.int (i:n_),v]) m,gz f m (bt.append (bt.pv (d:=.int (i:n_)) _6) (bt.pv (C.am g)))⟩
end
section
variable{prog:aV}{w:bP}{A:bT}{E:aC->aE->Prop}{s:aE}
def gp{c t:g_}{i:h_}{a}{x:aC}{Q:aC->aE->Prop}(b:fY s.1 c t i)(l:iJ s.1 t a)(j:a[i]?=a_ x)
  (n:∀h,fY h c t (i+1)->bN c s.1 h->Q x {s with heap:=h}):aP (aW prog w) A (bR (.ref c)) Q E s:=by
 obtain⟨o,e,m,d⟩:=id b;obtain⟨p,f,_,q,g⟩:=l;unfold bR;refine aA (cJ (name:=fF "__next__") b.typeIs jY (cL jY b.typeIs Y! ?_ (args_tupleiter_next _)));show aP _ _ (nV (.ref c) 0>>=_) _ _ s;refine aA (bU e d (x:=.ref t) _6 ?_);show aP _ _ (if(bH t==bV)=d_ then _ else _) _ _ s;rw[aJ (show¬((bH t==bV)=d_)from p_)];show aP _ _ (nV (.ref c) 1>>=_) _ _ s;refine aA (bU e d (x:=.int i 0) _6 ?_);show aP _ _ (qF (.ref t)>>=_) _ _ s;refine aA (cV f g ?_);simp only[fG,j];refine aA (gW e d (by simp) (aD ⟨x,_6,aD (n _ ?_ (dQ ..))⟩));exact⟨_,dR _ e (jA (fN d _)),(oG ..).trans m,by
  rw[fN d];simp[cX]⟩
def ib{d t:g_}{i:h_}{b}{Q:aC->aE->Prop}(n:A.handled=c_)(c:fY s.1 d t i)(q:iJ s.1 t b)(p:b[i]?=c_)
  (r:∀l e,lB d s.1 l->(∃o,l.get? e=a_ o/\o.cls=.type "StopIteration")->E (.ref e) {s with heap:=l}):aP (aW prog w) A (bR (.ref d)) Q E s:=by
 obtain⟨o,g,y,j⟩:=id c;obtain⟨u,f,_,v,h⟩:=q;unfold bR;refine aA (cJ (name:=fF "__next__") c.typeIs jY (cL jY c.typeIs Y! ?_ (args_tupleiter_next _)));show aP _ _ (nV (.ref d) 0>>=_) _ _ s;refine aA (bU g j (x:=.ref t) _6 ?_);show aP _ _ (if(bH t==bV)=d_ then _ else _) _ _ s;rw[aJ (show¬((bH t==bV)=d_)from p_)];show aP _ _ (nV (.ref d) 1>>=_) _ _ s;refine aA (bU g j (x:=.int i 0) _6 ?_);show aP _ _ (qF (.ref t)>>=_) _ _ s;refine aA (cV f h ?_);simp only[fG,p];refine aA (gV (aA (gW g j (by simp) ?_)));show aP _ _ (y! (.type "StopIteration") []>>=_) _ _ _;refine aA ?_;simp only[y!,o?];refine aA (cR ?_ (by size_fits));refine aA (m:=jQ _ _) (mS (a:=bV) (by first|rfl|(simp only[jQ];rfl)) ?_);refine cR ?_ (by size_fits);simp only[raiseNew];refine aA (K? ?_)
 first|rw[show A.in1.handled=c_ from n]|rw[n]
 refine aA (aD (W! ?_));exact r _ _ (((dQ ..).extBut.push _).push _) ⟨_,aI _ _6,_6⟩
noncomputable def u6(b a:aC)(TI TO:g_):D_:={cls:=.type "zip",dict:=c_,data:=.fields #[b,a,.bool e_,.ref TI,.ref TO],slots:=#[]}
structure Src(It:r_->h_->h_->h_->Prop)(Sq:r_->h_->q_ aC->Prop):Prop where
 ie:∀{h h':r_}{a b l i},It h a l i->lB b h h'->a≠b->It h' a l i
 se:∀{h h':r_}{a b xs},Sq h a xs->lB b h h'->a≠b->Sq h' a xs
 nx:∀{prog:aV}{w:bP}{A:bT}{E:aC->aE->Prop}{s:aE}{it l i:h_}{xs:q_ aC}{x:aC}{Q:aC->aE->Prop},It s.1 it l i->Sq s.1 l xs->xs[i]?=a_ x->(∀h',It h' it l (i+1)->bN it s.1 h'->Q x {s with heap:=h'})->aP (aW prog w) A (bR (.ref it)) Q E s
 en:∀{prog:aV}{w:bP}{A:bT}{E:aC->aE->Prop}{s:aE}{it l i:h_}{xs:q_ aC}{Q:aC->aE->Prop},A.handled=c_->It s.1 it l i->Sq s.1 l xs->xs[i]?=c_->(∀h' e,lB it s.1 h'->(∃o,h'.get? e=a_ o/\o.cls=.type "StopIteration")->E (.ref e) {s with heap:=h'})->aP (aW prog w) A (bR (.ref it)) Q E s
def JB:Src fY iJ:=⟨IsTupIter.extBut,IsTup.extBut,gp,ib⟩
def JC:Src _0 Heap.IsList:=⟨Heap.IsListIter.extBut,Heap.IsList.extBut,lN,H!⟩
structure ZG(It:r_->h_->h_->h_->Prop)(h:r_)(z TI TO i1 i2 l1 l2 k:h_)(f0 f1:aC):Prop where
 hz:h.get? z=a_ (u6 f0 f1 TI TO)
 hI:oR h TI (.ref i1) (.ref i2)
 hO:∃a b,oR h TO a b
 h1:It h i1 l1 k
 h2:fY h i2 l2 k
abbrev GK(h:r_)(z TI TO d c b a k:h_)(e:aC):Prop:=ZG fY h z TI TO d c b a k e (.bool e_)
abbrev ZL:=ZG _0
def yb{e:g_}{Q:f_ aC->aE->Prop}(c:∃o,s.1.get? e=a_ o/\o.cls=.type "StopIteration")(h:Q c_ s):
  aP (aW prog w) A (do if(<-lX (.ref e) (.type "StopIteration"))then pure (c_:f_ aC)else throw (.ref e)) Q E s:=by
 obtain⟨o,a,d⟩:=c;exact aA (fL (T:="StopIteration") (b:=d_) ⟨o,a,d⟩ nT (aD h))
def Nz{It:r_->h_->h_->h_->Prop}{Sq:r_->h_->q_ aC->Prop}(S:Src It Sq){z TI TO h g u q k:h_}{xs ys:q_ aC}{x y:aC}{Q:f_ aC->aE->Prop}(D:mV z TI TO h g u q)(Z:ZG It s.1 z TI TO h g u q k .none (.bool e_))
  (U:Sq s.1 u xs)(T:iJ s.1 q ys)(hx:xs[k]?=a_ x)(hy:ys[k]?=a_ y)
  (hQ:∀B,ZG It B z TI TO h g u q (k+1) (cX s.1.1.size) (.bool e_)->oR B s.1.1.size x y->B.objs.size=s.1.1.size+1->
   (∀c o,c≠z->c≠TO->c≠h->c≠g->s.1.get? c=a_ o->B.get? c=a_ o)->Q (a_ (.ref s.1.1.size)) {s with heap:=B}):
  aP (aW prog w) A (eY (.ref z)) Q E s:=by
 obtain⟨l,v,⟨a,b,Y⟩,h1,h2⟩:=Z;have hT:s.TypeIs (.ref z) "zip":=⟨_,l,_6⟩;unfold eY;refine aA (eO (cJ (name:=fF "__next__") hT gI (cL gI hT mG ?_ (lO _))));show aP _ _ (nV (.ref z) 2>>=_) _ _ _;refine aA (bU l _6 (x:=.bool e_) _6 ?_);show aP _ _ (nV (.ref z) 3>>=_) _ _ _;refine aA (bU l _6 (x:=.ref TI) _6 ?_);refine aA (cV v _6 ?_);show aP _ _ (bQ (.ref z)>>=_) _ _ _;refine aA ?_;unfold bQ;refine aA (bU l _6 (x:=.none) _6 (aD ?_));simp only[K_];refine aA (gV ?_);refine aA (bU l _6 (x:=.ref TO) _6 ?_);refine aA (bZ l (by simp) λg1 L f=>?_);replace L:g1.get? z=a_ (u6 .ellipsis (.bool e_) TI TO):=L;refine aA ?_;simp only[I!,_1,iW,jK];refine aA (aA (oS ?_));show aP _ _ (bR (.ref h)>>=_) _ _ _;refine aA (S.nx (S.ie h1 f.extBut D.i1z) (S.se U f.extBut D.l1z) hx λg2 p2 j=>aD ?_);have t2:oR g2 TO a b:=j.extBut _ _ D.TOi1 (f.extBut _ _ D.TOz Y);refine aA (cV t2 _6 ?_);refine aA (mW t2 λg3 M i=>?_);replace M:oR g3 TO x b:=M;refine aA (iQ (aD ?_));refine aA (aA (oS ?_));show aP _ _ (bR (.ref g)>>=_) _ _ _;refine aA (gp (((h2.extBut f.extBut D.i2z).extBut j.extBut D.i12.symm).extBut i.extBut D.TOi2.symm) (((T.extBut f.extBut D.l2z).extBut j.extBut D.l2i1).extBut i.extBut D.l2TO) hy λg4 p4 p=>aD ?_);have t4:oR g4 TO x b:=p.extBut _ _ D.TOi2 M;refine aA (cV t4 _6 ?_);refine aA (mW t4 λd H n=>?_);replace H:oR d TO x y:=H;refine aA (iQ (aD (aD ?_)));refine aA (cV H _6 ?_);refine aA (lK ?_);have sz:d.objs.size=s.1.1.size:=by rw[n.1,p.1,i.1,j.1,f.1]
 have k5:∀c o,c≠z->c≠TO->c≠h->c≠g->s.1.get? c=a_ o->d.get? c=a_ o:=λc o c1 I c3 c4 e=>n.extBut _ _ I (p.extBut _ _ c4 (i.extBut _ _ I (j.extBut _ _ c3 (f.extBut _ _ c1 e))));have z5:d.get? z=a_ (u6 .ellipsis (.bool e_) TI TO):=n.extBut _ _ D.TOz.symm (p.extBut _ _ D.i2z.symm (i.extBut _ _ D.TOz.symm (j.extBut _ _ D.i1z.symm L)));have q1:It d h u (k+1):=S.ie (S.ie (S.ie p2 i.extBut D.TOi1.symm) p.extBut D.i12) n.extBut D.TOi1.symm;have q2:fY d g q (k+1):=p4.extBut n.extBut D.TOi2.symm;have m:z<d.objs.size:=aM z5;show aP _ _ (eI (.ref z) (.ref d.objs.size)>>=_) _ _ _;refine aA ?_;unfold eI;have z6:(d.push {cls:=.type "tuple",data:=.seq #[x,y]}).get? z=a_ (u6 .ellipsis (.bool e_) TI TO):=aB _ z5;refine aA (bZ z6 (by simp) λg7 J O=>?_);replace J:g7.get? z=a_ (u6 (cX d.objs.size) (.bool e_) TI TO):=J;refine bZ J (by simp) λC G N=>?_;replace G:C.get? z=a_ (u6 (cX d.objs.size) (.bool e_) TI TO):=G;have up:∀c o,c≠z->d.get? c=a_ o->C.get? c=a_ o:=λc o c1 e=>N.extBut _ _ c1 (O.extBut _ _ c1 (aB _ e));have t8:oR C d.objs.size x y:=N.extBut _ _ (cE m) (O.extBut _ _ (cE m) (aI _ _6));have n8:C.objs.size=d.objs.size+1:=by rw[N.1,O.1,bX]
 rw[sz]at G t8 n8;refine aD ⟨_,_6,aD ?_⟩;show Q (a_ (.ref d.objs.size)) _;rw[sz];exact hQ C ⟨G,up _ _ D.TIz (k5 _ _ D.TIz D.TITO D.TIi1 D.TIi2 v),⟨x,y,up _ _ D.TOz H⟩,S.ie q1 up D.i1z,let ⟨o,e,r⟩:=q2;⟨o,up _ o D.i2z e,r⟩⟩ t8 n8 λc o c1 I c3 c4 e=>up c o c1 (k5 c o c1 I c3 c4 e)
def Ny{It:r_->h_->h_->h_->Prop}{Sq:r_->h_->q_ aC->Prop}(S:Src It Sq){z TI TO r q B y k:h_}{xs u:q_ aC}{Q:f_ aC->aE->Prop}(hh:A.handled=c_)(D:mV z TI TO r q B y)(Z:ZG It s.1 z TI TO r q B y k .none (.bool e_))
  (m:Sq s.1 B xs)(G:iJ s.1 y u)(n:xs[k]?=c_\/u[k]?=c_)
  (hQ:∀h',(∀c o,c≠z->c≠TO->c≠r->c≠q->s.1.get? c=a_ o->h'.get? c=a_ o)->Q c_ {s with heap:=h'}):aP (aW prog w) A (eY (.ref z)) Q E s:=by
 obtain⟨l,J,⟨a,b,I⟩,h1,h2⟩:=Z;have hT:s.TypeIs (.ref z) "zip":=⟨_,l,_6⟩;unfold eY;refine aA (eO (cJ (name:=fF "__next__") hT gI (cL gI hT mG ?_ (lO _))));show aP _ _ (nV (.ref z) 2>>=_) _ _ _;refine aA (bU l _6 (x:=.bool e_) _6 ?_);show aP _ _ (nV (.ref z) 3>>=_) _ _ _;refine aA (bU l _6 (x:=.ref TI) _6 ?_);refine aA (cV J _6 ?_);show aP _ _ (bQ (.ref z)>>=_) _ _ _;refine aA ?_;unfold bQ;refine aA (bU l _6 (x:=.none) _6 (aD ?_));simp only[K_];refine aA (gV ?_);refine aA (bU l _6 (x:=.ref TO) _6 ?_);refine aA (bZ l (by simp) λg1 p g=>?_);replace p:g1.get? z=a_ (u6 .ellipsis (.bool e_) TI TO):=p;refine aA ?_;simp only[I!,_1,iW,jK];refine aA (aA (oS ?_));show aP _ _ (bR (.ref r)>>=_) _ _ _;cases C:xs[k]? with
 |none=>
  refine aA (S.en hh (S.ie h1 g.extBut D.i1z) (S.se m g.extBut D.l1z) C λg2 e i H=>?_);obtain⟨v,d,f⟩:=H;have O:g2.get? z=a_ (u6 .ellipsis (.bool e_) TI TO):=i _ _ D.i1z.symm p;have L:e≠z:=λx=>by subst x;rw[O]at d;cases d;simp[u6]at f
  refine bZ O (by simp) λg3 W j=>?_;exact yb (s:={s with heap:=g3}) ⟨v,j.extBut _ _ L d,f⟩ (hQ _ λc o c1 W M W x=>j.extBut _ _ c1 (i _ _ M (g.extBut _ _ c1 x)))
 |some x=>
  have hy:u[k]?=c_:=by obtain h|h:=n;rw[C]at h;cases h;exact h
  refine aA (S.nx (S.ie h1 g.extBut D.i1z) (S.se m g.extBut D.l1z) C λg2 p2 i=>aD ?_);have T:oR g2 TO a b:=i.extBut _ _ D.TOi1 (g.extBut _ _ D.TOz I);refine aA (cV T _6 ?_);refine aA (mW T λg3 t3 j=>?_);refine aA (iQ (aD ?_));refine aA (aA (oS ?_));show aP _ _ (bR (.ref q)>>=_) _ _ _;refine aA (ib hh (((h2.extBut g.extBut D.i2z).extBut i.extBut D.i12.symm).extBut j.extBut D.TOi2.symm) (((G.extBut g.extBut D.l2z).extBut i.extBut D.l2i1).extBut j.extBut D.l2TO) hy λg4 e Y H=>?_);obtain⟨v,d,f⟩:=H;have N:g4.get? z=a_ (u6 .ellipsis (.bool e_) TI TO):=Y _ _ D.i2z.symm (j.extBut _ _ D.TOz.symm (i.extBut _ _ D.i1z.symm p));have L:e≠z:=λx=>by subst x;rw[N]at d;cases d;simp[u6]at f
  refine bZ N (by simp) λg5 W U=>?_;exact yb (s:={s with heap:=g5}) ⟨v,U.extBut _ _ L d,f⟩ (hQ _ λc o c1 c2 M c4 x=>U.extBut _ _ c1 (Y _ _ c4 (j.extBut _ _ c2 (i.extBut _ _ M (g.extBut _ _ c1 x)))))
end
section
variable{prog:aV}{w:bP}{A:bT}{E:aC->aE->Prop}{s:aE}
noncomputable def Il(l:g_):D_:={cls:=.type "tuple_iterator",data:=.fields #[.ref l,.int 0 0]}
noncomputable def AF(h:r_):D_:={cls:=.type "tuple",data:=.seq #[.ref h.objs.size,.ref (h.objs.size+1)]}
noncomputable def HN:D_:={cls:=.type "tuple",data:=.seq #[.none,.none]}
noncomputable def NF(h:r_):D_:={cls:=.type "zip",data:=.fields #[.none,.bool e_,.bool e_,.ref (h.objs.size+2),.ref (h.objs.size+3)]}
def zH(h:r_)(b a:g_):r_:=((((h.push (Il b)).push (Il a)).push (AF h)).push HN).push (NF h)
def Kh(a b:g_)(xs j:q_ aC):
  _g (z_.«zip.__new__» ⟨[.type "zip",.ref a,.ref b],[]⟩) (λz R s=>iJ s.1 a xs/\iJ s.1 b j/\
   R (.ok (.ret (.ref (s.1.1.size+4)))) {s with heap:=zH s.1 a b}):=
 .of_wp λprog w A R s h=>by
  obtain⟨n,g,d,l,os⟩:=s;obtain⟨e,c,h⟩:=h;have m:=sub_zip;have i:iJ (oJ ⟨n,g,d,l,os⟩) a xs:=e;have f:iJ (oJ ⟨n.push {cls:=.type "tuple_iterator",data:=.fields #[.ref a,.int 0 0]},g,d,l,os⟩) b j:=IsTup.push c _
  wp_walk using nW i,nW f
  refine⟨_,_6,?_⟩;simp only[bX];exact h
def N9{a b:g_}{xs g:q_ aC}{Q:aC->aE->Prop}(f:iJ s.1 a xs)(e:iJ s.1 b g)
  (h:∀d,GK d (s.1.1.size+4) (s.1.1.size+2) (s.1.1.size+3) s.1.1.size (s.1.1.size+1) a b 0 .none->d.objs.size=s.1.1.size+5->(∀c o,s.1.get? c=a_ o->d.get? c=a_ o)->Q (.ref (s.1.1.size+4)) {s with heap:=d}):
  aP (aW prog w) A (call (.type "zip") [.ref a,.ref b]) Q E s:=by
 refine A! F.called_zip (by decide) (F.typeCall_zip_2 _ _) (F.newCall_zip_2 _ _) (λobj=>F.args_object_init_3 obj _ _) F.entry_zip_new (Kh a b xs g) ⟨f,e,?_⟩;have m:(s.1.push (Il a)).objs.size=s.1.1.size+1:=bX ..;have l:((s.1.push (Il a)).push (Il b)).objs.size=s.1.1.size+2:=by rw[bX,m]
 have j:(((s.1.push (Il a)).push (Il b)).push (AF s.1)).objs.size=s.1.1.size+3:=by rw[bX,l]
 have i:((((s.1.push (Il a)).push (Il b)).push (AF s.1)).push HN).objs.size=s.1.1.size+4:=by rw[bX,j]
 have p:(zH s.1 a b).objs.size=s.1.1.size+5:=by unfold zH;rw[bX,i]
 have n:(zH s.1 a b).get? (s.1.1.size+4)=a_ (NF s.1):=by rw[<-i];exact aI _ _6
 have q:(zH s.1 a b).get? (s.1.1.size+3)=a_ HN:=by rw[<-j];exact aB _ (aI _ _6)
 have r:(zH s.1 a b).get? (s.1.1.size+2)=a_ (AF s.1):=by rw[<-l];exact aB _ (aB _ (aI _ _6))
 have g2:(zH s.1 a b).get? (s.1.1.size+1)=a_ (Il b):=by rw[<-m];exact aB _ (aB _ (aB _ (aI _ _6)))
 have g1:(zH s.1 a b).get? s.1.1.size=a_ (Il a):=aB _ (aB _ (aB _ (aB _ (aI _ _6))));exact⟨⟨_,n,_6⟩,h _ ⟨n,r,⟨_,_,q⟩,⟨_,g1,_6,_6⟩,⟨_,g2,_6,_6⟩⟩ p λc o x=>aB _ (aB _ (aB _ (aB _ (aB _ x))))⟩
end
def OW(K:aK)(l m:g_):It:=
 ⟨λi H=>∃xs a x y,ng K H l xs/\ng K H m a/\xs[i]?=a_ x/\a[i]?=a_ y,λi H v b=>∃p x y,H p=c_/\v=.ref p/\b=c0 H p (.ci [x,y])/\(∀xs,ng K H l xs->xs[i]?=a_ x)/\∀a,ng K H m a->a[i]?=a_ y,λi H=>∃xs a,ng K H l xs/\ng K H m a/\(_7 xs<=i\/_7 a<=i)⟩
def ZG.at{h i:r_}{z TI TO d c g f k:h_}{j:aC}(Z:GK h z TI TO d c g f k j)(e:∀b∈[z,TI,TO,d,c],∀o,h.get? b=a_ o->i.get? b=a_ o):GK i z TI TO d c g f k j:=
 ⟨e z (by simp) _ Z.hz,e TI (by simp) _ Z.hI,let ⟨a,b,q⟩:=Z.hO;⟨a,b,e TO (by simp) _ q⟩,let ⟨o,q,r⟩:=Z.h1;⟨o,e d (by simp) o q,r⟩,let ⟨o,q,r⟩:=Z.h2;⟨o,e c (by simp) o q,r⟩⟩
def ZG.there{h:r_}{z TI TO f e l j k:h_}{r:aC}(Z:GK h z TI TO f e l j k r):∀b∈[z,TI,TO,f,e],∃o,h.get? b=a_ o/\∀v,o.data≠.cell v:=λb n=>by
 obtain⟨m,q,⟨a,c,p⟩,⟨x,i,_,u⟩,⟨w,g,_,s⟩⟩:=Z;have:b=z\/b=TI\/b=TO\/b=f\/b=e:=by simpa using n
 obtain rfl|rfl|rfl|rfl|rfl:=this
 .exact⟨_,m,λv z=>by have d:mQ _=lY v:=z;cases d⟩
 .exact⟨_,q,λv z=>by have d:v? _ _=lY v:=z;cases d⟩
 .exact⟨_,p,λv z=>by have d:v? _ _=lY v:=z;cases d⟩
 .exact⟨_,i,λv z=>by rw[u]at z;cases z⟩
 .exact⟨_,g,λv z=>by rw[s]at z;cases z⟩
def Vz{P:aV}{w:bP}{K:aK}{N:b_ Expr}{k1}{tp:v_}{z TI TO j g G C:g_}(D:mV z TI TO j g G C):qO P w K (.Tuple N k1 tp) (OW K G C) [z,TI,TO,j,g] z (λi h=>GK h z TI TO j g G C i .none) where
 mem:=by simp
 obj:=λi h Z=>Z.there
 keep:=λi h h' Z e=>Z.at e
 item:=by
  intro X hP hw hK hc i n s σ H E I M Z hg;subst hP hw hK;obtain⟨xs,ys,x,y,m,l,L,J⟩:=hg;obtain⟨α,Q,p,hz⟩:=I.tuple m;obtain⟨Y,r,T,β⟩:=I.tuple l;obtain⟨u,hu,ru⟩:=Q.get L;obtain⟨v,hv,O⟩:=r.get J;have iV:H s.1.1.size=c_:=I.e6.fresh (aL _);have A:∀b∈[z,TI,TO,j,g],b<s.1.1.size:=λb f=>let ⟨o,q,_⟩:=Z.there b f;aM q;refine Nz JB D Z p T (x:=u) (y:=v) (by simpa using hu) (by simpa using hv) λh1 Z1 t1 n1 e1=>?_;refine⟨_,_6,wpAny_letOwnedTupleGo_zip Z1.hz λB z2 sb=>?_⟩;have d:bN z h1 B:=sb;have ch:∀b,b∉[z,TI,TO,j,g]->b≠z/\b≠TI/\b≠TO/\b≠j/\b≠g:=λb f=>by simpa using f
  have U:∀b o,b∉[z,TI,TO,j,g]->s.1.get? b=a_ o->B.get? b=a_ o:=λb o f q=>by obtain⟨c1,c2,c3,c4,c5⟩:=ch b f;exact d.extBut b o c1 (e1 b o c1 c3 c4 c5 q)
  have t2:B.get? s.1.1.size=a_ {cls:=.type "tuple",data:=.seq #[u,v]}:=d.extBut _ _ (cE (A z (by simp))) t1;have Z2:GK B z TI TO j g G C (i+1) .none:=by obtain⟨hz,hI,⟨a,c,hO⟩,⟨o1,q1,r1⟩,⟨o2,q2,r2⟩⟩:=Z1;exact⟨z2,d.extBut _ _ D.TIz hI,⟨a,c,d.extBut _ _ D.TOz hO⟩,⟨o1,d.extBut _ _ D.i1z q1,r1⟩,⟨o2,d.extBut _ _ D.i2z q2,r2⟩⟩
  have I2:a9 X n σ (c0 H s.1.1.size (.ci [x,y])) {s with heap:=B}:=I.rd (t':=s.toks) M U t2 ru O;refine⟨.ref s.1.1.size,_,I2,_6,⟨_,x,y,iV,_6,_6,λzs J=>by rw[I.ql J m];exact L,λzs γ=>by rw[I.ql γ l];exact J⟩,Z2,λb f=>?_⟩;rw[aa (bE (A b f))];exact(M b f).1
 done:=by
  intro X hP hw hK hc i n s σ H E I M Z hg;subst hP hw hK;obtain⟨xs,ys,m,l,L⟩:=hg;obtain⟨α,Q,p,hz⟩:=I.tuple m;obtain⟨Y,r,T,β⟩:=I.tuple l;have hl:=Q.length;have hl':=r.length;refine Ny JB (I.ok.hd hc) D Z p T (by obtain h|h:=L;exact .inl (by simp;lia);exact .inr (by simp;lia)) λh' eb=>⟨_6,?_⟩;have ch:∀b,b∉[z,TI,TO,j,g]->b≠z/\b≠TI/\b≠TO/\b≠j/\b≠g:=λb f=>by simpa using f
  have U:∀b o,b∉[z,TI,TO,j,g]->s.1.get? b=a_ o->h'.get? b=a_ o:=λb o f q=>by obtain⟨c1,c2,c3,c4,c5⟩:=ch b f;exact eb b o c1 c3 c4 c5 q
  exact I.turnedL (t':=s.toks) M U
 self:=λW W W W W Z h=>pG Z.hz h
noncomputable def wb:b_ D->b_ D->b_ D
 |x::r,y::q=>.ci [x,y]::wb r q
 |_,_=>[]
theorem Ig:∀(a es:b_ D)(i:h_){d:D},(wb a es)[i]?=a_ d->∃x y,a[i]?=a_ x/\es[i]?=a_ y/\d=.ci [x,y]
 |[],es,i,d,h=>by simp[wb]at h
 |x::r,[],i,d,h=>by simp[wb]at h
 |x::r,y::q,0,d,h=>by simp[wb]at h;exact⟨x,y,_6,_6,h.symm⟩
 |x::r,y::q,i+1,d,h=>by simp only[wb,dE]at h⊢;exact Ig r q i h
theorem Ih:∀(a es:b_ D),(wb a es).length=P! a.length es.length
 |[],es=>by simp[wb]
 |x::r,[]=>by simp[wb]
 |x::r,y::q=>by simp only[wb,aR,Ih r q];lia
def Ws(r:En->ey):En->ey:=λU=>match r U with
 |.ok [.ci b,.ci a]=>.ok (wb b a)
 |.er c=>.er c
 |_=>.st
section
variable{X:Cx}{B:Hp}{E:EK}{e e':Expr}{g h:En->bi}{pos p tp:v_}{tes:b_ Expr}{k1:h_}
set_option tactic.hygienic true in
def QE{G H:Hp}{U:En}{r:En->ey}{P:b_ D->Prop}(q:f' E G H (Ws r U) P):f' E G H (r U) λl=>∃b es,l=[.ci b,.ci es]/\P (wb b es):=by
 unfold Ws at q;cases e:r U with
 |ok l=>
  rw[e]at q;split at q
  .rename_i a;cases a;exact⟨_,_,_6,q⟩
  .rename_i a;cases a
  .exact q.elim
 |er c=>rw[e]at q;exact q
 |st=>rw[e]at q;exact q
def CL{K:KA}{a b:g_}{n:Hp}{m es:b_ D}{c f:b_ V}{S:Hp->Hp->Prop}(h:∀G H,S G H->a6 G H->ng K H a c/\ng K H b f/\a6 n G)(dl:bt K n m c)(w:bt K n es f):rm K (OW K a b) (wb m es) S:=λi G H C j=>by obtain⟨q,l,g⟩:=h G H C j;refine⟨λd N=>?_,λA=>⟨c,f,q,l,by rw[Ih]at A;rw[<-dl.length,<-w.length];lia⟩⟩;obtain⟨x0,Y,Q,O,rfl⟩:=Ig m es i N;obtain⟨v,r,T⟩:=dl.get Q;obtain⟨u,s,U⟩:=w.get O;refine⟨⟨c,f,v,u,q,l,r,s⟩,λx H' ⟨p,y,y',o,M,L,J,I⟩=>?_⟩;subst M L;have z:=J c q;rw[r]at z;cases z;have z:=I f l;rw[s]at z;cases z;exact⟨_,c6.new j (.ci [v,u]) o,gz j o (bt.append (bt.pv (T.am g)) (bt.pv (U.am g)))⟩
def EU(hg:Gl X "zip")(hm:X.mg "zip"=c_)(h1:dj X B E e g)(h2:dj X B E e' h)(n1:cq e=d_)(n2:cq e'=d_):
  N2 X B E (.Tuple tes k1 tp) (.Call (.Name "zip" p) [e,e'] [] pos) (Ws (ac g (ac h af))):=by
 intro w s σ H R I ⟨G,U,Rr,q⟩;have ha:Ij X B E [d_,d_] [e,e'] (ac g (ac h af)):=de h1 (de h2 f9 (ag n2)) (ag n1);refine Call_ (n6 I hg hm (by decide+kernel:eX "zip"=a_ (.type "zip")) (dU (c9 (ha pos w s σ H (λf i=>∃a b,f=[.ref a,.ref b]/\(∃xs,ng X.K i a xs)/\(∃T,ng X.K i b T)/\R (OW X.K a b) i) I ⟨G,U,Rr,(QE q).am λl W ⟨ds,es,ed,q⟩ v C i y ax=>?_⟩) λJ c ⟨f,i,A,r1,a,b,y,⟨xs,hq⟩,⟨T,N⟩,q1⟩=>?_) (ag n1) ?_))
 .subst ed;obtain⟨v1,v2,rfl,a1,a2⟩:=h9.two ax;obtain ⟨a,f,rfl,s,dl⟩|⟨Q,a,f,z,_⟩|⟨t,M,a,z,_⟩|⟨_,_,_,z,_⟩:=a1
  .obtain ⟨b,J,rfl,s',el⟩|⟨Q,a,f,z,_⟩|⟨t,M,a,z,_⟩|⟨_,_,_,z,_⟩:=a2
   .have t1:∀{n m:Hp},a6 C n->a6 n m->ng (kx X) m a f:=λd j=>.inl (.inl (j _ _ (d _ _ s)));have Y:∀{n m:Hp},a6 C n->a6 n m->ng (kx X) m b J:=λd j=>.inl (.inl (j _ _ (d _ _ s')));exact⟨a,b,_6,⟨f,t1 (a6.refl C) y.gh⟩,⟨J,Y (a6.refl C) y.gh⟩,q _ C i y (CL (λn m ⟨d,x2⟩ j=>⟨t1 d j,Y d j,d⟩) dl el)⟩
   .cases z
   .cases z
   .cases z
  .cases z
  .cases z
  .cases z
 .subst y;obtain⟨u,r,rfl,ru,rr⟩:∃u r,J=u::r/\eu (.ref a) u/\dg [.ref b] r:=by
   cases r1 with
   |cons h t=>exact⟨_,_,_6,h,t⟩
  obtain⟨u2,rfl,L⟩:=ik rr;cases ru;cases L;obtain⟨ν,rv,pl,_⟩:=A.tuple hq;obtain⟨μ,ζ,o,_⟩:=A.tuple N;have la:@LT.lt h_ _ a c.1.1.size:=pl.lt;have lb:@LT.lt h_ _ b c.1.1.size:=o.lt;refine N9 pl o λh' Z ξ O=>?_;have D:mV (c.1.1.size+4) (c.1.1.size+2) (c.1.1.size+3) c.1.1.size (c.1.1.size+1) a b:=by constructor<;>first|exact bE (by lia)|exact cE (by lia)
  refine pG Z.hz ⟨c.1.1.size+4,_,_,_,i,_6,A.kd (t':=c.toks) O,Vz D,Z,λb hb=>?_,q1⟩;have x:c.1.1.size<=b:=by
   have:b=c.1.1.size+4\/b=c.1.1.size+2\/b=c.1.1.size+3\/b=c.1.1.size\/b=c.1.1.size+1:=by simpa using hb
   rcases this with z|z|z|z|z<;>subst z<;>first|exact gS _ _|exact aL _
  exact A.qU x (A.e6.fresh x)
 .exact i8 (by rw[bO,n2];rfl)
end
section
variable{prog:aV}{w:bP}{A:bT}{E:aC->aE->Prop}{s:aE}{d:g_}{es:q_ mE}{ep:h_}
def ub(d:g_)(b:(d==dD)=e_):
  MeetsIn prog w (z_.«dict.items» ⟨[.ref d],[]⟩) (λz R s=>(∃es ep,rG s.1 d es ep)/\
   R (.ok (.ret (.ref s.1.1.size))) {s with heap:=s.1.push {cls:=.type "dict_items",data:=.fields #[.ref d]}}):=
 .of_wp λA R s ⟨⟨es,ep,a⟩,h⟩=>by unfold z_.«dict.items»;refine aA ?_;unfold Builtin.Dict.noArgs;refine aA (fK a.ty ?_);show aP _ _ (pure d) _ _ s;refine aD ?_;show aP _ _ (gY d>>=_) _ _ s;unfold gY;rw[aJ (by rw[b];exact p_)];refine aA (aD ?_);exact aA (cR (aD ⟨_,_6,h⟩))
def Ae{v:g_}{Q:aC->aE->Prop}(c:s.1.IsItemsView v d)(h:rG s.1 d es ep)
  (j:Q (.ref s.1.1.size) {s with heap:=s.1.push {cls:=.type "dict_itemiterator",data:=.fields #[.none,.bool e_,.ref d,.int 0 0,.int es.size 0,.int ep 0,.none,.none]}}):
  aP (aW prog w) A (a! (.ref v)) Q E s:=by
 obtain⟨l,e,i,f⟩:=id c;obtain⟨o,g,m,a⟩:=id h;refine wpAny_pyIter_slot c.typeIs F.slot_dict_items_iter (cL F.slot_dict_items_iter c.typeIs F.entry_dict_items_iter ?_ (F.args_dict_items_iter_1 _));unfold z_.«dict_items.__iter__»;refine aA (aD ?_);refine aA ?_;unfold J!;refine aA (bU e f (x:=.ref d) _6 (aD ?_));refine aA ?_;unfold K!;refine aA (dI g a ?_);refine aA (gG g a ?_);have b:eP "dict_itemiterator"=d_:=by decide
 simp only[b,K_];refine cR (aD ⟨_,_6,"dict_itemiterator",_,⟨_,aI _ _6,_6⟩,F.slot_dict_itemiterator_next.lookup,?_⟩)
  (by simp only[sizeOk,kG,aX,bS,aR,gD,eS];lia)
 simpa[cX,kG]using j
def Af{p:g_}{i:h_}{ok ov:aC}{Q:f_ aC->aE->Prop}(M:jR s.1 p d i es.size ep ok ov)(hm:rG s.1 d es ep)(ζ:i<es.size)
   (hQ:∀h',L? h' p d (i+1) es.size ep es[i].key es[i].val s.1.1.size->
   h'.get? s.1.1.size=a_ {cls:=.type "tuple",data:=.seq #[es[i].key,es[i].val]}->h'.objs.size=s.1.1.size+1->
   (∀b o,b≠p->s.1.get? b=a_ o->h'.get? b=a_ o)->Q (a_ (.ref s.1.1.size)) {s with heap:=h'}):
  aP (aW prog w) A (eY (.ref p)) Q E s:=by
 obtain⟨L,g,dr,tk,os⟩:=s;obtain⟨od,ε,μ,η⟩:=id hm;have hT:kH ⟨L,g,dr,tk,os⟩ (.ref p) "dict_itemiterator":=⟨_,M,_6⟩;unfold eY;refine aA (eO (cJ (name:=fF "__next__") hT fV
  (cL fV hT mH ?_ (lU _))))
 refine aA (aD ?_);refine aA ?_;refine aA ?_
 first|refine aA (fO hT (aD ?_))|refine aA (hG hT (aD ?_))
 refine aA (nS M _6 ?_);have δ:eP "dict_itemiterator"=d_:=by decide
 simp only[δ,K_];show aP _ _ (if(bH d==bV)=d_ then _ else _) _ _ _;rw[aJ (show¬((bH d==bV)=d_)from p_)];refine aA (aD ?_);refine aA (dI ε η ?_);rw[aJ (by simp)];refine aA (aD ?_);refine aA (gG ε η ?_);rw[aJ (by simp)];refine aD ?_;simp only[show¬((i:n_)<0)from by omega,A_,fG,cC ζ];refine aA ?_
 first|refine aA (fO hT (aD ?_))|refine aA (hG hT (aD ?_))
 refine aA (lP hT ?_);show aP _ _ (pB (.ref p) 3 (cX ((i:n_)+1))>>=_) _ _ ⟨L,g,dr,tk,os⟩;refine aA (bZ M (by simp) λa n l=>?_);replace l:bN p L a:=l;replace n:jR a p d (i+1) es.size ep ok ov:=by
  have e:((i+1:h_):n_)=(i:n_)+1:=by omega
  unfold jR;rw[e];simpa[cX]using n
 have C:kH ⟨a,g,dr,tk,os⟩ (.ref p) "dict_itemiterator":=⟨_,n,_6⟩;refine aA (cK ?_);refine aA (lP C ?_);refine aA (lP C ?_);show aP _ _ (lQ (.ref p) 6 es[i].key es[i].val) _ _ ⟨a,g,dr,tk,os⟩;unfold lQ;refine aA (lK ?_);have m:jR (a.push {cls:=.type "tuple",data:=.seq #[es[i].key,es[i].val]}) p d (i+1) es.size ep ok ov:=aB _ n;generalize r:a.push {cls:=.type "tuple",data:=.seq #[es[i].key,es[i].val]}=u at m;have q:a.objs.size=L.objs.size:=l.1;have N:p<L.objs.size:=aM M;have T:u.get? L.objs.size=a_ {cls:=.type "tuple",data:=.seq #[es[i].key,es[i].val]}:=by rw[<-r,<-q];exact aI _ _6
 have O:u.objs.size=L.objs.size+1:=by rw[<-r,bX,q]
 have U:∀b o,b≠p->L.get? b=a_ o->u.get? b=a_ o:=λb o Y e=>by rw[<-r];exact aB _ (l.extBut b o Y e)
 show aP _ _ (kI (.ref p)>>=_) _ _ ⟨u,g,dr,tk,os⟩;rw[q];clear r n l C q a;refine aA ?_;unfold kI;refine aA (bU m _6 (x:=.none) _6 (aD ?_));simp only[K_];refine aA (bU m _6 (x:=ok) _6 ?_);refine aA (bU m _6 (x:=ov) _6 ?_);refine aA (bZ m (by simp) λJ B j=>?_);replace j:bN p u J:=j;replace B:jR J p d (i+1) es.size ep es[i].key ov:=B;refine aA (bZ B (by simp) λI z h=>?_);replace h:bN p J I:=h;replace z:jR I p d (i+1) es.size ep es[i].key es[i].val:=z;refine aA (bZ z (by simp) λH y f=>?_);replace f:bN p I H:=f;replace y:L? H p d (i+1) es.size ep es[i].key es[i].val L.objs.size:=y;refine aA (bZ y (by simp) λG v c=>?_);replace c:bN p H G:=c;replace v:L? G p d (i+1) es.size ep es[i].key es[i].val L.objs.size:=v;refine aA (iQ (aD (aD ⟨_,_6,aD (hQ G v ?_ ?_ ?_)⟩)))
 .exact c.extBut _ _ (cE N) (f.extBut _ _ (cE N) (h.extBut _ _ (cE N) (j.extBut _ _ (cE N) T)))
 .show G.objs.size=L.objs.size+1;rw[c.1,f.1,h.1,j.1,O]
 .exact λb o Y e=>c.extBut b o Y (f.extBut b o Y (h.extBut b o Y (j.extBut b o Y (U b o Y e))))
def Ad{f:g_}{ok l:aC}{Q:f_ aC->aE->Prop}(o:A.handled=c_)(c:jR s.1 f d es.size es.size ep ok l)(n:rG s.1 d es ep)
  (q:∀j,lB f s.1 j->Q c_ {s with heap:=j}):aP (aW prog w) A (eY (.ref f)) Q E s:=by
 obtain⟨od,h,p,i⟩:=id n;have e:s.TypeIs (.ref f) "dict_itemiterator":=⟨_,c,_6⟩;unfold eY;refine aA (eO (cJ (name:=fF "__next__") e fV
  (cL fV e mH ?_ (lU _))))
 refine aA (aD ?_);refine aA ?_;refine aA ?_
 first|refine aA (fO e (aD ?_))|refine aA (hG e (aD ?_))
 refine aA (nS c _6 ?_);have g:eP "dict_itemiterator"=d_:=by decide
 simp only[g,K_];show aP _ _ (if(bH d==bV)=d_ then _ else _) _ _ s;rw[aJ (show¬((bH d==bV)=d_)from p_)];refine aA (aD ?_);refine aA (dI h i ?_);rw[aJ (by simp)];refine aA (aD ?_);refine aA (gG h i ?_);rw[aJ (by simp)];refine aD ?_;simp only[show¬((es.size:n_)<0)from by omega,A_,fG,_Q (aL es.size)];refine aA ?_
 first|refine aA (fO e (aD ?_))|refine aA (hG e (aD ?_))
 show aP _ _ (pB (.ref f) 2 .none>>=_) _ _ s;refine aA (gW c _6 (by simp) ?_);show aP _ _ (y! (.type "StopIteration") []>>=_) _ _ _;refine aA ?_;simp only[y!,o?];refine aA (cR ?_ (by size_fits));refine aA (m:=jQ _ _) (mS (a:=bV) (by first|rfl|(simp only[jQ];rfl)) ?_);refine cR ?_ (by size_fits);simp only[raiseNew];refine aA (K? ?_);rw[show A.in1.handled=c_ from o];refine aA (aD (W! ?_));refine aA (fL (T:="StopIteration") (b:=d_) ⟨_,aI _ _6,_6⟩ nT ?_);exact aD (q _ (((dQ ..).extBut.push _).push _))
end
inductive FzD(P:aV)(w:bP)(H:Hp)(h:r_)(a:g_)(o:D_)(es:b_ (ah×V)):Prop
 |mk (_:(a==dD)=e_) (_:es.length<=aG) (_:h.get? a=a_ o) (_:o.ExactDict) (xs dt ep) (_:KT H es xs) (_:o.data=.dict dt ep) (_:dt.toList=xs.map (nP (bw P w))) (_:dt.size=es.length):FzD P w H h a o es
def qc{P:aV}{w:bP}{H:Hp}{h:r_}{a:g_}{o:D_}{es:b_ (ah×V)}(ok:qb P w H h)(e:H a=a_ (.n4 o (.dT es))):FzD P w H h a o es:=by obtain⟨d,z,f,xs,rel,m,l,j,c,i,g,b,_⟩:=show fb P w H h a (.n4 o (.dT es))from ok a _ e;rw[d]at c;cases c;refine⟨f,z,d,i,xs,l,j,rel,g,b,?_⟩;have:=C_ fT b;rw[bB,eE]at this;rw[this,<-eA rel]
theorem Kd{H:Hp}:∀{es:b_ (ah×V)}{xs:b_ (ah×g_×aC)},KT H es xs->∀{i:h_}{p:ah×V},es[i]?=a_ p->∃q,xs[i]?=a_ q/\p0 H p.1 q.2.1/\eu p.2 q.2.2
 |_,_,.nil,i,p,e=>by simp at e
 |_,_,.cons r t,0,p,e=>by simp at e;subst e;exact⟨_,_6,r.2.1,r.2.2⟩
 |_,_,.cons r t,i+1,p,e=>by simp at e;simpa using Kd t e
def Lw{P:aV}{w:bP}{a:q_ mE}{xs:b_ (ah×g_×aC)}(h:a.toList=xs.map (nP (bw P w))){i:h_}{q:ah×g_×aC}(b:xs[i]?=a_ q)(c:i<a.size):a[i].key=.ref q.2.1/\a[i].val=q.2.2:=by
 have e:a.toList[i]?=a_ a[i]:=by rw[eK];exact cC c
 rw[h,bY,b]at e;have d:nP (bw P w) q=a[i]:=aZ e;rw[<-d];exact⟨_6,_6⟩
def OZ(o:D_)(a:g_):It:=
 ⟨λi H=>∃c,H a=a_ (.n4 o (.dT c))/\i<_7 c,λi H x d=>d=H/\∃c p b,H a=a_ (.n4 o (.dT c))/\c[i]?=a_ p/\x=.ref b/\p0 H p.1 b,λi H=>∃c,H a=a_ (.n4 o (.dT c))/\_7 c<=i⟩
def P8{P:aV}{w:bP}{K:aK}{tg:Expr}{o:D_}{a l:g_}{x:q_ mE}{ep:h_}(f:o.data=.dict x ep):qO P w K tg (OZ o a) [l] l (λi h=>h.IsKeyIter l a i x.size ep/\i<=x.size) where
 mem:=by simp
 obj:=λi h st b n=>by
  have e:b=l:=by simpa using n
  subst e;obtain⟨⟨o,e,c,d⟩,_⟩:=st;exact⟨o,e,λv z=>by rw[d]at z;cases z⟩
 keep:=λi h A st k=>⟨let ⟨o,ho,r⟩:=st.1;⟨o,k l (by simp) o ho,r⟩,st.2⟩
 item:=by
  intro X N J O hc i g s σ H E I y st M;subst N J O;obtain⟨es,B,p⟩:=M;obtain⟨f0,f1,f2,Y,U,T⟩:=y l (by simp);obtain⟨hd,z,Q,G,xs,δ,γ,rel,u,h4,C⟩:=qc I.e6 B;rw[f]at u;cases u;have m:i<x.size:=by rw[C];exact p
  refine Hm st.1 ⟨o,Q,G,f⟩ m λA j L=>?_;have I1:a9 X g σ H {s with heap:=A}:=I.ii (t':=s.toks) (λb o n e=>(L.2 b n).trans e) f0 f1 Y U T;obtain⟨ob,e,c,dd⟩:=id j;obtain⟨q,hq,tk,_⟩:=Kd rel (bF p);obtain⟨ek,_⟩:=Lw h4 hq m;refine⟨_,_6,Bs (s:={s with heap:=A}) e c dd (by decide) ⟨.ref q.2.1,H,I1,by rw[ek];exact _6,⟨_6,es,_,_,B,bF p,_6,tk⟩,⟨j,m⟩,λb n=>(y b n).1⟩⟩
 done:=by intro X N J O hc i g s σ H E I y st M;subst N J O;obtain⟨es,B,p⟩:=M;obtain⟨f0,f1,f2,Y,U,T⟩:=y l (by simp);obtain⟨hd,z,Q,G,xs,δ,γ,rel,u,h4,C⟩:=qc I.e6 B;rw[f]at u;cases u;have e:i=x.size:=nB st.2 (by rw[C];exact p);subst e;exact Nd (I.ok.hd hc) st.1 ⟨o,Q,G,f⟩ λA eb=>⟨_6,I.ii (t':=s.toks) (λb o n e=>eb b o n e) f0 f1 Y U T⟩
 self:=λZ Z Z Z Z st h=>X! st.1 h
def CO{K:KA}{o:D_}{a:g_}{r:Hp}{c:b_ (D×D)}{es:b_ (ah×V)}{S:Hp->Hp->Prop}(h:∀G H,S G H->a6 G H->H a=a_ (.n4 o (.dT es))/\a6 r G)(dl:fu K r c es):rm K (OZ o a) (c.map (·.1)) S:=λi G H v l=>by
 obtain⟨q,g⟩:=h G H v l;have A:_7 c=_7 es:=by have:=C_ fT (gw dl);simpa using this
 rw[gw dl];refine⟨λd f=>?_,λu=>⟨es,q,by rwa[bB]at u⟩⟩;rw[bY]at f;cases j:es[i]? with
 |none=>rw[j]at f;cases f
 |some p=>rw[j]at f;cases f;refine⟨⟨es,q,(i_.mp j).1⟩,λx B ⟨e,y,z,b,m,n,w,s⟩=>?_⟩;subst e w;rw[q]at m;cases m;rw[j]at n;cases n;exact⟨_,nq l,Jj s⟩
def OX(o:D_)(a:g_):It:=
 ⟨λi H=>∃c,H a=a_ (.n4 o (.dT c))/\i<_7 c,λi H x d=>∃c p b y,H a=a_ (.n4 o (.dT c))/\c[i]?=a_ p/\p0 H p.1 b/\H y=c_/\x=.ref y/\d=c0 H y (.ci [.ref b,p.2]),λi H=>∃c,H a=a_ (.n4 o (.dT c))/\_7 c<=i⟩
def Ld{P:aV}{w:bP}{K:aK}{C:b_ Expr}{k1}{tp:v_}{o:D_}{a c:g_}{m:q_ mE}{ep:h_}(g:o.data=.dict m ep):
  qO P w K (.Tuple C k1 tp) (OX o a) [c] c (λi h=>(∃ok n,jR h c a i m.size ep ok n)/\i<=m.size) where
 mem:=by simp
 obj:=λi h st b d=>by
  have e:b=c:=by simpa using d
  subst e;obtain⟨⟨ok,n,e⟩,_⟩:=st;exact⟨_,e,λv z=>by have z':mQ _=lY v:=z;cases z'⟩
 keep:=λi h h' st k=>⟨let ⟨ok,n,e⟩:=st.1;⟨ok,n,k c (by simp) _ e⟩,st.2⟩
 item:=by
  intro X O M Q hc i j s σ H E I y st N;subst O M Q;obtain⟨es,B,p⟩:=N;obtain⟨U,f1,f2,f3,f4,f5⟩:=y c (by simp);obtain⟨hd,z,T,L,xs,γ,β,rel,x,h4,J⟩:=qc I.e6 B;rw[g]at x;cases x;have l:i<m.size:=by rw[J];exact p
  obtain⟨⟨ok,n,f⟩,_⟩:=st;obtain⟨q,hq,tk,rv⟩:=Kd rel (bF p);obtain⟨ek,Y⟩:=Lw h4 hq l;have iV:H s.1.1.size=c_:=I.e6.fresh (aL _);have u:c<s.1.1.size:=aM f;refine Af f ⟨o,T,L,g⟩ l λh1 G t1 n1 e1=>?_;refine⟨_,_6,nJ (s:={s with heap:=h1}) G λA z2 sb=>?_⟩;have r:bN c h1 A:=sb;have k2:∀b o,b∉[c]->s.1.get? b=a_ o->A.get? b=a_ o:=λb o d q=>by
   have d:b≠c:=by simpa using d
   exact r.extBut b o d (e1 b o d q)
  have t2:A.get? s.1.1.size=a_ {cls:=.type "tuple",data:=.seq #[m[i].key,m[i].val]}:=r.extBut _ _ (cE u) t1;rw[ek,Y]at t2;have I2:a9 X j σ (c0 H s.1.1.size (.ci [.ref q.2.1,(es[i]'p).2])) {s with heap:=A}:=I.rd (t':=s.toks) y k2 t2 _6 rv;refine⟨.ref s.1.1.size,_,I2,_6,⟨es,_,_,_,B,bF p,tk,iV,_6,_6⟩,⟨⟨_,_,z2⟩,l⟩,λb d=>?_⟩;have e:b=c:=by simpa using d
  subst e;rw[aa (bE u)];exact U
 done:=by intro X O M Q hc i j s σ H E I y st N;subst O M Q;obtain⟨es,B,p⟩:=N;obtain⟨U,f1,f2,f3,f4,f5⟩:=y c (by simp);obtain⟨hd,z,T,L,xs,γ,β,rel,x,h4,J⟩:=qc I.e6 B;rw[g]at x;cases x;have e:i=m.size:=nB st.2 (by rw[J];exact p);subst e;obtain⟨⟨ok,n,f⟩,_⟩:=st;exact Ad (I.ok.hd hc) f ⟨o,T,L,g⟩ λh' eb=>⟨_6,I.ii (t':=s.toks) (λb o d e=>eb b o d e) U f1 f3 f4 f5⟩
 self:=λZ Z Z Z Z st h=>let ⟨_,_,e⟩:=st.1;M? e h
noncomputable def Mj(p:D×D):D:=.ci [p.1,p.2]
theorem fu.get{K:KA}{G:Hp}:∀{a:b_ (D×D)}{es:b_ (ah×V)},fu K G a es->∀{i:h_}{p:D×D},a[i]?=a_ p->∃k v,es[i]?=a_ (k,v)/\p.1=kT k/\gy K G p.2 v
 |[],_,_,i,p,e=>by simp at e
 |(_,_)::_,_,⟨k,v,r,b,f,d,c⟩,0,p,e=>by simp at e;subst e;subst b;exact⟨k,v,_6,f,d⟩
 |(_,_)::_,_,⟨k,v,r,b,f,d,c⟩,i+1,p,e=>by subst b;simp at e;simpa using fu.get c e
def CN{K:KA}{o:D_}{a:g_}{w:Hp}{c:b_ (D×D)}{es:b_ (ah×V)}{S:Hp->Hp->Prop}(h:∀G H,S G H->a6 G H->H a=a_ (.n4 o (.dT es))/\a6 w G)(dl:fu K w c es):rm K (OX o a) (c.map Mj) S:=λi G H B j=>by
 obtain⟨q,g⟩:=h G H B j;have A:_7 c=_7 es:=by have:=C_ fT (gw dl);simpa using this
 refine⟨λd f=>?_,λr=>⟨es,q,by rw[bB]at r;rw[<-A];exact r⟩⟩;rw[bY]at f;cases l:c[i]? with
 |none=>rw[l]at f;cases f
 |some p=>rw[l]at f;cases f;obtain⟨k,v,s,ek,J⟩:=dl.get l;refine⟨⟨es,q,(i_.mp s).1⟩,λx M ⟨E,L,b,y,m,u,z,n,C,I⟩=>?_⟩;subst C I;rw[q]at m;cases m;rw[s]at u;cases u;have e:=(nq j).gh;refine⟨_,(nq j).trans (c6.new e (.ci [.ref b,v]) n),?_⟩;refine gz e n ⟨_,_,_6,?_,_,_,_6,J.am (g.trans (nq j).gg),_6⟩;rw[ek];exact Jj z
def rq(g:En->bi):En->ey:=λU=>match g U with
 |.ok (.h7 d_ a)=>.ok (a.map (·.1))
 |.er c=>.er c
 |r=>jl (λz=>r) U
def tw(g:En->bi):En->ey:=λU=>match g U with
 |.ok (.h7 d_ a)=>.ok (a.map Mj)
 |.er c=>.er c
 |_=>.st
section
variable{X:Cx}{B:Hp}{E:EK}{o e tg:Expr}{g:En->bi}{ap cp tp:v_}{tes:b_ Expr}{k1:h_}
set_option tactic.hygienic true in
def W3{G H:Hp}{U:En}{P:b_ D->Prop}(q:f' E G H (tw g U) P):dL E G H (g U) λd=>∃a,d=.h7 d_ a/\P (a.map Mj):=by
 unfold tw at q;cases e:g U with
 |ok d=>
  rw[e]at q;split at q
  .rename_i b;cases b;exact⟨_,_6,q⟩
  .rename_i b;cases b
  .exact q.elim
 |er c=>rw[e]at q;exact q
 |st=>rw[e]at q;exact q
def T3(ha:ck X B E o g)(p:gf o=d_)(Y:(ap.endLine==cp.line)=d_):N2 X B E (.Tuple tes k1 tp) (.Call (.Attribute o "items" ap) [] [] cp) (tw g):=by
 intro i s σ H R I ⟨G,U,Rr,q⟩;refine kZ (d8 p) Y (c9 (ha i s σ H (λx h=>∃a c m,x=.ref a/\h a=a_ (.n4 c (.dT m))/\R (OX c a) h) I ⟨G,U,Rr,(W3 q).am λd Z ⟨T,ed,q⟩ v G1 h L dn=>?_⟩) λv f ⟨x,h,N,Q,a,c,m,ex,ea,q⟩=>?_)
 .subst ed;obtain⟨a,rfl,⟨z,_⟩|⟨_,c,m,C,dl⟩⟩:=dn
  .cases z
  .exact⟨a,c,m,_6,L.gh _ _ C,q _ G1 h L (CN (λG2 H2 x O=>⟨O _ _ (x.1 _ _ C),x.1⟩) dl)⟩
 .subst ex;cases Q;obtain⟨hd,z,l,j,xs,M,J,rel,r,h4,hz⟩:=qc N.e6 ea;have A:f.TypeIs (.ref a) "dict":=⟨c,l,j.1⟩;refine⟨"dict","dict.items",cZ,iP,_E,A,λb e2=>by cases e2;exact⟨c,l,j.2.1⟩,eB _6 (nC ?_)⟩;refine iT iP A _v (_p _) (ub a hd) ⟨⟨M,J,c,l,j,r⟩,?_⟩;have y:∀(u:D_) b n,f.1.get? b=a_ n->(f.1.push u).get? b=a_ n:=λu b n e=>aB _ e;have w:=N.kd (t':=f.toks) (y {cls:=.type "dict_items",data:=.fields #[.ref a]});refine Ae (s:={f with heap:=f.1.push {cls:=.type "dict_items",data:=.fields #[.ref a]}}) (d:=a) (es:=M) (ep:=J) ⟨_,aI _ _6,_6,_6⟩ ⟨c,y _ _ _ l,j,r⟩ ?_;refine⟨_,[_],_,_,h,_6,w.kd (t':=f.toks) λb o e=>aB _ e,Ld (o:=c) (a:=a) r,⟨⟨.none,.none,aI _ _6⟩,cM _⟩,λb p=>?_,q⟩;have e:b=(f.1.push {cls:=.type "dict_items",data:=.fields #[.ref a]}).objs.size:=by simpa using p
  subst e;exact w.qU (aL _) (w.e6.fresh (aL _))
set_option tactic.hygienic true in
def Dz(O:ck X B E e g)(L:N2 X B E tg e (jl g)):N2 X B E tg e (rq g):=by
 intro f s σ H R I ⟨G,U,y,q⟩
 by_cases p:∃d,g U=.ok (.h7 d_ d)
 .obtain⟨d,i⟩:=p;unfold rq at q;rw[i]at q;dsimp only at q;refine c9 (O f s σ H (λx j=>∃a h l,x=.ref a/\j a=a_ (.n4 h (.dT l))/\R (OZ h a) j) I ⟨G,U,y,?_⟩) λv n ⟨x,j,m,C,a,h,l,T,Y,q⟩=>?_
  .rw[i];intro v G1 j w dn;obtain⟨a,rfl,⟨z,_⟩|⟨_,h,l,u,dl⟩⟩:=dn
   .cases z
   .exact⟨a,h,l,_6,w.gh _ _ u,q _ G1 j w (CO (λG2 H2 x A=>⟨A _ _ (x.1 _ _ u),x.1⟩) dl)⟩
  .subst T;cases C;obtain⟨M,z,Q,J,xs,dt,ep,rel,r,h4,hz⟩:=qc m.e6 Y;refine Hn M ⟨h,Q,J,r⟩ ?_;refine⟨_,[_],_,_,j,_6,m.kd (t':=n.toks) λb o e=>aB _ e,P8 (o:=h) (a:=a) r,⟨⟨_,aI _ _6,_6,_6⟩,cM _⟩,λb N=>?_,q⟩;have e:b=n.1.1.size:=by simpa using N
   subst e;exact m.qU (aL _) (m.e6.fresh (aL _))
 .refine L f s σ H R I ⟨G,U,y,?_⟩;unfold rq at q;split at q
  .rename_i d i;exact u_ ⟨d,i⟩ p
  .rename_i c i;unfold jl;rw[i];exact q
  .exact q
end
section
variable{prog:aV}{w:bP}{A:bT}{E:aC->aE->Prop}{s:aE}{r d:g_}{n:h_}{T:F_}{P:h_->aC->Prop}{OK:r_->Prop}
def ye{Q:aC->aE->Prop}(K:z! prog w T r d n P OK)(z:A.handled=c_)(i:OK s.1)(u:n<=aG)(B:(jF T==jF "tuple")=e_)
  (h:∀(j:r_)(l:h_)(a:q_ aC),(∀b o,s.1.get? b=a_ o->j.get? b=a_ o)->ItemsOf P a n->Q (.ref j.objs.size) {s with heap:=j.push {cls:=.type "tuple",data:=.seq a},toks:=l}):
  aP (aW prog w) A (call (.type "tuple") [.ref r]) Q E s:=by
 refine q? (Q₁:=λobj c=>c.TypeIs obj "tuple"/\Q obj c) F.called_tuple (F.typeCall_tuple_1 _) F.entry_object_init ?_ λobj c f=>?_
 .refine codeAny_of_tree ?_;show aP _ A.in1.in1 (do checkBuiltinCall "tuple.__new__" ⟨[.type "tuple",.ref r],[]⟩;again (.builtin "tuple.__new__" ⟨[.type "tuple",.ref r],[]⟩)) _ _ s;refine aA (mS (F.newCall_tuple_1 _) (aD ⟨gR F.plain_tuple_new _,gJ F.entry_tuple_new ?_⟩));rw[dY F.plain_tuple_new _];have q:=sub_tuple_self;have m:=init_tuple_lookup;have x:=madeHere_tuple;have p:s.TypeIs (.ref r) T:=K.type _ i
  wp_walk using lR p,_W (A:=A.in1.in1) (n:=n) K (show A.in1.in1.handled=c_ from z) i u
  intro j l a y g;show aP _ _ (iH a.toList.toArray>>=λv=>ret v) _ _ _;unfold iH;refine aA (cR ?_ (by show a.toList.toArray.size<=aG;simp only[r?];rw[g.1];exact u));refine aD ?_;have e:a.toList.toArray=a:=by simp
  rw[e];exact⟨⟨_,aI _ _6,_6⟩,h j l a y g⟩
 .exact⟨f.1,F.args_object_init_2 obj _,object_init_meets F.called_tuple.init.lookup F.called_tuple.made (by decide) prog w A.in1 _ c ⟨f.1,_6,f.2⟩⟩
end
def LO(p a:g_):HO:=.ext λh=>h.IsValuesView p a
section
variable{X:Cx}
inductive rVals(x:V)(xs:b_ V)(H:Hp)(Q:VK):Prop
 |mk (a es) (_:x=.ref a) (_:xs=[]) (_:H a=a_ (.dK es)) (_:∀p,H p=c_->Q (.ref p) (c0 H p (LO p a))):rVals x xs H Q
def Xn:AB X "dict.values" rVals:=by intro d s σ H x xs v n Q I i j h;obtain⟨a,y,rfl,rfl,m,q⟩:=h;cases i;have c:=j.zero;subst c;obtain⟨z,l,g,rel,f⟩:=Bo I.e6 m;refine iT _w f.typeIs PySem.F.entry_dict_values (PySem.F.args_dict_values_1 _) (meets_dict_values (ao X.prog X.w) a l) ⟨⟨g,f⟩,?_⟩;refine⟨.ref s.1.1.size,_,I.nn (a:=s.1.1.size) (o:=LO s.1.1.size a) (t':=s.toks) (λb o e=>aB _ e) (aL _) ⟨⟨_,aI _ _6,_6,_6⟩,⟨_,aI _ _6⟩,λu p ⟨o,e,r⟩ k=>⟨o,k o e,r⟩⟩,_6,q _ (I.e6.fresh (aL _))⟩
inductive rTupV(xs:b_ V)(H:Hp)(Q:VK):Prop
 |mk (p a es) (_:xs=[.ref p]) (_:H p=a_ (LO p a)) (_:H a=a_ (.dK es)) (_:∀q,H q=c_->Q (.ref q) (c0 H q (.ci (es.map (·.2))))):rTupV xs H Q
theorem Mm:∀{es:b_ (cj×V)}{a:b_ (cj×aC)},KV es a->dg (es.map (·.2)) (a.map (·.2))
 |_,_,.nil=>.nil
 |_,_,.cons r t=>.cons r.2 (Mm t)
def N8(J:X.calm=d_):lf X (.type "tuple") rTupV:=by
 intro g s σ H xs Y Q I r q;obtain⟨p,a,v,rfl,C,L,q⟩:=q;obtain⟨u,rfl,y⟩:=ik r;cases y;obtain⟨B,_⟩:=I.e6 p _ C;obtain⟨z,hd,h,rel,A,T,M,U⟩:=Bo I.e6 L;have E:_7 h=_7 v:=(eA rel).symm;refine ye (PySem.W.kdl_values (r:=p) (d:=a) (kvs:=h) (ep:=M) (knd:=ao X.prog X.w)) (I.ok.hd J) ⟨B,A,T,U⟩ (by rw[E];exact z) (by decide) λl m c G f=>?_;have x:a9 X g σ H {s with heap:=l,toks:=m}:=I.kd G;have N:c.toList=h.map (·.2):=by
  refine oI λi=>?_
  by_cases n:i<c.size
  .have j:c.toList[i]?=a_ c[i]:=by rw[eK];exact cC n
   obtain⟨k,O⟩:=f.2 i c[i] (cC n);rw[j,bY,O];rfl
  .rw[jB (by rw[eE];lia),jB (by rw[bB,<-f.1];lia)]
 refine⟨.ref l.objs.size,_,x.nn (a:=l.objs.size) (o:=.ci (v.map (·.2))) (t':=m) (λb o e=>aB _ e) (aL _) ⟨by rw[bB];exact z,c.toList,by rw[N];exact Mm rel,?_⟩,_6,q _ (x.e6.fresh (aL _))⟩;rw[r?];exact e! _ _
end
def D5:D->f_ D
 |.h7 e_ a=>a_ (.ci (a.map (·.2)))
 |_=>c_
theorem f8.vals{K:KA}{G:Hp}:∀{a:b_ (D×D)}{es:b_ (cj×V)},f8 K G a es->bt K G (a.map (·.2)) (es.map (·.2))
 |[],_,h=>by rw[show _=[]from h];exact _6
 |(_,_)::_,_,⟨k,v,r,d,_,c,b⟩=>by subst d;exact⟨v,_,_6,c,f8.vals b⟩
section
variable{X:Cx}{B:Hp}{E:EK}{o:Expr}{g:En->bi}{pos p ap cp:v_}
def Yk(s:X.calm=d_)(r:Gl X "tuple")(m:X.mg "tuple"=c_)(w:dj X B E o g)(u:gf o=d_)(n:(ap.endLine==cp.line)=d_):
  ck X B E (.Call (.Name "tuple" p) [.Call (.Attribute o "values" ap) [] [] cp] [] pos) (g1 D5 g):=
 PE.imp (jg (N8 s) r m lA (cg (DF cZ _w PySem.F.type_dict_values Xn w (d8 u) n) f7 _6) (by decide) (by decide) _6 _6) λσ H Q q=>by
  obtain⟨G,U,R,q⟩:=q;refine⟨G,U,R,(dL.bind q).am λd Z q v C A h x=>?_⟩;obtain⟨z,f,q⟩:=dL.of q;cases d with
  |h7 t j=>
   cases t with
   |true=>cases f
   |false=>
    cases f;obtain⟨l,e,rfl,b,dl⟩:=Arg.dctK h.gh x;refine⟨.inr (.inr (.inl ⟨_6,.inl ⟨e,b⟩⟩)),l,e,_6,_6,b,λp i=>⟨p,l,e,_6,ae,?_,λy a=>?_⟩⟩
    .rw[aa (ak b i)];exact b
    .have c:=c6.own h.gh (LO p l) i;exact q _ _ _ ((h.trans c).trans (c6.new c.gh _ a)) (gz c.gh a dl.vals)
  |_=>cases f
end
end Pu
namespace Pu
open L2 PySem.SeqAt PySem.W
section
variable{prog:aV}{w:bP}{A:bT}{R:_G->aE->Prop}{I:g_}{fp wr:b_ g_}{n:h_}{P:h_->aC->Prop}{St:h_->r_->Prop}
def HM(prog:aV)(w:bP)(A:bT)(P:h_->aC->Prop)(St:h_->r_->Prop)(c:h_->h_->l_):Prop:=
 ∀k i j b a (s:aE) (Q:aC->aE->Prop) (E:aC->aE->Prop),St k s.1->P i b->P j a->Q (.bool (c i j)) s->aP (aW prog w) A (pX .Lt b a) Q E s
def Pf(W:Walks prog w A.in1 I fp wr n P St)(B:h_->h_->l_)(E:HM prog w A.in1 P St B)(S:g_)(H:S∉fp):
  ∀(k j:h_)(s:aE)(q:aC)(c:h_),n-(j+1)=k->j+1<=n->St (j+1) s.1->P (oK B j) q->
  s.1.get? S=a_ {cls:=.type "list",dict:=c_,data:=.seq #[q,q] c,slots:=#[]}->
  (∀v N L,P (oK B (n-1)) v->(∀b o,b∉wr->b≠S->s.1.get? b=a_ o->N.get? b=a_ o)->R (.ok (.ret v)) {s with heap:=N,toks:=L})->
  gX (aW prog w) A (.builtin "min.loop" ⟨[.ref I,.none,.ref S],[]⟩) R s:=by
 have G:S∉wr:=λh=>H (W.sub _ h);have l:(pY "min"++pY ".loop":F_)="min.loop":=by decide
 intro k;induction k with
 |zero=>
  intro j s q c hk hj u r J M;have C:j+1=n:=by lia
  refine gJ pH ?_;rw[dY gU _];show aP _ A.in1 (qF (.ref S)>>=_) _ _ s;refine aA (cV J _6 ?_);show aP _ A.in1 (_2 (eY (.ref I)) _>>=_) _ _ s;refine aA (jS (W.done s _ _ (C▸u) λN L d=>?_));have p:=d S _ G J;show aP _ A.in1 (updateSeq S (λZ=>#[])>>=_) _ _ _;refine aA ?_;refine kN p _6 (aA (iQ (aD ?_)));refine M q _ L (by rw[<-C];exact r) λb o a f e=>(cF _ _ (cW f)).trans (d b o a e)
 |succ k T=>
  intro j s q c hk hj u r J M;have x:j+1<n:=by lia
  refine gJ pH ?_;rw[dY gU _];show aP _ A.in1 (qF (.ref S)>>=_) _ _ s;refine aA (cV J _6 ?_);show aP _ A.in1 (_2 (eY (.ref I)) _>>=_) _ _ s;refine aA (jS (W.item (j+1) s _ _ x u λv N L Y i d=>?_));have p:=d S _ G J;show aP _ A.in1 (_2 (mK [v,v] (pX .Lt v q>>=_)) _>>=_) _ _ _;refine aA (jS (cK (aA (E _ (j+1) (oK B j) v q _ _ _ i Y r ?_))));refine aA (cK (dG ?_));refine aA (iQ (aD ?_));cases U:B (j+1) (oK B j)with
  |true=>
   simp only[K_];refine aA ?_;refine kN p _6 (aA (iQ ?_));rw[l];refine aD ⟨gR gU _,T (j+1) _ v _ (by lia) x (W.frame _ _ _ i λb Q o e=>?_) (by simp only[oK,U,K_];exact Y) (dR _ p _6) λO z g y m=>?_⟩
   .exact(cF _ _ (λh:S=b=>H (by rw[h];exact Q))).trans e
   .exact M O z g y λb o a f e=>m b o a f ((cF _ _ (cW f)).trans (d b o a e))
  |false=>simp only[m_,A_];refine aA (iQ ?_);rw[l];refine aD ⟨gR gU _,T (j+1) _ q c (by lia) x i (by simp only[oK,U,m_,A_];exact r) p λO z g y m=>?_⟩;exact M O z g y λb o a f e=>m b o a f (d b o a e)
end
section
variable{prog:aV}{w:bP}{A:bT}{E:aC->aE->Prop}{s:aE}
def N6{x:aC}{Q:aC->aE->Prop}
   (h:aP (aW prog w) A.in1 (a! x) (λM a=>∃I r wr n P St u,M=.ref I/\Walks prog w A.in1 I r wr n P St/\St 0 a.1/\(∀b∈r,b<a.1.1.size)/\0<n/\HM prog w A.in1 P St u/\
   ∀v J L,P (oK u (n-1)) v->(∀b o,b∉wr->a.1.get? b=a_ o->J.get? b=a_ o)->Q v {a with heap:=J,toks:=L}) E s):
  aP (aW prog w) A (call (.builtin "min") [x]) Q E s:=by
 have c:(pY "min"++pY ".loop":F_)="min.loop":=by decide
 refine call_function_tree F.kind_min F.plain_min F.entry_min (F.args_min1 _) ?_;show aP _ A.in1 (nL "min" ["key","default"] 0 ⟨[],[]⟩>>=_) _ _ s;refine aA (mS (show nL "min" ["key","default"] 0 ⟨[],[]⟩=pure [c_,c_]from rfl) ?_);refine aA (aD ?_);refine aA (cA h (λM a g=>?_) λZ Z e=>e);obtain⟨I,r,wr,n,P,St,u,rfl,W,y,z,N,m,U⟩:=g;refine aA (cR ?_);have d:a.1.1.size∉r:=λT=>cQ _ (z _ T);rw[c];refine aD ⟨gR gU _,?_⟩;have C:a.1.1.size∉wr:=λh=>d (W.sub _ h);refine gJ pH ?_;rw[dY gU _];show aP _ A.in1 (qF (.ref a.1.1.size)>>=_) _ _ _;refine aA (cV (aI _ _6) _6 ?_);show aP _ A.in1 (_2 (eY (.ref I)) _>>=_) _ _ _;refine aA (jS (W.item 0 _ _ _ N (W.frame _ _ _ y λb Z o e=>aB _ e) λv J L Y i l=>?_));have q:=l a.1.1.size _ C (aI _ _6);show aP _ A.in1 (updateSeq a.1.1.size (λZ=>#[v,v])>>=_) _ _ _;refine aA ?_;refine kN q _6 ?_;rw[c];refine aD ⟨gR gU _,Pf W u m a.1.1.size d _ 0 _ v _ _6 N (W.frame _ _ _ i λb B o e=>?_) Y (dR _ q _6) λO H f G j=>?_⟩
 .exact(cF _ _ (λh:a.1.1.size=b=>d (by rw[h];exact B))).trans e
 .exact U O H f G λb o p e=>j b o p (bE (aM e)) ((cF _ _ (cE (aM e))).trans (l b o p (aB _ e)))
def Walks.also{I:g_}{j wr:b_ g_}{n:h_}{P:h_->aC->Prop}{St:h_->r_->Prop}{ts:b_ g_}{OK:r_->Prop}(W:Walks prog w A I j wr n P St)(p:∀b∈ts,b∉wr)
  (g:∀h c,OK h->(∀b∈ts,∀o,h.get? b=a_ o->c.get? b=a_ o)->OK c):Walks prog w A I (j++ts) wr n P (λi h=>St i h/\OK h) where
 sub:=λb a=>jG _ (W.sub b a)
 frame:=λi h c st k=>⟨W.frame i h c st.1 λb a=>k b (jG _ a),g h c st.2 λb a=>k b (dB _ a)⟩
 item:=λi s Q E m st d=>W.item i s Q E m st.1 λv c l q f k=>d v c l q ⟨f,g _ _ st.2 λb a o e=>k b o (p b a) e⟩ k
 done:=λs Q E st d=>W.done s Q E st.1 d
 self:=λi s Q E st d=>W.self i s Q E st.1 d
end
noncomputable def RS(x y:l_×n_):h_->l_
 |0=>cO (.bool x.1) (.bool y.1)
 |_=>cO (.int x.2) (.int y.2)
noncomputable def RQ(x y:l_×n_):h_->l_
 |0=>decide (b2i x.1<b2i y.1)
 |_=>decide (x.2<y.2)
def GF(x y:l_×n_):l_:=t7 (RS x y) (RQ x y) e_ [0,1]
noncomputable def v3:b_ D->f_ (b_ (l_×n_))
 |[]=>a_ []
 |.ci [.bl b,.int i]::r=>(v3 r).map ((b,i)::·)
 |_=>c_
def D4:D->f_ D
 | .a8 a => (match v3 a with
  |some ps=>if ps=[]then c_ else a[oK (λi j=>GF (ps.getD i (e_,0)) (ps.getD j (e_,0))) (_7 ps-1)]?
  |none=>c_)
 |_=>c_
inductive PairB(h:r_)(v:aC)(p:l_×n_):Prop
 |mk (a dd n sl t) (_:v=.ref a) (_:h.get? a=a_ {cls:=.type "tuple",dict:=dd,data:=.seq #[.bool p.1,.int p.2 t] n,slots:=sl}):PairB h v p
set_option tactic.hygienic true in
theorem zu:∀{a:b_ D}{ps:b_ (l_×n_)},v3 a=a_ ps->a=ps.map λp=>.ci [.bl p.1,.int p.2]
 |[],ps,h=>by cases h;rfl
 |d::r,ps,h=>by
  unfold v3 at h;split at h
  .rename_i z;cases z
  .rename_i b i c z;cases z;cases e:v3 r with
   |none=>rw[e]at h;cases h
   |some f=>rw[e]at h;cases h;rw[zu e];rfl
  .cases h
def Xk{c:aV}{w:bP}{A:bT}{s:aE}{u v:aC}{x y:l_×n_}{Q:aC->aE->Prop}{E:aC->aE->Prop}(I:A.units+5<cP)(pu:PairB s.1 u x)(C:PairB s.1 v y)(q:Q (.bool (GF x y)) s):
  aP (aW c w) A (pX .Lt u v) Q E s:=by
 obtain⟨a,H,n,z,t,rfl,o⟩:=pu;obtain⟨b,f,G,d,g,rfl,m⟩:=C;have l:∀(B:l_),_M s.1 (.bool B) (.bool B) []:=λB=>.bool B;have h:∀(i:n_)(k:Z?),_M s.1 (.int i k) (.int i) []:=λi k=>.int i k;refine o! (op:=.Lt) ⟨_,o,_6⟩ ⟨_,m,_6⟩ F.slot_tuple_lt F.entry_tuple_lt (F.args_tuple_lt_2 _ _) (Vw a b #[.bool x.1,.int x.2 t] #[.bool y.1,.int y.2 g] n G H f z d (RS x y) (RQ x y)) ⟨o,m,λj p r=>⟨?_,λZ=>?_⟩,?_⟩ (by lia)
 .have e:j=0\/j=1:=by have:j<2:=p;lia
  obtain rfl|rfl:=e
  .exact eqAt_reads _ _ _ _ _ _ _ _ (l x.1) (l y.1) _6 _6 (by simp only[iE];show A.units+1+_<_;lia)
  .exact eqAt_reads _ _ _ _ _ _ _ _ (h x.2 t) (h y.2 g) _6 _6 (by simp only[iE];show A.units+1+_<_;lia)
 .have e:j=0\/j=1:=by have:j<2:=p;lia
  obtain rfl|rfl:=e
  .exact λc w E Q q=>(show aP _ _ (cI .Lt _ _) _ _ _ from PyProof.Rows.lt_bool q)
  .exact λc w E Q q=>(show aP _ _ (cI .Lt _ _) _ _ _ from _e q)
 .exact show iR (GF x y)≠jM/\Q (.bool (GF x y)) s from⟨(λx=>nomatch x),q⟩
section
variable{X:Cx}{B:Hp}{E:EK}{e:Expr}{g:En->bi}{pos p:v_}
inductive rMinP(X:Cx)(xs:b_ V)(H:Hp)(Q:VK):Prop
 |mk (a vs G ds d) (_:xs=[.ref a]) (_:h8 X.K H a vs) (_:a6 G H) (_:bt (kx X) G ds vs) (_:D4 (.a8 ds)=a_ d) (_:(∀v,gy (kx X) G d v->Q v H)):rMinP X xs H Q
def N7(J:X.A.units+20<cP)(hc:X.calm=d_):lf X (.builtin "min") (rMinP X):=by
 intro μ s σ H xs us Q I r q;obtain⟨a,vs,G,ds,d,rfl,sq,sg,dl,x,q⟩:=q;obtain⟨u,rfl,M⟩:=ik r;cases M;unfold D4 at x;dsimp only at x;cases ep:v3 ds with
 |none=>rw[ep]at x;cases x
 |some ps=>
  rw[ep]at x;dsimp only at x
  by_cases m:ps=[]
  .rw[aO m]at x;cases x
  rw[aJ m]at x;have O:=zu ep;obtain⟨f,U,Y,hz⟩:=I.list sq;have al:=aM (show s.1.get? a=a_ _ from(Y.isList).choose_spec.1);have γ:a≠s.1.1.size:=bE al;have len:_7 f=_7 ps:=by rw[<-U.length,<-dl.length,O,bB]
  have n0:0<_7 ps:=List.length_pos_iff.mpr m;have get:∀(i:h_) v,f[i]?=a_ v->PairB s.1 v (ps.getD i (e_,0)):=λi v y=>by
   have T:i<_7 ps:=by rw[<-len];exact(i_.mp y).1
   have hd:ds[i]?=a_ (.ci [.bl (ps.getD i (e_,0)).1,.int (ps.getD i (e_,0)).2]):=by rw[O,bY,bF T,jN,bF T];rfl
   obtain⟨w,hw,b,ws,rfl,l,v1,r1,rfl,d1,v2,r2,rfl,d2,rfl⟩:=dl.get hd;obtain⟨u,J,M⟩:=U.get hw;rw[y]at J;cases J;cases M;obtain⟨_,is2,z1,⟨cl,L,dt,C⟩,z3,z4,n,z5⟩:=show fb X.prog X.w H s.1 b (.ci [v1,v2])from I.e6 b _ (sg _ _ l);simp only at z4 z5;subst z4 z5;rw[show v1=.bl _ from d1,show v2=.int _ from d2]at z1;cases z1 with
   |cons q1 t1=>
    cases t1 with
    |cons q2 t2=>cases t2;cases (show _=iR _ from q1);obtain⟨t,rfl⟩:=(show∃t,_=nM _ t from q2);exact⟨b,L,n,C,t,_6,z3⟩
  have N:∀b∈f.filterMap (λv=>match v with|.ref b=>a_ b|_=>c_),b<s.1.1.size:=λb l=>by obtain⟨v,y,e⟩:=V_.mp l;obtain⟨i,T⟩:=y? y;obtain⟨c,L,n,C,t,rfl,z⟩:=get i v T;cases e;exact aM z
  refine N6 (iD Y.isList ⟨_,_,_,_,_,_,(λi j=>GF (ps.getD i (e_,0)) (ps.getD j (e_,0))),_6,Walks.also (ts:=f.filterMap (λv=>match v with|.ref b=>a_ b|_=>c_)) (OK:=λh=>∀(i:h_) v,f[i]?=a_ v->PairB h v (ps.getD i (e_,0))) (Walks.list (A:=X.A.in1) (I.ok.hd hc) _ a γ f.toArray) (λb l z=>?_) (λh h' ok k i v y=>?_),⟨⟨⟨_,aI _ _6,_6,_6⟩,Y.isList.push _⟩,λi v y=>?_⟩,λb l=>?_,by rw[aX,len];exact n0,λk i j vi vj s' Q' E' st pi pj q'=>?_,λv h' tk hP hk=>?_⟩)
  .have:b=s.1.1.size:=by simpa using z
   exact cQ _ (this▸N b l)
  .obtain⟨c,L,n,C,t,rfl,z⟩:=ok i v y;exact⟨c,L,n,C,t,_6,k c (V_.mpr ⟨_,eT y,_6⟩) _ z⟩
  .obtain⟨c,L,n,C,t,rfl,z⟩:=get i v y;exact⟨c,L,n,C,t,_6,aB _ z⟩
  .show b<(s.1.push _).objs.size;rw[bX];rcases O_.mp l with l|l
   .rcases o_.mp l with rfl|l
    .exact iM _
    .rcases o_.mp l with rfl|l
     .exact oH al
     .cases l
   .exact oH (N b l)
  .exact Xk (by show X.A.units+1+5<_;lia) (st.2 i vi (by simpa using pi)) (st.2 j vj (by simpa using pj)) q'
  .have α:∀b o,s.1.get? b=a_ o->h'.get? b=a_ o:=λb o e=>by
    refine hk b o (λhm=>?_) (aB _ e);rcases o_.mp hm with z|hm
    .exact u_ (z▸aM e) (cQ _)
    .cases hm
   rw[aX,len]at hP;have δ:f[oK (λi j=>GF (ps.getD i (e_,0)) (ps.getD j (e_,0))) (_7 ps-1)]?=a_ v:=by simpa using hP
   obtain⟨w,hw,dw⟩:=dl.get x;obtain⟨u,J,M⟩:=U.get hw;rw[δ]at J;cases J;exact⟨w,H,I.kd (t':=tk) α,M,q w dw⟩
def Yj(i:X.A.units+20<cP)(n:X.calm=d_)(m:Gl X "min")(j:X.mg "min"=c_)(o:dj X B E e g)(b:aU [e] X.env=(e_,I_ e X.env)::aU [] X.env):ck X B E (.Call (.Name "min" p) [e] [] pos) (g1 D4 g):=
 PE.imp (jm (N7 i n) m j (by decide+kernel:eX "min"=a_ (.builtin "min")) (de o f9 b) (by decide) (by decide) b _6) λσ H Q q=>GI (λG H x r d a w c Q q=>by
  cases r with
  |a8 u=>obtain⟨l,f,rfl,h,dl⟩:=w.a8 a;exact⟨l,f,G,u,d,_6,h,a,dl,c,λv s=>q v G H (c6.refl a) s⟩
  |_=>cases c) q
end
end Pu
namespace Pu
open L2
section
section
variable{prog:aV}{w:bP}{A:bT}{E:aC->aE->Prop}{s:aE}
def xf{M:_q}{a:g_}{Q:f_ D_->aE->Prop}(h:Q (s.1.get? a) s):aP M A (_3 a) Q E s:=λΓ p z=>h
def Zj{z TI TO f i n B k a:h_}{xs O:q_ aC}{x y C:aC}{oa:D_}{Q:f_ aC->aE->Prop}(D:mV z TI TO f i n B)(Z:ZL s.1 z TI TO f i n B k (cX a) C)(ha:s.1.get? a=a_ oa)
  (J:s.1.IsList n xs)(I:iJ s.1 B O)(hx:xs[k]?=a_ x)(hy:O[k]?=a_ y)
  (hQ:∀q,ZL q z TI TO f i n B (k+1) (cX a) (.bool d_)->oR q s.1.1.size x y->q.objs.size=s.1.1.size+1->
   (∀c o,c≠z->c≠TO->c≠f->c≠i->s.1.get? c=a_ o->q.get? c=a_ o)->Q (a_ (.ref s.1.1.size)) {s with heap:=q}):
  aP (aW prog w) A (eY (.ref z)) Q E s:=by
 obtain⟨j,p,⟨u,v,L⟩,h1,h2⟩:=Z;have U:s.TypeIs (.ref z) "zip":=⟨_,j,_6⟩;unfold eY;refine aA (eO (cJ (name:=fF "__next__") U gI (cL gI U mG ?_ (lO _))));show aP _ _ (nV (.ref z) 2>>=_) _ _ _;refine aA (bU j _6 (x:=.bool e_) _6 ?_);show aP _ _ (nV (.ref z) 3>>=_) _ _ _;refine aA (bU j _6 (x:=.ref TI) _6 ?_);refine aA (cV p _6 ?_);show aP _ _ (bQ (.ref z)>>=_) _ _ _;refine aA ?_;unfold bQ;refine aA (bU j _6 (x:=cX a) _6 ?_);show aP _ _ (_3 ((a:n_)).toNat>>=_) _ _ _;refine aA (xf ?_);rw[fG,ha];simp only[z?,m_,A_];refine aA (bU j _6 (x:=C) _6 ?_);refine cA (show aP _ _ _ (λb T=>b=e_/\∃g1,T={s with heap:=g1}/\g1.get? z=a_ (u6 (cX a) (.bool d_) TI TO)/\bN z s.1 g1) _ s from ?_) (λb T ⟨eb,g1,es,G,d⟩=>?_) λW W x=>x
 .by_cases e:(C !=.bool d_)=d_
  .rw[aO e];exact aA (bZ j (by simp) λg1 G d=>aD ⟨_6,g1,_6,G,d⟩)
  .rw[aJ e];have e':C=.bool d_:=by simpa using e
   subst e';exact aD ⟨_6,s.1,_6,j,_6,λW W=>rfl⟩
 .subst eb es;simp only[m_,A_,X?,iW,jK];refine aA (aA (aA (cK ?_)));show aP _ _ (bR (.ref f)>>=_) _ _ _;refine aA (lN (s:={s with heap:=g1}) (h1.extBut d.extBut D.i1z) (J.extBut d.extBut D.l1z) hx λg2 p2 h=>aD (aD ?_));show aP _ _ (_>>=_) _ _ _;refine aA (aA (cK ?_));show aP _ _ (bR (.ref i)>>=_) _ _ _;refine aA (gp (s:={s with heap:=g2}) ((h2.extBut d.extBut D.i2z).extBut h.extBut D.i12.symm) ((I.extBut d.extBut D.l2z).extBut h.extBut D.l2i1) hy λg p4 l=>aD (aD (aD ?_)));replace h:bN f g1 g2:=h;replace l:bN i g2 g:=l;show aP _ _ (o? [x,y]>>=_) _ _ _;refine aA (lK (aD ⟨_,_6,aD ?_⟩));have sz:g.objs.size=s.1.1.size:=by rw[l.1,h.1,d.1]
  have H:∀c o,c≠z->c≠f->c≠i->s.1.get? c=a_ o->g.get? c=a_ o:=λc o c1 N M e=>l.extBut _ _ M (h.extBut _ _ N (d.extBut _ _ c1 e));have Y:g.get? z=a_ (u6 (cX a) (.bool d_) TI TO):=l.extBut _ _ D.i2z.symm (h.extBut _ _ D.i1z.symm G);have q1:g.IsListIter f n (k+1):=p2.extBut l.extBut D.i12;have m:∀c o,g.get? c=a_ o->(g.push {cls:=.type "tuple",data:=.seq #[x,y]}).get? c=a_ o:=λc o e=>aB _ e;show Q (a_ (.ref g.objs.size)) _;rw[sz];refine hQ _ ⟨m _ _ Y,m _ _ (H _ _ D.TIz D.TIi1 D.TIi2 p),⟨u,v,m _ _ (H _ _ D.TOz D.TOi1 D.TOi2 L)⟩,let ⟨o,e,r⟩:=q1;⟨o,m _ o e,r⟩,let ⟨o,e,r⟩:=p4;⟨o,m _ o e,r⟩⟩ ?_ ?_ λc o c1 c2 N M e=>m _ _ (H c o c1 N M e)
  .rw[<-sz];exact aI _ _6
  .rw[bX,sz]
def Zk{z TI TO i m r q k a:h_}{xs p:q_ aC}{n:aC}{Y:D_}{Q:f_ aC->aE->Prop}(L:A.handled=c_)(D:mV z TI TO i m r q)(Z:ZL s.1 z TI TO i m r q k (cX a) n)(ha:s.1.get? a=a_ Y)
  (j:s.1.IsList r xs)(B:iJ s.1 q p)(l:xs[k]?=c_\/p[k]?=c_)
  (N:∀T,(∀c o,c≠z->c≠TO->c≠i->c≠m->s.1.get? c=a_ o->T.get? c=a_ o)->Q c_ {s with heap:=T}):aP (aW prog w) A (eY (.ref z)) Q E s:=by
 obtain⟨g,G,⟨u,v,γ⟩,O,h2⟩:=Z;have M:s.TypeIs (.ref z) "zip":=⟨_,g,_6⟩;unfold eY;refine aA (eO (cJ (name:=fF "__next__") M gI (cL gI M mG ?_ (lO _))));show aP _ _ (nV (.ref z) 2>>=_) _ _ _;refine aA (bU g _6 (x:=.bool e_) _6 ?_);show aP _ _ (nV (.ref z) 3>>=_) _ _ _;refine aA (bU g _6 (x:=.ref TI) _6 ?_);refine aA (cV G _6 ?_);show aP _ _ (bQ (.ref z)>>=_) _ _ _;refine aA ?_;unfold bQ;refine aA (bU g _6 (x:=cX a) _6 ?_);show aP _ _ (_3 ((a:n_)).toNat>>=_) _ _ _;refine aA (xf ?_);rw[fG,ha];simp only[z?,m_,A_];refine aA (bU g _6 (x:=n) _6 ?_);refine cA (show aP _ _ _ (λb J=>b=e_/\∃g1,J={s with heap:=g1}/\g1.get? z=a_ (u6 (cX a) (.bool d_) TI TO)/\bN z s.1 g1) _ s from ?_) (λb J ⟨eb,g1,es,I,d⟩=>?_) λW W x=>x
 .by_cases e:(n !=.bool d_)=d_
  .rw[aO e];exact aA (bZ g (by simp) λg1 I d=>aD ⟨_6,g1,_6,I,d⟩)
  .rw[aJ e];have e':n=.bool d_:=by simpa using e
   subst e';exact aD ⟨_6,s.1,_6,g,_6,λW W=>rfl⟩
 .subst eb es;simp only[m_,A_,X?,iW,jK];refine aA (aA (aA (cK ?_)));show aP _ _ (bR (.ref i)>>=_) _ _ _;cases y:xs[k]? with
  |none=>refine aA (H! (s:={s with heap:=g1}) L (O.extBut d.extBut D.i1z) (j.extBut d.extBut D.l1z) y λg2 e f C=>?_);exact yb (s:={s with heap:=g2}) C (N _ λc o c1 W H W x=>f _ _ H (d.extBut _ _ c1 x))
  |some x=>
   have hy:p[k]?=c_:=by obtain h|h:=l;rw[y]at h;cases h;exact h
   refine aA (lN (s:={s with heap:=g1}) (O.extBut d.extBut D.i1z) (j.extBut d.extBut D.l1z) y λg2 p2 f=>aD (aD ?_));replace f:bN i g1 g2:=f;show aP _ _ (_>>=_) _ _ _;refine aA (aA (cK ?_));show aP _ _ (bR (.ref m)>>=_) _ _ _;refine aA (ib (s:={s with heap:=g2}) L ((h2.extBut d.extBut D.i2z).extBut f.extBut D.i12.symm) ((B.extBut d.extBut D.l2z).extBut f.extBut D.l2i1) hy λg4 e U C=>?_);exact yb (s:={s with heap:=g4}) C (N _ λc o c1 W H c4 x=>U _ _ c4 (f.extBut _ _ H (d.extBut _ _ c1 x)))
end
def F9:nQ (.type "zip") "keys"=pure c_:=am_miss_of_fast (by decide+kernel)
def wc:nQ (.type "zip") "__getattr__"=pure c_:=by rw[typeLookup_type,F!];kernel_rfl
def Cz:entryFor table "zip.__getattribute__"=a_ z_.«object.__getattribute__»:=
 entryFor_alias (id':="object.__getattribute__") (by kernel_rfl) _6 (by decide+kernel) (by kernel_rfl)
def Fy(a:g_)(f:q_ aC)(u:Z?):
  _g (z_.«object.__getattribute__» ⟨[.ref a,.str "keys" u],[]⟩) (λA R s=>s.1.get? a=a_ {cls:=.type "zip",dict:=c_,data:=.fields f,slots:=#[]}/\raisesAttr (.ref a) "keys" A R s):=
 Meets.of_wp λe w A R s b=>by
  obtain⟨j,g,d,h,os⟩:=s;obtain⟨i,b⟩:=b;have l:(⟨j,g,d,h,os⟩:aE).TypeIs (.ref a) "zip":=⟨_,i,_6⟩;have c:=F9;unfold z_.«object.__getattribute__»
  repeat (any_goals (first|assumption|wp_step))
  exact R! (A:=A.in1) b.1 b.2 (attrMsg_fits (by decide+kernel) (by rw[eS];decide))
def Gi{c:aV}{w:bP}{A:bT}{E:aC->aE->Prop}{h:r_}{g:q_ M!}{d:Drawn}{t:h_}{os:OsState}{a:g_}{j:q_ aC}{Q:f_ aC->aE->Prop}(m:h.get? a=a_ {cls:=.type "zip",dict:=c_,data:=.fields j,slots:=#[]})(r:A.handled=c_)
  (p:∀i o,(∀b l,h.get? b=a_ l->i.get? b=a_ l)->Q c_ ⟨i,g,d,o,os⟩):aP (aW c w) A (pW (.ref a) "keys") Q E ⟨h,g,d,t,os⟩:=by
 have q:(⟨h,g,d,t,os⟩:aE).TypeIs (.ref a) "zip":=⟨_,m,_6⟩;have B:=sub_AttributeError;have z:=F.slot_zip_getattribute.lookup;have y:=F.slot_zip_getattribute.bind (.ref a);have x:=wc;unfold pW getAttrBy? getAttrBy
 repeat (any_goals (first|assumption|((with_reducible show aP _ _ (call (mJ "zip.__getattribute__") _ _) _ _ _);refine fC F.slot_zip_getattribute q Cz (F.args_zip_getattribute_2 _ _) (Fy a j _) ⟨m,r,λi n e f=>?_⟩)|wp_step))
 obtain⟨u,s,v⟩:=f.there;show aP _ _ (kS _ _ _ _ _ _ _) _ _ _;unfold kS
 repeat (any_goals (first|assumption|wp_step))
 exact p i _ f.keeps
section
variable{prog:aV}{w:bP}{A:bT}{E:aC->aE->Prop}{s:aE}
noncomputable def Pd(l:g_):D_:={cls:=.type "list_iterator",data:=.fields #[.ref l,.int 0 0]}
def HP(h:r_)(b a:g_):r_:=((((h.push (Pd b)).push (Il a)).push (AF h)).push HN).push (NF h)
def Gc(a b:g_)(xs j:q_ aC):
  _g (z_.«zip.__new__» ⟨[.type "zip",.ref a,.ref b],[]⟩) (λz R s=>s.1.IsList a xs/\iJ s.1 b j/\
   R (.ok (.ret (.ref (s.1.1.size+4)))) {s with heap:=HP s.1 a b}):=
 .of_wp λprog w A R s h=>by
  obtain⟨n,g,d,l,os⟩:=s;obtain⟨e,c,h⟩:=h;have m:=sub_zip;have i:Heap.IsList (oJ ⟨n,g,d,l,os⟩) a xs:=e;have f:iJ (oJ ⟨n.push {cls:=.type "list_iterator",data:=.fields #[.ref a,.int 0 0]},g,d,l,os⟩) b j:=IsTup.push c _
  wp_walk using iD i,nW f
  refine⟨_,_6,?_⟩;simp only[bX];exact h
def Iz{a b:g_}{xs g:q_ aC}{Q:aC->aE->Prop}(e:s.1.IsList a xs)(d:iJ s.1 b g)
  (h:∀f,ZL f (s.1.1.size+4) (s.1.1.size+2) (s.1.1.size+3) s.1.1.size (s.1.1.size+1) a b 0 .none (.bool e_)->(∀c o,s.1.get? c=a_ o->f.get? c=a_ o)->Q (.ref (s.1.1.size+4)) {s with heap:=f}):
  aP (aW prog w) A (call (.type "zip") [.ref a,.ref b]) Q E s:=by
 refine A! F.called_zip (by decide) (F.typeCall_zip_2 _ _) (F.newCall_zip_2 _ _) (λobj=>F.args_object_init_3 obj _ _) F.entry_zip_new (Gc a b xs g) ⟨e,d,?_⟩;have l:(s.1.push (Pd a)).objs.size=s.1.1.size+1:=bX ..;have j:((s.1.push (Pd a)).push (Il b)).objs.size=s.1.1.size+2:=by rw[bX,l]
 have i:(((s.1.push (Pd a)).push (Il b)).push (AF s.1)).objs.size=s.1.1.size+3:=by rw[bX,j]
 have n:((((s.1.push (Pd a)).push (Il b)).push (AF s.1)).push HN).objs.size=s.1.1.size+4:=by rw[bX,i]
 have m:(HP s.1 a b).get? (s.1.1.size+4)=a_ (NF s.1):=by rw[<-n];exact aI _ _6
 have p:(HP s.1 a b).get? (s.1.1.size+3)=a_ HN:=by rw[<-i];exact aB _ (aI _ _6)
 have q:(HP s.1 a b).get? (s.1.1.size+2)=a_ (AF s.1):=by rw[<-j];exact aB _ (aB _ (aI _ _6))
 have g2:(HP s.1 a b).get? (s.1.1.size+1)=a_ (Il b):=by rw[<-l];exact aB _ (aB _ (aB _ (aI _ _6)))
 have g1:(HP s.1 a b).get? s.1.1.size=a_ (Pd a):=aB _ (aB _ (aB _ (aB _ (aI _ _6))));exact⟨⟨_,m,_6⟩,h _ ⟨m,q,⟨_,_,p⟩,⟨_,g1,_6,_6⟩,⟨_,g2,_6,_6⟩⟩ λc o x=>aB _ (aB _ (aB _ (aB _ (aB _ x))))⟩
end
section
variable{prog:aV}{w:bP}{A:bT}{R:_G->aE->Prop}{z TI TO i1 i2 l1 l2:h_}{xs ys:q_ aC}{ps:b_ (cj×aC)}
def Zi(hh:A.handled=c_)(D:mV z TI TO i1 i2 l1 l2)(d:g_)(T:∀b∈[z,TI,TO,i1,i2,l1,l2],d≠b)(hz:_7 ps<=aG)(hn:_7 ps=P! xs.size ys.size)
  (hP:∀(j:h_) kv,ps[j]?=a_ kv->∃x,xs[j]?=a_ x/\(ao prog w).is kv.1 x=d_/\ys[j]?=a_ kv.2):
  ∀(bc:b_ (cj×aC))(i:h_)(s:aE)(m:b_ (cj×aC)),ps.drop i=bc->i<=_7 ps->(∃J N,ZL s.1 z TI TO i1 i2 l1 l2 i J N/\((J=.none/\N=.bool e_)\/∃a:h_,J=cX a/\(∃H,s.1.get? a=a_ H)/\a∉[d,z,TO,i1,i2]))->
   s.1.IsList l1 xs->iJ s.1 l2 ys->s.1.DictOf (ao prog w) d m->_7 m<=i->
   (∀y tk,(∀b o,b∉[d,z,TO,i1,i2]->s.1.get? b=a_ o->y.get? b=a_ o)->y.DictOf (ao prog w) d (merged m bc)->R (.ok (.ret .none)) {s with heap:=y,toks:=tk})->
   gX (aW prog w) A (.builtin "dict.update.loop" ⟨[.ref d,.ref z,cX i,.none],[]⟩) R s:=by
 have dz':d≠z/\d≠TI/\d≠TO/\d≠i1/\d≠i2/\d≠l1/\d≠l2:=⟨T z (by simp),T TI (by simp),T TO (by simp),T i1 (by simp),T i2 (by simp),T l1 (by simp),T l2 (by simp)⟩;obtain⟨d1,d2,d3,d4,d5,d6,d7⟩:=dz';have I:∀{b:g_},b∉[d,z,TO,i1,i2]->b≠d/\b≠z/\b≠TO/\b≠i1/\b≠i2:=λ{b} h=>by simpa using h
 intro bc;induction bc with
 |nil=>
  intro i s m E hi Q hL p hT hk hR;have ω:i=_7 ps:=by
   have:=C_ fT E;rw[jU,gD]at this
   lia
  subst ω;have M:xs[ps.length]?=c_\/ys[ps.length]?=c_:=by
   by_cases e:xs.size<=_7 ps
   .exact .inl (by simp[e])
   .have:ys.size<=_7 ps:=by lia
    exact .inr (by simp[this])
  have C:∀y,(∀c o,c≠z->c≠TO->c≠i1->c≠i2->s.1.get? c=a_ o->y.get? c=a_ o)->aP (aW prog w) A.in1 (kJ d []>>=λW=>ret bV) (λC G=>match C with|.done f=>R (.ok f) G|.again c'=>c'.quiet=d_/\gX (aW prog w) A c' R G) (λe G=>R (.error e) G) {s with heap:=y}:=λy B=>by
   refine aA (aD (aD (hR y s.toks (λb o hb e=>?_) ?_)))
   .obtain⟨c1,c2,c3,c4,c5⟩:=I hb;exact B b o c2 c3 c4 c5 e
   .obtain⟨o,es,ep,q,h2⟩:=hT;exact⟨o,es,ep,B d o d1 d3 d4 d5 q,h2⟩
  refine gJ gm ?_;rw[dY cc _];show aP _ A.in1 (eY (.ref z)>>=_) _ _ s;obtain⟨J,N,Z,⟨rfl,rfl⟩|⟨a,rfl,⟨H,Y⟩,U⟩⟩:=Q
  .exact aA (Ny JC hh D Z hL p M λy B=>C y B)
  .exact aA (Zk hh D Z Y hL p M λy B=>C y B)
 |cons n bc ih=>
  intro i s m E hi Q hL p hT hkl hR;have ψ:i<_7 ps:=by
   have:=C_ fT E;rw[jU,aR]at this
   lia
  have χ:ps[i]?=a_ n:=by
   have:(ps.drop i)[0]?=a_ n:=by rw[E];rfl
   simpa using this
  have Γ:ps.drop (i+1)=bc:=by
   have:(ps.drop i).drop 1=bc:=by rw[E];rfl
   rw[List.drop_drop]at this;exact this
  obtain⟨x,hx,υ,hy⟩:=hP i n χ;refine gJ gm ?_;rw[dY cc _];show aP _ A.in1 (eY (.ref z)>>=_) _ _ s;have σ:z<s.1.1.size:=by obtain⟨_,_,Z,_⟩:=Q;exact aM Z.hz
  have β:TO<s.1.1.size:=by obtain⟨_,_,Z,_⟩:=Q;obtain⟨_,_,e⟩:=Z.hO;exact aM e
  have ζ:i1<s.1.1.size:=by obtain⟨_,_,Z,_⟩:=Q;obtain⟨_,e,_⟩:=Z.h1;exact aM e
  have ε:i2<s.1.1.size:=by obtain⟨_,_,Z,_⟩:=Q;obtain⟨_,e,_⟩:=Z.h2;exact aM e
  have dlt:d<s.1.1.size:=by obtain⟨_,_,_,e,_⟩:=hT;exact aM e
  have δ:s.1.1.size∉[d,z,TO,i1,i2]:=by simp only[fR,eU,S_,not_or];exact⟨cE dlt,cE σ,cE β,cE ζ,cE ε⟩
  have L:∀q J N,ZL q z TI TO i1 i2 l1 l2 (i+1) J N->(∃a:h_,J=cX a/\(∃H,q.get? a=a_ H)/\a∉[d,z,TO,i1,i2])->oR q s.1.1.size x n.2->(∀c o,c≠z->c≠TO->c≠i1->c≠i2->s.1.get? c=a_ o->q.get? c=a_ o)->
    aP (aW prog w) A.in1 (mK [bH s.1.1.size] (do
     let γ <-(lS (.ref s.1.1.size)).tryCatch λe=>do
      if !(<-lX e (.type "TypeError"))then throw e
      rule "dict.update.element-no-sequence"
      raiseError "TypeError" s!"cannot convert dictionary update sequence element #{(i : Int)} to a sequence"
     match γ with
     |[k,v]=>mK [k,v] (dictSet d k v)
     |l=>do
      rule "dict.update.element-length"
      raiseError "ValueError" s!"dictionary update sequence element #{(i : Int)} has length {l.length}; 2 is required")>>=λW=>again (.builtin "dict.update.loop" ⟨[.ref d,.ref z,cX ((i:n_)+1),.none],[]⟩)) (λC G=>match C with|.done f=>R (.ok f) G|.again c'=>c'.quiet=d_/\gX (aW prog w) A c' R G) (λe G=>R (.error e) G) {s with heap:=q}:=by
   intro q J N Z1 al O g;have Ξ:q.DictOf (ao prog w) d m:=by obtain⟨o,es,ep,z1,z2⟩:=hT;exact⟨o,es,ep,g d o d1 d3 d4 d5 z1,z2⟩
   have Δ:kH {s with heap:=q} (.ref s.1.1.size) "tuple":=⟨_,O,_6⟩;refine aA (cK ?_);refine aA (jS ?_);unfold lS;refine aA (lR Δ ?_);rw[aO (by decide)];refine aA (cV O _6 (aD ?_));show aP _ A.in1 (mK [x,n.2] (dictSet d x n.2)) _ _ _;refine cK (wpAny_dictSet_pairs (hsz:=by lia) υ Ξ λh2 Θ sb=>?_);refine aD ⟨gR cc _,?_⟩;have ei:cX ((i:n_)+1)=cX ((i+1:h_):n_):=by push_cast;rfl
   rw[ei];have up:∀c o,c≠d->q.get? c=a_ o->h2.get? c=a_ o:=λc o hc e=>(sb.2 c hc).trans e;refine ih (i+1) _ (stored m n.1 n.2) Γ ψ ?_ ?_ ?_ Θ ?_ λy tk hk p=>?_
   .obtain⟨a,rfl,⟨H,Y⟩,U⟩:=al;obtain⟨b1,b2,⟨u,v,b3⟩,b4,b5⟩:=Z1;exact⟨_,N,⟨up _ _ (cW d1) b1,up _ _ (cW d2) b2,⟨u,v,up _ _ (cW d3) b3⟩,let ⟨o,e,r⟩:=b4;⟨o,up _ o (cW d4) e,r⟩,let ⟨o,e,r⟩:=b5;⟨o,up _ o (cW d5) e,r⟩⟩,.inr ⟨a,_6,⟨H,up _ _ (I U).1 Y⟩,U⟩⟩
   .obtain⟨o,e,r⟩:=hL;exact⟨o,up _ o (cW d6) (g _ o D.l1z D.l1TO D.l1i1 D.l1i2 e),r⟩
   .obtain⟨o,e,r⟩:=p;exact⟨o,up _ o (cW d7) (g _ o D.l2z D.l2TO D.l2i1 D.l2i2 e),r⟩
   .have:=stored_length_le m n.1 n.2;lia
   .refine hR y tk (λc o hc e=>hk c o hc ?_) p;obtain⟨c1,c2,c3,c4,c5⟩:=I hc;exact up c o c1 (g c o c2 c3 c4 c5 e)
  obtain⟨J,N,Z,⟨rfl,rfl⟩|⟨a,rfl,⟨H,Y⟩,U⟩⟩:=Q
  .refine aA (Nz JC D Z hL p hx hy λq Z1 O n1 g=>?_);exact L q _ _ Z1 ⟨s.1.1.size,_6,⟨_,O⟩,δ⟩ O g
  .refine aA (Zj D Z Y hL p hx hy λq Z1 O n1 g=>?_);obtain⟨c1,c2,c3,c4,c5⟩:=I U;exact L q _ _ Z1 ⟨a,_6,⟨H,g a H c2 c3 c4 c5 Y⟩,U⟩ O g
end
section
variable{prog:aV}{w:bP}{A:bT}{E:aC->aE->Prop}{s:aE}
def Iu{z TI TO n m l i:h_}{xs G:q_ aC}{ps:b_ (cj×aC)}{Q:aC->aE->Prop}(hh:A.handled=c_)(D:mV z TI TO n m l i)(Z:ZL s.1 z TI TO n m l i 0 .none (.bool e_))
  (q:s.1.IsList l xs)(p:iJ s.1 i G)(hz:_7 ps<=aG)(hn:_7 ps=P! xs.size G.size)
  (hP:∀(j:h_) J,ps[j]?=a_ J->∃x,xs[j]?=a_ x/\(ao prog w).is J.1 x=d_/\G[j]?=a_ J.2)
  (h:∀y tk,y.DictOf (ao prog w) s.1.1.size (merged [] ps)->(∀c o,c∉[z,TO,n,m]->s.1.get? c=a_ o->y.get? c=a_ o)->Q (.ref s.1.1.size) {s with heap:=y,toks:=tk}):
  aP (aW prog w) A (call (.type "dict") [.ref z]) Q E s:=by
 refine q? (Q₁:=λobj f=>obj=.ref s.1.1.size/\f={s with heap:=s.1.push {cls:=.type "dict",data:=.dict #[]}}) F.kt_called_dict (F.kt_typeCall_dict_1 _) F.entry_dict_init (kt_code_dict_new _ ⟨_6,_6⟩) ?_
 rintro obj f ⟨rfl,rfl⟩
 have d:(s.1.push {cls:=.type "dict",data:=.dict #[]}).DictOf (ao prog w) s.1.1.size []:=_S s.1;generalize N:s.1.push {cls:=.type "dict",data:=.dict #[]}=h1 at d⊢;have L:∀c o,s.1.get? c=a_ o->h1.get? c=a_ o:=λc o e=>by rw[<-N];exact aB _ e
 have hT:kH {s with heap:=h1} (.ref z) "zip":=⟨_,L _ _ Z.hz,_6⟩;refine⟨d.typeIs,F.args_dict_init_2 _ _,?_⟩;unfold z_.«dict.__init__»;refine aA ?_;unfold kK;refine aA (fK d.typeIs ?_);show aP _ _ (pure (s.1.1.size,[bH z])) _ _ _;refine aD ?_;show aP _ _ (eV "dict.__init__" s.1.1.size (.ref z) [] .none) _ _ _;unfold eV;refine aA (lR hT ?_);rw[aO (by decide)];obtain⟨M,g,dr,tk,os⟩:=s;refine aA (Gi (L _ _ Z.hz) (by simpa using hh) λC H k2=>?_);rw[aO (by rfl)];refine aA (gV ?_);have a:∀c o,M.get? c=a_ o->C.get? c=a_ o:=λc o e=>k2 _ _ (L _ _ e);have Z2:ZL C z TI TO n m l i 0 .none (.bool e_):=by obtain⟨b1,Y,⟨u,v,U⟩,T,O⟩:=Z;exact⟨a _ _ b1,a _ _ Y,⟨u,v,a _ _ U⟩,let ⟨o,e,r⟩:=T;⟨o,a _ o e,r⟩,let ⟨o,e,r⟩:=O;⟨o,a _ o e,r⟩⟩
 refine aA (pG (show IsZip C z TI TO .none from Z2.hz) ?_);refine aD ⟨gR cc _,?_⟩;have lt:∀b∈[z,TI,TO,n,m,l,i],b<M.objs.size:=λb B=>by
  obtain⟨b1,Y,⟨u,v,U⟩,⟨_,T,_⟩,⟨_,O,_⟩⟩:=Z;obtain⟨_,b6,_⟩:=q;obtain⟨_,b7,_⟩:=p;simp only[fR,eU,S_]at B;obtain rfl|rfl|rfl|rfl|rfl|rfl|rfl:=B
  .exact aM b1
  .exact aM Y
  .exact aM U
  .exact aM T
  .exact aM O
  .exact aM b6
  .exact aM b7
 show gX _ _ (.builtin "dict.update.loop" ⟨[_,_,cX ((0:h_):n_),.none],[]⟩) _ _;refine Zi (A:=A.in1) (show A.in1.handled=c_ from hh) D M.objs.size (λb B=>cE (lt b B)) hz hn hP ps 0 ⟨C,g,dr,H,os⟩ [] _6 (cM _) ⟨_,_,Z2,.inl ⟨_6,_6⟩⟩ (let ⟨o,e,r⟩:=q;⟨o,a _ o e,r⟩) (let ⟨o,e,r⟩:=p;⟨o,a _ o e,r⟩) (let ⟨o,es,ep,e,r⟩:=d;⟨o,es,ep,k2 _ _ e,r⟩) (cM _) λy I hk hD=>⟨_6,h y I hD λc o hc e=>hk c o (λhm=>?_) (a _ _ e)⟩;rcases o_.mp hm with rfl|hm
 .exact cQ _ (aM e)
 .exact hc hm
end
def El:b_ D->b_ D->f_ (b_ (cj×D))
 | k :: b, v :: a => (match cf k, El b a with
  |some j,a_ l=>a_ ((j,v)::l)
  |_,_=>c_)
 |_,_=>a_ []
def yz(r:En->ey):En->bi:=λU=>match r U with
 | .ok [.a8 a, .ci b] => (match El a b with
  |some l=>if _7 a<=aG then .ok (.h7 e_ (zh [] l))else .st
  |none=>.st)
 |.er c=>.er c
 |_=>.st
theorem Ii{X:Cx}{G:Hp}:∀{y es:b_ D}{l:b_ (cj×D)}{f g:b_ V}{b a:b_ aC},El y es=a_ l->bt (kx X) G y f->bt (kx X) G es g->dg f b->dg g a->
  ∃(c:b_ (cj×V)) (ps:b_ (cj×aC)),KV c ps/\PD (kx X) G l c/\_7 ps=P! b.length a.length/\∀(j:h_) d,ps[j]?=a_ d->∃x,b[j]?=a_ x/\(ao X.prog X.w).is d.1 x=d_/\a[j]?=a_ d.2
 |[],es,l,f,g,b,a,h,dl,o,n,m=>by cases h;cases (show f=[]from dl);cases n;exact⟨[],[],.nil,eF,by simp,λj d e=>by simp at e⟩
 |k::u,[],l,f,g,b,a,h,dl,o,n,m=>by cases h;cases (show g=[]from o);cases m;exact⟨[],[],.nil,eF,by simp,λj d e=>by simp at e⟩
 |k::u,v::p,l,f,g,b,a,h,dl,o,n,m=>by
  unfold El at h;cases ek:cf k with
  |none=>rw[ek]at h;cases h
  |some j=>
   cases r:El u p with
   |none=>rw[ek,r]at h;cases h
   |some t=>
    rw[ek,r]at h;cases h;obtain⟨z,T,rfl,E,C⟩:=dl;obtain⟨A,U,rfl,B,s⟩:=o;cases n with
    |cons Q O=>
     cases m with
     |cons N M=>
      obtain⟨c,ps,c1,L,J,I⟩:=Ii r C s O M;have q:z=kV j:=i0 (H:=G) (.inl E) ek;subst q;refine⟨(j,A)::c,(j,_)::ps,.cons ⟨_6,N⟩ c1,⟨_6,B,L⟩,by simp[J],λi d e=>?_⟩;cases i with
      |zero=>simp at e;subst e;exact⟨_,_6,t6 Q,_6⟩
      |succ i=>simpa using I i d (by simpa using e)
section
variable{X:Cx}{B:Hp}{E:EK}{a b:Expr}{g h:En->bi}{pos p pos' p':v_}
set_option tactic.hygienic true in
def BD{G H:Hp}{U:En}{r:En->ey}{P:D->Prop}(q:dL E G H (yz r U) P):f' E G H (r U) λl=>∃d es m,l=[.a8 d,.ci es]/\El d es=a_ m/\_7 d<=aG/\P (.h7 e_ (zh [] m)):=by
 unfold yz at q;cases e:r U with
 |ok l=>
  rw[e]at q;split at q
  .rename_i d es i;cases i;cases j:El d es with
   |none=>rw[j]at q;exact q.elim
   |some m=>
    rw[j]at q;dsimp only at q
    by_cases f:_7 d<=aG
    .rw[aO f]at q;exact⟨d,es,m,_6,j,f,q⟩
    .rw[aJ f]at q;exact q.elim
  .rename_i i;cases i
  .exact q.elim
 |er c=>rw[e]at q;exact q
 |st=>rw[e]at q;exact q
inductive DzP(X:Cx)(G H:Hp)(Q:VK)(vs:b_ V)(H1:Hp):Prop
 |mk (a b:g_) (xs ys:b_ V) (G1:Hp) (ds es:b_ D) (m) (_:vs=[.ref a,.ref b]) (_:h8 X.K H1 a xs) (_:ng X.K H1 b ys) (_:c6 G H G1 H1) (_:bt (kx X) G1 ds xs) (_:bt (kx X) G1 es ys) (_:El ds es=a_ m) (_:_7 ds<=aG) (_:∀v G' H',c6 G H G' H'->gy (kx X) G' (.h7 e_ (zh [] m)) v->Q v H'):DzP X G H Q vs H1
def Uj(hc:X.calm=d_)(hg:Gl X "dict")(J:X.mg "dict"=c_)(δ:Gl X "zip")(x:X.mg "zip"=c_)(h1:dj X B E a g)(y:dj X B E b h)(n1:cq a=d_)(n2:cq b=d_):
  ck X B E (.Call (.Name "dict" p) [.Call (.Name "zip" p') [a,b] [] pos'] [] pos) (yz (ac g (ac h af))):=by
 intro f s σ H Q I ⟨G,U,Rr,q⟩;have ha:Ij X B E [d_,d_] [a,b] (ac g (ac h af)):=de h1 (de y f9 (ag n2)) (ag n1);refine Call_ (n6 I hg J (by decide+kernel:eX "dict"=a_ (.type "dict")) (dU ?_ _6 _6));show aP _ _ (spliced [(e_,I_ (.Call (.Name "zip" p') [a,b] [] pos') X.env)]) _ _ _;refine eQ ?_;refine Call_ (n6 I δ x (by decide+kernel:eX "zip"=a_ (.type "zip")) (dU (c9 (ha pos' f s σ H (DzP X G H Q) I ⟨G,U,Rr,(BD q).am λl W ⟨ds,es,m,ed,ez,hz,q⟩ v G1 L z ax=>?_⟩) λN c ⟨vs,L,A,r1,C,l2,xs,ys,G1,ds,es,m,z,hq,γ,M,dl,el,ez,hz,q1⟩=>?_) (ag n1) ?_))
 .subst ed;obtain⟨v1,v2,rfl,a1,a2⟩:=h9.two ax;obtain⟨la,vs,rfl,sq,dl⟩:=a1.a8 z.gh;obtain⟨lb,N,rfl,O,el⟩:=a2.ci z.gh;exact⟨la,lb,vs,N,G1,ds,es,m,_6,sq,O,z,dl,el,ez,hz,q⟩
 .subst z;obtain⟨u,r,rfl,ru,rr⟩:∃u r,N=u::r/\eu (.ref C) u/\dg [.ref l2] r:=by
   cases r1 with
   |cons h t=>exact⟨_,_,_6,h,t⟩
  obtain⟨u2,rfl,Y⟩:=ik rr;cases ru;cases Y;obtain⟨its,rv,pl,_⟩:=A.list hq;obtain⟨jts,T,w,_⟩:=A.tuple γ;have la:@LT.lt h_ _ C c.1.1.size:=aM (show c.1.get? C=a_ _ from(pl.isList).choose_spec.1);have lb:@LT.lt h_ _ l2 c.1.1.size:=w.lt;obtain⟨d,ps,c1,c2,c3,c4⟩:=Ii ez dl el rv T;refine Iz pl.isList w λn Z i=>?_;have D:mV (c.1.1.size+4) (c.1.1.size+2) (c.1.1.size+3) c.1.1.size (c.1.1.size+1) C l2:=by constructor<;>first|exact bE (by lia)|exact cE (by lia)
  have I2:a9 X f σ L {c with heap:=n}:=A.kd (t':=c.toks) i;refine jD ?_;have lps:_7 ps<=_7 ds:=by rw[c3,<-rv.length,<-dl.length];lia
  refine Iu (ps:=ps) (s:={c with heap:=n}) (A.ok.hd hc) D Z (let ⟨o,e,r⟩:=pl.isList;⟨o,i _ o e,r⟩) (let ⟨o,e,r⟩:=w;⟨o,i _ o e,r⟩) (by lia) (by rw[c3];simp) (λj kv e=>by simpa using c4 j kv e) λy tk hD hk=>?_;have zk:(oj [] d).length<=aG:=by
   have h1:=rh d [];have y:_7 d=_7 ps:=eA c1;simp only[gD]at h1
   lia
  have Δ:c.1.1.size+4<n.objs.size:=aM Z.hz;have fr:L n.objs.size=c_:=I2.e6.fresh (aL _);have I3:a9 X f σ (c0 L n.objs.size (.dK (oj [] d))) {c with heap:=y,toks:=tk}:=by
   have kp:∀b o,c.1.get? b=a_ o->y.get? b=a_ o:=λb o e=>hk b o (λJ=>by
    have lb':@LT.lt h_ _ b c.1.1.size:=aM e;simp only[fR,eU,S_]at J;have x:@Eq h_ b (c.1.1.size+4)\/@Eq h_ b (c.1.1.size+3)\/@Eq h_ b c.1.1.size\/@Eq h_ b (c.1.1.size+1):=J
    lia) (i b o e)
   exact A.nn (a:=n.objs.size) (o:=.dK (oj [] d)) (t':=tk) kp (by lia) ⟨zk,w_.mpr (cW (bE I2.big)),_,c1.merge .nil,hD⟩
  refine⟨.ref n.objs.size,_,I3,_6,q1 _ (c0 G1 n.objs.size (.dK (oj [] d))) _ (M.trans (c6.new M.gh _ fr)) ⟨_,_6,.inl ⟨_6,_,ae,?_⟩⟩⟩;exact f8.am (bf (aq M.gh fr) _) (c2.merge (kvs:=[]) (es:=[]) _6)
 .exact i8 (by rw[bO,n2];rfl)
end
def _root_.L2.a9.rD{X:Cx}{f:b_ (g_×D_)}{σ:St}{H:Hp}{s:aE}{a:g_}{es:b_ (ah×V)}(I:a9 X f σ H s)(e:H a=a_ (.dT es)):∃o,s.1.get? a=a_ o/\a9 X f σ (c0 H a (.n4 o (.dT es))) s:=by
 obtain⟨z,M,xs,rel,o,Q,O,m,N⟩:=Fm I.e6 e;have E:∀{b:g_},H b=c_->b≠a:=λq z=>by rw[z,e]at q;cases q
 have no:∀{b:g_}{u:HO},H b=a_ u->u≠.dT es->b≠a:=λq z y=>by rw[y,e]at q;cases q;exact z _6
 have j:∀b g,H b=a_ (.ci g)->c0 H a (.n4 o (.dT es)) b=a_ (.ci g):=λb g q=>by rw[aa (no q λz=>nomatch z)];exact q
 have i:∀b d u,H b=a_ (.n4 d u)->c0 H a (.n4 o (.dT es)) b=a_ (.n4 d u):=λb d u q=>by rw[aa (no q λz=>nomatch z)];exact q
 have J:∀b y,H b=a_ (.own y)->c0 H a (.n4 o (.dT es)) b=a_ (.own y):=λb y q=>by rw[aa (no q λz=>nomatch z)];exact q
 have h:∀b,H b=c_->c0 H a (.n4 o (.dT es)) b=c_:=λb q=>by rw[aa (E q)];exact q
 have st:∀b u,H b=a_ u->fb X.prog X.w (c0 H a (.n4 o (.dT es))) s.1 b u:=λb u q=>(I.e6 b u q).qZ (λZ Z Z z=>z) (λc z=>J c _ z) j i;refine⟨o,m,I.ok,I.os,I.ln,⟨I.base.keep,I.base.slot,λb d q n G=>h b (I.base.free b d q n G),I.base.there,λb g q=>j b g (I.base.qM b g q),λb d u q=>i b d u (I.base.nw b d u q),λb q z=>?_⟩,I.qX,I.cell,h _ I.free,λx c q=>(I.oD x c q).elim (λz=>.inl (h _ z)) λ⟨v,d,r⟩=>.inr ⟨v,d,i _ _ _ r⟩,λp L=>?_,λb u q=>?_,I.len⟩
 .have q:=I.base.qw b q z;rw[aa (no q λz=>nomatch z)];exact q
 .obtain⟨C,B,A⟩:=I.q0 p L;exact⟨C,h _ B,A⟩
 .by_cases l:b=a
  .subst l;rw[ae]at q;cases q;exact⟨m,st b _ e⟩
  .rw[aa l]at q;exact st b u q
section
variable{K:KA}{B G0 G H:Hp}
def c6.frzT{a:g_}{o:HO}(e:c6 G0 B G H)(c:B a=c_)(d:G a=c_):c6 G0 B (c0 G a o) (c0 H a o):=by
 refine⟨e.gg.trans (bf d _),λb u q=>?_,λb u q=>?_,λb u q g z=>?_⟩
 .rw[aa (ak q c)];exact e.hh b u q
 .by_cases z:b=a
  .subst z;rw[ae]at q;rw[ae];exact q
  .rw[aa z]at q;rw[aa z];exact e.gh b u q
 .rw[aa (ak q c)];exact e.fr b u q g z
end
def Ju(b a:En->bi):En->bi:=λU=>(b U).bind λd=>(a U).bind λc=>match ar d with
 |some j=>.ok (.h7 d_ [(kT j,c)])
 |none=>.st
section
variable{X:Cx}{G0 B:Hp}{E:EK}{k v o:Expr}{g h f:En->bi}{pos:v_}
def Uk(hu:X.A.units+5<cP)(hk:ck X B E k g)(hv:ck X B E v h):ck X B E (.Dict [a_ k] [v] pos) (Ju g h):=by
 intro d s σ H Q I ⟨G,U,R,q⟩;rw[arm_eval_Dict,zip_pairTrees [a_ k] [v] X.env pos _6 _6,dictDisplay_pairs _ (by intro z;have:=C_ fT z;rw[pI _ _ _ _ _6 _6]at this;cases this) (by rw[pI _ _ _ _ _6 _6];show 1<17;decide)];refine aA (D? (aA ?_));unfold subDict;refine aA (wpAny_alloc ?_);refine aA (cK ?_);rw[aO (by rw[pI _ _ _ _ _6 _6];show 1<=15;decide)];have T:=I.e6.fresh (aL s.1.1.size);have I1:=I.nn (a:=s.1.1.size) (o:=.dT []) (h':=s.1.push {cls:=.type "dict",data:=.dict #[]}) (t':=s.toks) (λZ Z q=>aB _ q) (aL _) (Fl s.1 I.big);have O:c6 G H G (c0 H s.1.1.size (.dT [])):=c6.own R.gh _ T;have gn:G s.1.1.size=c_:=aq R.gh T;refine aA (pairTrees_cons_walk (c9 (hk d {s with heap:=s.1.push {cls:=.type "dict",data:=.dict #[]}} σ _ (λx L=>∃p m,c6 G (c0 H s.1.1.size (.dT [])) p L/\gy (kx X) p m x/\dL E G H (h U) λe=>∃j,ar m=a_ j/\∀v N M,c6 G H N M->gy (kx X) N (.h7 d_ [(kT j,e)]) v->Q v M) I1 ⟨G,U,R.ext O,?_⟩) λu s2 ⟨x,L,I2,rx,p,m,C,dx,q⟩=>?_))
 .refine((dL.bind q).ext O).am λm Z q x p L C dx=>⟨p,m,C,dx,(dL.bind q).am λe Z q=>?_⟩;cases r:ar m with
  |none=>rw[r]at q;exact q.elim
  |some j=>rw[r]at q;exact⟨j,_6,q⟩
 have l:=O.trans C;refine c9 (hv d s2 σ L (λy J=>∃n e j,c6 p L n J/\gy (kx X) n e y/\ar m=a_ j/\∀v N M,c6 G H N M->gy (kx X) N (.h7 d_ [(kT j,e)]) v->Q v M) I2 ⟨p,U,R.ext l,(q.ext l).am λe Z ⟨j,r,q⟩ y n J i dy=>⟨n,e,j,i,dy,r,q⟩⟩) λuv s3 ⟨y,J,I3,ry,n,e,j,i,dy,r,q⟩=>?_;refine pairTrees_nil_walk ?_;have α:=l.trans i;have Y:J s.1.1.size=a_ (.dT []):=(C.trans i).hh _ _ ae;have g2:n s.1.1.size=c_:=(C.trans i).fr _ _ ae gn _6;obtain⟨b,rfl,hb⟩:=Arg.keys i.gh (.inl (dx.am i.gg)) r;cases (show u=bH b from rx);obtain⟨z,hd,xs,rel,dd⟩:=Fm I3.e6 Y;cases rel;refine cK ?_;simp only[iW,jK];refine aA (aA (aA (wpAny_dictSet_heap (show(bw X.prog X.w).room X.A from by show X.A.units+4<cP;lia) (l9 I3.e6 hb) dd (λh' δ hs=>?_) (by rw[gD];exact cM _))));refine aD (aD (aD (aD (aD ?_))));obtain⟨ob,es,ep,hq,g3,g4,g5,_,g6⟩:=δ;have I4:a9 X d σ (c0 J s.1.1.size (.dT [(j,y)])) {s3 with heap:=h',toks:=s3.toks+(bw X.prog X.w).draws j}:=by refine qa I3 (by rw[Y];exact eF) hs ⟨ob,hq⟩ ⟨by rw[eS];show 1<=16777216;decide,hd,[(j,b,uv)],.cons ⟨_6,hb.am λc ys ec=>?_,ry⟩ .nil,ob,es,ep,hq,g3,g4,g5,by simp⟩;rw[aa (Ms ec Y (λz=>nomatch z))];exact ec
 obtain⟨o5,_,I5⟩:=I4.rD ae;rw[ya]at I5;refine⟨.ref s.1.1.size,_,I5,_6,q _ (c0 n s.1.1.size (.n4 o5 (.dT [(j,y)]))) _ (α.frzT T g2) ⟨_,_6,.inr ⟨_6,o5,_,ae,j,y,[],_6,_6,dy.am (bf g2 _),_6⟩⟩⟩
def Bq(d k x:En->bi):En->bi:=λU=>(d U).bind λe=>match e with
 |.h7 e_ a=>(k U).bind λc=>(x U).bind λb=>match cf c with
  |some j=>.ok ((cx a j).getD b)
  |none=>.st
 |.h7 d_ a=>(k U).bind λc=>(x U).bind λb=>match ar c with
  |some j=>.ok ((fk a j).getD b)
  |none=>.st
 |_=>.st
def M9{O N:Expr}{r p:v_}(hu:X.A.units+5<cP)(ho:dj X B E o g)(hk:dj X B E O h)(hx:ck X B E N f)(m:M2 X o "get" r O N p):
  ck X B E (.Call (.Attribute o "get" r) [O,N] [] p) (Bq g h f):=
 PE.imp (Gv hu ho hk hx m) λσ H Q ⟨G,U,R,q⟩=>⟨G,U,R,(dL.bind q).am λdd Z q v G1 H1 c av=>by
  cases dd with
  |h7 t e=>
   cases t with
   |true=>
    obtain⟨l,x,rfl,w,dl⟩:=Arg.dctT c.gh av;refine⟨l,_6,.inr ⟨x,w⟩,G1,U,R.ext c,((dL.bind q).ext c).am λdk Z q y G2 H2 a ay=>⟨G2,U,R.ext (c.trans a),((dL.bind q).ext (c.trans a)).am λdx Z q z I u n dz=>?_⟩⟩;have d:=(c.trans a).trans n;cases s:ar dk with
    |none=>rw[s]at q;exact q.elim
    |some j=>
     rw[s]at q;have q:∀v J C,c6 G H J C->gy (kx X) J ((fk e j).getD dx) v->Q v C:=q;obtain⟨b,rfl,hb⟩:=Arg.keys a.gh ay s;have h3:Rd u l (.dT x):=w.elim (λz=>.inl ((a.trans n).hh _ _ z)) λ⟨ob,z⟩=>.inr ⟨ob,(a.trans n).hh _ _ z⟩;refine⟨_,.inr ⟨x,j,b,h3,_6,hb.am λZ Z q=>n.hh _ _ q,_6⟩,?_⟩;obtain⟨Y,T⟩:=(dl.am (a.trans n).gg).ky j;cases i:fk e j with
     |none=>rw[T i];rw[i]at q;exact q _ I u d dz
     |some d'=>obtain⟨v',M,L⟩:=Y d' i;rw[M];rw[i]at q;exact q _ I u d L
   |false=>
    obtain⟨l,x,rfl,w,dl⟩:=Arg.dctK c.gh av;refine⟨l,_6,.inl ⟨x,.inl w⟩,G1,U,R.ext c,((dL.bind q).ext c).am λdk Z q y G2 H2 a ay=>⟨G2,U,R.ext (c.trans a),((dL.bind q).ext (c.trans a)).am λdx Z q z I u n dz=>?_⟩⟩;have d:=(c.trans a).trans n;cases s:cf dk with
    |none=>rw[s]at q;exact q.elim
    |some j=>
     rw[s]at q;have q:∀v J C,c6 G H J C->gy (kx X) J ((cx e j).getD dx) v->Q v C:=q;rw[i0 ay s];have h3:=(a.trans n).hh _ _ w;refine⟨_,qt.k h3,?_⟩;obtain⟨Y,T⟩:=(dl.am (a.trans n).gg).ky j;cases i:cx e j with
     |none=>rw[T i];rw[i]at q;exact q _ I u d dz
     |some d'=>obtain⟨v',M,L⟩:=Y d' i;rw[M];rw[i]at q;exact q _ I u d L
  |fm=>exact q.elim
  |bl _=>exact q.elim
  |int _=>exact q.elim
  |str _=>exact q.elim
  |ci _=>exact q.elim
  |a8 _=>exact q.elim
  |obj _ _=>exact q.elim
  |fn _=>exact q.elim⟩
end
def Mo(d:D):f_ (b_ (D×D)):=match d with
 |.obj (.List _ _) [(_,.h7 e_ a)]=>a_ a
 |_=>c_
def Mb(i:h_)(k x:En->bi):En->bi:=λU=>match Zu i U with
 | .ok d => (match Mo d with
  | a_ a => (k U).bind fun c => (x U).bind fun b => (match cf c with
   |some j=>.ok ((cx a j).getD b)
   |none=>.st)
  |none=>Bq (az i) k x U)
 |_=>Bq (az i) k x U
def LsR.ky{K:KA}{G H:Hp}{es:b_ (cj×V)}{gs:b_ (D×b_ D)}(h:LsR K G H es gs)(j:cj):
  (cx (gs.map λp=>(p.1,D.a8 p.2)) j=c_->c8 es j=c_)/\∀d,cx (gs.map λp=>(p.1,D.a8 p.2)) j=a_ d->∃b a c,c8 es j=a_ (.ref b)/\d=.a8 c/\H b=a_ (.a8 a)/\bt K G c a:=by
 induction h with
 |nil=>exact⟨λq=>pf,λd e=>(nomatch e)⟩
 |@cons i b a c es gs l g _ f=>
  rw[bK];unfold cx;rw[g9]
  by_cases z:i=j
  .subst z;rw[aO _6,gj _6];exact⟨λe=>(nomatch e),λd e=>⟨b,a,c,_6,(aZ e).symm,l,g⟩⟩
  .rw[aJ λy=>z (aZ y),fg z];exact f
def Arg.lent{K:KA}{G B:Hp}{d:D}{v:V}{b:b_ (D×D)}(h:Arg K G B d v)(e:Mo d=a_ b):∃gs a es,b=gs.map (λp=>(p.1,D.a8 p.2))/\v=.ref a/\B a=a_ (.dK es)/\LsR K G B es gs:=by
 unfold Mo at e;split at e
 case h_2=>cases e
 obtain ⟨a,i,j,c,_⟩|⟨_,_,_,z,_⟩|⟨_,_,_,z,_⟩|⟨gs,a,es,z,c,g,f⟩:=h
 .exact(show L_ from c).elim
 .cases z
 .cases z
 .unfold Cv at z;cases z;cases e;exact⟨gs,a,es,_6,c,g,f⟩
section
variable{X:Cx}{G0 B:Hp}{E:EK}{k v:Expr}{h f:En->bi}{pos:v_}
def BP{i:h_}{x:k_}{C w:Expr}{g e:v_}(O:X.A.units+5<cP)(T:PE X (.Name x pos) (fh i))(Y:dj X B E C h)(N:ck X B E w f)(m:M2 X (.Name x pos) "get" g C w e):
  V8 X B E (.Call (.Attribute (.Name x pos) "get" g) [C,w] [] e) (Mb i h f):=by
 have nk:V8 X B E (.Call (.Attribute (.Name x pos) "get" g) [C,w] [] e) (Bq (az i) h f):=Ew (M9 O (rn i T) Y N m);intro a s σ H Q I ⟨G,U,R,q⟩;unfold Mb at q;cases J:Zu i U with
 |er c=>rw[J]at q;exact nk a s σ H Q I ⟨G,U,R,q⟩
 |st=>rw[J]at q;exact nk a s σ H Q I ⟨G,U,R,q⟩
 |ok d=>
  rw[J]at q;dsimp only at q;cases n:Mo d with
  |none=>rw[n]at q;exact nk a s σ H Q I ⟨G,U,R,q⟩
  |some μ=>
   rw[n]at q;dsimp only at q;refine Gv O (Ip i T (B:=B) (E:=E)) Y N m a s σ H Q I ⟨G,U,R,?_⟩;rw[J];intro v G1 H1 o av;obtain⟨gs,l,es,rfl,rfl,h1,dl⟩:=av.lent n;have bh:a6 B H1:=R.bh.trans o.hh;refine⟨l,_6,.inl ⟨es,.inl (bh _ _ h1)⟩,G1,U,R.ext o,((dL.bind q).ext o).am λdk Z q y G2 H2 r ay=>⟨G2,U,R.ext (o.trans r),((dL.bind q).ext (o.trans r)).am λdx Z q z G3 H3 M dz=>?_⟩⟩;have u:=(o.trans r).trans M;cases L:cf dk with
   |none=>rw[L]at q;exact q.elim
   |some j=>
    rw[L]at q;have q:∀v G' H',c6 G H G' H'->Arg (kx X) G' B ((cx (gs.map λp=>(p.1,D.a8 p.2)) j).getD dx) v->Q v H':=q;rw[i0 ay L];have h3:=(r.trans M).hh _ _ (bh _ _ h1);refine⟨_,qt.k h3,?_⟩;obtain⟨k1,k2⟩:=dl.ky j;cases n:cx (gs.map λp=>(p.1,D.a8 p.2)) j with
    |none=>rw[k1 n];rw[n]at q;exact q _ G3 H3 u (.inl dz)
    |some d'=>obtain⟨b,vs,ds,z1,rfl,z2,z3⟩:=k2 d' n;rw[z1];rw[n]at q;exact q _ G3 H3 u (.inr (.inl ⟨ds,b,vs,_6,_6,h8.of z2,z3.am (r.trans M).gg⟩))
end
open AutoSeq1 (wpAny_loadPart')
set_option tactic.hygienic true in
def Gb(l:g_)(a:q_ aC)(n:h_)(h7:f_ g_)(m:q_ (f_ aC)):
  _g (z_.«enumerate.__new__» ⟨[.type "enumerate",.ref l],[]⟩) (λ_ R s=>s.1.get? l=a_ {cls:=.type "tuple",dict:=h7,data:=.seq a n,slots:=m}/\
   R (.ok (.ret (.ref (s.1.push {cls:=.type "tuple_iterator",data:=.fields #[.ref l,.int 0 0]}).objs.size)))
    {s with heap:=(s.1.push {cls:=.type "tuple_iterator",data:=.fields #[.ref l,.int 0 0]}).push {cls:=.type "enumerate",data:=.fields #[.none,.bool e_,.ref s.1.1.size,cX 0,.none,.none]}}):=
 .of_wp λf w A R s h=>by
  obtain⟨o,g,d,j,os⟩:=s;obtain⟨b,h⟩:=h;have i:=sub_enumerate;have e:iJ (oJ ⟨o,g,d,j,os⟩) l a:=⟨_,b,_6,n,_6⟩
  wp_walk using iX b
  refine wpAny_stack_any λst=>aD ?_;split
  .rename_i c _ _ _ _ _;cases (c==jF "enumerate")
   .wp_walk using iX b,nW e
    exact⟨_,_6,h⟩
   .wp_walk using iX b,nW e
    exact⟨_,_6,h⟩
  .wp_walk using iX b,nW e
   exact⟨_,_6,h⟩
section
variable{prog:aV}{w:bP}{A:bT}{E:aC->aE->Prop}{s:aE}
def Iv{l:g_}{a:q_ aC}{Q:aC->aE->Prop}(p:iJ s.1 l a)
   (h:∀d,nU d (s.1.1.size+1) s.1.1.size 0 .none->fY d s.1.1.size l 0->d.objs.size=s.1.1.size+2->
   (∀b o,s.1.get? b=a_ o->d.get? b=a_ o)->Q (.ref (s.1.1.size+1)) {s with heap:=d}):
  aP (aW prog w) A (call (.type "enumerate") [.ref l]) Q E s:=by
 obtain⟨⟨c,h7,q,j⟩,m,g,n,f⟩:=p;replace g:c=.type "tuple":=g;replace f:q=.seq a n:=f;subst g f;refine A! F.called_enumerate (by decide) (F.typeCall_enumerate_1 _) (F.newCall_enumerate_1 _) (λobj=>F.args_object_init_2 obj _) F.entry_enumerate_new
  (Gb l a n h7 j) ⟨m,?_⟩
 have e:(s.1.push {cls:=.type "tuple_iterator",data:=.fields #[.ref l,.int 0 0]}).objs.size=s.1.1.size+1:=bX ..;show _/\_;rw[e];have i:nU ((s.1.push {cls:=.type "tuple_iterator",data:=.fields #[.ref l,.int 0 0]}).push
   {cls:=.type "enumerate",data:=.fields #[.none,.bool e_,.ref s.1.1.size,cX 0,.none,.none]}) (s.1.1.size+1) s.1.1.size 0 .none:=by
  have:=aI (s.1.push {cls:=.type "tuple_iterator",data:=.fields #[.ref l,.int 0 0]})
   (o:={cls:=.type "enumerate",data:=.fields #[.none,.bool e_,.ref s.1.1.size,cX 0,.none,.none]}) _6
  rw[e]at this;exact this
 refine⟨⟨_,i,_6⟩,h _ i ⟨_,aB _ (aI _ _6),_6,_6⟩ (by rw[bX,e]) λb o x=>aB _ (aB _ x)⟩
def Jm{e G l:g_}{i:h_}{Y:q_ aC}{x nk:aC}{Q:aC->aE->Prop}
  (he:nU s.1 e G i nk)(ν:fY s.1 G l i)(hl:iJ s.1 l Y)(hx:Y[i]?=a_ x)(T:e≠G)
  (hQ:∀h',Y? h' e G ((i:n_)+1) x s.1.1.size->fY h' G l (i+1)->
   h'.get? s.1.1.size=a_ {cls:=.type "tuple",data:=.seq #[.int i s.toks,x]}->h'.objs.size=s.1.1.size+1->
   (∀b o,b≠e->b≠G->s.1.get? b=a_ o->h'.get? b=a_ o)->Q (.ref s.1.1.size) {s with heap:=h',toks:=s.toks+1}):
  aP (aW prog w) A (z_.«enumerate.__next__» ⟨[.ref e],[]⟩) (λσ s'=>∃v,σ=.done (.ret v)/\Q v s') E s:=by
 obtain⟨hp,g,d,U,os⟩:=s;show aP _ _ (nV (.ref e) 2>>=_) _ _ _;refine aA (bU he _6 (x:=.ref G) _6 ?_);refine aA (gp ν hl hx λn O m=>?_);replace m:bN G hp n:=m;have C:nU n e G i nk:=(m.2 e T).trans he;show aP _ _ (nV (.ref e) 3>>=_) _ _ ⟨n,g,d,U,os⟩;refine aA (bU C _6 (x:=cX i) _6 ?_);show aP _ _ (nV (.ref e) 4>>=_) _ _ ⟨n,g,d,U,os⟩;refine aA (bU C _6 (x:=.none) _6 ?_);show aP _ _ (mkInt i>>=_) _ _ ⟨n,g,d,U,os⟩;refine aA (wpAny_mkInt ?_);show aP _ _ (pB (.ref e) 3 (cX ((i:n_)+1))>>=_) _ _ ⟨n,g,d,U+1,os⟩;refine aA (bZ C (by simp) λH B j=>?_);replace j:bN e n H:=j;replace B:nU H e G ((i:n_)+1) nk:=B;show aP _ _ (pB (.ref e) 4 .none>>=_) _ _ ⟨H,g,d,U+1,os⟩;refine aA (bZ B (by simp) λp z h=>?_);replace h:bN e H p:=h;replace z:nU p e G ((i:n_)+1) nk:=z;show aP _ _ (o? [.int i U,x]>>=_) _ _ ⟨p,g,d,U+1,os⟩;refine aA (lK ?_);have y:nU (p.push {cls:=.type "tuple",data:=.seq #[.int i U,x]}) e G ((i:n_)+1) nk:=aB _ z;generalize q:p.push {cls:=.type "tuple",data:=.seq #[.int i U,x]}=u at y;have γ:p.objs.size=hp.objs.size:=by rw[h.1,j.1,m.1]
 have ι:e<hp.objs.size:=aM he;have η:u.get? hp.objs.size=a_ {cls:=.type "tuple",data:=.seq #[.int i U,x]}:=by rw[<-q,<-γ];exact aI _ _6
 have ζ:u.objs.size=hp.objs.size+1:=by rw[<-q,bX,γ]
 have θ:∀b o,b≠e->b≠G->hp.get? b=a_ o->u.get? b=a_ o:=λb o M κ hb=>by rw[<-q];exact aB _ (h.extBut b o M (j.extBut b o M (m.extBut b o κ hb)))
 have ε:fY u G l (i+1):=by rw[<-q];obtain⟨o,ho,r⟩:=(O.extBut j.extBut (cW T)).extBut h.extBut (cW T);exact⟨o,aB _ ho,r⟩
 show aP _ _ (bQ (.ref e)>>=_) _ _ ⟨u,g,d,U+1,os⟩;rw[γ];clear q z h B j C m O γ p H n;refine aA ?_
 .unfold bQ;refine aA (bU y _6 (x:=.none) _6 (aD ?_));simp only[K_];refine aA (gV ?_);refine aA (bU y _6 (x:=nk) _6 ?_);refine aA (bZ y (by simp) λN L f=>?_);replace f:bN e u N:=f;replace L:nU N e G ((i:n_)+1) x:=L;show aP _ _ (eI (.ref e) (.ref hp.objs.size)>>=_) _ _ ⟨N,g,d,U+1,os⟩;refine aA ?_
  .unfold eI;refine aA (bZ L (by simp) λβ J c=>?_);replace c:bN e N β:=c;replace J:Y? β e G ((i:n_)+1) x hp.objs.size:=J;refine bZ J (by simp) λα I a=>?_;replace a:bN e β α:=a;replace I:Y? α e G ((i:n_)+1) x hp.objs.size:=I;refine aA (iQ (aD ⟨_,_6,hQ α I ?_ ?_ ?_ ?_⟩))
   .exact((ε.extBut f.extBut (cW T)).extBut c.extBut (cW T)).extBut a.extBut (cW T)
   .exact a.extBut _ _ (cE ι) (c.extBut _ _ (cE ι) (f.extBut _ _ (cE ι) η))
   .rw[a.1,c.1,f.1,ζ]
   .exact λb o M κ hb=>a.extBut b o M (c.extBut b o M (f.extBut b o M (θ b o M κ hb)))
def Jl{e h l:g_}{i:h_}{f:q_ aC}{x nk:aC}{Q:f_ aC->aE->Prop}
  (n:nU s.1 e h i nk)(m:fY s.1 h l i)(r:iJ s.1 l f)(q:f[i]?=a_ x)(j:e≠h)
  (u:∀g,Y? g e h ((i:n_)+1) x s.1.1.size->fY g h l (i+1)->
   g.get? s.1.1.size=a_ {cls:=.type "tuple",data:=.seq #[.int i s.toks,x]}->g.objs.size=s.1.1.size+1->
   (∀b o,b≠e->b≠h->s.1.get? b=a_ o->g.get? b=a_ o)->Q (a_ (.ref s.1.1.size)) {s with heap:=g,toks:=s.toks+1}):
  aP (aW prog w) A (eY (.ref e)) Q E s:=by
 have p:s.TypeIs (.ref e) "enumerate":=⟨_,n,_6⟩;unfold eY;exact aA (eO (cJ (name:=fF "__next__") p jC
  (cL jC p F.entry_enumerate_next
   (Jm n m r q j λg a b c d k=>aD (u g a b c d k)) (F.args_enumerate_next_1 _))))
def Ou{e c l:g_}{i:h_}{a:q_ aC}{nk:aC}{Q:f_ aC->aE->Prop}(r:A.handled=c_)
  (j:nU s.1 e c i nk)(f:fY s.1 c l i)(q:iJ s.1 l a)(n:a[i]?=c_)
  (v:∀h,lB c s.1 h->Q c_ {s with heap:=h}):aP (aW prog w) A (eY (.ref e)) Q E s:=by
 have m:s.TypeIs (.ref e) "enumerate":=⟨_,j,_6⟩;unfold eY;refine aA (eO (cJ (name:=fF "__next__") m jC
  (cL jC m F.entry_enumerate_next ?_ (F.args_enumerate_next_1 _))))
 show aP _ _ (nV (.ref e) 2>>=_) _ _ _;refine aA (bU j _6 (x:=.ref c) _6 ?_);refine aA (ib r f q n λh x g d=>?_);obtain⟨o,p,u⟩:=d;refine aA (fL (T:="StopIteration") (b:=d_) ⟨o,p,u⟩ nT ?_);exact aD (v _ g)
end
def AD(K:aK)(a:g_):It:=
 ⟨λi H=>∃xs x,ng K H a xs/\xs[i]?=a_ x,λi H v b=>∃p x,H p=c_/\v=.ref p/\b=c0 H p (.ci [.int (i:n_),x])/\∀xs,ng K H a xs->xs[i]?=a_ x,λi H=>∃xs,ng K H a xs/\_7 xs<=i⟩
def SH(e b a:g_)(i:h_)(h:r_):Prop:=(∃nk,nU h e b (i:n_) nk)/\fY h b a i
def Lc{P:aV}{w:bP}{K:aK}{β:b_ Expr}{k1}{tp:v_}(a e f:g_)(L:e≠f):qO P w K (.Tuple β k1 tp) (AD K a) [e,f] e (SH e f a) where
 mem:=by simp
 obj:=λi h st b d=>by
  obtain⟨⟨nk,j⟩,o,J,g,hd⟩:=st;rcases o_.mp d with rfl|d
  .exact⟨_,j,λv z=>by
    have z':mQ _=lY v:=z;cases z'⟩
  .have e:b=f:=by simpa using d
   subst e;exact⟨o,J,λv z=>by rw[hd]at z;cases z⟩
 keep:=λi h h' st k=>⟨let ⟨nk,j⟩:=st.1;⟨nk,k e (by simp) _ j⟩,let ⟨o,q,r⟩:=st.2;⟨o,k f (by simp) o q,r⟩⟩
 item:=by
  intro X hP hw hK g i A s σ H E I N st hg;subst hP hw hK;obtain⟨xs,x,U,hx⟩:=hg;obtain⟨δ,rv,p,hz⟩:=I.tuple U;obtain⟨u,hu,ru⟩:=rv.get hx;obtain⟨⟨nk,j⟩,l⟩:=st;obtain⟨f0,f1,f2,f3,f4,f5⟩:=N e (by simp);obtain⟨g0,g1,g2,g3,g4,g5⟩:=N f (by simp);have iV:H s.1.1.size=c_:=I.e6.fresh (aL _);have T:e<s.1.1.size:=aM j;refine Jl j l p (x:=u) (by simpa using hu) L λh1 μ M η hz1 θ=>?_;refine⟨_,_6,p? μ λY κ sb=>?_⟩;have B:bN e h1 Y:=sb;have G:∀b o,b≠e->b≠f->s.1.get? b=a_ o->Y.get? b=a_ o:=λb o Q ρ q=>B.extBut b o Q (θ b o Q ρ q);have t2:Y.get? s.1.1.size=a_ {cls:=.type "tuple",data:=.seq #[.int (i:n_) s.toks,u]}:=B.extBut _ _ (cE T) η;have c:∀{b:g_}{o:HO},H b=a_ o->b≠s.1.1.size/\b≠e/\b≠f:=λ{b o} q=>⟨ak q iV,ak q f0,ak q g0⟩;have C:∀b,b∉[e,f]->b≠e/\b≠f:=λb d=>by simpa using d
  have I2:a9 X A σ (c0 H s.1.1.size (.ci [.int (i:n_),x])) {s with heap:=Y,toks:=s.toks+1}:=by
   refine I.step (g':=s.gens) (d':=s.drawn) (ch:=[e,f]) (λb d=>?_) (λb o Z Z g q Z=>G b o (C b g).1 (C b g).2 q) (λb o Z Z g q Z=>⟨o.slots,G b o (C b g).1 (C b g).2 q⟩) (λb o Z q n=>?_) (λb o g q=>⟨o,G b o (C b g).1 (C b g).2 q⟩)
    (λb ys q=>by rw[aa (c q).1];exact q) (λb o v q=>by rw[aa (c q).1];exact q) (λb y q=>by rw[aa (c q).1];exact q) (λm hm=>?_) (λb v q=>?_) I.ln
   .rcases o_.mp d with rfl|d
    .exact⟨f3,f1,f4,f5⟩
    .have z:b=f:=by simpa using d
     subst z;exact⟨g3,g1,g4,g5⟩
   .rw[aa (bE (aM q))];exact n
   .obtain⟨o,es,ep,J,r⟩:=hm;exact⟨o,es,ep,G _ o (cW f1) (cW g1) J,r⟩
   .by_cases d:b=s.1.1.size
    .subst d;rw[ae]at q;cases q;exact⟨by rw[eS];simp,[.int (i:n_) s.toks,u],.cons ⟨_,_6⟩ (.cons ru .nil),_,t2,_6,0,_6⟩
    .rw[aa d]at q;refine(I.e6 b v q).qZ (λb' v' O r=>G b' v' ?_ ?_ r) (λb' z=>by rw[aa (c z).1];exact z) (λb' ys z=>by rw[aa (c z).1];exact z) λb' o' u' z=>by rw[aa (c z).1];exact z
     .obtain z|z:=O
      .rw[z];exact(c q).2.1
      .exact(c z).2.1
     .obtain z|z:=O
      .rw[z];exact(c q).2.2
      .exact(c z).2.2
  refine⟨.ref s.1.1.size,_,I2,_6,⟨_,x,iV,_6,_6,λys hy=>by rw[I.ql hy U];exact hx⟩,⟨⟨u,?_⟩,?_⟩,λb d=>?_⟩
  .have:((i+1:h_):n_)=(i:n_)+1:=by push_cast;rfl
   rw[this];exact κ
  .exact let ⟨o,q,r⟩:=M;⟨o,B.extBut f o (cW L) q,r⟩
  .have z:=(N b d).1;have:b<s.1.1.size:=by
    rcases o_.mp d with rfl|d
    .exact T
    .have z:b=f:=by simpa using d
     subst z;obtain⟨o,J,_⟩:=l;exact aM J
   rw[aa (bE this)];exact z
 done:=by intro X hP hw hK g i A s σ H E I N st hg;subst hP hw hK;obtain⟨xs,U,hx⟩:=hg;obtain⟨δ,rv,p,hz⟩:=I.tuple U;obtain⟨⟨nk,j⟩,l⟩:=st;obtain⟨g0,g1,g2,g3,g4,g5⟩:=N f (by simp);have hl:=rv.length;exact Ou (I.ok.hd g) j l p (by simp;lia) λh' eb=>⟨_6,I.ii (t':=s.toks) (λb o d e=>eb b o d e) g0 g1 g3 g4 g5⟩
 self:=λZ Z Z Z Z st h=>let ⟨_,j⟩:=st.1;lM j h
def CP{K:KA}{a:g_}{o:Hp}{j:b_ D}{b:b_ V}{S:Hp->Hp->Prop}(h:∀G H,S G H->a6 G H->ng K H a b/\a6 o G)(dl:bt K o j b):rm K (AD K a) (nh 0 j) S:=λi G H r e=>by
 obtain⟨q,g⟩:=h G H r e;refine⟨λd c=>?_,λm=>⟨b,q,by rw[vm]at m;rw[<-dl.length];exact m⟩⟩;rw[vk,Nat.zero_add]at c;cases f:j[i]? with
 |none=>rw[f]at c;cases c
 |some B=>rw[f]at c;cases c;obtain⟨v,n,A⟩:=dl.get f;refine⟨⟨b,v,q,n⟩,λx C ⟨p,y,l,w,u,s⟩=>?_⟩;subst w u;have z:=s b q;rw[n]at z;cases z;exact⟨_,c6.new e (.ci [.int (i:n_),v]) l,gz e l (bt.append (bt.pv (d:=.int (i:n_)) _6) (bt.pv (A.am g)))⟩
noncomputable def PF:D->f_ (b_ D)
 |.a8 a=>a_ a
 |.ci a=>a_ a
 |_=>c_
def Ma(g:En->bi):En->ey:=λU=>match g U with
 | .ok d => (match PF d with
  |some a=>.ok (nh 0 a)
  |none=>.st)
 |.er c=>.er c
 |.st=>.st
section
variable{X:Cx}{B:Hp}{E:EK}{e:Expr}{g:En->bi}{pos p tp:v_}{tes:b_ Expr}{k1:h_}
def IS{G H:Hp}{U:En}{P:b_ D->Prop}(q:f' E G H (Ma g U) P):dL E G H (g U) λd=>∃a,(d=.a8 a\/d=.ci a)/\P (nh 0 a):=by
 unfold Ma at q;cases e:g U with
 |ok d=>
  rw[e]at q;dsimp only at q;cases d with
  |a8 a=>exact⟨a,.inl _6,q⟩
  |ci a=>exact⟨a,.inr _6,q⟩
  |_=>exact q.elim
 |er c=>rw[e]at q;exact q
 |st=>rw[e]at q;exact q
def X5(hg:Gl X "enumerate")(hm:X.mg "enumerate"=c_)(h:V8 X B E e g)(he:aU [e] X.env=(e_,I_ e X.env)::aU [] X.env):
  N2 X B E (.Tuple tes k1 tp) (.Call (.Name "enumerate" p) [e] [] pos) (Ma g):=by
 intro m s σ H R I ⟨G,U,Rr,q⟩;have ha:PA X [e] (lh (tBo (kx X) B E g) u3):=cg h f7 he;refine Call_ (n6 I hg hm (by decide+kernel:eX "enumerate"=a_ (.type "enumerate")) (dU (c9 (ha pos m s σ H (λj c=>∃a,j=[.ref a]/\((∃xs,h8 X.K c a xs)/\R (OY X.K a) c\/(∃xs,ng X.K c a xs)/\R (AD X.K a) c)) I ⟨G,U,Rr,(IS q).am λd Z ⟨ds,ed,q⟩ v L c n ax=>?_⟩) λus f ⟨j,c,o,r1,a,n,y⟩=>?_) he _6))
 .have bh:a6 B c:=Rr.bh.trans n.hh;obtain rfl|rfl:=ed
  .obtain ⟨a,j,rfl,s,dl⟩|⟨β,a,j,z,rfl,s,dl⟩|⟨t,Q,a,z,_⟩|⟨_,_,_,z,_⟩:=ax
   .exact⟨a,_6,.inl ⟨⟨j,h8.am n.gh s⟩,q _ L c n (Sr (λJ C ⟨l,M⟩ x=>⟨h8.am (l.trans x) s,l⟩) dl)⟩⟩
   .cases z;exact⟨a,_6,.inl ⟨⟨j,h8.am bh s⟩,q _ L c n (Sr (λJ C ⟨l,M⟩ x=>⟨h8.am M s,l⟩) dl)⟩⟩
   .cases z
   .cases z
  .obtain ⟨a,j,rfl,s,dl⟩|⟨β,a,j,z,_⟩|⟨t,Q,a,z,_⟩|⟨_,_,_,z,_⟩:=ax
   .have t1:∀{J C:Hp},a6 L J->a6 J C->ng (kx X) C a j:=λl x=>.inl (.inl (x _ _ (l _ _ s)));exact⟨a,_6,.inr ⟨⟨j,t1 (a6.refl L) n.gh⟩,q _ L c n (CP (λJ C ⟨l,M⟩ x=>⟨t1 l x,l⟩) dl)⟩⟩
   .cases z
   .cases z
   .cases z
 .subst n;obtain⟨u,rfl,ru⟩:=ik r1;cases ru;have A:∀b∈[f.1.1.size+1,f.1.1.size],qI X m c b:=λb hb=>by
   rcases o_.mp hb with rfl|hb
   .exact o.qU (hW _) (o.e6.fresh (hW _))
   .have z:b=f.1.1.size:=by simpa using hb
    subst z;exact o.qU (aL _) (o.e6.fresh (aL _))
  obtain ⟨⟨xs,y⟩,N⟩|⟨⟨xs,y⟩,N⟩:=y
  .obtain⟨T,rv,O,_⟩:=o.list y;refine call_enumerate_list O.isList λh' i w Y r=>?_;exact lM i ⟨f.1.1.size+1,[f.1.1.size+1,f.1.1.size],_,_,c,_6,o.kd (t':=f.toks) r,P9 a _ _ (_4 _),⟨⟨_,i⟩,w⟩,A,N⟩
  .obtain⟨T,rv,O,_⟩:=o.tuple y;refine Iv O λh' i w Y r=>?_;exact lM i ⟨f.1.1.size+1,[f.1.1.size+1,f.1.1.size],_,_,c,_6,o.kd (t':=f.toks) r,Lc a _ _ (_4 _),⟨⟨_,i⟩,w⟩,A,N⟩
end
noncomputable def Qs:jZ->f_ (D->D->f_ D)
 |.Add=>a_ mv
 |.Sub=>a_ Uw
 |.Mult=>a_ mx
 |.Mod=>a_ mw
 |.FloorDiv=>a_ Us
 |.Pow=>a_ Hk
 |_=>c_
def EM{X:Cx}{B:Hp}{E:EK}{a b:Expr}{g h:En->bi}{e:v_}{i:jZ}{f:D->D->f_ D}(j:Qs i=a_ f)(d:dj X B E a g)(c:dj X B E b h):ck X B E (.BinOp a i b e) (g2 f g h):=by
 cases i<;>cases j
 .exact Ue d c
 .exact FX d c
 .exact EC d c
 .exact ED d c
 .exact FZ d c
 .exact Yg d c
noncomputable def Yz:b_ l_->b_ ((En->bi)×(En->bi))->En->ey
 |[],[]=>af
 |m::a,p::ps=>ac (if m then p.1 else p.2) (Yz a ps)
 |_,_=>CW
theorem Nl{a:Ev}{C:SC}:∀{b:b_ l_}{es:b_ Expr},Yz b (es.map λe=>(ig a C e,a C e))=Rw a C b es
 |[],[]=>rfl
 |[],_::_=>rfl
 |_::_,[]=>rfl
 |m::b,e::es=>by show ac (if m then ig a C e else a C e) (Yz b (es.map λe=>(ig a C e,a C e)))=ac (if m then ig a C e else a C e) (Rw a C b es);rw[Nl]
noncomputable def Rz(T:GT)(i:h_)(ps:b_ ((En->bi)×(En->bi))):En->bi:=λU=>match az i U with
 | .ok (.fn y) => (match T.qQ y with
  |some s=>fj s.f (Yz s.ms ps) U
  |none=>.st)
 |_=>.st
def Jt(T:GT)(b:Ev)(C:SC)(i:h_)(a:b_ Expr):En->bi:=Rz T i (a.map λe=>(ig b C e,b C e))
section
variable{T:GT}{ev tv:Ev}{X:Cx}{C:SC}{B:Hp}{E:XK}{pos p:v_}{x:k_}{e a:Expr}{es:b_ Expr}
def Qx(h:fw T ev)(O:nc X C T E){i:h_}(hs:slot C x=a_ i)(L:(e::es).all cq=d_):ck X B (ek (kx X) E) (.Call (.Name x p) (e::es) [] pos) (Jt T ev C i (e::es)):=by
 intro b s σ H Q I ⟨G,U,R,q⟩;unfold Jt Rz at q;cases m:az i U with
 |er c=>rw[m]at q;exact q.elim
 |st=>rw[m]at q;exact q.elim
 |ok d=>
  rw[m]at q;cases d with
  |fn y=>
   dsimp only at q;cases ef:T.qQ y with
   |none=>rw[ef]at q;exact q.elim
   |some l=>
    rw[ef]at q;dsimp only at q;rw[Nl]at q;obtain⟨k,f,fd,ps,hr,hm,hk,hb,F⟩:=O.qQ y l ef;obtain⟨v,q1,o⟩:=R.arg m;have w:v=.ref f:=by rw[o.fn];show V.ref (mz X.mg y)=_;rw[ai hm]
    subst w;have g:=L;rw[bO,aH]at g;refine fM (c9 (O.var hs b s σ H (λv J=>v=.ref f/\J=H) I ⟨_,q1,_6,_6⟩) λu Y ⟨v,J,I1,r1,j,z⟩=>?_);subst j z;cases r1;refine kR (h₀:=X.base) I.ok.q7.kin hk (c9 (wd (B:=B) (E:=E) h O (ms:=l.ms) L pos b Y σ J (λn A=>spPu (kx X) l.ms l.f n A Q E) I1 ⟨G,U,R,(Qw q).am λds Z q n G1 A j M=>
     ⟨M.length.2,R.gb.same (R.bh.trans j.hh),G1,ds,j.gh,M,(q.ext j).am λd Z q v G' H' z dn=>q v G' H' (j.trans z) dn⟩⟩) λus s2 ⟨n,A,N,r,o⟩=>⟨N.qY,?_⟩) (ag g.1) (i8 g.2)
    exact Kw (dvs:=[]) F hr hb .nil O.goes N r (by rw[dZ];exact o)
  |_=>exact q.elim
end
noncomputable def LM(x:k_):f_ (D->f_ D):=
 if x="len" then a_ Ab else if x="list" then a_ j9 else if x="tuple" then a_ uh else if x="int" then a_ Uu else if x="all" then a_ Ur else if x="sorted" then a_ Ac else if x="min" then a_ D4 else c_
section
variable{X:Cx}{B:Hp}{E:EK}{e a b:Expr}{es:b_ Expr}{g h:En->bi}{pos p:v_}{x:k_}
def BS{C:SC}{T:GT}{f:D->f_ D}{m:XK}(O:nc X C T m)(d:LM x=a_ f)(j:Gl X x)(i:cq e=d_)(l:dj X B E e g):ck X B E (.Call (.Name x p) [e] [] pos) (g1 f g):=by
 unfold LM at d
 by_cases c:x="len"
 .rw[aO c]at d;cases d;subst c;exact EG j (O.bl _ (by decide)) l (ag i) _6
 rw[aJ c]at d
 by_cases c:x="list"
 .rw[aO c]at d;cases d;subst c;exact Mw (Gq O.calm j (O.bl _ (by decide)) l i) O6
 rw[aJ c]at d
 by_cases c:x="tuple"
 .rw[aO c]at d;cases d;subst c;exact Uo j (O.bl _ (by decide)) l (ag i) _6
 rw[aJ c]at d
 by_cases c:x="int"
 .rw[aO c]at d;cases d;subst c;exact Yi j (O.bl _ (by decide)) l (ag i) _6
 rw[aJ c]at d
 by_cases c:x="all"
 .rw[aO c]at d;cases d;subst c;exact EO O.calm j (O.bl _ (by decide)) l (ag i)
 rw[aJ c]at d
 by_cases c:x="sorted"
 .rw[aO c]at d;cases d;subst c;exact Px (by have:=O.units;lia) O.calm j (O.bl _ (by decide)) l (ag i)
 rw[aJ c]at d
 by_cases c:x="min"
 .rw[aO c]at d;cases d;subst c;exact Yj (by have:=O.units;lia) O.calm j (O.bl _ (by decide)) l (ag i)
 rw[aJ c]at d;cases d
noncomputable def Ml(x:k_):f_ F_:=
 if x="int" then a_ "int" else if x="bool" then a_ "bool" else if x="str" then a_ "str" else if x="list" then a_ "list" else if x="tuple" then a_ "tuple" else c_
def Xc{C:SC}{T:GT}{y:k_}{c:F_}{n:v_}{q:XK}(O:nc X C T q)(f:Ml y=a_ c)(j:Gl X "isinstance")(i:Gl X y)(o:cq e=d_)(m:dj X B E e g):ck X B E (.Call (.Name "isinstance" p) [e,.Name y n] [] pos) (g1 (cm c) g):=by
 have l:aU [e,.Name y n] X.env=(e_,I_ e X.env)::aU [.Name y n] X.env:=ag o;unfold Ml at f
 by_cases d:y="int"
 .rw[aO d]at f;cases f;subst d;exact z9 Xd j (O.bl _ (by decide)) i (O.bl _ (by decide)) _l m (by decide) (by decide) l _6 _6
 rw[aJ d]at f
 by_cases d:y="bool"
 .rw[aO d]at f;cases f;subst d;exact z9 S7 j (O.bl _ (by decide)) i (O.bl _ (by decide)) PyProof.Rows.boot_bool m (by decide) (by decide) l _6 _6
 rw[aJ d]at f
 by_cases d:y="str"
 .rw[aO d]at f;cases f;subst d;exact z9 Xe j (O.bl _ (by decide)) i (O.bl _ (by decide)) PyProof.Rows.boot_str m (by decide) (by decide) l _6 _6
 rw[aJ d]at f
 by_cases d:y="list"
 .rw[aO d]at f;cases f;subst d;exact z9 S8 j (O.bl _ (by decide)) i (O.bl _ (by decide)) _h m (by decide) (by decide) l _6 _6
 rw[aJ d]at f
 by_cases d:y="tuple"
 .rw[aO d]at f;cases f;subst d;exact z9 O9 j (O.bl _ (by decide)) i (O.bl _ (by decide)) lA m (by decide) (by decide) l _6 _6
 rw[aJ d]at f;cases f
end
def Ly(C:SC)(n:k_)(a:Expr):f_ (b_ Expr):=match a with
 | .Call f b c _ => (match f with
  |.Name y _=>if decide (y=n)&&c.isEmpty&&decide (slot C y=c_)&&vw C y&&b.all cq then a_ b else c_
  |_=>c_)
 |_=>c_
noncomputable def Ai(C:SC)(n:k_)(a:Expr):f_ Expr:=match Ly C n a with
 |some [e]=>a_ e
 |_=>c_
noncomputable def oi(e:Expr):f_ (Expr×k_×b_ Expr):=match e with
 | .Call f a b c => (match f with
  |.Attribute o m d=>if b.isEmpty&&(d.endLine==c.line)then a_ (o,m,a)else c_
  |_=>c_)
 |_=>c_
set_option tactic.hygienic true in
def e9{e o:Expr}{m:k_}{a:b_ Expr}(h:oi e=a_ (o,m,a)):∃d b,e=.Call (.Attribute o m d) a [] b/\(d.endLine==b.line)=d_:=by
 unfold oi at h;split at h
 .split at h
  .split at h
   .rename_i f b _ o m d c;simp only[aH,Q_]at c;cases h;exact⟨d,b,by rw[c.1],c.2⟩
   .cases h
  .cases h
 .cases h
def Mr(m:k_)(a:Expr):f_ Expr:=match oi a with
 |some (o,b,[])=>if decide (b=m)&&gf o then a_ o else c_
 |_=>c_
set_option tactic.hygienic true in
def Gd{m:k_}{a o:Expr}(h:Mr m a=a_ o):∃d b,a=.Call (.Attribute o m d) [] [] b/\gf o=d_/\(d.endLine==b.line)=d_:=by
 unfold Mr at h;split at h
 .rename_i e;split at h
  .rename_i c;cases h;simp only[aH,j_]at c;obtain⟨rfl,c⟩:=c;obtain⟨d,b,e,l⟩:=e9 e;exact⟨d,b,e,c,l⟩
  .cases h
 .cases h
def Nv(a:Expr):f_ Expr:=Mr "values" a
def V6(C:SC)(a:Expr):f_ (Expr×Expr):=match Ly C "zip" a with
 |some [p,q]=>a_ (p,q)
 |_=>c_
def K4(b:Ev)(C:SC)(x:k_)(a:Expr):En->bi:=match Nv a with
 |some o=>if x="tuple" then g1 D5 (ig b C o)else gd
 | c_ => (match V6 C a with
  |some p=>if x="dict" then yz (ac (ig b C p.1) (ac (ig b C p.2) af))else gd
  | c_ => (match LM x with
   |some f=>if cq a then g1 f (ig b C a)else gd
   |none=>gd))
noncomputable def K5(d:Ev)(C:SC)(x:k_)(b:b_ Expr):En->bi:=match b with
 | [a] => (match Ai C "set" a with
  |some e=>gd
  |none=>K4 d C x a)
 | [a, .Name y _] => if x = "isinstance" then (match Ml y with
   |some c=>if cq a&&vw C y then g1 (cm c) (ig d C a)else gd
   |none=>gd)else gd
 |_=>gd
noncomputable def uy(T:GT)(g:Ev)(C:SC)(x:k_)(c:b_ Expr):En->bi:=match slot C x with
 | a_ i => (match c with
  |[]=>gd
  |e::d=>if(e::d).all cq then Jt T g C i (e::d)else gd)
 | c_ => if vw C x then (match T.qQ x with
  | a_ s => (match c with
   |[]=>if s.ms=[]then(λq=>s.f [])else gd
   |e::d=>if(e::d).all cq then fj s.f (Rw g C s.ms (e::d))else gd)
  | c_ => if decide (x ∈ lq) then K5 g C x c else (match T.cls x with
   | a_ p => (match c with
    |[a,b]=>if cq a&&cq b then fj (Ut x p.1 p.2) (Rw g C [e_,e_] [a,b])else gd
    |_=>gd)
   |none=>gd))else gd
section
variable{T:GT}{ev tv:Ev}{X:Cx}{C:SC}{B:Hp}{E:XK}{pos p:v_}{x:k_}{e a:Expr}{es:b_ Expr}
set_option tactic.hygienic true in
def Fs{n:k_}{b:b_ Expr}(O:nc X C T E)(h:Ly C n a=a_ b):∃p pos,a=.Call (.Name n p) b [] pos/\Gl X n/\b.all cq=d_:=by
 unfold Ly at h;split at h
 .split at h
  .split at h
   .rename_i c;cases h;simp only[aH,j_,Q_]at c;obtain⟨⟨⟨⟨rfl,rfl⟩,_⟩,f⟩,d⟩:=c;exact⟨_,_,_6,(O.gl f).1,d⟩
   .cases h
  .cases h
 .cases h
set_option tactic.hygienic true in
def P6{n:k_}(O:nc X C T E)(h:Ai C n a=a_ e):∃p pos,a=.Call (.Name n p) [e] [] pos/\Gl X n/\cq e=d_:=by
 unfold Ai at h;split at h
 .rename_i e;cases h;obtain⟨p,pos,e,g,z⟩:=Fs O e;exact⟨p,pos,e,g,by simpa using z⟩
 .cases h
set_option tactic.hygienic true in
def Nx{p q:Expr}(O:nc X C T E)(h:V6 C a=a_ (p,q)):∃b pos,a=.Call (.Name "zip" b) [p,q] [] pos/\Gl X "zip"/\cq p=d_/\cq q=d_:=by
 unfold V6 at h;split at h
 .rename_i e;cases h;obtain⟨p,pos,e,g,z⟩:=Fs O e;exact⟨p,pos,e,g,by simpa using z⟩
 .cases h
def HD(h:fw T ev)(O:nc X C T E)(d:Gl X x):ck X B (ek (kx X) E) (.Call (.Name x p) [a] [] pos) (K4 ev C x a):=by
 unfold K4;cases m:Nv a with
 |some o=>
  dsimp only;obtain⟨A,z,rfl,w,s⟩:=Gd m
  by_cases b:x="tuple"
  .subst b;rw[aO _6];exact Yk O.calm d (O.bl _ (by decide)) (bj h O o) w s
  .rw[aJ b];exact bq
 |none=>
  dsimp only;cases l:V6 C a with
  |some j=>
   dsimp only;obtain⟨u,v⟩:=j;obtain⟨y,i,rfl,g,r,q⟩:=Nx O l
   by_cases b:x="dict"
   .subst b;rw[aO _6];exact Uj O.calm d (O.bl _ (by decide)) g (O.bl _ (by decide)) (bj h O u) (bj h O v) r q
   .rw[aJ b];exact bq
  |none=>
   dsimp only;cases n:LM x with
   |none=>exact bq
   |some f=>
    dsimp only
    by_cases c:cq a=d_
    .rw[aO c];exact BS O n d c (bj h O a)
    .rw[aJ c];exact bq
set_option tactic.hygienic true in
def HA(h:fw T ev)(O:nc X C T E)(g:Gl X x){b:b_ Expr}:ck X B (ek (kx X) E) (.Call (.Name x p) b [] pos) (K5 ev C x b):=by
 unfold K5;split
 .rename_i a;cases l:Ai C "set" a with
  |some e=>exact bq
  |none=>dsimp only;exact HD h O g
 .rename_i a y j
  by_cases f:x="isinstance"
  .subst f;rw[aO _6];cases i:Ml y with
   |none=>exact bq
   |some c=>
    dsimp only
    by_cases d:(cq a&&vw C y)=d_
    .rw[aO d];rw[aH]at d;exact Xc O i g (O.gl d.2).1 d.1 (bj h O a)
    .rw[aJ d];exact bq
  .rw[aJ f];exact bq
 .exact bq
set_option tactic.hygienic true in
def j0(h:fw T ev)(O:nc X C T E){d:b_ Expr}:ck X B (ek (kx X) E) (.Call (.Name x p) d [] pos) (uy T ev C x d):=by
 unfold uy;cases y:slot C x with
 |some i=>
  cases d with
  |nil=>exact bq
  |cons e es=>
   dsimp only
   by_cases c:(e::es).all cq=d_
   .rw[aO c];exact Qx h O y c
   .rw[aJ c];exact bq
 |none=>
  dsimp only
  by_cases n:vw C x=d_
  .rw[aO n];obtain⟨g1,g2⟩:=O.gl n;cases ef:T.qQ x with
   |none=>
    dsimp only
    by_cases l:decide (x∈lq)=d_
    .rw[aO l];exact HA h O g1
    rw[aJ l];cases A:T.cls x with
    |none=>exact bq
    |some u=>
     obtain⟨w,v⟩:=u;obtain⟨m,z⟩:=O.cls x w v A;dsimp only;split
     .rename_i a b
      by_cases c:(cq a&&cq b)=d_
      .rw[aO c];rw[aH]at c;exact EH z m g1 (wd h O (by rw[bO,bO,c.1,c.2];rfl)) g2 (ag c.1) (i8 (by rw[bO,c.2];rfl))
      .rw[aJ c];exact bq
     .exact bq
   |some s=>
    obtain⟨k,f,G,ps,m,o,q,r,F⟩:=O.qQ x s ef;cases d with
    |nil=>
     dsimp only
     by_cases j:s.ms=[]
     .rw[aO j];rw[j]at F;exact Ug F m g1 o q r O.goes g2
     .rw[aJ j];exact bq
    |cons e es=>
     dsimp only
     by_cases c:(e::es).all cq=d_
     .rw[aO c];have g:=c;rw[bO,aH]at g;exact Yf F m g1 o q r O.goes (wd h O c) g2 (ag g.1) (i8 g.2)
     .rw[aJ c];exact bq
  .rw[aJ n];exact bq
end
def qf(C:SC)(x:k_):l_:=decide (x="range")&&decide (slot C x=c_)&&vw C x
noncomputable def Ee(b:Ev)(C:SC)(iter:Expr):En->ey:=match iter with
 |.Call (.Name x _) [a] [] _=>if qf C x&&cq a then y4 (Rw b C [d_] [a])else jl (ig b C iter)
 |.Attribute o m p=>rq (b C (.Attribute o m p))
 |_=>jl (ig b C iter)
def Wt(C:SC)(e:Expr):f_ (h_×Expr×Expr):=match e with
 |.Call (.Attribute (.Name x _) m d) [a,b] [] c=>if decide (m="get")&&cq a&&cq b&&(d.endLine==c.line)then(slot C x).map λi=>(i,a,b)else c_
 |_=>c_
def Ry(a:Ev)(C:SC)(e:Expr):En->bi:=match e with
 | .Name x _ => (match slot C x with
  |some i=>Zu i
  |none=>a C e)
 | .Call f c b p => (match Wt C (.Call f c b p) with
  |some q=>Mb q.1 (ig a C q.2.1) (a C q.2.2)
  |none=>a C (.Call f c b p))
 |_=>a C e
def Jx(i:h_):En->ey:=λU=>match jd i U with
 |.ok (.h7 d_ a)=>.ok (a.map (·.1))
 |_=>jl (Zu i) U
noncomputable def Vi(b:Ev)(C:SC)(iter:Expr):En->ey:=match iter with
 |.Call (.Name x _) [a] [] _=>if qf C x&&cq a then y4 (Rw b C [d_] [a])else jl (Ry b C iter)
 |.Attribute o m p=>rq (b C (.Attribute o m p))
 | .Name x p => (match slot C x with
  |some i=>Jx i
  |none=>jl (Ry b C (.Name x p)))
 |_=>jl (Ry b C iter)
section
variable{T:GT}{ev tv:Ev}{X:Cx}{C:SC}{B:Hp}{E:XK}{pos p:v_}{x:k_}{e a tg:Expr}{es:b_ Expr}
set_option tactic.hygienic true in
def Ll(h:fw T ev)(O:nc X C T E)(e:Expr):V8 X B (ek (kx X) E) e (Ry ev C e):=by
 have d:V8 X B (ek (kx X) E) e (ev C e):=Ew (h X C B E e O);cases e with
 |Name x p=>
  show V8 X B _ _ (match slot C x with
   |some i=>Zu i
   |none=>ev C (.Name x p))
  cases es:slot C x with
  |none=>exact d
  |some i=>exact Ip i (O.var es)
 |Call f c b p=>
  show V8 X B _ _ (match Wt C (.Call f c b p)with
   |some q=>Mb q.1 (ig ev C q.2.1) (ev C q.2.2)
   |none=>ev C (.Call f c b p))
  cases es:Wt C (.Call f c b p)with
  |none=>exact d
  |some q=>
   unfold Wt at es;split at es
   .rename_i r;cases (r);split at es
    .rename_i g;simp only[aH,j_]at g;obtain⟨⟨⟨rfl,l⟩,j⟩,n⟩:=g;obtain⟨i,o,rfl⟩:=x_.mp es;have m:X.A.units+5<cP:=by have:=O.units;lia
     exact BP m (O.var o) (bj h O _) (h X C B E _ O) ⟨d8 _6,by rw[gi (by rw[bO,bO,l,j];rfl)];rfl,n,ux l j⟩
    .cases (es)
   .cases (es)
 |_=>exact d
def Hl(O:nc X C T E){x:k_}(h:qf C x=d_):x="range"/\Gl X "range"/\X.mg "range"=c_:=by unfold qf at h;simp only[aH,j_]at h;obtain⟨⟨c,d⟩,b⟩:=h;subst c;exact⟨_6,(O.gl b).1,O.bl _ (by decide)⟩
set_option tactic.hygienic true in
def T4{i:h_}{E:EK}(c:PE X (.Name x p) (fh i)):N2 X B E tg (.Name x p) (Jx i):=by
 intro b s σ H R I ⟨G,U,d,q⟩;unfold Jx at q;split at q
 .rename_i f g;refine Dz (B:=B) (E:=E) (tg:=tg) (Kv i c) (sk (Ew (Kv i c))) b s σ H R I ⟨G,U,d,?_⟩;unfold rq;rw[g];exact q
 .exact sk (Ip i c) b s σ H R I ⟨G,U,d,q⟩
set_option tactic.hygienic true in
def OB(h:fw T ev)(O:nc X C T E)(e:Expr):N2 X B (ek (kx X) E) tg e (Vi ev C e):=by
 unfold Vi;split
 .rename_i x _ a _
  by_cases b:(qf C x&&cq a)=d_
  .rw[aO b];rw[aH]at b;obtain⟨rfl,g1,g2⟩:=Hl O b.1;exact Mz g1 g2 (wd h O (by rw[bO,b.2];rfl)) (ag b.2)
  .rw[aJ b];exact sk (Ll h O _)
 .rename_i o m p;have c:=h X C B E (.Attribute o m p) O;exact Dz c (sk (Ew c))
 .rename_i x p;cases es:slot C x with
  |none=>exact sk (Ll h O _)
  |some i=>exact T4 (O.var es)
 .exact sk (Ll h O _)
noncomputable def F4:Expr->l_
 |.Tuple _ _ _=>d_
 |_=>e_
def y9{tg:Expr}(h:F4 tg=d_):∃es k p,tg=.Tuple es k p:=by
 unfold F4 at h;split at h
 .exact⟨_,_,_,_6⟩
 .cases h
noncomputable def Lx(C:SC)(tg iter:Expr):f_ Expr:=if F4 tg then Ai C "enumerate" iter else c_
noncomputable def V7(C:SC)(tg iter:Expr):f_ (Expr×Expr):=if F4 tg then V6 C iter else c_
def F6(tg iter:Expr):f_ Expr:=if F4 tg then Mr "items" iter else c_
def za{α:Type}{c:l_}{x:f_ α}{y:α}(h:(if c then x else c_)=a_ y):c=d_/\x=a_ y:=by
 cases c with
 |true=>exact⟨_6,h⟩
 |false=>cases h
def ki(ev:Ev)(C:SC)(tg iter:Expr):En->ey:=match Lx C tg iter with
 |some e=>Ma (Ry ev C e)
 | c_ => (match V7 C tg iter with
  |some p=>Ws (ac (ig ev C p.1) (ac (ig ev C p.2) af))
  | c_ => (match F6 tg iter with
   |some o=>tw (ev C o)
   |none=>Vi ev C iter))
def F5(h:fw T ev)(O:nc X C T E)(e:Expr):N2 X B (ek (kx X) E) tg e (ki ev C tg e):=by
 unfold ki;cases f:Lx C tg e with
 |none=>
  dsimp only;cases c:V7 C tg e with
  |none=>
   dsimp only;cases d:F6 tg e with
   |none=>exact OB h O e
   |some o=>dsimp only;obtain⟨t,d⟩:=za d;obtain⟨_,_,_,rfl⟩:=y9 t;obtain⟨q,n,rfl,m,l⟩:=Gd d;exact T3 (h X C B E o O) m l
  |some p=>obtain⟨a,b⟩:=p;dsimp only;obtain⟨t,c⟩:=za c;obtain⟨_,_,_,rfl⟩:=y9 t;obtain⟨p,pos,rfl,g,i,j⟩:=Nx O c;exact EU g (O.bl _ (by decide)) (bj h O a) (bj h O b) i j
 |some a=>dsimp only;obtain⟨t,f⟩:=za f;obtain⟨_,_,_,rfl⟩:=y9 t;obtain⟨p,pos,rfl,g,i⟩:=P6 O f;exact X5 g (O.bl _ (by decide)) (Ll h O a) (ag i)
set_option tactic.hygienic true in
def Zx(h:fw T ev)(O:nc X C T E)(e:Expr):N3 X B (ek (kx X) E) tg e (Ee ev C e):=by
 unfold Ee;split
 .rename_i x _ a _
  by_cases b:(qf C x&&cq a)=d_
  .rw[aO b];rw[aH]at b;obtain⟨rfl,g1,g2⟩:=Hl O b.1;exact D0 (Mz g1 g2 (wd h O (by rw[bO,b.2];rfl)) (ag b.2))
  .rw[aJ b];exact M1 (bj h O _)
 .rename_i o m p;have c:=h X C B E (.Attribute o m p) O;exact D0 (Dz c (sk (Ew c)))
 .exact M1 (bj h O _)
end
noncomputable def Np(c:Ev)(C:SC)(o:Expr)(m:k_)(d:b_ Expr):En->bi:=match d with
 |[a]=>if gf o&&cq a then(if m="index" then gM ug (ig c C o) (ig c C a)else gd)else gd
 |[a,b]=>if gf o&&cq a&&cq b then(if m="get" then Bq (ig c C o) (ig c C a) (c C b)else gd)else gd
 |_=>gd
set_option tactic.hygienic true in
def PU{T:GT}{j:Ev}{X:Cx}{C:SC}{B:Hp}{E:XK}(h:fw T j)(O:nc X C T E){o:Expr}{m:k_}{n l:v_}{d:b_ Expr}(f:(n.endLine==l.line)=d_):ck X B (ek (kx X) E) (.Call (.Attribute o m n) d [] l) (Np j C o m d):=by
 unfold Np;split
 .rename_i a
  by_cases c:(gf o&&cq a)=d_
  .rw[aO c];rw[aH]at c
   by_cases e:m="index"
   .subst e;rw[aO _6];exact G9 O.units (bj h O o) (bj h O a) c.1 c.2 f
   .rw[aJ e];exact bq
  .rw[aJ c];exact bq
 .rename_i a b
  by_cases c:(gf o&&cq a&&cq b)=d_
  .rw[aO c];rw[aH,aH]at c;obtain⟨⟨q,i⟩,g⟩:=c
   by_cases e:m="get"
   .subst e;rw[aO _6];have p:X.A.units+5<cP:=by have:=O.units;lia
    exact M9 p (bj h O o) (bj h O a) (h X C B E b O) ⟨d8 q,by rw[gi (by rw[bO,bO,i,g];rfl)];rfl,f,ux i g⟩
   .rw[aJ e];exact bq
  .rw[aJ c];exact bq
 .exact bq
noncomputable def ju(d g:Ev)(C:SC)(b:Expr)(gens:b_ oU)(a:eL):En->bi:=match gens with
 | [⟨.Name x _, iter, e, 0⟩] => if m8 C a [x]&&jc iter then (match slots C (cz a.names) with
  | a_ f => (match e with
   |[]=>Zv (Ee d C iter) f (gC (.bl d_)) (d (e8 C a [x]) b)
   |[c]=>Zv (Ee d C iter) f (g (e8 C a [x]) c) (d (e8 C a [x]) b)
   |_=>gd)
  |none=>gd)else gd
 | [⟨.Tuple [.Name x j, .Name y i] k h, iter, e, 0⟩] => if m8 C a [x, y]&&jc iter then (match slots C (cz a.names) with
  | a_ f => (match e with
   |[]=>Dd (ki d C (.Tuple [.Name x j,.Name y i] k h) iter) (Nu f (d (e8 C a [x,y]) b))
   |[c]=>Dd (ki d C (.Tuple [.Name x j,.Name y i] k h) iter) (Ej f (g (e8 C a [x,y]) c) (d (e8 C a [x,y]) b))
   |_=>gd)
  |none=>gd)else gd
 |_=>gd
inductive CompV(X:Cx)(B:Hp)(E:EK)(elt:Expr)(gens:b_ oU)(scope:eL)(G:En->bi):Prop
 |st (h:G=gd)
 |ok {tg iter:Expr} {ifs:b_ Expr} {own xs M:b_ k_} {ix:b_ h_} {td:D->f_ (b_ D)} {t g:En->bi} {r:En->ey} {F:En->D->TR} {E2:XK} (eg:gens=[⟨tg,iter,ifs,0⟩]) (eG:G=l8 r F)
  (st:X.Ok->∃cl,kO X scope cl own xs M ix/\rA X B E2 scope cl own xs M tg td elt ifs t g) (hA:Ql X E2) (hF:∀U,Bc td (i4 ix U) t g (F U)) (hE:Wc E (ek (kx X) E2) F) (hi:N3 X B E tg iter r) (hs:∀x,fW iter X.env x=pure x)
section
variable{T:GT}{ev tv:Ev}{X:Cx}{C:SC}{B:Hp}{E:XK}{pos p:v_}{elt:Expr}
set_option tactic.hygienic true in
def Zp(h:fw T ev)(A:Aw T tv)(O:nc X C T E){gens:b_ oU}{scope:eL}:CompV X B (ek (kx X) E) elt gens scope (ju ev tv C elt gens scope):=by
 unfold ju;split
 .rename_i x u iter o
  by_cases d:(m8 C scope [x]&&jc iter)=d_
  .rw[aO d];rw[aH]at d;obtain⟨d,e⟩:=d;cases v:slots C (cz scope.names)with
   |none=>exact .st _6
   |some n=>
    dsimp only;cases o with
    |nil=>dsimp only;refine .ok (tg:=.Name x u) (td:=LD) (ifs:=[]) (own:=ue scope) (xs:=[x]) (M:=cz scope.names) (ix:=n) (t:=gC (.bl d_)) (g:=ev (e8 C scope [x]) elt) (E2:=E0) _6 (tu (f:=H8 n (gC (.bl d_)) (ev (e8 C scope [x]) elt))) (λok=>?_) _6 (λU=>Vy.tr) C9 (Zx h O iter) (gu e);obtain⟨q,l⟩:=j6 O ok d v;exact⟨q,l,Nq l,.inl ⟨_6,_6⟩,λm a b j i s=>h _ _ B E0 elt (kn O d m a b j i s)⟩
    |cons c r=>
     cases r with
     |nil=>refine .ok (tg:=.Name x u) (td:=LD) (ifs:=[c]) (own:=ue scope) (xs:=[x]) (M:=cz scope.names) (ix:=n) (t:=tv (e8 C scope [x]) c) (g:=ev (e8 C scope [x]) elt) (E2:=E0) _6 (tu (f:=H8 n (tv (e8 C scope [x]) c) (ev (e8 C scope [x]) elt))) (λok=>?_) _6 (λU=>Vy.tr) C9 (Zx h O iter) (gu e);obtain⟨q,l⟩:=j6 O ok d v;exact⟨q,l,Nq l,.inr ⟨c,_6,λm a b j i=>A _ _ B E0 c (kn O d m a b j i m5)⟩,λm a b j i s=>h _ _ B E0 elt (kn O d m a b j i s)⟩
     |cons _ _=>exact .st _6
  .rw[aJ d];exact .st _6
 .rename_i x u y z k w iter o
  by_cases d:(m8 C scope [x,y]&&jc iter)=d_
  .rw[aO d];rw[aH]at d;obtain⟨d,e⟩:=d;cases v:slots C (cz scope.names)with
   |none=>exact .st _6
   |some n=>
    dsimp only;cases o with
    |nil=>refine .ok (tg:=.Tuple [.Name x u,.Name y z] k w) (td:=AJ) (ifs:=[]) (own:=ue scope) (xs:=[x,y]) (M:=cz scope.names) (ix:=n) (t:=gC (.bl d_)) (g:=ev (e8 C scope [x,y]) elt) (E2:=E0) _6 (tu (f:=Nu n (ev (e8 C scope [x,y]) elt))) (λok=>?_) _6 (λU=>GR.tr) C9 (D0 (F5 h O iter)) (gu e);obtain⟨q,l⟩:=j6 O ok d v;exact⟨q,l,H0 l O.calm,.inl ⟨_6,_6⟩,λm a b j i s=>h _ _ B E0 elt (kn O d m a b j i s)⟩
    |cons c r=>
     cases r with
     |nil=>refine .ok (tg:=.Tuple [.Name x u,.Name y z] k w) (td:=AJ) (ifs:=[c]) (own:=ue scope) (xs:=[x,y]) (M:=cz scope.names) (ix:=n) (t:=tv (e8 C scope [x,y]) c) (g:=ev (e8 C scope [x,y]) elt) (E2:=E0) _6 (tu (f:=Ej n (tv (e8 C scope [x,y]) c) (ev (e8 C scope [x,y]) elt))) (λok=>?_) _6 (λU=>Zf.tr) C9 (D0 (F5 h O iter)) (gu e);obtain⟨q,l⟩:=j6 O ok d v;exact⟨q,l,H0 l O.calm,.inr ⟨c,_6,λm a b j i=>A _ _ B E0 c (kn O d m a b j i m5)⟩,λm a b j i s=>h _ _ B E0 elt (kn O d m a b j i s)⟩
     |cons _ _=>exact .st _6
  .rw[aJ d];exact .st _6
 .exact .st _6
def yf(h:fw T ev)(b:Aw T tv)(O:nc X C T E){gens:b_ oU}{scope:eL}:Qj X B (ek (kx X) E) (.ListComp elt gens scope pos) (ju ev tv C elt gens scope)/\IsL (ju ev tv C elt gens scope):=by
 cases Zp (B:=B) (elt:=elt) (gens:=gens) (scope:=scope) h b O with
 |st e=>rw[e];exact⟨IA,λU d h=>by cases h⟩
 |ok l m st j g i f c=>rw[m];subst l;refine⟨λa s σ H Q I q=>?_,O5⟩;obtain⟨r,n,o⟩:=st I.ok;exact Ts n O.calm j o g i f c a s σ H Q I q
end
def BK(xs:b_ D)(lo a:f_ n_):b_ D:=(xs.drop (HT.Ep xs.length 0 lo)).take (HT.Ep xs.length xs.length a-HT.Ep xs.length 0 lo)
def Nb(d:D)(lo a:f_ n_):f_ D:=match d with
 |.a8 xs=>a_ (.a8 (BK xs lo a))
 |_=>c_
noncomputable def Fv(a:Ev)(C:SC)(o:f_ Expr)(U:En):f_ (f_ n_):=match o with
 |none=>a_ c_
 | a_ e => (match a C e U with
  |.ok (.int i)=>a_ (a_ i)
  |_=>c_)
noncomputable def OF(o:f_ (En->bi))(U:En):f_ (f_ n_):=match o with
 |none=>a_ c_
 | a_ g => (match g U with
  |.ok (.int i)=>a_ (a_ i)
  |_=>c_)
def SQ(g:En->bi)(lo a:f_ (En->bi)):En->bi:=λU=>(g U).bind λd=>match OF lo U,OF a U with
 |some l,a_ h=>bi.of (Nb d l h)
 |_,_=>.st
def Jv(b:Ev)(C:SC)(a:Expr)(lo c:f_ Expr):En->bi:=SQ (ig b C a) (lo.map (b C)) (c.map (b C))
def Sb{a:Ev}{C:SC}{o:f_ Expr}{U:En}:OF (o.map (a C)) U=Fv a C o U:=by cases o<;>rfl
def bt.cut{K:KA}{G:Hp}{c:b_ D}{a:b_ V}(dl:bt K G c a)(lo b:f_ n_):bt K G (BK c lo b) (Jc a lo b):=by unfold BK Jc;rw[dl.length];exact(dl.drop _).take _
section
variable{T:GT}{ev tv:Ev}{X:Cx}{C:SC}{B:Hp}{E:XK}{pos p:v_}{a:Expr}
def Mx(h:fw T ev)(O:nc X C T E){o:f_ Expr}:∃t:TO,PO X o t/\∀G U σ H l (Q:f_ n_->Hp->Prop),ce (kx X) B G H σ U->Fv ev C o U=a_ l->(∀j g,c6 G H j g->Q l g)->t σ H Q:=by
 cases o with
 |none=>refine⟨_,X7,λG U σ H l Q R e q=>?_⟩;cases e;exact q G H (c6.refl R.gh)
 |some e=>
  refine⟨_,X8 (h X C B E0 e O.none),λG U σ H l Q R b q=>?_⟩;unfold Fv at b;dsimp only at b;cases f:ev C e U with
  |ok d=>
   rw[f]at b;cases d with
   |int i=>cases b;refine⟨G,U,R,?_⟩;rw[f];exact λv j g x m=>⟨i,m,q j g x⟩
   |_=>cases b
  |er c=>rw[f]at b;cases b
  |st=>rw[f]at b;cases b
set_option tactic.hygienic true in
def Ve(h:fw T ev)(O:nc X C T E){lo e:f_ Expr}{z:v_}:ck X B (ek (kx X) E) (.Subscript a (.Slice lo e c_ z) pos) (Jv ev C a lo e):=by
 obtain⟨tl,I,x⟩:=Mx (B:=B) h O (o:=lo);obtain⟨th,b,y⟩:=Mx (B:=B) h O (o:=e);refine PE.imp (T2 Y1 (bj (B:=B) (E:=E) h O a) I b) λσ H Q ⟨G,U,R,q⟩=>⟨G,U,R,(dL.bind q).am λd _ q v G1 M n J=>?_⟩;rw[Sb,Sb]at q;cases f:Fv ev C lo U with
 |none=>rw[f]at q;exact q.elim
 |some l=>
  cases i:Fv ev C e U with
  |none=>rw[f,i]at q;exact q.elim
  |some b=>
   rw[f,i]at q;obtain⟨d',g,q⟩:=dL.of q;refine x G1 U σ M l _ (R.ext n) f λY L j=>y Y U σ L b _ (R.ext (n.trans j)) i λN H3 c=>?_;have m:=(n.trans j).trans c;have r:=(J.ext j).ext c;unfold Nb at g;split at g
   .rename_i xs;cases g;obtain⟨A,s,rfl,w,dl⟩:=r.a8 c.gh;exact⟨A,s,_6,w,λp u=>q _ (c0 N p (.a8 (Jc s l b))) _ (m.trans (c6.new c.gh _ u)) (m9 c.gh u (dl.cut l b))⟩
   .cases g
end
def Mh:jZ->l_
 |.Mult=>d_
 |_=>e_
def Ed(c:Ev)(C:SC)(a:Expr)(d:jZ)(b:Expr):En->bi:=match a with
 | .List e _ => if Mh d&&e.all cq then Fw (c7 (mq c C e)) (ig c C b) else (match Qs d with
  |some f=>g2 f (ig c C a) (ig c C b)
  |none=>gd)
 | a => (match Qs d with
  |some f=>g2 f (ig c C a) (ig c C b)
  |none=>gd)
set_option tactic.hygienic true in
def BQ{T:GT}{i:Ev}{X:Cx}{C:SC}{B:Hp}{E:XK}{d:v_}(h:fw T i)(O:nc X C T E){a b:Expr}{c:jZ}:ck X B (ek (kx X) E) (.BinOp a c b d) (Ed i C a c b):=by
 have g:ck X B (ek (kx X) E) (.BinOp a c b d) (match Qs c with
  |some f=>g2 f (ig i C a) (ig i C b)
  |none=>gd):=by
  cases j:Qs c with
  |none=>exact bq
  |some f=>exact EM j (bj h O a) (bj h O b)
 unfold Ed;split
 .rename_i l _
  by_cases e:(Mh c&&l.all cq)=d_
  .rw[aO e];rw[aH]at e;have:c=.Mult:=by cases c<;>first|rfl|(cases e.1)
   subst this;exact Mw (Tt (Dv kj (l7 h O e.2)) Dj (bj h O b)) Wz
  .rw[aJ e];exact g
 .exact g
noncomputable def AS(T:GT)(d u:Ev)(C:SC)(e:Expr):En->bi:=match e with
 | .Constant c _ _ => (match c with
  |.none=>gC .fm
  |.bool b=>gC (.bl b)
  |.int i=>gC (.int i)
  |.str x=>gC (.str x)
  |_=>gd)
 |.Name x _=>An T C x
 |.BinOp a n b _=>Ed d C a n b
 | .UnaryOp n a _ => (match n with
  |.Not=>R9 (d C a)
  |_=>gd)
 | .BoolOp n p _ => (match n with
  |.And=>Fu (d C) p
  |.Or=>Sa (d C) p)
 |.IfExp c a b _=>Wr (u C c) (d C a) (d C b)
 |.Compare l q z _=>uz d C l q z
 |.Tuple j _ _=>if j.all cq then cr (mq d C j)else gd
 |.List j _=>if j.all cq then c7 (mq d C j)else gd
 | .Subscript a i _ => (match i with
  |.Slice lo B c_ _=>Jv d C a lo B
  |i=>if so i then g2 jx (ig d C a) (ig d C i)else gd)
 |.ListComp s gens h _=>ju d u C s gens h
 | .Dict A p _ => (match A, p with
  |[],[]=>gC (.h7 e_ [])
  |[a_ (.Tuple j y w)],[v]=>Ju (d C (.Tuple j y w)) (d C v)
  |_,_=>gd)
 |.Attribute o m _=>if gf o then Wq T.cls m (ig d C o)else gd
 | .Call f g r E => (match f, r with
  |.Name x _,[]=>uy T d C x g
  |.Attribute o m G,[]=>if G.endLine==E.line then Np d C o m g else gd
  |_,_=>gd)
 |_=>gd
def OE(g:En->bi):En->bi:=g1 (λd=>bD (Eh d)) g
noncomputable def AQ(T:GT)(g b:Ev)(C:SC)(e:Expr):En->bi:=match e with
 | .UnaryOp f a _ => (match f with
  |.Not=>R9 (b C a)
  |_=>g1 (λd=>bD (Eh d)) (ig g C e))
 | .BoolOp f h _ => (match f with
  |.And=>Fu (b C) h
  |.Or=>Sa (b C) h)
 |.Compare l c i _=>uz g C l c i
 |e=>if D1 e then g1 (λd=>bD (Eh d)) (ig g C e)else gd
section
variable{T:GT}{ev tv:Ev}
set_option tactic.hygienic true in
def Vh(h:fw T ev)(s:Aw T tv):fw T (AS T ev tv):=by
 intro X C B E e O;cases e with
 |Constant c k p=>
  cases c with
  |none=>exact EB
  |bool b=>exact M8
  |int i=>exact Ul
  |str x=>exact FY
  |_=>exact bq
 |Name x p=>exact Xo O
 |BinOp a n b p=>exact BQ h O
 |UnaryOp n a p=>
  cases n with
  |Not=>exact EA (h X C B E a O)
  |_=>exact bq
 |BoolOp n z p=>
  cases n with
  |And=>exact Lg λe=>h X C B E e O
  |Or=>exact Tp λe=>h X C B E e O
 |IfExp c a b p=>exact JS (s X C B E c O) (h X C B E a O) (h X C B E b O)
 |Compare l H Q p=>exact(Q5 h O).1
 |Tuple g k p=>
  show ck X B _ _ (if g.all cq then cr (mq ev C g)else gd)
  by_cases d:g.all cq=d_
  .rw[aO d];exact FW kj (l7 h O d)
  .rw[aJ d];exact bq
 |List g p=>
  show ck X B _ _ (if g.all cq then c7 (mq ev C g)else gd)
  by_cases d:g.all cq=d_
  .rw[aO d];exact EE kj (l7 h O d)
  .rw[aJ d];exact bq
 |Subscript a i p=>
  show ck X B _ _ (match i with
   |.Slice lo M c_ _=>Jv ev C a lo M
   |i=>if so i then g2 jx (ig ev C a) (ig ev C i)else gd)
  split
  .exact Ve h O
  .skip
   by_cases u:so i=d_
   .rw[aO u];exact JR (by have:=O.units;lia) (bj h O a) (bj h O i) (Pr u)
   .rw[aJ u];exact bq
 |Dict L z p=>
  show ck X B _ _ (match L,z with
   |[],[]=>gC (.h7 e_ [])
   |[a_ (.Tuple g G A)],[v]=>Ju (ev C (.Tuple g G A)) (ev C v)
   |_,_=>gd)
  split
  .exact JT
  .exact Uk (by have:=O.units;lia) (h X C B E _ O) (h X C B E _ O)
  .exact bq
 |Attribute o m p=>
  show ck X B _ _ (if gf o then Wq T.cls m (ig ev C o)else gd)
  by_cases d:gf o=d_
  .rw[aO d];exact EJ (λc J I e=>(O.cls c J I e).2) (bj h O o) d
  .rw[aJ d];exact bq
 |ListComp N gens q p=>exact Mw (yf h s O).1 (yf (X:=X) (B:=B) (E:=E) (pos:=p) h s O).2
 |Call f j r p=>
  show ck X B _ _ (match f,r with
   |.Name x _,[]=>uy T ev C x j
   |.Attribute o m y,[]=>if y.endLine==p.line then Np ev C o m j else gd
   |_,_=>gd)
  split
  .exact j0 h O
  .rename_i o m y
   by_cases w:(y.endLine==p.line)=d_
   .rw[aO w];exact PU h O w
   .rw[aJ w];exact bq
  .exact bq
 |_=>exact bq
def Vl(h:fw T ev)(c:Aw T tv):Aw T (AQ T ev tv):=by
 intro X C B E e O;have g:∀{e:Expr},ph X B (ek (kx X) E) e (if D1 e then g1 (λd=>bD (Eh d)) (ig ev C e)else gd):=λ{e}=>by
  by_cases f:D1 e=d_
  .rw[aO f];exact Ud (bj h O e) (B4 f)
  .rw[aJ f];exact w9
 cases e with
 |UnaryOp b a p=>
  cases b with
  |Not=>exact Ye (c X C B E a O)
  |_=>exact Ud (bj h O _) (B4 _6)
 |BoolOp b j p=>
  cases b with
  |And=>exact JU (Lh λe=>c X C B E e O)
  |Or=>exact JU (Tq λe=>c X C B E e O)
 |Compare l i m p=>exact(Q5 h O).2
 |_=>exact g
end
def gP(T:GT):h_->l_->Ev
 |0,_=>λq q=>gd
 |n+1,e_=>AS T (gP T n e_) (gP T n d_)
 |n+1,d_=>AQ T (gP T n e_) (gP T n d_)
theorem Br(T:GT):∀n,fw T (gP T n e_)/\Aw T (gP T n d_)
 |0=>⟨λq q q q q q=>bq,λq q q q q q=>w9⟩
 |n+1=>⟨Vh (Br T n).1 (Br T n).2,Vl (Br T n).1 (Br T n).2⟩
noncomputable def n4(i:h_)(U:En):En:=match U[i]? with
 |some (.ow b)=>U.set i (.pu (.a8 b))
 |some (.od t a)=>U.set i (.pu (.h7 t a))
 |_=>U
def nw(is:b_ h_)(U:En):En:=is.foldl (λU i=>n4 i U) U
section
variable{K:KA}{B G0 G H:Hp}{σ:St}{U:En}
def qV.gmono{i:Hp}(e:a6 G i){s:Sl}{o:f_ V}(h:qV K B G H s o):qV K B i H s o:=by
 cases s with
 |no=>trivial
 |pu d=>obtain⟨v,c,b⟩:=h;exact⟨v,c,b.am e⟩
 |bo d=>obtain⟨v,c,b⟩:=h;exact⟨v,c,BW e b⟩
 |ow l=>obtain⟨a,f,c,b,g⟩:=h;exact⟨a,f,c,b,g.am e⟩
 |od t j=>
  cases t with
  |false=>obtain⟨a,f,c,b,g⟩:=h;exact⟨a,f,c,b,g.am e⟩
  |true=>obtain⟨a,f,c,b,g⟩:=h;exact⟨a,f,c,b,g.am e⟩
def c6.frzO{a:g_}{o:HO}(e:c6 G0 B G H)(d:B a=c_)(c:G a=c_)(h:H a=a_ o):c6 G0 B (c0 G a o) H:=by
 refine⟨e.gg.trans (bf c _),e.hh,λb u q=>?_,λb u q g z=>?_⟩
 .by_cases z:b=a
  .subst z;rw[ae]at q;rw[h];exact q
  .rw[aa z]at q;exact e.gh b u q
 .rw[aa (ak q d)];exact e.fr b u q g z
def ce.frzAtT(R:ce K B G H σ U){i:h_}{s:Sl}{a:g_}{o:HO}{d:D}(C:U[i]?=a_ s)(E:s.own=d_)(x:σ[i]?=a_ (a_ (V.ref a)))(hd:gy K (c0 G a o) d (.ref a)):
  ce K B (c0 G a o) (c0 H a o) σ (U.set i (.pu d)):=by
 obtain⟨gn,bn⟩:=R.own i s a C E x;have A:i<_7 U:=(i_.mp C).1;have n:a6 G (c0 G a o):=bf gn _;refine⟨λb u q=>?_,λb u q=>?_,by rw[bL];exact R.len,λj t q=>?_,λj t b e h p=>?_,λj k t u b e h p J N M=>?_,R.gb⟩
 .rw[aa (ak q bn)];exact R.bh b u q
 .by_cases z:b=a
  .subst z;rw[ae]at q;rw[ae];exact q
  .rw[aa z]at q;rw[aa z];exact R.gh b u q
 .by_cases z:i=j
  .subst z;rw[aQ A]at q;cases q;exact⟨_,x,_,_6,hd⟩
  .rw[aN z]at q;obtain⟨L,I,l⟩:=R.sl j t q;have r:∀b,t.own=d_->L=a_ (V.ref b)->b≠a:=λb Q eo y=>by subst y;exact z (R.rE i j _ _ b C q E Q x (by rw[I,eo]))
   refine⟨L,I,?_⟩;cases t with
   |no=>trivial
   |pu d=>obtain⟨v,c,f⟩:=l;exact⟨v,c,f.am n⟩
   |bo d=>obtain⟨v,c,f⟩:=l;exact⟨v,c,BW n f⟩
   |ow ds=>obtain⟨b,m,c,f,w⟩:=l;exact⟨b,m,c,by rw[aa (r b _6 c)];exact f,w.am n⟩
   |od t O=>
    cases t with
    |false=>obtain⟨b,m,c,f,w⟩:=l;exact⟨b,m,c,by rw[aa (r b _6 c)];exact f,w.am n⟩
    |true=>obtain⟨b,m,c,f,w⟩:=l;exact⟨b,m,c,by rw[aa (r b _6 c)];exact f,w.am n⟩
 .by_cases z:i=j
  .subst z;rw[aQ A]at e;cases e;cases h
  .rw[aN z]at e;obtain⟨g,b'⟩:=R.own j t b e h p;refine⟨?_,b'⟩;have r:b≠a:=by
    rintro rfl
    exact z (R.rE i j _ _ b C e E h x p)
   rw[aa r];exact g
 .have Y:i≠j:=by
   rintro rfl
   rw[aQ A]at e;cases e;cases p
  have T:i≠k:=by
   rintro rfl
   rw[aQ A]at h;cases h;cases J
  rw[aN Y]at e;rw[aN T]at h;exact R.rE j k t u b e h p J N M
def ce.frzAt(R:ce K B G H σ U){i:h_}{s:Sl}{a:g_}{o:HO}{d:D}(g:U[i]?=a_ s)(f:s.own=d_)(c:σ[i]?=a_ (a_ (V.ref a)))(j:H a=a_ o)(h:gy K (c0 G a o) d (.ref a)):
  ce K B (c0 G a o) H σ (U.set i (.pu d)):=by
 have e:c0 H a o=H:=funext λb=>by
  by_cases z:b=a
  .subst z;rw[ae,j]
  .exact aa z
 have:=R.frzAtT g f c h;rwa[e]at this
def ce.n4{X:Cx}{c:b_ (g_×D_)}{s:aE}(R:ce K B G H σ U)(e:c6 G0 B G H)(I:a9 X c σ H s)(i:h_):∃p n,a6 G p/\ce K B p n σ (n4 i U)/\c6 G0 B p n/\a9 X c σ n s:=by
 unfold Pu.n4;cases d:U[i]? with
 |none=>exact⟨G,H,a6.refl G,R,e,I⟩
 |some s=>
  cases s with
  |ow w=>obtain⟨a,q,g,h,f,b,j⟩:=R.owAt d;exact⟨_,H,bf b _,R.frzAt d _6 g h ⟨a,q,_6,h8.of ae,f.am (bf b _)⟩,e.frzO j b h,I⟩
  |od t u=>
   obtain⟨o,g,h⟩:=R.sl i _ d;cases t with
   |false=>obtain⟨a,m,rfl,f,l⟩:=h;obtain⟨b,j⟩:=R.own i _ a d _6 g;exact⟨_,H,bf b _,R.frzAt d _6 g f ⟨a,_6,.inl ⟨_6,m,ae,l.am (bf b _)⟩⟩,e.frzO j b f,I⟩
   |true=>obtain⟨a,m,rfl,f,l⟩:=h;obtain⟨b,j⟩:=R.own i _ a d _6 g;obtain⟨r,_,v⟩:=I.rD f;exact⟨_,_,bf b _,R.frzAtT d _6 g ⟨a,_6,.inr ⟨_6,r,m,ae,l.am (bf b _)⟩⟩,e.frzT j b,v⟩
  |no=>exact⟨G,H,a6.refl G,R,e,I⟩
  |pu _=>exact⟨G,H,a6.refl G,R,e,I⟩
  |bo _=>exact⟨G,H,a6.refl G,R,e,I⟩
theorem ce.nw{X:Cx}{a:b_ (g_×D_)}{s:aE}:∀(is:b_ h_){G H:Hp}{U:En},ce K B G H σ U->c6 G0 B G H->a9 X a σ H s->∃c b,a6 G c/\ce K B c b σ (nw is U)/\c6 G0 B c b/\a9 X a σ b s
 |[],G,H,U,R,e,I=>⟨G,H,a6.refl G,R,e,I⟩
 |i::is,G,H,U,R,e,I=>by obtain⟨q,p,f,j,h,m⟩:=R.n4 e I i;obtain⟨o,n,d,R2,g,l⟩:=ce.nw is j h m;exact⟨o,n,f.trans d,R2,g,l⟩
end
section
variable{X:Cx}{G0 B:Hp}{E:EK}{st:s_}{F:En->fq}
def JG(is:b_ h_)(h:ja X G0 B E st F):ja X G0 B E st (λU=>F (nw is U)):=λa s σ H D I ⟨G,U,R,e,q⟩=>by obtain⟨i,g,b,d,c,f⟩:=ce.nw is R e I;exact h a s σ g D f ⟨i,_,d,c,js.same b q⟩
end
section
variable{X:Cx}{G0 B:Hp}{E:EK}{scope:eL}{cl:b_ (k_×g_)}{own xs:b_ k_}{y:k_}{M:b_ k_}{ix:b_ h_}{elt iter tg:Expr}{ifs:b_ Expr}{pos pos' lpos:v_}{r:En->ey}{t g:En->bi}{i:h_}{td:D->f_ (b_ D)}{F:En->D->TR}{E':XK}
def FE(O:kO X scope cl own xs M ix)(hc:X.calm=d_)(hA:Ql X E')(Bk:rA X B E' scope cl own xs M tg td elt ifs t g)(hF:∀U,Bc td (i4 ix U) t g (F U))(hE:Wc E (ek (kx X) E') F)(hi:N3 X B E tg iter r)(hN:X.N.Nodup)(hy:X.N[i]?=a_ y)(hl:L2.N1 X.env.scope y)(hf:X.fn y=d_)
  (hs:∀x,fW iter X.env x=pure x)(γ:eR (.ListComp elt [⟨tg,iter,ifs,0⟩] scope lpos) (a_ (.Name y pos')) pos.line X.env=pure d_):
  ja X G0 B E (.Assign [.Name y pos'] (.ListComp elt [⟨tg,iter,ifs,0⟩] scope lpos) pos) (rj i (l8 r F)):=by
 intro d s σ H D I ⟨G,U,R,ex,q⟩;have q:=jv ex q;rw[exec_Assign_Name_used _ _ _ _ γ,arm_evalThenUse_ListComp];refine aA (D? ?_);refine aA (aA ?_);refine E? (use:=a_ (assign (.Name y pos') X.env)) (Q:=λZ j=>aP (aW X.prog X.w) X.A (pure nX:N! PUnit) (λZ j=>aP (aW X.prog X.w) X.A (pure Flow.next:N! Flow) (SP X d D) X.xe j) X.xe j) _6 hs (qz O.clos) O.kind O.names ?_;refine cA (hi d s σ H (λJ H1=>∃G1 l,c6 G H G1 H1/\rm (kx X) J l (λG2 H2=>c6 G1 H1 G2 H2)/\_7 l<=aG/\f' E G H (ji (F U) l) λys=>js (kx X) G0 B E G (.nx (U.set i (.ow ys))) D) I
  ⟨G,U,R,(Zo q).am λl Z ⟨hl,q⟩ J G1 H1 h ok=>⟨G1,l,h,ok,hl,q⟩⟩) (λv s1 h1=>cA h1 (λψ f h2=>?_) λZ Z e=>e) λZ Z e=>e
 obtain⟨it,fp,tn,J,H1,rfl,n,T,st,θ,G1,l,h,ok,ζ,q⟩:=h2;refine E4 (RR:=λμ C=>compPost (aW X.prog X.w) X.A X.xe (a_ (assign (.Name y pos') X.env)) (λZ j=>aP (aW X.prog X.w) X.A (pure nX:N! PUnit) (λZ j=>aP (aW X.prog X.w) X.A (pure Flow.next:N! Flow) (SP X d D) X.xe j) X.xe j) μ C) O hc hA Bk n T st θ (R.ext h) ok ζ (hF U) (λZ Z z=>z) (((q.ext h).er (hE U l)).am λys Z q=>?_);intro s3 H3 G3 vs m I3 hm hC e3 g3 h3 dl;have Y:f.1.1.size<=f.1.1.size+1:=hW _;have L:X.env.locals<f.1.1.size:=n.lt;have u:∀y c,X.env.cells.lookup y=a_ c->c<f.1.1.size:=λy c e=>by obtain⟨v',q'⟩:=n.cell y c e;exact q'.lt
 refine wpAny_assign_Name (v9 (v:=.ref f.1.1.size) I3 hN hy hl _6 (λs4 I4 ⟨a,δ,ha⟩=>?_) (.inl hf));have la:a<f.1.1.size:=by
  obtain z|z:=ha
  .rw[z];exact L
  .exact u _ _ z
 have na:f.1.1.size+1≠a:=(qj la).symm;refine⟨m,hm.sameBut δ na,λh' ε=>aD (aD ⟨σ.set i (a_ (V.ref f.1.1.size)),H3,?_,?_⟩)⟩
 .refine I4.ii (t':=s4.toks) (it:=f.1.1.size+1) (λb o hb e=>ε.extBut b o hb e) hC ?_ (.inr (cB n.sz Y)) ?_ ?_
  .exact(qj L).symm
  .intro z c ι;exact qj (u z c ι)
  .intro p hp z;exact u_ (bM (aM (n.q0 p hp).1) (cB Y (eZ z.symm))) (cQ _)
 .exact q _ G3 H3 (h.trans e3).gg (R.setO (h.trans e3) (aq h.hh (n.e6.fresh (aL _))) g3 h3 dl) (ex.trans (h.trans e3))
end
noncomputable def Av(c:En->bi)(F:En->fq):h_->En->fq
 |0,_=>.st
 |n+1,U=>(c U).then λd=>match d with
  | .bl d_ => (match F U with
   |.nx a=>Av c F n a
   |.ct a=>Av c F n a
   |.bk a=>.nx a
   |o=>o)
  |.bl e_=>.nx U
  |_=>.st
def Ie:h_:=1000000
def PK(c:En->bi)(F:En->fq):En->fq:=Av c F Ie
section
variable{X:Cx}{G0 B:Hp}{E:EK}{c:Expr}{ss:b_ s_}{g:En->bi}{F:En->fq}{pos:v_}
def Yy(r:kU (aW X.prog X.w) X.A X.env X.xe)(u:ph X B E c g)(v:sv X G0 B E ss F):ja X G0 B E (.While c ss [] pos) (PK g F):=
 PS.imp (Gz r u v) λD σ H ⟨G,U,R,e,q⟩=>by
  refine⟨λm σ H=>∃G U,ce (kx X) B G H σ U/\c6 G0 B G H/\js (kx X) G0 B E G (Av g F m U) D,⟨Ie,G,U,R,e,q⟩,λm σ H ⟨G,U,R,e,q⟩=>⟨G,U,R,?_⟩⟩;cases m with
  |zero=>exact q.elim
  |succ m=>
   refine(jv e q).am λd Z q=>?_;cases d with
   |bl b=>
    refine⟨b,_6,λp x h=>?_⟩;cases b with
    |false=>rw[aJ p_];exact q σ p x h.gg (R.ext h) (e.trans h)
    |true=>
     rw[aO _6];refine⟨λa i=>∃o,o<m+1/\∃G U,ce (kx X) B G i a U/\c6 G0 B G i/\js (kx X) G0 B E G (Av g F o U) D,λa i z=>z,p,U,R.ext h,e.trans h,?_⟩;dsimp only at q;cases ef:F U with
     |nx f=>rw[ef]at q;exact λa n i s l j=>⟨m,iM m,n,f,l,j,js.same (h.gg.trans s) q⟩
     |ct f=>rw[ef]at q;exact λa n i s l j=>⟨m,iM m,n,f,l,j,js.same (h.gg.trans s) q⟩
     |bk f=>rw[ef]at q;exact λa n i s l j=>q a n i (h.gg.trans s) l j
     |rt d=>rw[ef]at q;exact q
     |er c=>rw[ef]at q;exact q
     |st=>rw[ef]at q;exact q
   |_=>exact q.elim
end
structure SOk(X:Cx)(C:SC)(T:GT)(E:XK):Prop extends nc X C T E where
 fn:∀x,x∉qg->X.fn x=d_
 pass:kU (aW X.prog X.w) X.A X.env X.xe
 stk:X.stack=X.env::X.g8
 frm:X.env.frame=a_ X.env.locals
 ex0:X.ex=[]
def fy(C:SC)(x:k_):f_ h_:=if F0 C.sc x&&kg x&&decide (x∉qg)then Sv x C.N 0 else c_
def i6{C:SC}{x:k_}{i:h_}(h:fy C x=a_ i):C.N[i]?=a_ x/\F0 C.sc x=d_/\x∉qg:=by
 unfold fy at h
 by_cases e:(F0 C.sc x&&kg x&&decide (x∉qg))=d_
 .rw[aO e]at h;rw[aH,aH]at e;obtain⟨_,q⟩:=Dl h;exact⟨by simpa using q,e.1.1,y_ e.2⟩
 .rw[aJ e]at h;cases h
section
variable{X:Cx}{C:SC}{T:GT}{x:k_}{i:h_}{pos:v_}
def SOk.tg(O:SOk X C T E)(h:fy C x=a_ i):PG X (.Name x pos) (ij i):=by obtain⟨c,b,a⟩:=i6 h;exact xw (by rw[O.n];exact O.nd) (by rw[O.n];exact c) (by rw[O.s];exact nu b) (.inl (O.fn x a))
def SOk.st(O:SOk X C T E)(h:fy C x=a_ i){e:Expr}{b:TE}{a:v_}(d:PE X e b)(c:eR e (a_ (.Name x a)) pos.line X.env=pure e_):PS X (.Assign [.Name x a] e pos) (Ba b (ij i)):=by obtain⟨j,g,f⟩:=i6 h;exact Ku (by rw[O.n];exact O.nd) (by rw[O.n];exact j) (by rw[O.s];exact nu g) d c (.inl (O.fn x f))
end
noncomputable def Ag:b_ h_->b_ D->En->f_ En
 |[],[],U=>a_ U
 |i::is,d::a,U=>Ag is a (U.set i (.pu d))
 |_,_,_=>c_
noncomputable def ml(C:SC):b_ Expr->f_ (b_ h_)
 |[]=>a_ []
 |e::r=>match e with
  | .Name x _ => (match fy C x, ml C r with
   |some i,a_ is=>a_ (i::is)
   |_,_=>c_)
  |_=>c_
def Zw(is:b_ h_):D->En->f_ En:=λd U=>match d with
 |.ci a=>Ag is a U
 |_=>c_
theorem Ah:∀{is:b_ h_}{ds:b_ D}{U a:En},Ag is ds U=a_ a->_7 ds=_7 is
 |[],[],_,_,_=>rfl
 |[],_::_,_,_,h=>by cases h
 |_::_,[],_,_,h=>by cases h
 |i::is,d::ds,U,a,h=>by have:=Ah (is:=is) (ds:=ds) h;rw[aR,aR,this]
section
variable{X:Cx}{C:SC}{T:GT}{B:Hp}
theorem Gg(O:SOk X C T E):∀{es:b_ Expr}{is:b_ h_},ml C es=a_ is->(∃t:AA,HI X es t/\∀{G H:Hp}{σ:St}{U a:En}{b:b_ D}{f:b_ V}{Q:St->Hp->Prop},ce (kx X) B G H σ U->bt (kx X) G b f->Ag is b U=a_ a->
  (∀c,ce (kx X) B G H c a->Q c H)->t f σ H Q)/\(jH es X.env).length=_7 is/\(jH es X.env).findIdx? (·.1)=c_
 |[],is,h=>by
  cases h;refine⟨⟨_,Dy,λ{G H σ U a b f Q} R dl e q=>?_⟩,_6,_6⟩;cases b with
  |nil=>cases e;exact⟨dl,q σ R⟩
  |cons _ _=>cases e
 |e::r,is,h=>by
  unfold ml at h;cases e with
  |Name x p=>
   dsimp only at h;cases g:fy C x with
   |none=>rw[g]at h;cases h
   |some i=>
    cases l:ml C r with
    |none=>rw[g,l]at h;cases h
    |some j=>
     rw[g,l]at h;cases h;obtain⟨⟨t,u,s⟩,o,n⟩:=Gg O l;refine⟨⟨_,o6 (O.tg g) u _6,λ{G H σ U a b f Q} R dl e q=>?_⟩,?_,?_⟩
     .cases b with
      |nil=>cases e
      |cons d b=>obtain⟨v,m,rfl,w,y⟩:=dl;exact⟨v,m,_6,s (R.set w) y e q⟩
     .show(jH r X.env).length+1=_7 j+1;rw[o]
     .show List.findIdx? _ ((e_,_)::jH r X.env)=c_;rw[List.findIdx?_cons];simp[n]
  |_=>cases h
def GU(O:SOk X C T E){es:b_ Expr}{is:b_ h_}{k:h_}{p:v_}(h:ml C es=a_ is):∃gl,TgOk X B (.Tuple es k p) gl (Zw is):=by
 obtain⟨⟨t,l,j⟩,i,g⟩:=Gg (B:=B) O h;refine⟨_,Kr O.calm l i g,λ{G H σ U b d v Q} R o e q=>?_⟩;cases d with
 |ci n=>obtain⟨a,c,rfl,f,dl⟩:=o;have m:=Ah (show Ag is n U=a_ b from e);exact⟨a,c,_6,ng.of (R.gh _ _ f),by rw[<-dl.length,m],j R dl e q⟩
 |_=>cases e
end
noncomputable def Vr(C:SC)(tg:Expr):f_ (D->En->f_ En):=match tg with
 |.Name x _=>(fy C x).map Jz
 |.Tuple a _ _=>(ml C a).map Zw
 |_=>c_
set_option tactic.hygienic true in
def Y9{X:Cx}{C:SC}{T:GT}{B:Hp}(O:SOk X C T E){tg:Expr}{f:D->En->f_ En}(h:Vr C tg=a_ f):∃gl,TgOk X B tg gl f:=by
 unfold Vr at h;split at h
 .rename_i x p;cases e:fy C x with
  |none=>rw[e]at h;cases h
  |some i=>rw[e]at h;cases h;exact⟨_,Za (O.tg e)⟩
 .rename_i a k p;cases e:ml C a with
  |none=>rw[e]at h;cases h
  |some is=>rw[e]at h;cases h;exact GU O e
 .cases h
section
variable{X:Cx}{G0 B:Hp}{E:EK}{e a k:Expr}{g h:En->bi}{pos:v_}{st:s_}{F F':En->fq}
def U3(g:En->bi):En->fq:=λU=>(g U).then λq=>.nx U
def FI(i:ck X B E e g)(f:eR e c_ pos.line X.env=pure e_):ja X G0 B E (.Expr e pos) (U3 g):=PS.imp (je i f) λD σ H ⟨G,U,R,c,q⟩=>
 ⟨G,U,R,(jv c q).am λd Z q v l j b m=>q σ l j b.gg (R.ext b) (c.trans b)⟩
def AX:En->fq:=λq=>.rt .fm
def FF:ja X G0 B E (.Return c_ pos) AX:=PS.imp Yb λD σ H ⟨G,U,R,b,q⟩=>q .fm G H b _6
def Yr(c:En->l_)(j:ja X G0 B E st F)(i:ja X G0 B E st F'):ja X G0 B E st (λU=>if c U then F U else F' U):=λb s σ H D I ⟨G,U,R,f,q⟩=>by
 by_cases d:c U=d_
 .simp only[aO d]at q;exact j b s σ H D I ⟨G,U,R,f,q⟩
 .simp only[aJ d]at q;exact i b s σ H D I ⟨G,U,R,f,q⟩
def B7{o i:Expr}{p:v_}{b:T_}{n:h_}:eR a (a_ (.Subscript o i p)) n b=pure e_:=by cases a<;>rfl
end
section
variable{T:GT}{ev:Ev}{X:Cx}{C:SC}{G0 B:Hp}{E:XK}
noncomputable def K0(c:k_)(r:En->ey):En->fq:=λU=>match r U with
 |.ok _=>.er c
 |.er a=>.er a
 |.st=>.st
def Yu{x:k_}{p b f:v_}{e:Expr}{es:b_ Expr}(h:fw T ev)(O:nc X C T E)(s:T.xs.rL x=d_)(v:vw C x=d_)(m:(e::es).all cq=d_)(u:(e::es).length<=1000):
  ja X G0 B (ek (kx X) E) (.Raise (a_ (.Call (.Name x p) (e::es) [] b)) c_ f) (K0 x (mq ev C (e::es))):=by
 obtain⟨L,J,r,n,g,y⟩:=O.rL x s;obtain⟨g1,g2⟩:=O.gl v;have a:=m;rw[bO,aH]at a;refine PS.imp (Ub O.calm g1 n g y O.goes (l7 (B:=B) h O m) g2 (ag a.1) (i8 a.2)) λD σ H ⟨G,U,R,o,q⟩=>⟨G,U,R,?_⟩;unfold K0 at q;cases er:mq ev C (e::es) U with
 |ok I=>
  rw[er]at q;intro A j d i w;refine⟨?_,?_⟩
  .have:=w.length.2;rw[bB]at this;rw[this];exact cB u (by decide)
  .have z:=q j d (o.trans i);have l:E (.ref (mz X.mg x)) c_ d:=z;rw[ai n]at l;exact l
 |er c=>rw[er]at q;exact λj d i=>q j d (o.trans i)
 |st=>rw[er]at q;exact q
def ce.setNo{K:KA}{G H:Hp}{σ:St}{U:En}{i:h_}(R:ce K B G H σ U):ce K B G H (σ.set i c_) (U.set i .no) where
 bh:=R.bh
 gb:=R.gb
 gh:=R.gh
 len:=by rw[bL,bL];exact R.len
 sl:=λj s q=>by
  by_cases z:i=j
  .subst z;have d:i<_7 U:=by have:=(i_.mp q).1;rwa[bL]at this
   rw[aQ d]at q;cases q;exact⟨c_,aQ (by rw[R.len];exact d),trivial⟩
  .rw[aN z]at q⊢;exact R.sl j s q
 own:=λj s a b c e=>by
  by_cases z:i=j
  .subst z;have d:i<_7 U:=by have:=(i_.mp b).1;rwa[bL]at this
   rw[aQ d]at b;cases b;cases c
  .rw[aN z]at b e;exact R.own j s a b c e
 rE:=λj k s t a b c e n l h=>by
  have f:∀(m:h_)(u:Sl),(U.set i .no)[m]?=a_ u->u.own=d_->i≠m:=λm u g o z=>by
   subst z;have d:i<_7 U:=by have:=(i_.mp g).1;rwa[bL]at this
   rw[aQ d]at g;cases g;cases o
  have r:=f j s b e;have p:=f k t c n;rw[aN r]at b l;rw[aN p]at c h;exact R.rE j k s t a b c e n l h
noncomputable def FK(f:b_ D->bi)(r:En->ey)(k:k_->En->fq):En->fq:=λU=>match r U with
 | .ok a => (match f a with
  |.ok _=>.nx U
  |.er c=>k c U
  |.st=>.st)
 |_=>.st
noncomputable def pv{α:Type}:b_ α->f_ α
 |[a]=>a_ a
 |_=>c_
def sj{α:Type}{l:b_ α}{a:α}(h:pv l=a_ a):l=[a]:=by
 match l,h with
 |[b],h=>cases h;rfl
noncomputable def Ey:Expr->f_ (Expr×b_ Expr×b_ fP×v_)
 |.Call f a k p=>a_ (f,a,k,p)
 |_=>c_
def s9{e f:Expr}{a:b_ Expr}{k:b_ fP}{p:v_}(h:Ey e=a_ (f,a,k,p)):e=.Call f a k p:=by cases e<;>first|(cases h;rfl)|cases h
noncomputable def mr:Expr->f_ (k_×v_)
 |.Name x p=>a_ (x,p)
 |_=>c_
def f6{e:Expr}{x:k_}{p:v_}(h:mr e=a_ (x,p)):e=.Name x p:=by cases e<;>first|(cases h;rfl)|cases h
noncomputable def Uy:s_->f_ (f_ Expr×f_ Expr×v_)
 |.Raise e c p=>a_ (e,c,p)
 |_=>c_
def P4{st:s_}{e c:f_ Expr}{p:v_}(h:Uy st=a_ (e,c,p)):st=.Raise e c p:=by cases st<;>first|(cases h;rfl)|cases h
noncomputable def D6(st:s_):f_ (k_×Expr×b_ Expr):=(Uy st).bind λq=>q.1.bind λw=>(Ey w).bind λc=>(mr c.1).bind λx=>match c.2.1,c.2.2.1,q.2.1 with
 |e::a,[],c_=>a_ (x.1,e,a)
 |_,_,_=>c_
def P3{st:s_}{x:k_}{e:Expr}{es:b_ Expr}(h:D6 st=a_ (x,e,es)):∃i a c,st=.Raise (a_ (.Call (.Name x i) (e::es) [] a)) c_ c:=by
 unfold D6 at h;simp only[bC]at h;obtain⟨⟨p,o,n⟩,j,w,g,⟨c1,s,r,q⟩,f,⟨m,l⟩,d,b⟩:=h;dsimp only at g f d b;split at b
 .cases b;exact⟨_,_,_,by rw[P4 j,g,s9 f,f6 d]⟩
 .cases b
noncomputable def v8(T:GT)(ev:Ev)(C:SC)(st:s_):En->fq:=match D6 st with
 |some (x,e,a)=>if T.xs.rL x&&vw C x&&(e::a).all cq&&decide ((e::a).length<=1000)then K0 x (mq ev C (e::a))else pb
 |none=>pb
def Uz(h:fw T ev)(O:nc X C T E){st:s_}:ja X G0 B (ek (kx X) E) st (v8 T ev C st):=by
 unfold v8;cases f:D6 st with
 |none=>exact jr
 |some t=>
  obtain⟨x,e,b⟩:=t;obtain⟨g,c,d,rfl⟩:=P3 f;dsimp only
  by_cases a:(T.xs.rL x&&vw C x&&(e::b).all cq&&decide ((e::b).length<=1000))=d_
  .rw[aO a];simp only[aH]at a;exact Yu h O a.1.1.1 a.1.1.2 a.1.2 (y_ a.2)
  .rw[aJ a];exact jr
noncomputable def KL:s_->f_ (b_ s_×b_ N?×b_ s_×b_ s_×v_)
 |.Try b h o f p=>a_ (b,h,o,f,p)
 |_=>c_
def Zd{st:s_}{b:b_ s_}{h:b_ N?}{o f:b_ s_}{p:v_}(e:KL st=a_ (b,h,o,f,p)):st=.Try b h o f p:=by cases st<;>first|(cases e;rfl)|cases e
noncomputable def Zs:s_->f_ (Expr×v_)
 |.Expr e p=>a_ (e,p)
 |_=>c_
def Rm{st:s_}{e:Expr}{p:v_}(h:Zs st=a_ (e,p)):st=.Expr e p:=by cases st<;>first|(cases h;rfl)|cases h
noncomputable def HF:s_->f_ (b_ Expr×Expr×v_)
 |.Assign t v p=>a_ (t,v,p)
 |_=>c_
def We{st:s_}{t:b_ Expr}{v:Expr}{p:v_}(h:HF st=a_ (t,v,p)):st=.Assign t v p:=by cases st<;>first|(cases h;rfl)|cases h
noncomputable def IZ:Expr->f_ (Expr×jZ×Expr×v_)
 |.BinOp l o r p=>a_ (l,o,r,p)
 |_=>c_
def Wi{e l r:Expr}{o:jZ}{p:v_}(h:IZ e=a_ (l,o,r,p)):e=.BinOp l o r p:=by cases e<;>first|(cases h;rfl)|cases h
def Zy:jZ->l_
 |.Add=>d_
 |_=>e_
def Sk{o:jZ}(h:Zy o=d_):o=.Add:=by cases o<;>first|rfl|cases h
noncomputable def Q7:Expr->f_ (Const×h_×v_)
 |.Constant c k p=>a_ (c,k,p)
 |_=>c_
def Ob{e:Expr}{c:Const}{k:h_}{p:v_}(h:Q7 e=a_ (c,k,p)):e=.Constant c k p:=by cases e<;>first|(cases h;rfl)|cases h
noncomputable def IM:Const->f_ n_
 |.int i=>a_ i
 |_=>c_
def Wy{c:Const}{i:n_}(h:IM c=a_ i):c=.int i:=by cases c<;>first|(cases h;rfl)|cases h
def Qu(st:s_):f_ (k_×v_×Expr×b_ Expr×v_×v_):=(Zs st).bind λq=>(Ey q.1).bind λc=>(mr c.1).bind λx=>match c.2.1,c.2.2.1 with
 |e::a,[]=>a_ (x.1,x.2,e,a,c.2.2.2,q.2)
 |_,_=>c_
def Qv{st:s_}{x:k_}{b g f:v_}{e:Expr}{es:b_ Expr}(h:Qu st=a_ (x,b,e,es,g,f)):st=.Expr (.Call (.Name x b) (e::es) [] g) f:=by
 unfold Qu at h;simp only[bC]at h;obtain⟨⟨n,m⟩,i,⟨c1,q,p,o⟩,d,⟨l,j⟩,c,a⟩:=h;dsimp only at d c a;split at a
 .cases a;rw[Rm i,s9 d,f6 c]
 .cases a
noncomputable def Md:N?->f_ Expr×f_ k_×b_ s_×v_
 |.ExceptHandler t n b p=>(t,n,b,p)
def JL:s_->f_ (f_ Expr×v_)
 |.Return o p=>a_ (o,p)
 |_=>c_
def Yp{st:s_}{o:f_ Expr}{p:v_}(h:JL st=a_ (o,p)):st=.Return o p:=by cases st<;>first|(cases h;rfl)|cases h
end
inductive SdG{κ:Type}[P_ κ](mk:b_ (κ×V)->HO)(nz:Hp->κ->V->Prop)(x:V)(xs:b_ V)(H:Hp)(Q:VK):Prop
 |mk (a y l es k) (_:x=.ref a) (_:xs=[y,.ref l]) (_:H a=a_ (mk es)) (_:nz H k y) (_:_7 es<aG) (_:(∀v,c8 es k=a_ v->Q v H)) (_:(c8 es k=c_->Q (.ref l) (c0 H a (mk (cv es k (.ref l)))))):SdG mk nz x xs H Q
structure KKd(X:Cx)(κ:Type)[P_ κ] where
 t:l_
 cn:κ->D
 of:D->f_ κ
 mkH:b_ (κ×V)->HO
 nz:Hp->κ->V->Prop
 DenX:Hp->b_ (D×D)->b_ (κ×V)->Prop
 of_cn:∀j,of (cn j)=a_ j
 nf:∀es,PR (mkH es)=d_
 neL:∀es vs,mkH es≠.a8 vs
 ty:∀{H:Hp}{a:g_}{es:b_ (κ×V)},H a=a_ (mkH es)->LA X.K "dict" (.ref a) H
 key:∀{G H:Hp}{d:D}{y:V}{j:κ},of d=a_ j->gy (kx X) G d y->a6 G H->nz H j y
 am:∀{H H':Hp}{j:κ}{y:V},nz H j y->a6 H H'->nz H' j y
 sd:X.A.units+5<cP->AB X "dict.setdefault" (SdG mkH nz)
 dmono:∀{G G':Hp}{kvs:b_ (D×D)}{es:b_ (κ×V)},a6 G G'->DenX G kvs es->DenX G' kvs es
 st0:∀{B G H:Hp}{o:f_ V},qV (kx X) B G H (.od t []) o->∃a,o=a_ (.ref a)/\H a=a_ (mkH [])
 nil:∀G,DenX G [] []
 cons:∀{G:Hp}{j:κ}{d:D}{v:V}{kvs:b_ (D×D)}{es:b_ (κ×V)},gy (kx X) G d v->DenX G kvs es->DenX G ((cn j,d)::kvs) ((j,v)::es)
 fin:∀{au:b_ (g_×D_)}{σ:St}{H:Hp}{s:aE}{a:g_}{es:b_ (κ×V)},a9 X au σ H s->H a=a_ (mkH es)->∃o,a9 X au σ (c0 H a o) s/\∀(G:Hp)(kvs:b_ (D×D)),G a=a_ o->DenX G kvs es->gy (kx X) G (.h7 t kvs) (.ref a)
def SO(X:Cx):KKd X ah where
 t:=d_
 cn:=kT
 of:=ar
 mkH:=.dT
 nz:=λH k y=>∃b,y=.ref b/\p0 H k b
 DenX:=λG i c=>fu (kx X) G i c
 of_cn:=k6
 nf:=λZ=>rfl
 neL:=λZ Z z=>nomatch z
 ty:=λ{H a c} h=>.inr (.inr (.inl ⟨_6,.inr ⟨c,h⟩⟩))
 key:=λe dn s=>Arg.keys s (.inl dn) e
 am:=λ⟨b,e,q⟩ s=>⟨b,e,q.am λZ Z z=>s _ _ z⟩
 sd:=λU f s σ H x xs v J Q I M N q=>by
  obtain⟨a,y,l,c,k,rfl,rfl,n,⟨b,rfl,hb⟩,Y,T,O⟩:=q;cases M;obtain⟨u1,r1,rfl,E,C⟩:∃u r,J=u::r/\eu (.ref b) u/\dg [.ref l] r:=by
   cases N with
   |cons h t=>exact⟨_,_,_6,h,t⟩
  obtain⟨u2,rfl,B⟩:=ik C;cases E;cases B;exact Bi U I n hb Y (v:=.ref l) _6 (λA w L p m j=>⟨A,H,j,m,T A p⟩) λL p j=>⟨.ref l,_,j,_6,O p⟩
 dmono:=λs d=>d.am s
 st0:=λ⟨a,c,e,h,d⟩=>⟨a,e,by rw[h,show c=[]from d]⟩
 nil:=λZ=>rfl
 cons:=λdv h=>⟨_,_,_,_6,_6,dv,h⟩
 fin:=λ{f σ H s a c} I n=>by obtain⟨o,_,j⟩:=I.rD n;exact⟨_,j,λG i g d=>⟨a,_6,.inr ⟨_6,o,c,g,d⟩⟩⟩
def Eo(X:Cx):KKd X cj where
 t:=e_
 cn:=kD
 of:=cf
 mkH:=.dK
 nz:=λH k y=>y=kV k
 DenX:=λG i c=>f8 (kx X) G i c
 of_cn:=g9
 nf:=λZ=>rfl
 neL:=λZ Z z=>nomatch z
 ty:=λ{H a c} h=>.inr (.inr (.inl ⟨_6,.inl ⟨c,h⟩⟩))
 key:=λ{G H d y j} e dn s=>i0 (H:=H) (.inl dn) e
 am:=λe Z=>e
 sd:=λhu f s σ H x xs v J Q I M N q=>by
  obtain⟨a,y,l,c,k,rfl,rfl,n,rfl,U,T,O⟩:=q;cases M;obtain⟨u1,r1,rfl,E,C⟩:∃u r,J=u::r/\eu (kV k) u/\dg [.ref l] r:=by
   cases N with
   |cons h t=>exact⟨_,_,_6,h,t⟩
  obtain⟨u2,rfl,B⟩:=ik C;cases B;exact Ff I n U E (v:=.ref l) _6 (λA w L o m p=>⟨A,H,p,m,T A o⟩) λL o p=>⟨.ref l,_,p,_6,O o⟩
 dmono:=λs d=>d.am s
 st0:=λ⟨a,c,e,h,d⟩=>⟨a,e,by rw[h,show c=[]from d]⟩
 nil:=λZ=>rfl
 cons:=λY h=>⟨_,_,_,_6,_6,Y,h⟩
 fin:=λ{f σ H s a c} I n=>by
  refine⟨.dK c,?_,λG i g d=>⟨a,_6,.inl ⟨_6,c,g,d⟩⟩⟩;have:c0 H a (.dK c)=H:=by
   funext b
   unfold c0
   by_cases e:b=a
   .rw[aO e,e];exact n.symm
   .rw[aJ e]
  rw[this];exact I
section
variable{κ:Type}[P_ κ]
noncomputable def O3(of:D->f_ κ)(b:κ->D)(j:κ)(v:D):b_ (D×b_ D)->b_ (D×b_ D)
 |[]=>[(b j,[v])]
 |(k,a)::r=>if of k=a_ j then(k,a++[v])::r else(k,a)::O3 of b j v r
inductive qe(cn:κ->D)(K:KA)(G B H:Hp):b_ (κ×V)->b_ g_->b_ (D×b_ D)->Prop
 |nil:qe cn K G B H [] [] []
 |cons {j b vs ds es bs gs}:H b=a_ (.a8 vs)->bt K G ds vs->G b=c_->B b=c_->qe cn K G B H es bs gs->qe cn K G B H ((j,.ref b)::es) (b::bs) ((cn j,ds)::gs)
section
variable{of:D->f_ κ}{cn:κ->D}{K:KA}{G B H G' H':Hp}{gs:b_ (D×b_ D)}{es:b_ (κ×V)}{bs:b_ g_}{j:κ}{v z:V}{dv:D}{l:g_}
def qe.ext(h:qe cn K G B H es bs gs)(e:c6 G H G' H'):qe cn K G' B H' es bs gs:=by
 induction h with
 |nil=>exact .nil
 |cons a f d c _ b=>exact .cons (e.hh _ _ a) (f.am e.gg) (e.fr _ _ a d _6) c b
def qe.keep(h:qe cn K G B H es bs gs)(k:∀b∈bs,H' b=H b):qe cn K G B H' es bs gs:=by
 induction h with
 |nil=>exact .nil
 |cons i g f e _ a=>exact .cons ((k _ bI).trans i) g f e (a λc d=>k c (bJ _ d))
def qe.nk(h:qe cn K G B H es bs gs):∀b∈bs,(∃d,H b=a_ (.a8 d))/\G b=c_/\B b=c_:=by
 induction h with
 |nil=>exact λb f=>nomatch f
 |cons m n i g _ e=>
  intro c a;rcases o_.mp a with rfl|a
  .exact⟨⟨_,m⟩,i,g⟩
  .exact e c a
def qe.len(h:qe cn K G B H es bs gs):_7 gs=_7 es:=by
 induction h with
 |nil=>rfl
 |cons _ _ _ _ _ a=>rw[aR,aR,a]
def qe.at(C:∀j,of (cn j)=a_ j)(h:qe cn K G B H es bs gs):bs.Nodup->c8 es j=a_ v->∃b a,v=.ref b/\b∈bs/\H b=a_ (.a8 a)/\_7 a<=(gs.map λp=>p.2.length).sum/\
  ∀{G' H' dv z},qe cn K G' B H' es bs gs->H' b=a_ (.a8 a)->gy K G' dv z->qe cn K G' B (c0 H' b (.a8 (a++[z]))) es bs (O3 of cn j dv gs):=by
 induction h with
 |nil=>intro _ e;rw[pf]at e;cases e
 |@cons i b a T er U gs N M Q O _ J=>
  intro E e;obtain⟨d,u⟩:=G_.mp E;rw[bK,List.sum_cons];unfold O3;rw[C]
  by_cases w:i=j
  .subst w;rw[gj _6]at e;cases e;refine⟨b,a,_6,bI,N,by rw[<-M.length];exact gS _ _,λg x y=>?_⟩;rw[aO _6];cases g with
   |cons f s r o n=>rw[x]at f;cases f;exact .cons ae (s.append (bt.pv y)) r o (n.keep λc m=>aa (by rintro rfl;exact d m))
  .rw[fg w]at e;obtain⟨c,A,rfl,m,L,I,q⟩:=J u e;refine⟨c,A,_6,bJ _ m,L,cB I (pU _ _),λg x y=>?_⟩;rw[aJ λz=>w (aZ z)];cases g with
   |cons f s r o n=>exact .cons (by rw[aa (by rintro rfl;exact d m)];exact f) s r o (q n x y)
def qe.put(c:∀j,of (cn j)=a_ j)(h:qe cn K G B H es bs gs)(e:c8 es j=c_)(f:H l=a_ (.a8 [z]))(gl:G l=c_)(bl:B l=c_)(p:gy K G dv z):qe cn K G B H (es++[(j,.ref l)]) (bs++[l]) (O3 of cn j dv gs):=by
 induction h with
 |nil=>exact .cons f (bt.pv p) gl bl .nil
 |@cons i b q r er s gs o n m g _ d=>
  by_cases a:i=j
  .rw[gj a]at e;cases e
  .rw[fg a]at e;unfold O3;rw[c,aJ λz=>a (aZ z)];exact .cons o n m g (d e)
end
def Aa{es:b_ (κ×V)}{j:κ}{v:V}(h:c8 es j=c_):cv es j v=es++[(j,v)]:=by unfold cv;rw[u5,h];rfl
end
def ce.chg{K:KA}{B G H:Hp}{σ:St}{U:En}{c:g_}(R:ce K B G H σ U)(r:G c=c_)(w:B c=c_)(no:∀(j:h_) s,U[j]?=a_ s->s.own=d_->σ[j]?≠a_ (a_ (V.ref c)))(o:HO):ce K B G (c0 H c o) σ U:=by
 refine⟨λb u q=>by rw[aa (ak q w)];exact R.bh b u q,λb u q=>by rw[aa (ak q r)];exact R.gh b u q,R.len,λj t q=>?_,R.own,R.rE,R.gb⟩;obtain⟨m,l,e⟩:=R.sl j t q;have i:∀b,t.own=d_->m=a_ (V.ref b)->b≠c:=λb p v y=>by subst y;exact no j t q p (by rw[l,v])
 refine⟨m,l,?_⟩;cases t with
 |no=>trivial
 |pu d=>exact e
 |bo d=>exact e
 |ow x=>obtain⟨b,f,a,h,g⟩:=e;exact⟨b,f,a,by rw[aa (i b _6 a)];exact h,g⟩
 |od t n=>
  cases t with
  |false=>obtain⟨b,f,a,h,g⟩:=e;exact⟨b,f,a,by rw[aa (i b _6 a)];exact h,g⟩
  |true=>obtain⟨b,f,a,h,g⟩:=e;exact⟨b,f,a,by rw[aa (i b _6 a)];exact h,g⟩
def ce.drop{K:KA}{B G H:Hp}{σ:St}{U:En}(R:ce K B G H σ U)(i:h_):ce K B G H σ (U.set i .no):=by
 have b:∀{j:h_}{s:Sl},(U.set i .no)[j]?=a_ s->s.own=d_->i≠j/\U[j]?=a_ s:=λ{j s} q m=>by
  by_cases z:i=j
  .subst z;have e:i<_7 U:=by have:=(i_.mp q).1;rwa[bL]at this
   rw[aQ e]at q;cases q;cases m
  .rw[aN z]at q;exact⟨z,q⟩
 refine⟨R.bh,R.gh,by rw[bL];exact R.len,λj s q=>?_,λj s a f d c=>R.own j s a (b f d).2 d c,λj k s t a f d c g l h=>R.rE j k s t a (b f c).2 (b d g).2 c g l h,R.gb⟩
 by_cases z:i=j
 .subst z;have e:i<_7 U:=by have:=(i_.mp q).1;rwa[bL]at this
  rw[aQ e]at q;cases q;exact⟨σ[i]'(by rw[R.len];exact e),bF _,trivial⟩
 .rw[aN z]at q;exact R.sl j s q
def ks(σ:St)(U:En)(c:g_):Prop:=∀(j:h_) s,U[j]?=a_ s->s.own=d_->σ[j]?≠a_ (a_ (V.ref c))
def ce.give{K:KA}{B G H:Hp}{σ:St}{U:En}{c:g_}{o:HO}(R:ce K B G H σ U)(n:G c=c_)(m:H c=a_ o)(no:ks σ U c):ce K B (c0 G c o) H σ U:=by
 have i:a6 G (c0 G c o):=bf n _;refine⟨R.bh,λb u q=>?_,R.len,λj t q=>?_,λj s b e d a=>?_,R.rE,R.gb⟩
 .by_cases z:b=c
  .subst z;rw[ae]at q;rw[m];exact q
  .rw[aa z]at q;exact R.gh b u q
 .obtain⟨l,h,f⟩:=R.sl j t q;exact⟨l,h,f.gmono i⟩
 .obtain⟨g,p⟩:=R.own j s b e d a;refine⟨?_,p⟩;have:b≠c:=by rintro rfl;exact no j s e d a
  rw[aa this];exact g
def qe.give{X:Cx}{κ:Type}[P_ κ](d:KKd X κ){s B H G:Hp}{σ:St}{U:En}{gs:b_ (D×b_ D)}{es:b_ (κ×V)}{bs:b_ g_}(h:qe d.cn (kx X) G B H es bs gs)(u:bs.Nodup)(R:ce (kx X) B G H σ U)(e:c6 s B G H)(no:∀c∈bs,ks σ U c):
  ∃a,a6 G a/\ce (kx X) B a H σ U/\c6 s B a H/\d.DenX a (gs.map λp=>(p.1,.a8 p.2)) es/\∀c,c∉bs->a c=G c:=by
 induction h with
 |nil=>exact⟨G,a6.refl G,R,e,d.nil G,λZ Z=>rfl⟩
 |@cons j b g I er J gs r y x w _ v=>obtain⟨m,l⟩:=G_.mp u;obtain⟨a,o,E,A,C,q⟩:=v l λc f=>no c (bJ _ f);have n:a b=c_:=(q b m).trans x;have i:a6 a (c0 a b (.a8 g)):=bf n _;refine⟨c0 a b (.a8 g),o.trans i,E.give n r (no b bI),A.frzO w n r,d.cons ⟨b,g,_6,h8.of ae,y.am (o.trans i)⟩ (d.dmono i C),λc f=>?_⟩;rw[aa (by rintro rfl;exact f bI)];exact q c λz=>f (bJ _ z)
noncomputable def GH{κ:Type}[P_ κ](of:D->f_ κ)(e:κ->D)(a:h_)(c b:En->bi):b_ D->En->b_ (D×b_ D)->f_ (En×b_ (D×b_ D))
 |[],U,gs=>a_ (U,gs)
 |d::f,U,gs=>match c (U.set a (.pu d)),b (U.set a (.pu d))with
  | .ok k, .ok v => (match of k with
   |some j=>if _7 gs<aG/\(gs.map λp=>p.2.length).sum<aG then GH of e a c b f (U.set a (.pu d)) (O3 of e j v gs)else c_
   |none=>c_)
  |_,_=>c_
def Ni{κ:Type}[P_ κ](t:l_)(of:D->f_ κ)(h:κ->D)(f a:h_)(r:En->ey)(e d:En->bi):En->fq:=λU=>match U[f]? with
 | a_ (.od b []) => if b = t /\ a ≠ f then (match r (U.set f .no) with
  | .ok g => (match GH of h a e d g (U.set f .no) [] with
   |some p=>.nx (p.1.set f (.pu (.h7 t (p.2.map λq=>(q.1,.a8 q.2)))))
   |none=>.st)
  |.er c=>.er c
  |.st=>.st)else .st
 |_=>.st
section
variable{X:Cx}{κ:Type}[P_ κ]{G0 B:Hp}{E:EK}{iter ke ve:Expr}{x y:k_}{py p ap cp lp ap2 cp2 ep pos:v_}{f jt:h_}{r:En->ey}{gk gv:En->bi}
def L6{a b:Expr}{d:T_}{c:v_}(g:cq a=d_)(e:cq b=d_):((dW c (aU [a,b] d)).all (λx=> !x.1)&&(lG c (iA [] d)).all (λx=>x.1.isSome)
  &&decide (([a,b]:b_ Expr).length+([]:b_ fP).length+(if([]:b_ fP).isEmpty then 0 else 1)<30))=d_:=by
 rw[gi (by rw[bO,bO,g,e];rfl)];rfl
def Lz{a:Expr}{c:T_}{b:v_}(d:cq a=d_):((dW b (aU [a] c)).all (λx=> !x.1)&&(lG b (iA [] c)).all (λx=>x.1.isSome)
  &&decide (([a]:b_ Expr).length+([]:b_ fP).length+(if([]:b_ fP).isEmpty then 0 else 1)<30))=d_:=by
 rw[gi (by rw[bO,d];rfl)];rfl
def Vc{σ:St}{f:h_}{o:f_ V}(h:σ[f]?=a_ o):σ.set f o=σ:=by
 refine oI λi=>?_
 by_cases e:f=i
 .subst e;rw[aQ (i_.mp h).1,h]
 .rw[aN e]
inductive GrS(kk:KKd X κ)(G0 B G1:Hp)(f:h_)(a:g_)(δ2:En)(gs:b_ (D×b_ D))(σ':St)(H':Hp):Prop
 |mk {G2 es bs} (_:a6 G1 G2) (_:ce (kx X) B G2 H' σ' δ2) (_:c6 G0 B G2 H') (_:σ'[f]?=a_ (a_ (V.ref a))) (_:H' a=a_ (kk.mkH es)) (_:G2 a=c_) (_:qe kk.cn (kx X) G2 B H' es bs gs) (_:bs.Nodup) (_:ks σ' δ2 a) (_:∀c∈bs,ks σ' δ2 c):GrS kk G0 B G1 f a δ2 gs σ' H'
set_option tactic.hygienic true in
def AW(d:KKd X κ)(hp:kU (aW X.prog X.w) X.A X.env X.xe)(Q:X.calm=d_)(hu:X.A.units+5<cP)(hi:N2 X B E (.Name y py) iter r)(hg:PG X (.Name y py) (ij jt))(hv:PE X (.Name x p) (fh f))
  (hk:ck X B E ke gk)(hval:ck X B E ve gv)(n1:cq ke=d_)(n2:cq ve=d_)(l1:(ap.endLine==cp.line)=d_)(l2:(ap2.endLine==cp2.line)=d_)(hs:∀x,fW iter X.env x=pure x):
  ja X G0 B E (.For (.Name y py) iter [.Expr (.Call (.Attribute (.Call (.Attribute (.Name x p) "setdefault" ap) [ke,.List [] lp] [] cp) "append" ap2) [ve] [] cp2) ep] [] pos) (Ni d.t d.of d.cn f jt r gk gv):=by
 intro τ s σ H D I ⟨G,U,R,ex,q⟩;unfold Ni at q;split at q
 case h_2=>exact q.elim
 rename_i t' ed;split at q
 case isFalse=>exact q.elim
 rename_i hc2;obtain⟨rfl,njf⟩:=hc2;obtain⟨o,q1,q2⟩:=R.sl f _ ed;obtain⟨a,rfl,ha⟩:=d.st0 q2;obtain⟨ga,ba⟩:=R.own f _ a ed _6 q1;have R0:=R.drop f;generalize hδ:U.set f .no=T at q R0;have no0:ks σ T a:=λj s' n e2 e3=>by
  rw[<-hδ]at n
  by_cases z:f=j
  .subst z;have hl:f<_7 U:=(i_.mp ed).1;rw[aQ hl]at n;cases n;cases e2
  .rw[aN z]at n;exact z (R.rE f j _ _ a ed n _6 e2 q1 e3)
 have ψ:PE X (.Call (.Attribute (.Name x p) "setdefault" ap) [ke,.List [] lp] [] cp) (AO X.K "dict" (SdG d.mkH d.nz) (fh f) (lh (tPu (kx X) B E gk) (lh (Vo u3) u3))):=
  oz cZ dO gE (d.sd hu) hv (cg hk (cg (Dx f7) f7 _6) (ag n1)) _6 (L6 n1 _6) l1 (ag n1) _6
 have body:qR X [.Expr (.Call (.Attribute (.Call (.Attribute (.Name x p) "setdefault" ap) [ke,.List [] lp] [] cp) "append" ap2) [ve] [] cp2) ep] _:=
  mf (je (oz dF kB kC qi ψ (cg hval f7 (ag n2)) _6 (Lz n2) l2 (ag n2) _6) _6)
 have υ:=D2 (pos:=pos) hp Q hi hg body hs;cases er:r T with
 |st=>rw[er]at q;exact q.elim
 |er c=>
  rw[er]at q;exact c9 (υ τ s σ H {nx:=λ_ _=>L_,rt:=λ_ _=>L_} I ⟨G,T,R0,by rw[er];exact λG' H' e=>q G' H' (ex.trans e)⟩) λfl s' z=>by
   cases fl with
   |next=>obtain⟨_,_,_,z⟩:=z;exact z.elim
   |ret u=>obtain⟨_,_,_,_,_,z⟩:=z;exact z.elim
   |brk=>obtain⟨_,_,_,z⟩:=z;exact cS z
   |cont=>obtain⟨_,_,_,z⟩:=z;exact cS z
 |ok ds=>
  rw[er]at q;dsimp only at q;cases eg:GH d.of d.cn jt gk gv ds T []with
  |none=>rw[eg]at q;exact q.elim
  |some pr=>
   obtain⟨χ,ge⟩:=pr;rw[eg]at q;dsimp only at q;refine c9 (υ τ s σ H {nx:=GrS d G0 B G f a χ ge,rt:=λ_ _=>L_} I ⟨G,T,R0,?_⟩) λfl s' z=>?_
   .rw[er];intro J G1 H1 n ok;refine⟨λi m M H'=>m=_7 ds-i/\i<=_7 ds/\∃C gs,GrS d G0 B G1 f a C gs M H'/\GH d.of d.cn jt gk gv (ds.drop i) C gs=a_ (χ,ge),
     ⟨ds.length,by simp,cM _,T,[],⟨a6.refl G1,R0.ext n,ex.trans n,q1,n.hh _ _ ha,n.fr _ _ ha ga (d.nf _),.nil,nR,no0,λc Q=>nomatch Q⟩,by rw[List.drop_zero];exact eg⟩,?_⟩
    rintro i m θ H2 ⟨rfl,hi2,C,gs,@⟨G2,es,bs,s2,R2,x2,f2,a2,g2,γ,Y,O,α⟩,g⟩
    obtain⟨okg,oks⟩:=ok i G2 H2 ⟨s2,R2.bh⟩ R2.gh
    by_cases hl:i<_7 ds
    case neg=>
     have z:i=_7 ds:=by lia
     subst z;rw[jV]at g;cases g;exact .inl ⟨oks (aL _),n.gg.trans s2,R2,x2,f2,a2,g2,γ,Y,O,α⟩
    obtain⟨go,yl⟩:=okg ds[i] (by simp[hl]);rw[cU hl]at g;refine .inr ⟨go,λM H'=>i+1<=_7 ds/\∃C gs,GrS d G0 B G1 f a C gs M H'/\GH d.of d.cn jt gk gv (ds.drop (i+1)) C gs=a_ (χ,ge),
     λM H' ⟨n1,n2⟩=>⟨_7 ds-(i+1),by lia,_6,n1,n2⟩,λv H3 yy=>?_⟩
    obtain⟨G3,e3,dn⟩:=yl v H3 yy;have R3:=(R2.ext e3).set (i:=jt) dn;unfold GH at g;split at g
    case h_2=>cases g
    rename_i dk dv ek Δ;split at g
    case h_2=>cases g
    rename_i j ej;split at g
    case isFalse=>cases g
    rename_i hsz;generalize hδ3:C.set jt (.pu ds[i])=N at R3 g ek Δ;have h:∀c,ks θ C c->ks (θ.set jt (a_ v)) N c:=λc Q j' s' n e2 e3=>by
     rw[<-hδ3]at n
     by_cases z:jt=j'
     .subst z;have hl:jt<_7 C:=by have:=(i_.mp n).1;rwa[bL]at this
      rw[aQ hl]at n;cases n;cases e2
     .rw[aN z]at n e3;exact Q j' s' n e2 e3
    have f3:(θ.set jt (a_ v))[f]?=a_ (a_ (V.ref a)):=by rw[aN njf];exact f2
    have a3:=e3.hh _ _ a2;have g3:=e3.fr _ _ a2 g2 (d.nf _);have gr3:=γ.ext e3;show AO X.K "list" rAppend (AO X.K "dict" (SdG d.mkH d.nz) (fh f) (lh (tPu (kx X) B E gk) (lh (Vo u3) u3))) (lh (tPu (kx X) B E gv) u3) (θ.set jt (a_ v)) H3 _;refine⟨.ref a,f3,d.ty a3,G3,N,R3,?_⟩;rw[ek];intro yv G4 H4 e4 dy;refine⟨cM _,λl ι=>?_⟩;have e5:c6 G4 H4 G4 (c0 H4 l (.a8 [])):=c6.own e4.gh _ ι;have δ:=e4.trans e5;have a5:c0 H4 l (.a8 []) a=a_ (d.mkH es):=δ.hh _ _ a3;have g5:=δ.fr _ _ a3 g3 (d.nf _);have ξ:=gr3.ext δ;have R5:=R3.ext δ;have x5:=(x2.trans e3).trans δ;have s5:a6 G1 G4:=(s2.trans e3.gg).trans δ.gg;have hla:l≠a:=by rintro rfl;rw[ae]at a5;exact d.neL _ _ (aZ a5).symm
    have hlb:∀b∈bs,l≠b:=λb hb z=>by obtain⟨⟨ws,hw⟩,_⟩:=(gr3.ext e4).nk b hb;rw[<-z,ι]at hw;cases hw
    have gl:G4 l=c_:=aq e4.gh ι;have bl:B l=c_:=aq (R3.ext e4).bh ι;refine⟨a,yv,l,es,j,_6,_6,a5,d.am (d.key ej dy e4.gh) e5.hh,by rw[<-γ.len];exact hsz.1,λw ew=>?_,λen=>?_⟩
    .obtain⟨b,vs,rfl,hb,hw,lw,nx⟩:=ξ.at d.of_cn Y ew;refine⟨.inl ⟨_6,vs,h8.of hw⟩,G4,N,R5,?_⟩;rw[Δ];intro zv G7 H7 L dz;have ν:=ξ.ext L;have hw7:=L.hh _ _ hw;obtain⟨_,gb7,bb⟩:=ν.nk b hb;have hba:a≠b:=by rintro rfl;rw[a5]at hw;exact d.neL _ _ (aZ hw)
     have nb:=h b (α b hb);refine⟨b,vs,zv,_6,_6,hw7,l! lw hsz.2,hl,N,_,⟨s5.trans L.gg,(R5.ext L).chg gb7 bb nb _,(x5.trans L).wr gb7 bb,f3,?_,L.fr _ _ a5 g5 (d.nf _),nx ν hw7 dz,Y,h a O,λc Q=>h c (α c Q)⟩,g⟩;rw[aa hba];exact L.hh _ _ a5
    .have R6:=R5.chg g5 ba (h a O) (d.mkH (cv es j (.ref l)));have x6:=x5.wr (o:=d.mkH (cv es j (.ref l))) g5 ba;have ω:c0 (c0 H4 l (.a8 [])) a (d.mkH (cv es j (.ref l))) l=a_ (.a8 []):=by rw[aa hla,ae]
     refine⟨.inl ⟨_6,[],h8.of ω⟩,G4,N,R6,?_⟩;rw[Δ];intro zv G7 H7 L dz;have hl7:=L.hh _ _ ω;have Γ:=L.fr _ _ ω gl _6;have gr6:qe d.cn (kx X) G4 B (c0 (c0 H4 l (.a8 [])) a (d.mkH (cv es j (.ref l)))) es bs gs:=ξ.keep λb hb=>by obtain⟨⟨ws,hw⟩,_⟩:=ξ.nk b hb;rw[aa (by rintro rfl;rw[a5]at hw;exact d.neL _ _ (aZ hw))]
     have ν:=(gr6.ext L).keep (H':=c0 H7 l (.a8 ([]++[zv]))) λb hb=>by rw[aa (hlb b hb).symm]
     have a7:H7 a=a_ (d.mkH (cv es j (.ref l))):=L.hh _ _ ae;have nl:ks (θ.set jt (a_ v)) N l:=λj' s' n e2 e3=>by obtain⟨o',z1,z2⟩:=(R3.ext e4).sl j' s' n;rw[e3]at z1;cases z1;obtain⟨a',z,u,z3,_⟩:=z2.ref e2;cases z;rw[ι]at z3;cases z3
     refine⟨l,[],zv,_6,_6,hl7,by rw[eS];decide,hl,N,_,.mk (es:=cv es j (.ref l)) (bs:=bs++[l]) (s5.trans L.gg) ((R6.ext L).chg Γ bl nl _) ((x6.trans L).wr Γ bl) f3 ?_ (L.fr _ _ ae g5 (d.nf _)) ?_ ?_ (h a O) λc Q=>?_,g⟩
     .rw[aa hla.symm];exact a7
     .rw[Aa en];exact ν.put d.of_cn en ae Γ bl dz
     .rw[jE];refine⟨Y,by simp,λb hb c Q=>?_⟩;have:c=l:=by simpa using Q
      subst this;exact(hlb b hb).symm
     .rcases O_.mp Q with Q|Q
      .exact h c (α c Q)
      .have:c=l:=by simpa using Q
       subst this;exact nl
   .cases fl with
    |next=>
     obtain⟨M,H',I',@⟨G2,es,bs,s2,R2,x2,f2,a2,g2,γ,Y,O,α⟩⟩:=z;obtain⟨o,I'',dn⟩:=d.fin I' a2;obtain⟨G3,s3,R3,x3,d3,k3⟩:=qe.give d γ Y R2 x2 α;have ρ:G3 a=c_:=(k3 a λhb=>by
      obtain⟨⟨ws,hw⟩,_⟩:=γ.nk a hb;rw[a2]at hw;exact d.neL _ _ (aZ hw)).trans g2
     have R4:=(R3.chg ρ ba O o).give (o:=o) ρ ae O;have sm:a6 G3 (c0 G3 a o):=bf ρ _;have R5:=R4.set (i:=f) (dn (c0 G3 a o) _ ae (d.dmono sm d3));rw[Vc f2]at R5;exact⟨M,_,I'',q M _ _ ((s2.trans s3).trans sm) R5 (x3.frzT ba ρ)⟩
    |ret u=>obtain⟨_,_,_,_,_,z⟩:=z;exact z.elim
    |brk=>obtain⟨_,_,_,z⟩:=z;exact cS z
    |cont=>obtain⟨_,_,_,z⟩:=z;exact cS z
end
noncomputable def Ro(a b:h_)(g:En->bi):b_ D->En->f_ En
 |[],U=>a_ U
 |d::f,U=>match (U.set a (.pu d))[b]?,g (U.set a (.pu d))with
  | a_ (.ow xs), .ok e => (match nv e with
   |some c=>if _7 xs+_7 c<=aG then Ro a b g f ((U.set a (.pu d)).set b (.ow (xs++c)))else c_
   |none=>c_)
  |_,_=>c_
def Nh(b c d:h_)(g:En->bi):En->fq:=λU=>match U[b]? with
 | a_ (.ow e) => if c ≠ b /\ d ≠ b then (match Ro c d g e U with
  |some a=>.nx a
  |none=>.st)else .st
 |_=>.st
section
variable{X:Cx}{G0 B:Hp}{E:EK}{e:Expr}{x y z:k_}{px py pz ap cp ep pos:v_}{iw jt iy:h_}{g:En->bi}
inductive FxS(X:Cx)(G0 B G:Hp)(iw jt iy:h_)(g:En->bi)(a:g_)(vs:b_ V)(ws:b_ D)(δe:En)(i:h_)(σ':St)(H':Hp):Prop
 |mk {G2 δ2} (_:a6 G G2) (_:ce (kx X) B G2 H' σ' δ2) (_:c6 G0 B G2 H') (_:σ'[iw]?=a_ (a_ (V.ref a))) (_:H' a=a_ (.a8 vs)) (_:δ2[iw]?=a_ (.ow ws)) (_:Ro jt iy g (ws.drop i) δ2=a_ δe):FxS X G0 B G iw jt iy g a vs ws δe i σ' H'
set_option tactic.hygienic true in
def FG(hp:kU (aW X.prog X.w) X.A X.env X.xe)(hc:X.calm=d_)(hw:PE X (.Name x px) (fh iw))(hg:PG X (.Name z pz) (ij jt))(hv:PE X (.Name y py) (fh iy))
  (ha:dj X B E e g)(L:cq e=d_)(l1:(ap.endLine==cp.line)=d_):
  ja X G0 B E (.For (.Name z pz) (.Name x px) [.Expr (.Call (.Attribute (.Name y py) "extend" ap) [e] [] cp) ep] [] pos) (Nh iw jt iy g):=by
 have O:qR X [.Expr (.Call (.Attribute (.Name y py) "extend" ap) [e] [] cp) ep] _:=
  mf (je (oz dF kE kF Dr hv (cg ha f7 (ag L)) _6 (Lz L) l1 (ag L) _6) _6)
 refine PS.imp (D2 (pos:=pos) hp hc (EV (tg:=.Name z pz) hw) hg O (λ_=>rfl)) λD σ H ⟨G,U,R,ex,q⟩=>?_;unfold Nh at q;split at q
 case h_2=>exact q.elim
 rename_i f ed;split at q
 case isFalse=>exact q.elim
 rename_i Y;obtain⟨a,C,q1,q2,q3,q4,q5⟩:=R.owAt ed;cases eg:Ro jt iy g f U with
 |none=>rw[eg]at q;exact q.elim
 |some I=>
  rw[eg]at q;refine⟨.ref a,q1,a,_6,.inl ⟨⟨C,h8.of q2⟩,?_⟩⟩;refine⟨λi m h H'=>m=_7 f-i/\i<=_7 f/\FxS X G0 B G iw jt iy g a C f I i h H',
   ⟨f.length,by simp,cM _,a6.refl G,R,ex,q1,q2,ed,eg⟩,?_⟩
  rintro i m o H2 ⟨rfl,hi2,@⟨G2,J,s2,R2,x2,f2,Q,d2,c⟩⟩
  have lw:=q3.length
  by_cases hl:i<_7 f
  case neg=>
   have z:i=_7 f:=by lia
   subst z;rw[jV]at c;cases (c);exact .inl ⟨⟨C,h8.of Q,by lia⟩,q o G2 H2 s2 R2 x2⟩
  obtain⟨b,ws',e1,e2,ι,gb,bb⟩:=R2.owAt d2;rw[f2]at e1;cases (e1);rw[Q]at e2;cases (e2);obtain⟨v,ev,dv⟩:=ι.get (bF hl);refine .inr ⟨⟨C,v,h8.of Q,ev⟩,λh H'=>i+1<=_7 f/\FxS X G0 B G iw jt iy g a C f I (i+1) h H',
   λh H' ⟨L,n2⟩=>⟨_7 f-(i+1),by lia,_6,L,n2⟩,λw H3 ⟨eH,yy⟩=>?_⟩
  cases (eH);have M:=yy C (h8.of Q);rw[ev]at M;cases (M);rw[cU hl]at c;have T:=R2.set (i:=jt) dv;unfold Ro at c;split at c
  case h_2=>cases (c)
  rename_i xs d ek N;split at c
  case h_2=>cases (c)
  rename_i es ei;split at c
  case isFalse=>cases (c)
  rename_i hsz;have d3:(J.set jt (.pu f[i]))[iw]?=a_ (.ow f):=by rw[aN Y.1];exact d2
  generalize φ:J.set jt (.pu f[i])=β at T c ek N d3;have f3:(o.set jt (a_ v))[iw]?=a_ (a_ (V.ref a)):=by rw[aN Y.1];exact f2
  obtain⟨l,us,r,p,s,z4,z5⟩:=T.owAt ek;have δ:l≠a:=by
   rintro rfl
   exact Y.2 (T.rE iy iw _ _ l ek d3 _6 _6 r f3)
  show AO X.K "list" (rExtD (kx X)) (fh iy) (lh (tAr (kx X) B E g) u3) (o.set jt (a_ v)) H2 _;refine⟨.ref l,r,.inl ⟨_6,us,h8.of p⟩,G2,β,T,?_⟩;rw[N];intro u G4 H4 n av;have γ:∃b j,u=.ref b/\(h8 (kx X) H4 b j\/ng (kx X) H4 b j)/\bt (kx X) G4 es j:=by
   cases d with
   |a8 θ=>cases (ei);obtain⟨b,j,r,p,s⟩:=av.a8 n.gh;exact⟨b,j,r,.inl p,s⟩
   |ci θ=>cases (ei);obtain⟨b,j,r,p,s⟩:=av.ci n.gh;exact⟨b,j,r,.inr p,s⟩
   |_=>cases (ei)
  obtain⟨b,j,rfl,sq,dl⟩:=γ;have l1:=s.length;have l2:=dl.length;have h4:=n.hh _ _ p;have g4:=n.fr _ _ p z4 _6;refine⟨l,b,us,j,_6,_6,h4,sq,by lia,hl,s2.trans n.gg,ce.wr (T.ext n) ek r h4 ((s.am n.gg).append dl),c6.wr (x2.trans n) g4 z5,f3,?_,?_,c⟩
  .rw[aa δ.symm];exact n.hh _ _ Q
  .rw[aN Y.2];exact d3
end
section
variable{X:Cx}{G0 B:Hp}{E:EK}{g:En->bi}{pos:v_}
noncomputable def x8(c b:h_)(g:En->bi):En->fq:=λU=>match U[c]?,U[b]?,g U with
 | a_ (.ow xs), a_ (.ow a), .ok (.int i) => (match Q? i a.length with
  | a_ n => (match a[n]? with
   |some d=>if c≠b/\_7 xs<aG/\-(2^63)<=i/\i<2^63 then .nx ((U.set b (.ow (a.eraseIdx n))).set c (.ow (xs++[d])))else .st
   |none=>.st)
  |none=>.st)
 |_,_,_=>.st
set_option tactic.hygienic true in
def U6{s r:h_}{x y:k_}{e:Expr}{px Y ap cp p o:v_}(hx:PE X (.Name x px) (fh s))(hy:PE X (.Name y Y) (fh r))(he:ck X B E e g)(z:cq e=d_)(l1:(ap.endLine==cp.line)=d_)(l2:(p.endLine==o.line)=d_):
  ja X G0 B E (.Expr (.Call (.Attribute (.Name x px) "append" ap) [.Call (.Attribute (.Name y Y) "pop" p) [e] [] o] [] cp) pos) (x8 s r g):=by
 have h:∀{a:Expr}{j:T_}{f:v_},cq a=d_->((dW f (aU [a] j)).all (λx=> !x.1)&&(lG f (iA [] j)).all (λx=>x.1.isSome)
  &&decide (([a]:b_ Expr).length+([]:b_ fP).length+(if([]:b_ fP).isEmpty then 0 else 1)<30))=d_:=λ{a j f} hn=>by
  rw[gi (by rw[bO,hn];rfl)];rfl
 refine PS.imp (je (oz dF kB kC qi hx (cg (oz dF PySem.F.slot_list_pop PySem.F.type_list_pop Td hy (cg he f7 (ag z)) _6 (h z) l2 (ag z) _6) f7 _6) _6 (h _6) l1 _6 _6) _6) λD σ H ⟨G,U,R,ex,q⟩=>?_;unfold x8 at q;split at q
 case h_2=>exact q.elim
 rename_i xs ys i J C eg;split at q
 case h_2=>exact q.elim
 rename_i n en;split at q
 case h_2=>exact q.elim
 rename_i d ed;split at q
 case isFalse=>exact q.elim
 rename_i hc;obtain⟨h1,h2,h3,h4⟩:=hc;obtain⟨a,T,O,N,a3,a4,a5⟩:=R.owAt J;obtain⟨b,Q,M,u,L,b4,b5⟩:=R.owAt C;have l:a≠b:=by rintro rfl;exact h1 (R.rE s r _ _ a J C _6 _6 O M)
 refine⟨.ref a,O,.inl ⟨_6,T,h8.of N⟩,.ref b,M,.inl ⟨_6,Q,h8.of u⟩,G,U,R,?_⟩;rw[eg];intro w G1 H1 c dw;obtain⟨v,ev,dv⟩:=L.get ed;have hl:=L.length;have A:=a3.length;refine⟨b,Q,i,n,v,_6,by rw[show w=.int i from dw],c.hh _ _ u,h3,h4,by rw[<-hl];exact en,ev,?_⟩;have m:=c.hh _ _ N;refine⟨a,T,v,_6,_6,by rw[aa l];exact m,by rw[<-A];exact h2,?_⟩;have R1:=ce.wr (R.ext c) C M (c.hh _ _ u) ((L.am c.gg).eraseIdx n);have I:(U.set r (.ow (ys.eraseIdx n)))[s]?=a_ (.ow xs):=by rw[aN (cW h1)];exact J
 have R2:=ce.wr R1 I O (by rw[aa l];exact m) ((a3.am c.gg).append (bt.pv (dv.am c.gg)));exact q σ G1 _ c.gg R2 (((ex.trans c).wr (c.fr _ _ u b4 _6) b5).wr (c.fr _ _ N a4 _6) a5)
end
def Fx(a:g_)(o:D_):HO:=.ext λh=>h.get? a=a_ o
inductive FzK(a:g_)(o:D_)(es:b_ (cj×V)):Prop
 |mk (_:(a==dD)=e_) (_:o.ExactDict) (dt ep) (_:o.data=.dict dt ep) (_:dt.size=_7 es) (_:∀i (hi:i<dt.size) p,es[i]?=a_ p->eu (kV p.1) dt[i].key/\eu p.2 dt[i].val):FzK a o es
theorem B3{P:aV}{w:bP}:∀{l:b_ mE}{g:b_ (cj×aC)}{es:b_ (cj×V)},Pairs (ao P w) l g->KV es g->∀(i:h_) e p,l[i]?=a_ e->es[i]?=a_ p->eu (kV p.1) e.key/\eu p.2 e.val
 |_,_,_,.nil,.nil,i,e,p,a,_=>by simp at a
 |_,_,_,.cons a h t,.cons r rt,0,e,p,c,b=>by
  simp at c b;subst c b;refine⟨?_,by rw[h];exact r.2⟩;rw[<-r.1]at a;rcases b9 a with⟨i,t,f,d⟩|⟨x,t,f,d⟩
  .rw[f,d];exact⟨t,_6⟩
  .rw[f,d];exact⟨t,_6⟩
 |_,_,_,.cons a h t,.cons r rt,i+1,e,p,c,b=>B3 t rt i e p (by simpa using c) (by simpa using b)
def Rv{P:aV}{w:bP}{H:Hp}{h:r_}{a:g_}{es:b_ (cj×V)}(ok:qb P w H h)(e:H a=a_ (.dK es)):∃o,h.get? a=a_ o/\FzK a o es/\∀(n:Hp)(d:r_),d.get? a=a_ o->fb P w n d a (.dK es):=by
 obtain⟨z,g,r,rel,o,b,m,y,l,j,x,c,v⟩:=show fb P w H h a (.dK es)from ok a _ e;have s:b.size=es.length:=by rw[eA rel,<-c.length];simp
 refine⟨o,y,⟨g,l,b,m,j,s,λi u p f=>B3 c rel i b[i] p ?_ f⟩,λn d q=>⟨z,g,r,rel,o,b,m,q,l,j,x,c,v⟩⟩;rw[eK];exact cC u
def L9{P:aV}{w:bP}{H:Hp}{h:r_}{a:g_}{o:D_}(ok:qb P w H h)(e:H a=a_ (Fx a o)):h.get? a=a_ o:=(show fb P w H h a (Fx a o)from ok a _ e).1
def HL(o:D_)(a:g_)(es:b_ (cj×V)):It:=
 ⟨λi H=>H a=a_ (Fx a o)/\i<_7 es,λi H x b=>∃p y,es[i]?=a_ p/\H y=c_/\x=.ref y/\b=c0 H y (.ci [kV p.1,p.2]),λi H=>H a=a_ (Fx a o)/\_7 es<=i⟩
def H9{P:aV}{w:bP}{K:aK}{B:b_ Expr}{k1}{tp:v_}{o:D_}{a c:g_}{n:q_ mE}{ep:h_}{es:b_ (cj×V)}(g:o.data=.dict n ep)(fz:FzK a o es):
  qO P w K (.Tuple B k1 tp) (HL o a es) [c] c (λi h=>(∃ok p,jR h c a i n.size ep ok p)/\i<=n.size) where
 mem:=by simp
 obj:=λi h st b d=>by
  have e:b=c:=by simpa using d
  subst e;obtain⟨⟨ok,p,e⟩,_⟩:=st;exact⟨_,e,λv z=>by have z':mQ _=lY v:=z;cases z'⟩
 keep:=λi h h' st k=>⟨let ⟨ok,p,e⟩:=st.1;⟨ok,p,k c (by simp) _ e⟩,st.2⟩
 item:=by
  intro X N L O hc i j s σ H E I y st M;subst N L O;obtain⟨ea,m⟩:=M;obtain⟨T,f1,f2,f3,f4,f5⟩:=y c (by simp);have Q:=L9 I.e6 ea;obtain⟨hd,J,β,Y,x,G,rel⟩:=fz;rw[g]at x;cases x;have l:i<n.size:=by rw[G];exact m
  obtain⟨⟨ok,p,f⟩,_⟩:=st;obtain⟨ek,U⟩:=rel i l _ (bF m);have iV:H s.1.1.size=c_:=I.e6.fresh (aL _);have u:c<s.1.1.size:=aM f;refine Af f ⟨o,Q,J,g⟩ l λh1 C t1 n1 e1=>?_;refine⟨_,_6,nJ (s:={s with heap:=h1}) C λA z2 sb=>?_⟩;have r:bN c h1 A:=sb;have k2:∀b o,b∉[c]->s.1.get? b=a_ o->A.get? b=a_ o:=λb o d q=>by
   have d:b≠c:=by simpa using d
   exact r.extBut b o d (e1 b o d q)
  have t2:A.get? s.1.1.size=a_ {cls:=.type "tuple",data:=.seq #[n[i].key,n[i].val]}:=r.extBut _ _ (cE u) t1;have I2:a9 X j σ (c0 H s.1.1.size (.ci [kV (es[i]'m).1,(es[i]'m).2])) {s with heap:=A}:=I.rd (t':=s.toks) y k2 t2 ek U;refine⟨.ref s.1.1.size,_,I2,_6,⟨_,_,bF m,iV,_6,_6⟩,⟨⟨_,_,z2⟩,l⟩,λb d=>?_⟩;have e:b=c:=by simpa using d
  subst e;rw[aa (bE u)];exact T
 done:=by intro X N L O hc i j s σ H E I y st M;subst N L O;obtain⟨ea,m⟩:=M;obtain⟨T,f1,f2,f3,f4,f5⟩:=y c (by simp);have Q:=L9 I.e6 ea;obtain⟨hd,J,β,Y,x,G,rel⟩:=fz;rw[g]at x;cases x;have e:i=n.size:=nB st.2 (by rw[G];exact m);subst e;obtain⟨⟨ok,p,f⟩,_⟩:=st;exact Ad (I.ok.hd hc) f ⟨o,Q,J,g⟩ λh' eb=>⟨_6,I.ii (t':=s.toks) (λb o d e=>eb b o d e) T f1 f3 f4 f5⟩
 self:=λZ Z Z Z Z st h=>let ⟨_,_,e⟩:=st.1;M? e h
def AK:HO->l_
 |.dK _=>d_
 |.ext _=>d_
 |_=>e_
def _root_.L2.a9.retag{X:Cx}{d:b_ (g_×D_)}{σ:St}{H:Hp}{s:aE}{a:g_}{l g:HO}(I:a9 X d σ H s)(e:H a=a_ l)(E:AK l=d_)(ok:∀M,fb X.prog X.w M s.1 a g):a9 X d σ (c0 H a g) s:=by
 have C:∀{b:g_},H b=c_->b≠a:=λq z=>by rw[z,e]at q;cases q
 have no:∀{b:g_}{u:HO},H b=a_ u->AK u=e_->b≠a:=λq z y=>by rw[y,e]at q;cases q;rw[E]at z;cases z
 have m:∀b h,H b=a_ (.ci h)->c0 H a g b=a_ (.ci h):=λb h q=>by rw[aa (no q _6)];exact q
 have j:∀b f u,H b=a_ (.n4 f u)->c0 H a g b=a_ (.n4 f u):=λb f u q=>by rw[aa (no q _6)];exact q
 have J:∀b y,H b=a_ (.own y)->c0 H a g b=a_ (.own y):=λb y q=>by rw[aa (no q _6)];exact q
 have i:∀b,H b=c_->c0 H a g b=c_:=λb q=>by rw[aa (C q)];exact q
 have st:∀b u,H b=a_ u->fb X.prog X.w (c0 H a g) s.1 b u:=λb u q=>(I.e6 b u q).qZ (λZ Z Z z=>z) (λc z=>J c _ z) m j;refine⟨I.ok,I.os,I.ln,⟨I.base.keep,I.base.slot,λb f q n G=>i b (I.base.free b f q n G),I.base.there,λb h q=>m b h (I.base.qM b h q),λb f u q=>j b f u (I.base.nw b f u q),λb q z=>?_⟩,I.qX,I.cell,i _ I.free,λx c q=>(I.oD x c q).imp (i _) λ⟨z,o,y⟩=>⟨z,o,j _ _ _ y⟩,λp L=>?_,λb u q=>?_,I.len⟩
 .have q:=I.base.qw b q z;rw[aa (no q _6)];exact q
 .obtain⟨B,A,v⟩:=I.q0 p L;exact⟨B,i _ A,v⟩
 .by_cases r:b=a
  .subst r;rw[ae]at q;cases q;exact ok _
  .rw[aa r]at q;exact st b u q
section
variable{X:Cx}{o:Expr}{tl:TE}{ap cp tp:v_}{tes:b_ Expr}{k1:h_}
def OD(tl:TE):TI:=λσ H R=>tl σ H λx d=>∃a b c,x=.ref a/\d a=a_ (Fx a b)/\FzK a b c/\R (HL b a c) d
def EW(E:PE X o tl)(l:gf o=d_)(B:(ap.endLine==cp.line)=d_):PI X (.Tuple tes k1 tp) (.Call (.Attribute o "items" ap) [] [] cp) (OD tl):=by
 intro f s σ H R I q;refine kZ (d8 l) B (c9 (E f s σ H _ I q) λv c ⟨x,M,z,A,a,g,O,G,J,fz,q⟩=>?_);subst G;cases A;have i:=L9 z.e6 J;obtain⟨C,h,y,w,m,N,rel⟩:=id fz;have r:c.TypeIs (.ref a) "dict":=⟨g,i,h.1⟩;refine⟨"dict","dict.items",cZ,iP,_E,r,λb L=>by cases L;exact⟨g,i,h.2.1⟩,eB _6 (nC ?_)⟩;refine iT iP r _v (_p _) (ub a C) ⟨⟨y,w,g,i,h,m⟩,?_⟩;have p:∀(u:D_) b j,c.1.get? b=a_ j->(c.1.push u).get? b=a_ j:=λu b j e=>aB _ e;have n:=z.kd (t':=c.toks) (p {cls:=.type "dict_items",data:=.fields #[.ref a]});refine Ae (s:={c with heap:=c.1.push {cls:=.type "dict_items",data:=.fields #[.ref a]}}) (d:=a) (es:=y) (ep:=w) ⟨_,aI _ _6,_6,_6⟩ ⟨g,p _ _ _ i,h,m⟩ ?_;refine⟨_,[_],_,_,M,_6,n.kd (t':=c.toks) λb o e=>aB _ e,H9 (o:=g) (a:=a) m fz,⟨⟨.none,.none,aI _ _6⟩,cM _⟩,λb l=>?_,q⟩;have e:b=(c.1.push {cls:=.type "dict_items",data:=.fields #[.ref a]}).objs.size:=by simpa using l
 subst e;exact n.qU (aL _) (n.e6.fresh (aL _))
end
def ll{H:Hp}{a b:g_}{o u:HO}(h:a≠b):c0 (c0 H a o) b u=c0 (c0 H b u) a o:=by
 funext c
 unfold c0
 by_cases d:c=a
 .subst d;rw[aO _6,aJ h,aO _6]
 .rw[aJ d,aJ d]
def Nn{K:aK}{H:Hp}{c b:g_}{ew:b_ (cj×V)}{a:b_ V}(h:h8 K (c0 H c (.dK ew)) b a):h8 K H b a:=by
 rcases h with (h|⟨o,h⟩)|h
 .have:b≠c:=by rintro rfl;rw[ae]at h;cases h
  rw[aa this]at h;exact .inl (.inl h)
 .have:b≠c:=by rintro rfl;rw[ae]at h;cases h
  rw[aa this]at h;exact .inl (.inr ⟨o,h⟩)
 .exact .inr h
def Fz(j:cj)(a:b_ D):b_ (D×b_ D)->b_ (D×b_ D)
 |[]=>[(kD j,a)]
 |(k,b)::r=>if cf k=a_ j then(k,b++a)::r else(k,b)::Fz j a r
section
variable{K:KA}{G B H:Hp}{gs:b_ (D×b_ D)}{es:b_ (cj×V)}{bs:b_ g_}{j:cj}{v:V}{l:g_}
def qe.atL(h:qe kD K G B H es bs gs):bs.Nodup->c8 es j=a_ v->∃b a,v=.ref b/\b∈bs/\H b=a_ (.a8 a)/\_7 a<=(gs.map λp=>p.2.length).sum/\
  ∀{E C y I},qe kD K E B C es bs gs->C b=a_ (.a8 a)->bt K E y I->qe kD K E B (c0 C b (.a8 (a++I))) es bs (Fz j y gs):=by
 induction h with
 |nil=>intro _ e;rw[pf]at e;cases e
 |@cons i b a y er br gs T Q Y U _ N=>
  intro L e;obtain⟨d,u⟩:=G_.mp L;rw[bK,List.sum_cons];unfold Fz;rw[g9]
  by_cases w:i=j
  .subst w;rw[gj _6]at e;cases e;refine⟨b,a,_6,bI,T,by rw[<-Q.length];exact gS _ _,λg x A=>?_⟩;rw[aO _6];cases g with
   |cons f s r o n=>rw[x]at f;cases f;exact .cons ae (s.append A) r o (n.keep λc m=>aa (by rintro rfl;exact d m))
  .rw[fg w]at e;obtain⟨c,J,rfl,m,O,M,q⟩:=N u e;refine⟨c,J,_6,bJ _ m,O,cB M (pU _ _),λg x A=>?_⟩;rw[aJ λz=>w (aZ z)];cases g with
   |cons f s r o n=>exact .cons (by rw[aa (by rintro rfl;exact d m)];exact f) s r o (q n x A)
def qe.putL{c:b_ D}{d:b_ V}(h:qe kD K G B H es bs gs)(e:c8 es j=c_)(g:H l=a_ (.a8 d))(gl:G l=c_)(bl:B l=c_)(q:bt K G c d):qe kD K G B H (es++[(j,.ref l)]) (bs++[l]) (Fz j c gs):=by
 induction h with
 |nil=>exact .cons g q gl bl .nil
 |@cons i b r c er s gs p o n m _ f=>
  by_cases a:i=j
  .rw[gj a]at e;cases e
  .rw[fg a]at e;unfold Fz;rw[g9,aJ λz=>a (aZ z)];exact .cons p o n m (f e)
theorem f8.get:∀{a:b_ (D×D)}{es:b_ (cj×V)},f8 K G a es->∀{i:h_}{p:cj×V},es[i]?=a_ p->∃d,a[i]?=a_ (kD p.1,d)/\gy K G d p.2
 |[],es,h,i,p,e=>by rw[show es=[]from h]at e;simp at e
 |(k,d)::r,es,⟨m,v,t,b,c,f,g⟩,0,p,e=>by subst b c;simp at e;subst e;exact⟨d,_6,f⟩
 |(k,d)::r,es,⟨m,v,t,b,c,f,g⟩,i+1,p,e=>by subst b;simpa using f8.get g (i:=i) (by simpa using e)
end
def Oy(b a:h_):b_ (D×D)->En->b_ (D×b_ D)->f_ (En×b_ (D×b_ D))
 |[],U,gs=>a_ (U,gs)
 |(k,v)::r,U,gs=>match cf k,v with
  |some j,.a8 c=>if _7 gs<aG/\(gs.map λp=>p.2.length).sum+_7 c<=aG then Oy b a r ((U.set b (.pu k)).set a (.pu v)) (Fz j c gs)else c_
  |_,_=>c_
section
variable{X:Cx}{G0 B:Hp}{w x y z:k_}{pw py pz p p2 p3 ap cp ap1 cp1 ap2 cp2 lp tp ep pos:v_}{k1 f jy jz jw:h_}
inductive tEx(X:Cx)(G0 B:Hp)(f jy jz jw:h_)(D:qh)(σ:St)(H:Hp):Prop
 |mk (G1 a U gs kvs δ' gs') (_:GrS (Eo X) G0 B G1 f a U gs σ H) (_:B a=c_) (_:U[jw]?=a_ (.pu (.h7 e_ kvs))) (_:Oy jy jz kvs U gs=a_ (δ',gs')) (_:∀σ' H',GrS (Eo X) G0 B G1 f a δ' gs' σ' H'->D.nx σ' H'):tEx X G0 B f jy jz jw D σ H
def ks.set{σ:St}{U:En}{c:g_}{i:h_}{v:V}{d:D}(h:ks σ U c):ks (σ.set i (a_ v)) (U.set i (.pu d)) c:=λb j a g e=>by
 by_cases z:i=b
 .subst z;have l:i<_7 U:=by have:=(i_.mp a).1;rwa[bL]at this
  rw[aQ l]at a;cases a;cases g
 .rw[aN z]at a e;exact h b j a g e
set_option tactic.hygienic true in
def FH(hp:kU (aW X.prog X.w) X.A X.env X.xe)(hc:X.calm=d_)(hu:X.A.units+5<cP)(hw:PE X (.Name w pw) (fh jw))(hgy:PG X (.Name y py) (ij jy))(hgz:PG X (.Name z pz) (ij jz))(hv:PE X (.Name x p) (fh f))
  (hy:PE X (.Name y p2) (fh jy))(hz:PE X (.Name z p3) (fh jz))(l0:(ap.endLine==cp.line)=d_)(l1:(ap1.endLine==cp1.line)=d_)(l2:(ap2.endLine==cp2.line)=d_)(hny:jy<_7 X.N)(hnz:jz<_7 X.N)(nyz:jy≠jz)(nyf:jy≠f)(nzf:jz≠f):
  PS X (.For (.Tuple [.Name y py,.Name z pz] k1 tp) (.Call (.Attribute (.Name w pw) "items" ap) [] [] cp) [.Expr (.Call (.Attribute (.Call (.Attribute (.Name x p) "setdefault" ap1) [.Name y p2,.List [] lp] [] cp1) "extend" ap2) [.Name z p3] [] cp2) ep] [] pos) (tEx X G0 B f jy jz jw):=by
 intro ρ s σ H D I h;obtain⟨G1,a,U,gs,α,ψ,ge,@⟨G,es,bs,s0,R,x0,f0,a0,g0,gr0,nd0,no0,nb0⟩,ba,ew,eg,fin⟩:=h;obtain⟨v,q1,c,rfl,h2⟩:=R.var ew;obtain⟨g,gc,dk⟩:∃g,G c=a_ (.dK g)/\f8 (kx X) G α g:=by
  obtain ⟨_,g,h3,h4⟩|⟨z,_⟩:=h2
  .exact⟨g,h3,h4⟩
  .cases z
 have Φ:H c=a_ (.dK g):=R.gh _ _ gc;obtain⟨o,ho,fz,back⟩:=Rv I.e6 Φ;have I0:a9 X ρ σ (c0 H c (Fx c o)) s:=I.retag Φ _6 λH'=>⟨ho,⟨o,ho⟩,λh1 h2 q k=>k o q⟩;have Γ:PE X (.Call (.Attribute (.Name x p) "setdefault" ap1) [.Name y p2,.List [] lp] [] cp1) (AO X.K "dict" (SdG (Eo X).mkH (Eo X).nz) (fh f) (lh (fh jy) (lh (Vo u3) u3))):=
  oz cZ dO gE ((Eo X).sd hu) hv (cg hy (cg (Dx f7) f7 _6) _6) _6 (L6 _6 _6) l1 _6 _6
 have body:qR X [.Expr (.Call (.Attribute (.Call (.Attribute (.Name x p) "setdefault" ap1) [.Name y p2,.List [] lp] [] cp1) "extend" ap2) [.Name z p3] [] cp2) ep] _:=
  mf (je (oz dF kE kF Dr Γ (cg hz f7 _6) _6 (Lz _6) l2 _6 _6) _6)
 have loop:=D2 (pos:=pos) hp hc (EW (tes:=[.Name y py,.Name z pz]) (k1:=k1) (tp:=tp) hw _6 l0) (Kr hc (o6 hgy (o6 hgz Dy))) body;have kl:_7 α=_7 g:=dk.length;refine c9 (loop ρ s σ _ {nx:=λJ H'=>H' c=a_ (Fx c o)/\GrS (Eo X) G0 B G1 f a ψ ge J (c0 H' c (.dK g)),rt:=λ_ _=>L_} I0 ⟨_,q1,c,o,g,_6,ae,fz,?_⟩) λfl s' z=>?_
 .have th:c0 (c0 H c (Fx c o)) c (.dK g)=H:=by
   rw[ya]
   funext b
   unfold c0
   by_cases e:b=c
   .rw[aO e,e];exact Φ.symm
   .rw[aJ e]
  refine⟨λi m J H'=>m=_7 g-i/\i<=_7 g/\H' c=a_ (Fx c o)/\∃E L,_7 E=_7 X.N/\GrS (Eo X) G0 B G f a E L J (c0 H' c (.dK g))/\Oy jy jz (α.drop i) E L=a_ (ψ,ge),
   ⟨g.length,by simp,cM _,ae,U,gs,by rw[<-R.len];exact I.len,by rw[th];exact⟨a6.refl G,R,x0,f0,a0,g0,gr0,nd0,no0,nb0⟩,by rw[List.drop_zero];exact eg⟩,?_⟩
  rintro i m O H2 ⟨rfl,hi2,c2,E,L,υ,@⟨G2,n,Ψ,s2,R2,x2,f2,a2,g2,ξ,κ,ι,μ⟩,r⟩
  by_cases hl:i<_7 g
  case neg=>
   have z:i=_7 g:=by lia
   subst z;rw[<-kl,jV]at r;cases r;exact .inl ⟨⟨c2,aL _⟩,c2,s0.trans s2,R2,x2,f2,a2,g2,ξ,κ,ι,μ⟩
  refine .inr ⟨⟨c2,hl⟩,λJ H'=>i+1<=_7 g/\H' c=a_ (Fx c o)/\∃E L,_7 E=_7 X.N/\GrS (Eo X) G0 B G f a E L J (c0 H' c (.dK g))/\Oy jy jz (α.drop (i+1)) E L=a_ (ψ,ge),
   λJ H' ⟨n1,n2,n3⟩=>⟨_7 g-(i+1),by lia,_6,n1,n2,n3⟩,?_⟩
  rintro _ _ ⟨⟨j,vv⟩,t,ep',ht,rfl,rfl⟩
  obtain⟨d,ed,dv⟩:=dk.get ep';have gc2:G2 c=a_ (.dK g):=s2 _ _ gc;have nt:t≠c:=by rintro rfl;rw[c2]at ht;cases ht
  have ne:∀{b:g_},G2 b=c_->b≠c:=λq z=>by rw[z,gc2]at q;cases q
  have hlk:i<_7 α:=by rw[kl];exact hl
  rw[cU hlk,show α[i]=(kD j,d)from by have:=bF hlk;rw[ed]at this;exact(aZ this).symm]at r;unfold Oy at r;rw[g9]at r;cases d with
  |a8 ds=>
   dsimp only at r;split at r
   case isFalse=>cases r
   rename_i hsz;have dv2:=dv.am s2;have ht2:c0 H2 c (.dK g) t=c_:=by rw[aa nt];exact ht
   have e3:c6 G2 (c0 H2 c (.dK g)) G2 (c0 (c0 H2 c (.dK g)) t (.ci [kV j,vv])):=c6.own R2.gh _ ht2;rw[<-ll nt]at e3;generalize hH3:c0 H2 t (.ci [kV j,vv])=H3 at e3;have c3:H3 c=a_ (Fx c o):=by rw[<-hH3,aa nt.symm];exact c2
   have R3:=((R2.ext e3).set (i:=jy) (d:=kD j) (v:=kV j) (by cases j<;>rfl)).set (i:=jz) dv2;generalize φ:(E.set jy (.pu (kD j))).set jz (.pu (.a8 ds))=β at R3 r;have C:∀b,ks O E b->ks ((O.set jy (a_ (kV j))).set jz (a_ vv)) β b:=λb h=>by rw[<-φ];exact ks.set (ks.set h)
   have l2s:_7 O=_7 X.N:=R2.len.trans υ;have hy3:((O.set jy (a_ (kV j))).set jz (a_ vv))[jy]?=a_ (a_ (kV j)):=by rw[aN nyz.symm,aQ (by rw[l2s];exact hny)]
   have Δ:((O.set jy (a_ (kV j))).set jz (a_ vv))[jz]?=a_ (a_ vv):=by rw[aQ (by rw[bL,l2s];exact hnz)]
   have τ:_7 β=_7 X.N:=by rw[<-φ,bL,bL];exact υ
   have f3:((O.set jy (a_ (kV j))).set jz (a_ vv))[f]?=a_ (a_ (V.ref a)):=by rw[aN nzf,aN nyf];exact f2
   refine⟨t,[kV j,vv],_6,ng.of (by rw[<-hH3];exact ae),_6,kV j,[vv],_6,vv,[],_6,_6,?_⟩;generalize hσ3:(O.set jy (a_ (kV j))).set jz (a_ vv)=σ3 at R3 C hy3 Δ f3;show AO X.K "list" (rExtD (kx X)) (AO X.K "dict" (SdG (Eo X).mkH (Eo X).nz) (fh f) (lh (fh jy) (lh (Vo u3) u3))) (lh (fh jz) u3) σ3 H3 _;have Y:=ne g2;have a3:H3 a=a_ (.dK n):=by have:=e3.hh _ _ a2;rwa[aa Y]at this
   refine⟨.ref a,f3,(Eo X).ty a3,kV j,hy3,cM _,λl Ξ=>?_⟩;have δ:l≠c:=by rintro rfl;rw[c3]at Ξ;cases Ξ
   have T:c0 H3 c (.dK g) l=c_:=by rw[aa δ];exact Ξ
   have e5:c6 G2 (c0 H3 c (.dK g)) G2 (c0 (c0 H3 c (.dK g)) l (.a8 [])):=c6.own e3.gh _ T;have x5:=(x2.trans e3).trans e5;have R5:=R3.ext e5;have Q:=(ξ.ext e3).ext e5;have ta3:c0 H3 c (.dK g) a=a_ (.dK n):=by rw[aa Y];exact a3
   have Θ:l≠a:=by rintro rfl;rw[T]at ta3;cases ta3
   have hlb:∀b∈Ψ,l≠b:=λb M z=>by obtain⟨⟨ws,hw⟩,_⟩:=(ξ.ext e3).nk b M;rw[<-z,T]at hw;cases hw
   have gl:G2 l=c_:=aq e3.gh T;have bl:B l=c_:=aq R3.bh T;have nl:ks σ3 β l:=λj' s' e1 e2 e3=>by obtain⟨o',z1,z2⟩:=R3.sl j' s' e1;rw[e3]at z1;cases z1;obtain⟨a',z,u,z3,_⟩:=z2.ref e2;cases z;rw[T]at z3;cases z3
   rw[<-ll δ]at e5 x5 R5 Q;have c5:c0 H3 l (.a8 []) c=a_ (Fx c o):=by rw[aa δ.symm];exact c3
   have a5:c0 H3 l (.a8 []) a=a_ (.dK n):=by rw[aa Θ.symm];exact a3
   have l5:c0 H3 l (.a8 []) l=a_ (.a8 []):=ae;generalize c0 H3 l (.a8 [])=H5 at e5 x5 R5 Q c5 a5 l5;have ta5:c0 H5 c (.dK g) a=a_ (.dK n):=by rw[aa Y];exact a5
   obtain⟨bz,zs,rfl,sq,dl⟩:=dv2;have lz:=dl.length;refine⟨a,kV j,l,n,j,_6,_6,a5,_6,by rw[<-ξ.len];exact hsz.1,λw ew=>?_,λen=>?_⟩
   .obtain⟨b,vs,rfl,M,hw,lw,nx⟩:=Q.atL κ ew;obtain⟨_,gb,bb⟩:=Q.nk b M;have ω:=ne gb;have ν:H5 b=a_ (.a8 vs):=by rwa[aa ω]at hw
    have hba:a≠b:=by rintro rfl;rw[a5]at ν;cases ν
    refine⟨.inl ⟨_6,vs,h8.of ν⟩,_,Δ,b,bz,vs,zs,_6,_6,ν,.inl (Nn (h8.am R5.gh sq)),by lia,hl,?_,β,Fz j ds L,τ,?_,r⟩
    .rw[aa ω.symm];exact c5
    .rw[ll ω];refine⟨s2,R5.chg gb bb (C b (μ b M)) _,x5.wr gb bb,f3,?_,g2,nx Q hw dl,κ,C a ι,λc hc=>C c (μ c hc)⟩;rw[aa hba];exact ta5
   .have R6:=R5.chg g2 ba (C a ι) (.dK (cv n j (.ref l)));have x6:=x5.wr (o:=.dK (cv n j (.ref l))) g2 ba;have gr6:qe kD (kx X) G2 B (c0 (c0 H5 c (.dK g)) a (.dK (cv n j (.ref l)))) n Ψ L:=Q.keep λb M=>by obtain⟨⟨ws,hw⟩,_⟩:=Q.nk b M;rw[aa (by rintro rfl;rw[ta5]at hw;cases hw)]
    have l6:c0 H5 a (.dK (cv n j (.ref l))) l=a_ (.a8 []):=by rw[aa Θ];exact l5
    refine⟨.inl ⟨_6,[],h8.of l6⟩,_,Δ,l,bz,[],zs,_6,_6,l6,.inl (Nn (c:=c) (ew:=g) (by rw[ll Y];exact h8.am R6.gh sq)),by simp;lia,hl,?_,β,Fz j ds L,τ,?_,r⟩
    .rw[aa δ.symm,aa Y.symm];exact c5
    .rw[ll δ,ll Y];refine .mk (es:=cv n j (.ref l)) (bs:=Ψ++[l]) s2 (R6.chg gl bl nl _) (x6.wr gl bl) f3 ?_ g2 ?_ ?_ (C a ι) λb M=>?_
     .rw[aa Θ.symm,ae]
     .have g7:=(gr6.keep (H':=c0 (c0 (c0 H5 c (.dK g)) a (.dK (cv n j (.ref l)))) l (.a8 ([]++zs))) λb M=>aa (hlb b M).symm).putL en ae gl bl dl;rw[<-Aa en]at g7;exact g7
     .rw[jE];refine⟨κ,by simp,λb M c hc=>?_⟩;have:c=l:=by simpa using hc
      subst this;exact(hlb b M).symm
     .rcases O_.mp M with M|M
      .exact C b (μ b M)
      .have:b=l:=by simpa using M
       subst this;exact nl
  |_=>cases r
 .cases fl with
  |next=>obtain⟨J,H',I',hc',gr⟩:=z;exact⟨J,_,I'.retag hc' _6 λH''=>back H'' _ (L9 I'.e6 hc'),fin J _ gr⟩
  |ret u=>obtain⟨_,_,_,_,_,z⟩:=z;exact z.elim
  |brk=>obtain⟨_,_,_,z⟩:=z;exact cS z
  |cont=>obtain⟨_,_,_,z⟩:=z;exact cS z
end
end
end Pu
section
namespace PySem
section
variable{prog:aV}{w:bP}{K:Type}[P_ K]{knd:_Y prog w K}{A:bT}{E:aC->aE->Prop}{s:aE}
def Pw{d a:g_}{xs:b_ (K×g_×aC)}{k:K}{v:aC}{Q:_r->aE->Prop}(B:knd.room A)(c:knd.is s.1 k a)(C:s.1.DictOfH knd d xs)(b:k∉xs.map (·.1))(m:_7 xs<=aG)
  (I:∀q,q.DictOfH knd d (xs++[(k,a,v)])->bN d s.1 q->Q () {s with heap:=q}):aP (aW prog w) A (oV d (.ref a) (knd.hash k) v) Q E s:=by
 obtain⟨o,J,L,g,H,f,n,i,r⟩:=C;unfold oV
 try with_reducible refine cK ?_
 refine aA (wpAny_dictFind_heap B c g f n i r (λZ=>?_) λj p G=>?_)
 .have u:J.size<=aG:=by rw[pS n];exact m
  have l:=dQ (h:=s.1) (a:=d);refine aA (gV (U! (hz:=u) g f (I _ ⟨_,_,L+1,dR _ g (W? (jP f _)),H.mapDictKeys _,jP f _,?_,λx e=>?_,?_⟩ (l _))))
  .simp[n,nP]
  .rcases O_.mp e with e|e
   .exact knd.keeps (i x e) g f (l _)
   .rw[N_.mp e];exact knd.keeps c g f (l _)
  .rw[pT,jE];refine⟨r,by simp,λx e y z=>?_⟩
   rintro rfl
   have:x=k:=by simpa using z
   exact b (this▸e)
 .exact u_ (Y_.mpr ⟨_,eT G,_6⟩) b
def Hc{nm:F_}{d o:g_}{xs f:b_ (K×g_×aC)}{Q:_r->aE->Prop}(hu:knd.room A)(J:d≠o)(κ:(o==dD)=e_)(hd:s.1.DictOfH knd d xs)(ho:s.1.DictOfH knd o f)
  (μ:xs≠[])(O:((xs++f).map (·.1)).Nodup)(ω:_7 xs+_7 f<=aG)
  (hQ:∀j,j.DictOfH knd d (xs++f)->bN d s.1 j->Q () {s with heap:=j}):aP (aW prog w) A (_j nm d o) Q E s:=by
 obtain⟨od,ν,epd,M,Φ,δ,γ,υ,τ⟩:=id hd;obtain⟨oo,c,epo,n,Ξ,g,β,Y,Δ⟩:=id ho;unfold _j;rw[aJ (by simpa using J)];unfold gY;rw[aJ (by rw[κ];exact p_)];refine aA (aD ?_);refine aA (dI n g ?_);have U:c.size=_7 f:=pS β;have q:aP (aW prog w) A (do
   let L <-dictEpoch o;let l <-dictEntries o
   forIn [:l.size] nX λi (_:PUnit)=>(do
     let l' <-dictEntries o
     match l'[i]? with
      |some e=>do
       mK [e.key,e.val] (oV d e.key e.hash e.val)
       let ξ <-dictEpoch o
       if(ξ !=L)=d_ then do
         (unsupported (pY nm++pY ":source-changed-during-callback"):N! PUnit)
         pure (hV nX)
        else pure (hV nX)
      |_=>do
       (unsupported "internal:dict-merge":N! PUnit)
       pure (hV nX):N! (ForInStep PUnit))
   pure ()) Q E s:=by
  refine aA (gG n g (aA (dI n g (aA ?_))));rw[Std.Legacy.Range.forIn_eq_forIn_range'];simp only[Std.Legacy.Range.size,Nat.sub_zero,Nat.add_sub_cancel,Nat.div_one];refine iK _ (λbc Z s'=>∃j i,s'={s with heap:=j}/\bc=List.range' i (c.size-i)/\i<=c.size/\j.DictOfH knd d (xs++f.take i)/\bN d s.1 j) _ ?_ ?_ _ _ ⟨s.1,0,_6,by simp,cM _,by simpa using hd,Heap.SameBut.refl _ _⟩
  .rintro x bc b s' ⟨j,i,rfl,G,hi,p,m⟩
   by_cases I:i<c.size
   case neg=>rw[Nat.sub_eq_zero_of_le (mC I)]at G;simp at G
   rw[show c.size-i=(c.size-(i+1))+1 by lia,L!]at G;obtain⟨rfl,C⟩:=List.cons.inj G;have u:j.get? o=a_ oo:=(m.2 o (cW J)).trans n;have B:x<_7 f:=by rw[<-U];exact I
   refine aA (dI u g ?_);obtain⟨⟨k,a,v⟩,hk⟩:∃y,f[x]?=a_ y:=⟨_,bF B⟩;rw[entry_at β x,hk];have T:(k,a,v)∈f:=eT hk;have ι:f.take (x+1)=f.take x++[(k,a,v)]:=by rw[List.take_add_one,hk];rfl
   have N:k∉(xs++f.take x).map (·.1):=λα=>by
    have e:xs++f=(xs++f.take x)++(k,a,v)::f.drop (x+1):=by
     rw[lH]
     congr 1
     rw[show(k,a,v)::f.drop (x+1)=f.drop x from by
      rw[cU B,(aZ ((bF B).symm.trans hk))],List.take_append_drop]
    rw[e,pT,jE]at O;exact O.2.2 k α k (by simp) _6
   show aP _ _ (mK [bH a,v] (oV d (.ref a) (knd.hash k) v)>>=_) _ _ _;refine aA (cK (Pw (s:={s with heap:=j}) hu (knd.keeps (Y _ T) M δ m) p N (by rw[bS,oY];lia) λζ ε r=>?_));have H:ζ.get? o=a_ oo:=(r.2 o (cW J)).trans u;refine aA (gG H g ?_);rw[aJ (by simp)];exact aD ⟨ζ,x+1,_6,C,I,by rw[ι,<-lH];exact ε,m.trans r⟩
  .rintro b s' ⟨j,i,rfl,G,hi,p,m⟩
   have α:c.size<=i:=by
    rcases Nat.lt_or_ge i c.size with h|h
    .rw[show c.size-i=(c.size-(i+1))+1 by lia,L!]at G;exact nomatch G
    .exact h
   refine aD (hQ j ?_ m);rw[List.take_of_length_le (by lia)]at p;exact p
 dsimp only;split
 .refine aA (dI M δ ?_);rw[aJ (by
   intro z;have h0:ν=#[]:=Array.isEmpty_iff.mp z;rw[h0]at γ;exact μ (List.map_eq_nil_iff.mp γ.symm))]
  exact q
 .exact q
def v7(knd:_Y prog w K)(d o:g_)(l:d≠o)(g:(o==dD)=e_):
  MeetsIn prog w (z_.«dict.update» ⟨[.ref d,.ref o],[]⟩) (λA R s=>knd.room A.in1/\∃xs a,s.1.DictOfH knd d xs/\s.1.DictOfH knd o a/\xs≠[]/\((xs++a).map (·.1)).Nodup/\_7 xs+_7 a<=aG/\
   ∀b,b.DictOfH knd d (xs++a)->bN d s.1 b->R (.ok (.ret .none)) {s with heap:=b}):=
 .of_wp λA R s ⟨p,xs,a,n,c,i,j,e,h⟩=>by unfold z_.«dict.update» kK;refine aA (aA (fK n.typeIs ?_));show aP _ _ (pure (d,[bH o])) _ _ s;refine aD ?_;show aP _ _ (eV "dict.update" d (.ref o) [] .none) _ _ s;unfold eV Builtin.Dict.merge Builtin.Dict.readDirectly;refine aA (lR c.typeIs ?_);rw[aJ (by decide)];refine aA (aA (aA (fL c.typeIs isSubtype_dict_dict ?_)));simp only[iF,m_,A_];refine aA (kL c.typeIs F.slot_dict_iter.lookup (aD ?_));simp only[U_,K_];refine aA (aD (Hc p l g n c i j e λb m f=>?_));show aP _ _ (kJ d []>>=_) _ _ _;exact aA (aD (aD ⟨.none,_6,h b m f⟩))
end
end PySem
namespace Pu
open L2
inductive rUpdT(x:V)(xs:b_ V)(H:Hp)(Q:VK):Prop
 |mk (a b es em) (_:x=.ref a) (_:xs=[.ref b]) (_:H a=a_ (.dT es)) (_:Rd H b (.dT em)) (_:a≠b) (_:es≠[]) (_:((es++em).map (·.1)).Nodup) (_:_7 es+_7 em<=aG) (_:Q .fm (c0 H a (.dT (es++em)))):rUpdT x xs H Q
def Pa{H:Hp}{es b:b_ (ah×V)}{xs a:b_ (ah×g_×aC)}(h:KT H es xs)(k:KT H b a):KT H (es++b) (xs++a):=by
 induction h with
 |nil=>exact k
 |cons r _ c=>exact .cons r c
def CA{H:Hp}{es:b_ (ah×V)}{xs:b_ (ah×g_×aC)}(h:KT H es xs):xs.map (·.1)=es.map (·.1):=by
 induction h with
 |nil=>rfl
 |cons r _ a=>rw[bK,bK,a,r.1]
def Xm{X:Cx}(N:X.A.units+5<cP):LP X "dict.update" rUpdT:=by
 intro y s σ H x xs v us Q I G J h;obtain⟨a,b,es,em,rfl,rfl,m,U,l,g,i,f,q⟩:=h;cases G;obtain⟨u,rfl,L⟩:=J.pv;cases L;obtain⟨z,T,xs,rel,E⟩:=Fm I.e6 m;obtain⟨z2,j,r,d,n⟩:=wm I.e6 U;have M:=eA rel;have l2:=eA d;have rl:=Pa rel d;refine iT _y E.typeIs PySem.F.entry_dict_update (PySem.F.args_dict_update_2 _ _) (v7 (bw X.prog X.w) a b l j)
  ⟨b8 N,xs,r,E,n,λe=>g (X_.mp (by rw[M,e];rfl)),by rw[CA rl];exact i,by lia,λh' p O=>?_⟩
 obtain⟨o,dt,ep,B,g2,g3,g4,_,Y⟩:=p;refine⟨.fm,_,qa (t':=s.toks) (ob:=.dT (es++em)) I (by rw[m];exact eF) O ⟨o,B⟩ ⟨by rw[bS];exact f,T,_,KT.keeps rl λc r C=>?_,o,dt,ep,B,g2,g3,g4,Y⟩,_6,q⟩;rw[aa (Ms C m (λz=>nomatch z))];exact C
end Pu
end
namespace Pu
open L2
def qe.ls{K:KA}{G B H a:Hp}{es:b_ (cj×V)}{bs:b_ g_}{gs:b_ (D×b_ D)}(h:qe kD K G B H es bs gs):(∀b∈bs,a b=H b)->LsR K G a es gs:=by
 induction h with
 |nil=>exact λq=>.nil
 |cons g f _ _ _ d=>exact λk=>.cons ((k _ bI).trans g) f (d λc e=>k c (bJ _ e))
def ce.lend{K:KA}{B G H:Hp}{σ:St}{U:En}{f:h_}{a:g_}{es:b_ (cj×V)}{bs:b_ g_}{gs:b_ (D×b_ D)}(R:ce K B G H σ U)(w:σ[f]?=a_ (a_ (V.ref a)))(O:H a=a_ (.dK es))(M:qe kD K G B H es bs gs)(no:ks σ U a)(E:∀c∈bs,ks σ U c):
  ∃Q,ce K Q G H σ (U.set f (.bo (Cv gs))):=by
 have L:f<_7 U:=by rw[<-R.len];exact(i_.mp w).1
 have p:a6 B (λc=>if c=a\/c∈bs then H c else B c):=λb u q=>by
  by_cases z:b=a\/b∈bs
  .show(if b=a\/b∈bs then H b else B b)=_;rw[aO z];exact R.bh b u q
  .show(if b=a\/b∈bs then H b else B b)=_;rw[aJ z];exact q
 have nz:∀{j:h_}{s:Sl},(U.set f (.bo (Cv gs)))[j]?=a_ s->(j=f/\s=.bo (Cv gs))\/(j≠f/\U[j]?=a_ s):=λ{j s} q=>by
  by_cases z:f=j
  .subst z;rw[aQ L]at q;exact .inl ⟨_6,(aZ q).symm⟩
  .rw[aN z]at q;exact .inr ⟨λy=>z y.symm,q⟩
 have ow:∀{j:h_}{s:Sl},(U.set f (.bo (Cv gs)))[j]?=a_ s->s.own=d_->U[j]?=a_ s:=λq J=>by
  rcases nz q with⟨_,rfl⟩|⟨_,q⟩
  .cases J
  .exact q
 refine⟨λc=>if c=a\/c∈bs then H c else B c,λb u q=>?_,R.gh,by rw[bL];exact R.len,λj s q=>?_,λj s b m e h=>?_,λi j s t b m e h r=>R.rE i j s t b (ow m h) (ow e r) h r,R.gb.same p⟩
 .by_cases z:b=a\/b∈bs
  .rw[aO z]at q;exact q
  .rw[aJ z]at q;exact R.bh b u q
 .rcases nz q with⟨rfl,rfl⟩|⟨_,q⟩
  .exact⟨_,w,.ref a,_6,.inr (.inr (.inr ⟨gs,a,es,_6,_6,(aO (.inl _6)).trans O,M.ls λb n=>aO (.inr n)⟩))⟩
  .obtain⟨o,x,l⟩:=R.sl j s q;refine⟨o,x,?_⟩;cases s with
   |bo d=>obtain⟨v,C,A⟩:=l;exact⟨v,C,HG p A⟩
   |no=>exact l
   |pu d=>exact l
   |ow T=>exact l
   |od t I=>cases t<;>exact l
 .obtain⟨g,N⟩:=R.own j s b (ow m e) e h;refine⟨g,?_⟩;show(if b=a\/b∈bs then H b else B b)=_;rw[aJ ?_]
  .exact N
  .rintro (rfl|n)
   .exact no j s (ow m e) e h
   .exact E b n j s (ow m e) e h
section
variable{X:Cx}{G0 B:Hp}{E:EK}{e c:Expr}{g:En->bi}{x m:k_}{p pm ap cp ep pos pos':v_}{f i ic im:h_}
inductive tLe(X:Cx)(G0 B:Hp)(f i:h_)(g:En->bi)(D:qh)(σ:St)(H:Hp):Prop
 |mk (G1 a U gs d) (_:GrS (Eo X) G0 B G1 f a U gs σ H) (_:g (U.set f (.bo (Cv gs)))=.ok d) (_:∀σ' H',GrS (Eo X) G0 B G1 f a (U.set i (.pu d)) gs σ' H'->D.nx σ' H'):tLe X G0 B f i g D σ H
def JE(L:∀y,ck X y E e g)(J:∀z,PE X e z->PS X (.Assign [.Name x pos'] e pos) (Ba z (ij i)))(q:i≠f):PS X (.Assign [.Name x pos'] e pos) (tLe X G0 B f i g):=by intro j s σ H D I h;obtain⟨G1,a,U,gs,d,@⟨G,Y,bs,s0,R,C,A,w,N,o,r,l,n⟩,O,u⟩:=h;obtain⟨y,T⟩:=R.lend A w o l n;refine J _ (L y) j s σ H D I ⟨G,_,T,?_⟩;rw[O];intro v G' H' b Q;exact u _ _ ⟨s0.trans b.gg,(R.ext b).set Q,C.trans b,by rw[aN q];exact A,b.hh _ _ w,b.fr _ _ w N _6,o.ext b,r,ks.set l,λc M=>ks.set (n c M)⟩
inductive tUp(X:Cx)(G0 B:Hp)(f ic im:h_)(D:qh)(σ:St)(H:Hp):Prop
 |mk (G1 a U gs kvs mvs) (_:GrS (Eo X) G0 B G1 f a U gs σ H) (_:U[ic]?=a_ (.od d_ kvs)) (_:U[im]?=a_ (.pu (.h7 d_ mvs))) (_:kvs≠[]) (_:_7 kvs+_7 mvs<=aG) (_:((kvs++mvs).map λp=>ar p.1).Nodup) (_:∀σ' H',GrS (Eo X) G0 B G1 f a (U.set ic (.od d_ (kvs++mvs))) gs σ' H'->D.nx σ' H'):tUp X G0 B f ic im D σ H
theorem fu.append{K:KA}{G:Hp}:∀{b a:b_ (D×D)}{es d:b_ (ah×V)},fu K G b es->fu K G a d->fu K G (b++a) (es++d)
 |[],_,es,_,h,k=>by rw[show es=[]from h];exact k
 |(_,_)::_,_,_,_,⟨j,v,r,q,o,n,l⟩,k=>by subst q;exact⟨j,v,_,_6,o,n,fu.append l k⟩
def Wo{K:KA}{G:Hp}{a:b_ (D×D)}{es:b_ (ah×V)}(h:fu K G a es):(a.map λp=>ar p.1)=es.map λp=>a_ p.1:=by have:=C_ (List.map ar) (gw h);rw[nI,nI]at this;rw[show(λp:D×D=>ar p.1)=ar ∘ (·.1)from rfl,this];exact F? λp q=>k6 p.1
def PH(hu:X.A.units+5<cP)(hx:PE X (.Name x p) (fh ic))(hm:PE X (.Name m pm) (fh im))(l:(ap.endLine==cp.line)=d_):PS X (.Expr (.Call (.Attribute (.Name x p) "update" ap) [.Name m pm] [] cp) ep) (tUp X G0 B f ic im):=
 PS.imp (je (oz cZ _y PySem.F.type_dict_update (Xm hu) hx (cg hm f7 _6) _6 (Lz _6) l _6 _6) _6) λD σ H h=>by
  obtain⟨G1,a,U,gs,y,n,@⟨G,es,bs,s0,R,x0,f0,a0,g0,Y,N,u,w⟩,ek,em,T,ρ,C,α⟩:=h;obtain⟨c,J,I,M,q3,L,q5⟩:=R.odAtT ek;obtain⟨v,z1,b,rfl,h2⟩:=R.var em;obtain⟨r,d,gb,db⟩:∃r d,G b=a_ (.n4 r (.dT d))/\fu (kx X) G n d:=by
   obtain ⟨z,_⟩|⟨_,r,d,h3,h4⟩:=h2
   .cases z
   .exact⟨r,d,h3,h4⟩
  have dn:=q3.append db;have l1:_7 y=_7 J:=by have:=C_ fT (gw q3);simpa using this
  have l2:_7 n=_7 d:=by have:=C_ fT (gw db);simpa using this
  have O:c≠b:=by rintro rfl;rw[gb]at L;cases L
  have Q:c≠a:=by rintro rfl;exact u ic _ ek _6 I
  have own:∀o,ks σ U o->ks σ (U.set ic (.od d_ (y++n))) o:=λo q j s e1 e2 e3=>by
   by_cases z:ic=j
   .subst z;exact q ic _ ek _6 e3
   .rw[aN z]at e1;exact q j s e1 e2 e3
  refine⟨.ref c,I,.inr (.inr (.inl ⟨_6,.inr ⟨J,M⟩⟩)),.ref b,z1,c,b,J,d,_6,_6,M,.inr ⟨r,R.gh _ _ gb⟩,O,λz=>T (X_.mp (by rw[l1,z];rfl)),?_,by lia,α _ _ ?_⟩
  .rw[Wo dn]at C;have:(((J++d).map (·.1)).map a_).Nodup:=by rw[nI];exact C
   exact List.Pairwise.of_map _ (λa b h z=>h (C_ a_ z)) this
  .refine⟨s0,R.wrDT ek I M dn,x0.wr L q5,f0,by rw[aa Q.symm];exact a0,g0,Y.keep λo q=>?_,N,own a u,λo q=>own o (w o q)⟩;exact aa (by rintro rfl;exact w _ q ic _ ek _6 I)
end
def PQ:bi->f_ D
 |.ok d=>a_ d
 |_=>c_
def Tv(b:h_)(U:En):f_ (b_ (D×D)):=match U[b]? with
 |some (.pu (.h7 e_ a))=>a_ a
 |_=>c_
def KJ(c d:h_)(U:En):f_ En:=match U[c]?,U[d]? with
 |some (.od d_ a),a_ (.pu (.h7 d_ b))=>if a≠[]/\_7 a+_7 b<=aG/\((a++b).map λp=>ar p.1).Nodup then a_ (U.set c (.od d_ (a++b)))else c_
 |_,_=>c_
def Zn(f c h g e i:h_)(g2 j:En->bi)(U:En)(gs:b_ (D×b_ D)):f_ (En×b_ (D×b_ D)):=
 (Tv c U).bind λb=>(Oy h g b U gs).bind λq=>(PQ (g2 (q.1.set f (.bo (Cv q.2))))).bind λd=>
  (KJ i e (q.1.set e (.pu d))).bind λa=>(PQ (j (a.set f (.bo (Cv q.2))))).map λl=>(a.set c (.pu l),q.2)
def Bh(f c b a e d:h_)(g g2 h:En->bi):h_->En->b_ (D×b_ D)->f_ En
 |0,_,_=>c_
 |n+1,U,gs=>match g U with
  |.ok (.bl e_)=>a_ U
  | .ok (.bl d_) => (match Zn f c b a e d g2 h U gs with
   |some q=>Bh f c b a e d g g2 h n q.1 q.2
   |none=>c_)
  |_=>c_
def uq(f d c b h e:h_)(g g2 i:En->bi):En->fq:=λU=>match U[f]? with
 | a_ (.od e_ []) => (match Bh f d c b h e g g2 i Ie (U.set f .no) [] with
  |some a=>.nx a
  |none=>.st)
 |_=>.st
def Gn{r:bi}{d:D}(h:PQ r=a_ d):r=.ok d:=by cases r<;>first|(cases h;rfl)|cases h
section
variable{X:Cx}{G0 B:Hp}{E:EK}{c:Expr}{s1 s2 s3 s4:s_}{pos:v_}{f jw jy jz i2 ic:h_}{g g2 g4:En->bi}
set_option tactic.hygienic true in
def U8(hp:kU (aW X.prog X.w) X.A X.env X.xe)(b:ph X B E c g)(h1:PS X s1 (tEx X G0 B f jy jz jw))(h2:PS X s2 (tLe X G0 B f i2 g2))(h3:PS X s3 (tUp X G0 B f ic i2))(h4:PS X s4 (tLe X G0 B f jw g4)):
  ja X G0 B E (.While c [s1,s2,s3,s4] [] pos) (uq f jw jy jz i2 ic g g2 g4):=by
 intro y s σ H D I ⟨G,U,R,ex,q⟩;unfold uq at q;split at q
 case h_2=>exact q.elim
 rename_i ed;obtain⟨a,es,q1,ha,he,ga,ba⟩:=R.odAt ed;cases (show es=[]from he);have R0:=R.drop f;have O:ks σ (U.set f .no) a:=λj s' e i e3=>by
  by_cases z:f=j
  .subst z;have hl:f<_7 U:=(i_.mp ed).1;rw[aQ hl]at e;cases (e);cases (i)
  .rw[aN z]at e;exact z (R.rE f j _ _ a ed e _6 i q1 e3)
 cases eg:Bh f jw jy jz i2 ic g g2 g4 Ie (U.set f .no) []with
 |none=>rw[eg]at q;exact q.elim
 |some v=>
  rw[eg]at q;refine Gz (pos:=pos) hp b (jn h1 (jn h2 (jn h3 (mf h4)))) y s σ H D I ⟨λm n L=>∃h o,GrS (Eo X) G0 B G f a h o n L/\Bh f jw jy jz i2 ic g g2 g4 m h o=a_ v,
   ⟨Ie,U.set f .no,[],⟨a6.refl G,R0,ex,q1,ha,ga,.nil,nR,O,λc hc=>nomatch hc⟩,eg⟩,?_⟩
  rintro m M H2 ⟨h,o,@⟨G2,es2,bs2,s2,R2,x2,f2,a2,η,ζ,Q,N,T⟩,i⟩
  cases m with
  |zero=>cases (i)
  |succ m=>
   unfold Bh at i;refine⟨G2,h,R2,?_⟩;split at i
   .rename_i h0;rw[h0];cases (i);exact⟨e_,_6,λG1 H1 e=>by rw[aJ p_];exact q M G1 H1 (s2.trans e.gg) (R2.ext e) (x2.trans e)⟩
   .rename_i h0;rw[h0];split at i
    case h_2=>cases (i)
    rename_i qq l;refine⟨d_,_6,λG1 H1 e=>?_⟩;rw[aO _6];refine⟨λn L=>∃r C,GrS (Eo X) G0 B G f a r C n L/\Bh f jw jy jz i2 ic g g2 g4 m r C=a_ v,λn L z=>⟨m,iM m,z⟩,?_⟩;unfold Zn at l;obtain⟨Y,J,l⟩:=B_.mp l;obtain⟨⟨x,p⟩,b2,l⟩:=B_.mp l;obtain⟨d,b3,l⟩:=B_.mp l;obtain⟨r,u,l⟩:=B_.mp l;obtain⟨d4,b5,rfl⟩:=x_.mp l;unfold Tv at J;split at J
    case h_2=>cases (J)
    rename_i hw;cases (J);have b3:=Gn b3;have b5:=Gn b5;unfold KJ at u;split at u
    case h_2=>cases (u)
    rename_i ku mu u1 u2;split at u
    case isFalse=>cases (u)
    rename_i b;cases (u);obtain⟨c1,c2,c3⟩:=b;exact⟨G,a,h,o,Y,x,p,⟨s2.trans e.gg,R2.ext e,x2.trans e,f2,e.hh _ _ a2,e.fr _ _ a2 η _6,ζ.ext e,Q,N,T⟩,ba,hw,b2,λω H3 ε=>
     ⟨G,a,x,p,d,ε,b3,λψ H4 δ=>⟨G,a,_,p,ku,mu,δ,u1,u2,c1,c2,c3,λχ H5 γ=>⟨G,a,_,p,d4,γ,b5,λφ H6 β=>⟨_,_,β,i⟩⟩⟩⟩⟩
   .cases (i)
end
section
variable{prog:aV}{w:bP}
def GS{f:b_ cj}{b:g_}{h g:r_}(m:∀c o,h.get? c=a_ o->g.get? c=a_ o)(q:pK (ao prog w) h f b):pK (ao prog w) g f b:=by obtain⟨i,a,n,d,l,e,j⟩:=q;exact⟨i,a,n,m _ _ d,l,e,j⟩
def DY{h g:r_}(m:∀c o,h.get? c=a_ o->g.get? c=a_ o):∀{a:ah}{d:b_ aC},hZ prog w h a d->hZ prog w g a d:=by
 intro a;induction a with
 |nil=>rintro _ e;exact e
 |cons k a i=>
  rintro _ ⟨v,t,e,f,j⟩
  refine⟨v,t,e,?_,i j⟩;cases k with
  |inl k=>exact f
  |inr l=>obtain⟨b,e,q⟩:=f;exact⟨b,e,GS m q⟩
def J9{f:ah}{b:g_}{h g:r_}(m:∀c o,h.get? c=a_ o->g.get? c=a_ o)(q:il prog w h f b):il prog w g f b:=by obtain⟨i,a,n,d,l,e,j⟩:=q;exact⟨i,a,n,m _ _ d,l,e,DY m j⟩
inductive rH(prog:aV)(w:bP)(h:r_)(x:ah×g_×aC)(v:aC):Prop
 |mk (p o n) (_:v=.ref p) (_:h.get? p=a_ o) (_:o.cls=.type "tuple") (_:o.data=.seq #[.ref x.2.1,x.2.2] n) (_:il prog w h x.1 x.2.1):rH prog w h x v
def rH.up{h a:r_}{x:ah×g_×aC}{v:aC}(m:∀c o,h.get? c=a_ o->a.get? c=a_ o)(q:rH prog w h x v):rH prog w a x v:=by obtain⟨p,o,n,e,g1,g2,d,b⟩:=q;exact⟨p,o,n,e,m _ _ g1,g2,d,J9 m b⟩
def xu(b a:b_ (ah×g_×aC)):b_ (ah×g_×aC):=a.foldl (λc x=>nG c x.1 x.2.1 x.2.2) b
def Hz(xs:b_ (ah×g_×aC))(k:ah)(a:g_)(v:aC):(nG xs k a v).length<=_7 xs+1:=by unfold nG;split<;>simp
variable{A:bT}{R:_G->aE->Prop}{I:g_}{fp wr:b_ g_}{St:h_->r_->Prop}{ps:b_ (ah×g_×aC)}{items:q_ aC}{h0:r_}
def Gu(W:Walks prog w A.in1 I fp wr ps.length (λi v=>items[i]?=a_ v) St)(hu:(bw prog w).room A.in1)(d:g_)(hd:d∉fp)(hz:_7 ps<=aG)(G:∀c o,h0.get? c=a_ o->c≠d/\c∉wr)(hP:∀(j:h_) x v,ps[j]?=a_ x->items[j]?=a_ v->rH prog w h0 x v):
  ∀(bc:b_ (ah×g_×aC))(i:h_)(s:aE)(a:b_ (ah×g_×aC)),ps.drop i=bc->i<=_7 ps->St i s.1->s.1.DictOfH (bw prog w) d a->_7 a<=i->(∀c o,h0.get? c=a_ o->s.1.get? c=a_ o)->(∀x∈a,il prog w h0 x.1 x.2.1)->
   (∀r B,(∀b o,b≠d->b∉wr->s.1.get? b=a_ o->r.get? b=a_ o)->r.DictOfH (bw prog w) d (xu a bc)->R (.ok (.ret .none)) {s with heap:=r,toks:=B})->
   gX (aW prog w) A (.builtin "dict.update.loop" ⟨[.ref d,.ref I,cX i,.none],[]⟩) R s:=by
 have H:d∉wr:=λz=>hd (W.sub _ z);intro bc;induction bc with
 |nil=>
  intro i s a g hi st hT u l J hR;have α:i=_7 ps:=by
   have:=C_ fT g;rw[jU,gD]at this
   lia
  subst α;refine gJ gm ?_;rw[dY cc _];show aP _ A.in1 (eY (.ref I)>>=_) _ _ s;refine aA (W.done s _ _ st λr B u=>?_);show aP _ A.in1 (kJ d []>>=λZ=>ret bV) _ _ _;refine aA (aD (aD (hR r B (λb o Z G e=>u b o G e) ?_)));obtain⟨o,es,ep,L,N,h3,h4,_,h6⟩:=hT;exact⟨o,es,ep,u d o H L,N,h3,h4,λx f=>J9 (λc o e=>u c o (G c o e).2 (l c o e)) (J x f),h6⟩
 |cons n bc ih=>
  intro i s a g hi st hT Γ l J hR;have E:i<_7 ps:=by
   have:=C_ fT g;rw[jU,aR]at this
   lia
  have Y:ps[i]?=a_ n:=by
   have:(ps.drop i)[0]?=a_ n:=by rw[g];rfl
   simpa using this
  have β:ps.drop (i+1)=bc:=by
   have:(ps.drop i).drop 1=bc:=by rw[g];rfl
   rw[List.drop_drop]at this;exact this
  refine gJ gm ?_;rw[dY cc _];show aP _ A.in1 (eY (.ref I)>>=_) _ _ s;refine aA (W.item i s _ _ E st λv L O hv Q h=>?_);have U:∀c o,h0.get? c=a_ o->L.get? c=a_ o:=λc o e=>h c o (G c o e).2 (l c o e);have C:=hP i n v Y hv;obtain⟨p,o,m,rfl,g1,g2,g3,g4⟩:=C.up U;have ε:L.DictOfH (bw prog w) d a:=by obtain⟨o,es,ep,z1,z2,z3,z4,_,z6⟩:=hT;exact⟨o,es,ep,h d o H z1,z2,z3,z4,λx f=>J9 U (J x f),z6⟩
  have γ:kH {s with heap:=L,toks:=O} (.ref p) "tuple":=⟨o,g1,g2⟩;show aP _ A.in1 (mK [bH p] _>>=_) _ _ _;refine aA (cK ?_);refine aA (jS ?_);unfold lS;refine aA (lR γ ?_);rw[aO (by decide)];refine aA (cV g1 g3 (aD ?_));show aP _ A.in1 (mK [.ref n.2.1,n.2.2] (dictSet d (.ref n.2.1) n.2.2)) _ _ _;refine cK (wpAny_dictSet_heap (hsz:=by lia) hu g4 ε λN δ T=>?_);refine aD ⟨gR cc _,?_⟩;have ei:cX ((i:n_)+1)=cX ((i+1:h_):n_):=by push_cast;rfl
  show gX (aW prog w) A (.builtin "dict.update.loop" ⟨[.ref d,.ref I,cX ((i:n_)+1),.none],[]⟩) R _;rw[ei];refine ih (i+1) _ (nG a n.1 n.2.1 n.2.2) β E (W.frame _ _ _ Q λc M o e=>?_) δ ?_ (λc o e=>?_) (λx f=>?_) λr B u ζ=>?_
  .rw[T.2 c (λz:c=d=>hd (z▸M))];exact e
  .have:=Hz a n.1 n.2.1 n.2.2;lia
  .show N.get? c=a_ o;rw[T.2 c (G c o e).1];exact U c o e
  .obtain⟨_,_,_,_,_,_,_,q⟩:=C;unfold nG at f;split at f
   .obtain⟨y,hy,rfl⟩:=Y_.mp f;have:=J y hy;unfold putAt;split<;>exact this
   .rcases O_.mp f with f|f
    .exact J x f
    .rw[N_.mp f];exact q
  .refine hR r B (λc o M hw e=>u c o M hw ?_) ζ;show N.get? c=a_ o;rw[T.2 c M];exact h c o hw e
end
section
variable{prog:aV}{w:bP}{A:bT}{E:aC->aE->Prop}{s:aE}
def Ir{l:g_}{b:q_ aC}{n:h_}{sl:q_ (f_ aC)}{ps:b_ (ah×g_×aC)}{Q:aC->aE->Prop}(hu:A.units+8<cP)(hh:A.handled=c_)(hl:s.1.get? l=a_ {cls:=.type "list",dict:=c_,data:=.seq b n,slots:=sl})(r:b.size=_7 ps)(hz:_7 ps<=aG)
  (hP:∀(j:h_) x v,ps[j]?=a_ x->b[j]?=a_ v->rH prog w s.1 x v)
  (h:∀z Y,z.DictOfH (bw prog w) s.1.1.size (xu [] ps)->(∀c o,s.1.get? c=a_ o->z.get? c=a_ o)->Q (.ref s.1.1.size) {s with heap:=z,toks:=Y}):
  aP (aW prog w) A (call (.type "dict") [.ref l]) Q E s:=by
 refine q? (Q₁:=λobj d=>obj=.ref s.1.1.size/\d={s with heap:=s.1.push {cls:=.type "dict",data:=.dict #[]}}) F.kt_called_dict (F.kt_typeCall_dict_1 _) F.entry_dict_init (kt_code_dict_new _ ⟨_6,_6⟩) ?_
 rintro obj d ⟨rfl,rfl⟩
 have a:(s.1.push {cls:=.type "dict",data:=.dict #[]}).DictOfH (bw prog w) s.1.1.size []:=Heap.DictOfH.new s.1;generalize T:s.1.push {cls:=.type "dict",data:=.dict #[]}=h1 at a⊢;have H:∀c o,s.1.get? c=a_ o->h1.get? c=a_ o:=λc o e=>by rw[<-T];exact aB _ e
 have i:=H _ _ hl;have hT:kH {s with heap:=h1} (.ref l) "list":=⟨_,i,_6⟩;refine⟨a.typeIs,F.args_dict_init_2 _ _,?_⟩;unfold z_.«dict.__init__»;refine aA ?_;unfold kK;refine aA (fK a.typeIs ?_);show aP _ _ (pure (s.1.1.size,[bH l])) _ _ _;refine aD ?_;show aP _ _ (eV "dict.__init__" s.1.1.size (.ref l) [] .none) _ _ _;unfold eV;refine aA (lR hT ?_);rw[aO (by decide)];obtain⟨p,g,dr,Y,os⟩:=s;refine aA (Ds i (by simpa using hh) λm ε B=>?_);rw[aO (by rfl)];refine aA (gV ?_);have y:=B _ _ i;refine aA (iD (items:=b) ⟨_,y,_6,n,_6⟩ ?_);refine aD ⟨gR cc _,?_⟩;have u:m.IsList l b:=⟨_,y,_6,n,_6⟩;obtain⟨od,es,ep,O,N,M,L,η,J⟩:=a;have f:=B _ _ O;have C:p.objs.size<m.objs.size:=aM f;have lt:l<p.objs.size:=aM hl;have q:l≠m.objs.size:=bE (pO lt C);have W:=Walks.list (prog:=prog) (w:=w) (A:=A.in1.in1) hh m.objs.size l q b;rw[r]at W;show gX _ _ (.builtin "dict.update.loop" ⟨[_,_,cX ((0:h_):n_),.none],[]⟩) _ _;refine Gu (h0:=p) W (show A.units+1+1+4<cP by lia) p.objs.size ?_ hz (λc o e=>⟨bE (aM e),λU=>?_⟩) hP ps 0 _ [] _6 (cM _) ⟨⟨_,aI _ _6,_6,_6⟩,u.push _⟩ ⟨od,es,ep,aB _ f,N,M,L,λx I=>(by cases I),J⟩ (cM _) (λc o e=>aB _ (B _ _ (H _ _ e))) (λx I=>(by cases I)) λz G hk hD=>⟨_6,h z G hD λc o e=>?_⟩
 .simp only[fR,eU,S_,not_or];exact⟨bE C,cE lt⟩
 .have:c=m.objs.size:=by simpa using U
  exact bE (pO (aM e) C) this
 .have lc:c<p.objs.size:=aM e;refine hk c o (bE lc) (λU=>?_) (aB _ (B _ _ (H _ _ e)));have:c=m.objs.size:=by simpa using U
  exact bE (pO lc C) this
end
def Gr:D->f_ (ah×D)
 |.ci [k,v]=>(ar k).map λj=>(j,v)
 |_=>c_
def kh:b_ D->f_ (b_ (ah×D))
 |[]=>a_ []
 |d::r=>match Gr d,kh r with
  |some p,a_ l=>a_ (p::l)
  |_,_=>c_
def Ki(b:b_ (D×D))(a:b_ (ah×D)):b_ (D×D):=a.foldl (λc p=>Hf c p.1 p.2) b
set_option tactic.hygienic true in
def Tu{d:D}{p:ah×D}(h:Gr d=a_ p):∃k,d=.ci [k,p.2]/\ar k=a_ p.1:=by
 unfold Gr at h;split at h
 .rename_i k v;cases e:ar k with
  |none=>rw[e]at h;cases h
  |some j=>rw[e]at h;cases h;exact⟨k,_6,e⟩
 .cases h
def Gs{d:D}{r:b_ D}{l:b_ (ah×D)}(h:kh (d::r)=a_ l):∃p t,Gr d=a_ p/\kh r=a_ t/\l=p::t:=by
 unfold kh at h;cases a:Gr d with
 |none=>rw[a]at h;cases h
 |some p=>
  cases b:kh r with
  |none=>rw[a,b]at h;cases h
  |some t=>rw[a,b]at h;cases h;exact⟨p,t,_6,_6,_6⟩
def PDT(K:KA)(G:Hp):b_ (ah×D)->b_ (ah×V)->Prop
 |[],[]=>_Z
 |(j,d)::r,(k,v)::q=>j=k/\gy K G d v/\PDT K G r q
 |_,_=>L_
def om(b a:b_ (ah×V)):b_ (ah×V):=a.foldl (λc d=>cv c d.1 d.2) b
def Up(a:b_ (ah×V))(k:ah)(v:V):(cv a k v).length<=_7 a+1:=by unfold cv;split<;>simp
def Kj:∀(a b:b_ (ah×V)),(om b a).length<=_7 b+_7 a:=by
 intro a;induction a with
 |nil=>intro b;exact aL _
 |cons p a c=>
  intro b;have e:=c (cv b p.1 p.2);have d:=Up b p.1 p.2;show(om (cv b p.1 p.2) a).length<=_;rw[aR]
  lia
theorem PDT.merge{K:KA}{G:Hp}:∀{l:b_ (ah×D)}{q:b_ (ah×V)}{kvs:b_ (D×D)}{es:b_ (ah×V)},PDT K G l q->fu K G kvs es->fu K G (Ki kvs l) (om es q)
 |[],[],_,_,_,h=>h
 |(j,d)::r,(k,v)::q,kvs,es,⟨e,a,t⟩,h=>by subst e;exact PDT.merge (l:=r) (q:=q) t (fu.put a h j)
def KT.merge{H:Hp}{a:b_ (ah×V)}{b:b_ (ah×g_×aC)}(r:KT H a b):∀{kvs:b_ (ah×V)}{xs:b_ (ah×g_×aC)},KT H kvs xs->KT H (om kvs a) (xu xs b):=by
 induction r with
 |nil=>intro kvs xs q;exact q
 |@cons p q ps c h t d=>intro kvs xs r;obtain⟨e,g,f⟩:=h;have:=d (KT.put r p.1 g f);show KT H (om (cv kvs p.1 p.2) ps) (xu (nG xs q.1 q.2.1 q.2.2) c);rw[<-e];exact this
section
variable{X:Cx}{B:Hp}{E:EK}{e:Expr}{g:En->bi}{pos p:v_}
set_option tactic.hygienic true in
def Kq{q:b_ (g_×D_)}{σ:St}{G H:Hp}{s:aE}(I:a9 X q σ H s)(L:a6 G H):∀{u:b_ D}{l:b_ (ah×D)}{m:b_ V}{a:b_ aC},kh u=a_ l->bt (kx X) G u m->dg m a->
  ∃(f:b_ (ah×V)) (ps:b_ (ah×g_×aC)),KT H f ps/\PDT (kx X) G l f/\_7 ps=_7 a/\∀(j:h_) x v,ps[j]?=a_ x->a[j]?=a_ v->rH X.prog X.w s.1 x v:=by
 intro u;induction u with
 |nil=>intro l m a h dl r;cases h;cases (show m=[]from dl);cases r;exact⟨[],[],.nil,eF,_6,λj M v e=>by simp at e⟩
 |cons d u ih=>
  intro l m a h dl r;obtain⟨p,t,ep,et,rfl⟩:=Gs h;obtain⟨k,rfl,ek⟩:=Tu ep;obtain⟨v0,vr,rfl,dv,dr⟩:=dl;cases r with
  |cons Q T=>
   obtain⟨f,ps,a1,a2,a3,a4⟩:=ih et dr T;obtain⟨b,us,rfl,hb,A⟩:=dv;obtain⟨uk,q1,rfl,dk,C,q2,rfl,du,e0⟩:=A;cases e0;obtain⟨c,rfl,J⟩:=Arg.keys L (.inl dk) ek;obtain⟨_,N,r2,o,h1,h2,n,h3⟩:=show fb X.prog X.w H s.1 b (.ci [.ref c,C])from I.e6 b _ (L _ _ hb);cases r2 with
   |cons ra rb=>
    cases rb with
    |cons Y U=>
     cases U;rename_i kk O;cases ra;refine⟨(p.1,C)::f,(p.1,c,O)::ps,.cons ⟨_6,J,Y⟩ a1,⟨_6,du,a2⟩,by rw[aR,aR,a3],λi M w z y=>?_⟩;cases i with
     |zero=>simp at z y;subst z y;exact⟨b,o,n,Q,h1,h2,by simpa using h3,l9 I.e6 J⟩
     |succ i=>exact a4 i M w (by simpa using z) (by simpa using y)
end
section
variable{X:Cx}{G0 B:Hp}{E:EK}{e:Expr}{g:En->bi}{pos p:v_}
inductive rDictO(X:Cx)(xs:b_ V)(H:Hp)(Q:VK):Prop
 |mk (a vs G ds l) (_:xs=[.ref a]) (_:h8 X.K H a vs) (_:a6 G H) (_:bt (kx X) G ds vs) (_:_7 ds<=aG) (_:kh ds=a_ l) (_:∀p kvs,H p=c_->PDT (kx X) G l kvs->Q (.ref p) (c0 H p (.dT (om [] kvs)))):rDictO X xs H Q
def Ez(hu:X.A.units+8<cP)(hc:X.calm=d_):lf X (.type "dict") (rDictO X):=by
 intro z s σ H xs us Q I r q;obtain⟨a,vs,G,ds,l,rfl,sq,sg,dl,hz,e,q⟩:=q;obtain⟨u,rfl,ru⟩:=ik r;cases ru;obtain⟨ζ,y,⟨o,n,w,m,M,L⟩,_⟩:=I.list sq;obtain⟨C,h,i,f⟩:=o;simp only at m M L;subst m M L;obtain⟨d,ps,T,a2,O,a4⟩:=Kq I sg e dl y;have U:_7 ps<=aG:=by rw[O,<-y.length,<-dl.length];exact hz
 have Y:(om [] d).length<=aG:=by
  have w:=Kj d [];have m:_7 d=_7 ps:=eA T;rw[gD]at w
  lia
 refine Ir hu (I.ok.hd hc) w (by rw[O];simp) U (λj x v e1 e2=>a4 j x v e1 (by simpa using e2)) λh' tk hD hk=>?_;have J:=I.e6.fresh (aL s.1.1.size);obtain⟨ob,es,ep,g1,g2,g3,g4,_,g6⟩:=hD;have I4:=I.nn (a:=s.1.1.size) (o:=.dT (om [] d)) (t':=tk) (λb o e=>hk b o e) (aL _) ⟨Y,w_.mpr (cW (bE I.big)),_,(KT.merge T .nil).keeps λc ys N=>(by rw[aa (ak N J)];exact N),ob,es,ep,g1,g2,g3,g4,g6⟩;exact⟨.ref s.1.1.size,_,I4,_6,q _ d J a2⟩
inductive tDm(K:KA)(B:Hp)(E:EK)(g:En->bi)(σ:St)(H:Hp)(Q:VK):Prop
 |mk (G U ds l) (_:ce K B G H σ U) (_:g U=.ok (.a8 ds)) (_:_7 ds<=aG) (_:kh ds=a_ l) (_:∀a es G' H',c6 G H G' H'->H a=c_->G' a=c_->H' a=a_ (.dT es)->fu K G' (Ki [] l) es->Q (.ref a) H'):tDm K B E g σ H Q
def Ti(r:X.A.units+8<cP)(w:X.calm=d_)(u:Gl X "dict")(s:X.mg "dict"=c_)(x:dj X B E e g)(d:aU [e] X.env=(e_,I_ e X.env)::aU [] X.env):PE X (.Call (.Name "dict" p) [e] [] pos) (tDm (kx X) B E g):=
 PE.imp (jg (Ez r w) u s _i (de x f9 d) (by decide) (by decide) d _6) λσ H Q h=>by obtain⟨G,U,C,l,R,z,o,y,q⟩:=h;refine⟨G,U,R,?_⟩;unfold ac;rw[z];intro L f M a J;obtain⟨v,rfl,I⟩:=h9.pv J;obtain⟨b,i,rfl,j,dl⟩:=I.a8 a.gh;exact⟨b,i,f,C,l,_6,j,a.gh,dl,o,y,λp n c m=>q p _ f _ (a.trans (c6.own a.gh _ c)) (aq a.hh c) (aq a.gh c) ae (PDT.merge m (kvs:=[]) (es:=[]) _6)⟩
def Ea(i:h_)(g:En->bi):En->fq:=λU=>match g U with
 | .ok (.a8 a) => if a.length <= aG then (match kh a with
  |some l=>.nx (U.set i (.od d_ (Ki [] l)))
  |none=>.st)else .st
 |_=>D9 i g U
set_option tactic.hygienic true in
def Yx{i:h_}{st:s_}(r:ja X G0 B E st (D9 i g))(o:PS X st (Ba (tDm (kx X) B E g) (ij i))):ja X G0 B E st (Ea i g):=by
 intro b s σ H D I ⟨G,U,R,j,q⟩;unfold Ea at q;split at q
 .rename_i h w
  by_cases c:_7 h<=aG
  .rw[aO c]at q;cases d:kh h with
   |none=>rw[d]at q;exact q.elim
   |some l=>rw[d]at q;exact o b s σ H D I ⟨G,U,h,l,R,w,c,d,λa v y x f m u n dl=>q _ y x f.gg (R.newO f m u ⟨a,v,_6,n,dl⟩) (j.trans f)⟩
  .rw[aJ c]at q;exact q.elim
 .exact r b s σ H D I ⟨G,U,R,j,q⟩
end
end Pu
namespace L2
section
variable{X:Cx}{au:b_ (g_×D_)}{σ:St}{H:Hp}{s:aE}{a:g_}{oe:D_}
def B0{K:aK}{t c:aC}{b:l_}(e:aS K t c=a_ b)(h:(t==c)=d_->b=d_):eN K t c=a_ b:=by
 unfold aS at e;split at e
 .unfold eN
  by_cases q:(t==c)=d_
  .rw[aO q,h q]
  .rw[aJ q];exact e
 .cases e
def Q0{C i:g_}{b:l_}{E:aC->aE->Prop}(P:ol X.K C)(o:oe.cls=.ref C)(n:oe.dict=c_)(d:∃f,oe.data=.fields f)(e:eN X.K (.ref C) (.ref i)=a_ b):
  lf ((X.jp a oe).qK E) (.builtin "isinstance") (λxs H Q=>xs=[.ref a,.ref i]/\Q (.bl b) H):=by
 intro au s σ H xs p Q I r h;obtain⟨rfl,h⟩:=h;obtain⟨u,q,rfl,l,c⟩:=V4 r;cases l;cases c;have g:=(I.q0 (a,oe) bI).1;obtain⟨f,d⟩:=d;have m:_m oe=d_:=by unfold _m;rw[d]
 exact fI (S9 P o m) I.qY ⟨g,λv z=>by rw[n]at z;cases z⟩ e (λz=>nomatch z) λj=>⟨.bl b,H,I.qs j,_6,h⟩
def Dk(n y:k_)(d e c b:v_):Expr:=.Call (.Name "isinstance" d) [.Name n e,.Name y c] [] b
def KN(e:Sp)(K:aK)(h:g_)(i:h_)(t:TA)(u:g_->D_->TS):TS:=λD σ H=>t σ H λc f=>e c f (λq d=>D.nx σ d) λcls q d=>aS K cls (.ref h)=a_ d_/\
 ∀a oe,oe.cls=cls->(oe.dict=c_\/Late cls)->(∃c,oe.data=.fields c)->u a oe {nx:=λb g=>D.nx (b.set i c_) g,rt:=D.rt} (σ.set i (a_ (.ref a))) d
section
variable{X:Cx}{k:h_}{f Cy:g_}{fd:fA}{ps:b_ k_}{sp:Sp}{x y n:k_}{i:h_}{p yp cpos epos hpos pos:v_}{e:Expr}{es:b_ Expr}{t:TA}{u:g_->D_->TS}{b₀:s_}{suite:b_ s_}
def Yc(F:kz X.prog X.w X.K X.mg X.base (Bb X.prog X.w) k f fd ps sp)(hr:io k X.A)(hg:Gl X x)(hm:X.mg x=a_ (.ref f))(hk:cT X.K (.ref f)=d_)(m:lv X.K fd ps [])(ha:PA X.qd (e::es) t)
  (j:X.stack=X.env::X.g8)(B:X.env.frame=a_ X.env.locals)(hex:X.ex=[])(β:Gl X y)(Y:X.mg y=a_ (.ref Cy))
  (hN:X.N.Nodup) (hi:X.N[i]?=a_ n) (G:X.env.scope.names.lookup n=a_ .local) (hs:∀a oe,qR (X.jp a oe).qd (b₀::suite) (u a oe))
  (Q:Q! (eR (.Call (.Name x p) (e::es) [] cpos) c_ epos.line X.env=pure e_) Q2!)
  (δ:Q! ((x==("__debug__":k_))=e_) Q1!) (γ:Q! ((y==("__debug__":k_))=e_) Q1!) (he:Q! (aU (e::es) X.env=(e_,I_ e X.env)::aU es X.env) Q2!) (U:Q! ((dW cpos (aU es X.env)).any (·.1)=e_) Q2!):
  PS X (.Try [.Expr (.Call (.Name x p) (e::es) [] cpos) epos] [.ExceptHandler (a_ (.Name y yp)) (a_ n) (b₀::suite) hpos] [] [] pos) (KN sp X.K Cy i t u):=by
 intro au s σ H D I h;refine wpAny_Try_except (oX (wpAny_Expr_any (Vu F hr hg hm hk m ha I h δ he U (λv H2 w s2 I2 Z q=>?_) λH1 s1 H2 s2 a cls L J un ex ⟨hc,hu⟩=>?_) I.quiet Q))
 .exact iU (iU ⟨σ,H2,I2,q⟩)
 .refine BM j B hex L J un ex λh' J' C=>?_;refine wpAny_handleBy_cons (codeAny_handlers_test (ma (X:=X.qG a) (J'.qG a) β Y ?_ γ)) (by intro q;cases q);have LT:oO (aW X.prog X.w) h' (i? (.ref a)) cls:=by obtain⟨oe,vs,g,rfl,_⟩:=C.obj;exact(pD g).andThen .now
  refine PySem.W.exm_one J'.qY LT hc _ _ _ _ (λZ Z q=>q) (codeAny_handlers_suite_as (CZ hex L J' C λhh J2 c=>?_));have M:=L.young hex c.new;refine v9 J2 hN hi (.inl G) (v:=.ref a) (u:=.ref a) _6 (λs4 J4 T=>?_) (.inr G);obtain⟨oe,vs,g,ε,hd,_⟩:=c.obj;have h7:=c.h7.imp_left λd=>d oe g;have g4:s4.1.get? a=a_ oe:=by
   obtain⟨b,sb,m⟩:=T;refine(sb.2 a λz=>?_).trans g;obtain m|m:=m
   .exact M.2.1 (z.trans m)
   .exact M.2.2.1 n b m z.symm
  have O:a∉X.fs:=λz=>by
   have st:a∈vp X.stack:=by rw[j];unfold vp;rw[jX,B];exact bJ _ z
   obtain⟨_,o,ho,_⟩:=L.stack.mem st;rw[c.new]at ho;cases ho
  have Jh:=J4.jp g4 c.free M.2.1 O (λv z=>by rw[hd]at z;cases z);refine cA (hs a oe au s4 _ H2 {nx:=λl E=>D.nx (l.set i c_) E,rt:=D.rt} (Jh.qK _) (hu a oe ε h7 ⟨vs,hd⟩)) (λfl s5 q=>?_) λZ Z z=>cS z;cases fl with
  |next=>obtain⟨l,E,I',q⟩:=q;exact B9 (I'.o0.unheld I.ok) hN hi G λs6 I6=>⟨_,E,I6,q⟩
  |ret u=>obtain⟨v,l,E,I',r,q⟩:=q;exact B9 (I'.o0.unheld I.ok) hN hi G λs6 I6=>⟨v,_,E,I6,r,q⟩
  |brk=>obtain⟨_,_,_,q⟩:=q;exact q.elim
  |cont=>obtain⟨_,_,_,q⟩:=q;exact q.elim
end
inductive IsL(X:Cx)(n:k_)(C:g_):b_ Expr->b_ l_->Prop
 |nil:IsL X n C [] []
 |cons {y Cy sp np tp icpos b es bs}:Gl X y->X.mg y=a_ (.ref Cy)->(y==("__debug__":k_))=e_->eN X.K (.ref C) (.ref Cy)=a_ b->IsL X n C es bs->IsL X n C (Dk n y sp np tp icpos::es) (b::bs)
section
variable{X:Cx}{n:k_}{i:h_}{a C:g_}{oe:D_}{lp:v_}
def DC{j:g_}{y:k_}{b:l_}{m o l c:v_}(P:ol X.K C)(G:oe.cls=.ref C)(E:oe.dict=c_)(w:∃r,oe.data=.fields r)(A:X.N[i]?=a_ n)(x:X.env.scope.names.lookup n=a_ .local)(f:(n==("__debug__":k_))=e_)(g:(n==("__classdict__":k_))=e_)
  (J:Gl X "isinstance")(u:X.mg "isinstance"=c_)(B:Gl X y)(z:X.mg y=a_ (.ref j))(d:(y==("__debug__":k_))=e_)(e:eN X.K (.ref C) (.ref j)=a_ b):
  PE (X.jp a oe).qd (Dk n y m o l c) (λσ H Q=>σ[i]?=a_ (a_ (.ref a))/\Q (.bl b) H):=by
 have M:=jm (X:=(X.jp a oe).qd) (p:=m) (pos:=c) (Q0 P G E w e) J u pR (cg (o4 (pos:=o) (i:=i) A (.inl x) f g) (cg (Dw (X:=(X.jp a oe).qd) (v:=.ref j) (pos:=l) B z _6 d) f7));intro au s σ H Q I h;obtain⟨L,q⟩:=h;exact M au s σ H Q I ⟨_,L,_6,q⟩
def DH(P:ol X.K C)(v:oe.cls=.ref C)(u:oe.dict=c_)(l:∃f,oe.data=.fields f)(p:X.N[i]?=a_ n)(m:X.env.scope.names.lookup n=a_ .local)(c:(n==("__debug__":k_))=e_)(d:(n==("__classdict__":k_))=e_)
  (w:Gl X "isinstance")(g:X.mg "isinstance"=c_){es:b_ Expr}{bs:b_ l_}(h:IsL X n C es bs):PA (X.jp a oe).qd es (λσ H Q=>σ[i]?=a_ (a_ (.ref a))/\Q (bs.map V.bl) H):=by
 induction h with
 |nil=>exact Pu.PA.imp f7 λσ H Q q=>q.2
 |cons r o b e _ j=>exact Pu.PA.imp (cg (DC P v u l p m c d w g r o b e) j _6) λσ H Q q=>⟨q.1,q.1,q.2⟩
def T1(P:ol X.K C)(m:oe.cls=.ref C)(l:oe.dict=c_)(f:∃d,oe.data=.fields d)(j:X.N[i]?=a_ n)(g:X.env.scope.names.lookup n=a_ .local)(b:(n==("__debug__":k_))=e_)(c:(n==("__classdict__":k_))=e_)
  (o:Gl X "isinstance")(e:X.mg "isinstance"=c_){es:b_ Expr}{bs:b_ l_}(h:IsL X n C es bs)(hz:_7 bs<=aG):PE (X.jp a oe).qd (.List es lp) (λσ H Q=>σ[i]?=a_ (a_ (.ref a))/\∀p,H p=c_->Q (.ref p) (c0 H p (.a8 (bs.map V.bl)))):=
 Pu.PE.imp (Dx (DH P m l f j g b c o e h)) λσ H Q q=>⟨q.1,by rw[bB];exact hz,q.2⟩
end
end
end L2
namespace Pu
open L2
section
variable{X:Cx}{G0 B:Hp}{E:EK}{n:k_}{i:h_}{a C:g_}{oe:D_}{sp np tp icpos bp rp ip:v_}{c2e c3e idxe:Expr}{c2 c3 idx:En->bi}
def Xb(z:X.N[i]?=a_ n)(y:X.env.scope.names.lookup n=a_ .local)(e:(n==("__debug__":k_))=e_)(f:(n==("__classdict__":k_))=e_)
  (I:Gl X "isinstance")(x:X.mg "isinstance"=c_)(A:Gl X "ValueError")(u:X.mg "ValueError"=c_)(b:iN X.K oe.cls (.type "ValueError")=a_ d_)(r:(oe.cls==.type "ValueError")=e_)
  (j:ph (X.jp a oe).qd B E c2e c2) (g:ph (X.jp a oe).qd B E c3e c3) (c:ck (X.jp a oe).qd B E idxe idx):
  PS (X.jp a oe).qd (.If (.BoolOp .And [Dk n "ValueError" sp np tp icpos,c2e,c3e] bp) [.Return (a_ idxe) rp] [] ip) (λD σ H=>σ[i]?=a_ (a_ (.ref a))/\tSt (kx X) G0 B E (Im (Js c2 c3) (mj idx) uu) D σ H):=by
 have P:=jm (X:=(X.jp a oe).qd) (p:=sp) (pos:=icpos) (Qy b r) I x pR (cg (o4 (pos:=np) (i:=i) z (.inl y) e f) (cg (My (v:=.ty "ValueError") (pos:=tp) A u _6 _6 (by decide) (by decide)) f7));have s:PT (X.jp a oe).qd (Dk n "ValueError" sp np tp icpos) (λσ H Q=>σ[i]?=a_ (a_ (.ref a))/\Q d_ H):=PT.imp (G8 P λZ=>rfl) λσ H Q ⟨m,q⟩=>⟨_,m,_6,d_,_6,q⟩;have w:PW (X.jp a oe).qd (.BoolOp .And [Dk n "ValueError" sp np tp icpos,c2e,c3e] bp) _:=Uq s (Na j (Hg g));refine PS.imp (Ua (pos:=ip) (PW.pt w) (Vg (AV (pos:=rp) (G0:=G0) c)) (Vf (G0:=G0) (B:=B) (E:=E))) λD σ H h=>?_;obtain⟨m,G,U,R,l,q⟩:=h;refine⟨m,?_⟩;show if d_=d_ then _ else _
 rw[aO _6];refine⟨G,U,R,(jv l q).am λd Z q=>?_⟩;cases d with
 |bl t=>
  cases t with
  |true=>exact⟨d_,_6,λo J b=>⟨o,U,R.ext b,l.trans b,js.same b.gg q⟩⟩
  |false=>exact⟨e_,_6,λo J b=>⟨o,U,R.ext b,l.trans b,js.same b.gg q⟩⟩
 |_=>exact q.elim
def S0(e d:h_)(c b:b_ l_)(U:En):En:=(U.set e (.ow (c.map D.bl))).set d (.ow (b.map D.bl))
theorem Ct{K:KA}{G:Hp}:∀(bs:b_ l_),bt K G (bs.map D.bl) (bs.map V.bl)
 |[]=>rfl
 |_::bs=>⟨_,_,_6,_6,Ct bs⟩
variable{o tt:k_}{jo jt:h_}{po lp1 ap1 pt lp2 ap2:v_}{es1 es2:b_ Expr}{bs1 bs2:b_ l_}
def Kc(r:X.N[i]?=a_ n)(m:X.env.scope.names.lookup n=a_ .local)(c:(n==("__debug__":k_))=e_)(d:(n==("__classdict__":k_))=e_)
  (v:Gl X "isinstance")(j:X.mg "isinstance"=c_)(h3:Gl X "ValueError")(m3:X.mg "ValueError"=c_)(e1:iN X.K oe.cls (.type "ValueError")=a_ d_)(q1:(oe.cls==.type "ValueError")=e_)
  (P:ol X.K C) (L:oe.cls=.ref C) (J:oe.dict=c_) (I:∃T,oe.data=.fields T) (l1:L2.IsL X n C es1 bs1) (l2:L2.IsL X n C es2 bs2) (Q:_7 bs1<=aG) (O:_7 bs2<=aG)
  (M:X.N.Nodup) (ho:X.N[jo]?=a_ o) (ht:X.N[jt]?=a_ tt) (lo:N1 X.env.scope o) (lt:N1 X.env.scope tt) (fo:X.fn o=d_) (ft:X.fn tt=d_) (e:i≠jo) (g:i≠jt)
  (s1:eR (.List es1 lp1) (a_ (.Name o po)) ap1.line X.env=pure e_) (Y:eR (.List es2 lp2) (a_ (.Name tt pt)) ap2.line X.env=pure e_)
  (u:ph (X.jp a oe).qd B E c2e c2) (s:ph (X.jp a oe).qd B E c3e c3) (f:ck (X.jp a oe).qd B E idxe idx):
  qR (X.jp a oe).qd [.Assign [.Name o po] (.List es1 lp1) ap1,.Assign [.Name tt pt] (.List es2 lp2) ap2,.If (.BoolOp .And [Dk n "ValueError" sp np tp icpos,c2e,c3e] bp) [.Return (a_ idxe) rp] [] ip]
   (λD σ H=>σ[i]?=a_ (a_ (.ref a))/\tSt (kx X) G0 B E (λU=>Im (Js c2 c3) (mj idx) uu (S0 jo jt bs1 bs2 U)) D σ H):=by
 have A1:=Ku (X:=(X.jp a oe).qd) (pos:=ap1) (pos':=po) M ho lo (T1 (lp:=lp1) P L J I r m c d v j l1 Q) s1 (.inl fo);have A2:=Ku (X:=(X.jp a oe).qd) (pos:=ap2) (pos':=pt) M ht lt (T1 (lp:=lp2) P L J I r m c d v j l2 O) Y (.inl ft);have A3:=Xb (G0:=G0) (sp:=sp) (np:=np) (tp:=tp) (icpos:=icpos) (bp:=bp) (rp:=rp) (ip:=ip) r m c d v j h3 m3 e1 q1 u s f;refine qR.imp (jn A1 (jn A2 (mf A3))) λZ σ H h=>?_;obtain⟨w,G,U,R,ex,q⟩:=h;refine⟨w,λp l=>?_⟩;have z:c6 G H G (c0 H p (.a8 (bs1.map V.bl))):=c6.own R.gh _ l;have x:=R.newO (i:=jo) (s0:=.ow (bs1.map D.bl)) z l (aq R.gh l) ⟨p,_,_6,ae,Ct bs1⟩;refine⟨by rw[aN e.symm];exact w,λA b=>?_⟩;have y:c6 G (c0 H p (.a8 (bs1.map V.bl))) G (c0 (c0 H p (.a8 (bs1.map V.bl))) A (.a8 (bs2.map V.bl))):=c6.own x.gh _ b;have R2:=x.newO (i:=jt) (s0:=.ow (bs2.map D.bl)) y b (aq x.gh b) ⟨A,_,_6,ae,Ct bs2⟩;exact⟨by rw[aN g.symm,aN e.symm];exact w,G,_,R2,(ex.trans z).trans y,q⟩
end
def ce.setAny{K:KA}{B G H:Hp}{σ:St}{U:En}{i:h_}{u:f_ V}(R:ce K B G H σ U):ce K B G H (σ.set i u) (U.set i .no) where
 bh:=R.bh
 gb:=R.gb
 gh:=R.gh
 len:=by rw[bL,bL];exact R.len
 sl:=λj s q=>by
  by_cases z:i=j
  .subst z;have d:i<_7 U:=by have:=(i_.mp q).1;rwa[bL]at this
   rw[aQ d]at q;cases q;exact⟨u,aQ (by rw[R.len];exact d),trivial⟩
  .rw[aN z]at q⊢;exact R.sl j s q
 own:=λj s a b c e=>by
  by_cases z:i=j
  .subst z;have d:i<_7 U:=by have:=(i_.mp b).1;rwa[bL]at this
   rw[aQ d]at b;cases b;cases c
  .rw[aN z]at b e;exact R.own j s a b c e
 rE:=λj k s t a b c e n l h=>by
  have f:∀(m:h_)(u:Sl),(U.set i .no)[m]?=a_ u->u.own=d_->i≠m:=λm u g o z=>by
   subst z;have d:i<_7 U:=by have:=(i_.mp g).1;rwa[bL]at this
   rw[aQ d]at g;cases g;cases o
  have r:=f j s b e;have p:=f k t c n;rw[aN r]at b l;rw[aN p]at c h;exact R.rE j k s t a b c e n l h
def RV(T:GT)(c y:k_):f_ l_:=if T.xs.sub c y then a_ d_ else if T.xs.qy c y then a_ e_ else c_
def J5(T:GT)(c:k_):b_ k_->f_ (b_ l_)
 |[]=>a_ []
 |y::r=>(RV T c y).bind λb=>(J5 T c r).map λbs=>b::bs
def IG(i:h_):fq->fq
 |.nx U=>.nx (U.set i .no)
 |.rt d=>.rt d
 |_=>.st
def LJ(T:GT)(y:k_)(i g f:h_)(b a:b_ k_)(F:En->fq)(c:k_)(U:En):fq:=
 if T.xs.sub c y&&T.xs.ve c&&T.xs.plain c&&T.xs.sub c c&&decide (i<_7 U)then(match J5 T c b,J5 T c a with
  |some e,a_ d=>IG i (F (S0 g f e d (U.set i .no)))
  |_,_=>.st)else .st
def W0(n:k_)(v:Expr):f_ k_:=(Ey v).bind λd=>(mr d.1).bind λb=>match d.2.1 with
 |[u,t]=>(mr u).bind λc=>(mr t).bind λa=>if d.2.2.1.isEmpty&&decide (b.1="isinstance")&&decide (c.1=n)then a_ a.1 else c_
 |_=>c_
set_option tactic.hygienic true in
def Mi{v:Expr}{n y:k_}(h:W0 n v=a_ y):∃i j f a,v=Dk n y i j f a:=by
 unfold W0 at h;simp only[bC]at h;obtain⟨⟨C,B,A,s⟩,p,⟨E,w⟩,e,b⟩:=h;dsimp only at e b;split at b
 .rename_i u t;simp only[bC]at b;obtain⟨⟨z,l⟩,o,⟨x,g⟩,m,c⟩:=b;dsimp only at c;split at c
  .rename_i d;simp only[aH,j_]at d;obtain⟨⟨g2,r⟩,q⟩:=d;cases c;exact⟨w,l,g,s,by rw[s9 p,f6 e,f6 o,f6 m,Q_.mp g2,r,q];rfl⟩
  .cases c
 .cases b
def Sn(n:k_):b_ Expr->f_ (b_ k_)
 |[]=>a_ []
 |e::r=>(W0 n e).bind λy=>(Sn n r).map λa=>y::a
def IJ:Expr->f_ (b_ Expr)
 |.List a _=>a_ a
 |_=>c_
def Xi{e:Expr}{es:b_ Expr}(h:IJ e=a_ es):∃p,e=.List es p:=by cases e<;>first|(cases h;exact⟨_,_6⟩)|cases h
def Es(n:k_)(st:s_):f_ (k_×b_ k_):=(HF st).bind λq=>(pv q.1).bind λt=>(mr t).bind λr=>(IJ q.2.1).bind λb=>(Sn n b).map λa=>(r.1,a)
def Li{n:k_}{st:s_}{o:k_}{b:b_ k_}(h:Es n st=a_ (o,b)):∃i es a r,st=.Assign [.Name o i] (.List es a) r/\Sn n es=a_ b:=by unfold Es at h;simp only[bC,lT]at h;obtain⟨⟨v,u,g⟩,p,t,d,⟨s,f⟩,m,es,c,e,l,j⟩:=h;cases j;dsimp only at d c;obtain⟨a,q⟩:=Xi c;exact⟨f,es,a,g,by rw[We p,sj d,f6 m,q],l⟩
def LB:Expr->l_
 |.Constant (.bool d_) _ _=>d_
 |_=>e_
def Ei{e:Expr}(h:LB e=d_):∃j p,e=.Constant (.bool d_) j p:=by
 unfold LB at h;split at h
 .exact⟨_,_,_6⟩
 .cases h
def HE:Expr->f_ (Expr×k_×v_)
 |.Attribute a x p=>a_ (a,x,p)
 |_=>c_
def Wg{e a:Expr}{x:k_}{p:v_}(h:HE e=a_ (a,x,p)):e=.Attribute a x p:=by cases e<;>first|(cases h;rfl)|cases h
def Xl(m:k_)(e:Expr):f_ Expr:=(Ey e).bind λc=>(HE c.1).bind λa=>(pv c.2.1).bind λt=>if LB t&&c.2.2.1.isEmpty&&decide (a.2.1=m)&&(a.2.2.endLine==c.2.2.2.line)then a_ a.1 else c_
set_option tactic.hygienic true in
def Mq{m:k_}{e a:Expr}(h:Xl m e=a_ a):∃i j p g,e=.Call (.Attribute a m i) [.Constant (.bool d_) j p] [] g/\(i.endLine==g.line)=d_:=by
 unfold Xl at h;simp only[bC]at h;obtain⟨⟨c1,u,s,q⟩,l,⟨w,v,r⟩,f,t,d,b⟩:=h;dsimp only at f d b;split at b
 .rename_i c;simp only[aH,j_]at c;obtain⟨⟨⟨g1,g2⟩,o⟩,n⟩:=c;cases b;obtain⟨j,p,e⟩:=Ei g1;exact⟨r,j,p,q,by rw[s9 l,Wg f,sj d,e,Q_.mp g2,o],n⟩
 .cases b
def BL:Expr->f_ (Expr×b_ mR×b_ Expr×v_)
 |.Compare a o b p=>a_ (a,o,b,p)
 |_=>c_
def Ln{e a:Expr}{o:b_ mR}{b:b_ Expr}{p:v_}(h:BL e=a_ (a,o,b,p)):e=.Compare a o b p:=by cases e<;>first|(cases h;rfl)|cases h
def Zm:Expr->f_ (BoolOp×b_ Expr×v_)
 |.BoolOp o a p=>a_ (o,a,p)
 |_=>c_
def Qt{e:Expr}{o:BoolOp}{es:b_ Expr}{p:v_}(h:Zm e=a_ (o,es,p)):e=.BoolOp o es p:=by cases e<;>first|(cases h;rfl)|cases h
def RW:s_->f_ (Expr×b_ s_×b_ s_×v_)
 |.If c a b p=>a_ (c,a,b,p)
 |_=>c_
def CU{st:s_}{c:Expr}{a b:b_ s_}{p:v_}(h:RW st=a_ (c,a,b,p)):st=.If c a b p:=by cases st<;>first|(cases h;rfl)|cases h
def KZ(o t:k_)(e:Expr):l_:=((IZ e).bind λz=>(mr z.1).bind λa=>(mr z.2.2.1).bind λb=>if Zy z.2.1&&decide (a.1=o)&&decide (b.1=t)then a_ ()else c_).isSome
set_option tactic.hygienic true in
def Y7{o t:k_}{e:Expr}(h:KZ o t e=d_):∃p q r,e=.BinOp (.Name o p) .Add (.Name t q) r:=by
 obtain⟨u,h⟩:=E_.mp h;simp only[bC]at h;obtain⟨⟨s,n,m,f⟩,g,⟨w,l⟩,d,⟨v,j⟩,c,a⟩:=h;dsimp only at d c a;split at a
 .rename_i b;simp only[aH,j_]at b;obtain⟨⟨g1,g2⟩,i⟩:=b;exact⟨l,j,f,by rw[Wi g,f6 d,f6 c,Sk g1,g2,i]⟩
 .cases a
def ON(o t:k_)(e:Expr):l_:=((BL e).bind λk=>(Xl "count" k.1).bind λs=>(pv k.2.2.1).bind λw=>(Q7 w).bind λc=>(IM c.1).bind λi=>if KZ o t s&&decide (k.2.1=[.Eq])&&decide (i=1)then a_ ()else c_).isSome
set_option tactic.hygienic true in
def BO{o t:k_}{e:Expr}(h:ON o t e=d_):∃(p q r b d a y v:v_) (j l:h_),(b.endLine==a.line)=d_/\e=.Compare (.Call (.Attribute (.BinOp (.Name o p) .Add (.Name t q) r) "count" b) [.Constant (.bool d_) j d] [] a) [.Eq] [.Constant (.int 1) l y] v:=by
 obtain⟨u,h⟩:=E_.mp h;simp only[bC]at h;obtain⟨⟨M,L,J,x⟩,B,s,n,w,m,⟨c1,I,H⟩,A,i,g,c⟩:=h;dsimp only at n m g c;split at c
 .rename_i f;simp only[aH,j_]at f;obtain⟨⟨g1,g2⟩,C⟩:=f;obtain⟨p,q,r,G⟩:=Y7 g1;obtain⟨b,j,d,a,E,z⟩:=Mq n;exact⟨p,q,r,b,d,a,H,x,j,I,z,by rw[Ln B,E,G,sj m,Ob A,Wy g,g2,C]⟩
 .cases c
def OM(o:k_)(e:Expr):l_:=((BL e).bind λk=>(pv k.2.2.1).bind λw=>(mr w).bind λa=>if LB k.1&&decide (k.2.1=[.In])&&decide (a.1=o)then a_ ()else c_).isSome
set_option tactic.hygienic true in
def BN{o:k_}{e:Expr}(h:OM o e=d_):∃(b p f:v_) (j:h_),e=.Compare (.Constant (.bool d_) j b) [.In] [.Name o p] f:=by
 obtain⟨u,h⟩:=E_.mp h;simp only[bC]at h;obtain⟨⟨v,s,r,g⟩,l,w,d,⟨x,q⟩,i,a⟩:=h;dsimp only at d a;split at a
 .rename_i c;simp only[aH,j_]at c;obtain⟨⟨g1,g2⟩,m⟩:=c;obtain⟨j,b,n⟩:=Ei g1;exact⟨b,q,g,j,by rw[Ln l,n,sj d,f6 i,g2,m]⟩
 .cases a
def PM(o:k_)(st:s_):l_:=((JL st).bind λr=>r.1.bind λx=>(Xl "index" x).bind λa=>(mr a).bind λb=>if b.1=o then a_ ()else c_).isSome
set_option tactic.hygienic true in
def FN{o:k_}{st:s_}(h:PM o st=d_):∃(p c e b g:v_) (j:h_),(c.endLine==b.line)=d_/\st=.Return (a_ (.Call (.Attribute (.Name o p) "index" c) [.Constant (.bool d_) j e] [] b)) g:=by
 obtain⟨u,h⟩:=E_.mp h;simp only[bC]at h;obtain⟨⟨w,i⟩,r,x,f,a,q,⟨y,v⟩,n,d⟩:=h;dsimp only at f d;split at d
 .rename_i m;obtain⟨c,j,e,b,s,l⟩:=Mq q;exact⟨v,c,e,b,i,j,l,by rw[Yp r,f,s,f6 n,m]⟩
 .cases d
def Xf(n o t:k_)(st:s_):l_:=((RW st).bind λq=>(Zm q.1).bind λb=>(pv q.2.1).bind λr=>match b.2.1 with
 |[d,c,a]=>(W0 n d).bind λv=>if decide (b.1=.And)&&decide (v="ValueError")&&ON o t c&&OM o a&&PM o r&&q.2.2.1.isEmpty then a_ ()else c_
 |_=>c_).isSome
set_option tactic.hygienic true in
def Xg{n o t:k_}{st:s_}(h:Xf n o t st=d_):∃(g i f a C s:v_) (d c:Expr) (r:s_),st=.If (.BoolOp .And [Dk n "ValueError" g i f a,d,c] C) [r] [] s/\ON o t d=d_/\OM o c=d_/\PM o r=d_:=by
 obtain⟨u,h⟩:=E_.mp h;simp only[bC]at h;obtain⟨⟨I,H,G,q⟩,x,⟨M,L,E⟩,p,r,m,b⟩:=h;dsimp only at p m b;split at b
 .rename_i J d c;simp only[bC]at b;obtain⟨v,w,l⟩:=b;split at l
  .rename_i j;simp only[aH,j_]at j;obtain⟨⟨⟨⟨⟨g1,g2⟩,B⟩,A⟩,z⟩,y⟩:=j;subst g2;obtain⟨g,i,f,a,e⟩:=Mi w;exact⟨g,i,f,a,E,q,d,c,r,by rw[CU x,Qt p,sj m,e,g1,Q_.mp y],B,A,z⟩
  .cases l
 .cases b
structure TryK where
 c:k_×v_×Expr×b_ Expr×v_×v_
 y:k_
 n:k_
 o:k_
 ys1:b_ k_
 t:k_
 ys2:b_ k_
def Nr(st:s_):f_ TryK:=(KL st).bind λq=>(pv q.1).bind λb=>(Qu b).bind λc=>(pv q.2.1).bind λh=>(Md h).1.bind λt=>(mr t).bind λy=>(Md h).2.1.bind λn=>match (Md h).2.2.1 with
 |[g,f,e]=>(Es n g).bind λd=>(Es n f).bind λa=>if q.2.2.1.isEmpty&&q.2.2.2.1.isEmpty&&Xf n d.1 a.1 e then a_ ⟨c,y.1,n,d.1,d.2,a.1,a.2⟩else c_
 |_=>c_
set_option tactic.hygienic true in
def Vt{st:s_}{k:TryK}(h:Nr st=a_ k):∃(v d j:v_) (i g f:s_),st=.Try [.Expr (.Call (.Name k.c.1 k.c.2.1) (k.c.2.2.1::k.c.2.2.2.1) [] k.c.2.2.2.2.1) k.c.2.2.2.2.2] [.ExceptHandler (a_ (.Name k.y v)) (a_ k.n) [i,g,f] d] [] [] j/\Es k.n i=a_ (k.o,k.ys1)/\Es k.n g=a_ (k.t,k.ys2)/\Xf k.n k.o k.t f=d_:=by
 unfold Nr at h;simp only[bC]at h;obtain⟨⟨O,N,M,L,x⟩,G,b,u,⟨c1,c2,c3,Y,U,T⟩,E,A,s,t,r,⟨I,w⟩,C,m,q,e⟩:=h;obtain⟨J,Q,b0,z⟩:=A;dsimp only[Md]at u s r q e;split at e
 .rename_i i g f;simp only[bC]at e;obtain⟨⟨a1,a2⟩,B,⟨a3,a4⟩,l,a⟩:=e;dsimp only at a;split at a
  .rename_i p;simp only[aH]at p;obtain⟨⟨g1,g2⟩,H⟩:=p;cases a;exact⟨w,z,x,i,g,f,by rw[Zd G,sj u,Qv E,sj s,r,f6 C,q,Q_.mp g1,Q_.mp g2],B,l,H⟩
  .cases a
 .cases e
section
variable{T:GT}{ev:Ev}{X:Cx}{C:SC}{G0 B:Hp}{E:XK}
def RZ(b a:h_):En->bi:=g2 k9 (gM xy (g2 mv (az b) (az a)) (gC (.bl d_))) (gC (.int 1))
def RY(a:h_):En->bi:=g2 Hh (gC (.bl d_)) (az a)
def RU(a:h_):En->bi:=gM ug (az a) (gC (.bl d_))
def LH(a b:h_):En->fq:=Im (Js (RZ a b) (RY a)) (mj (RU a)) uu
set_option tactic.hygienic true in
theorem Di{c n:k_}{o:g_}(O:nc X C T E)(q:mz X.mg c=o)(f:T.xs.sub c c=d_):∀{es:b_ Expr}{a:b_ k_}{bs:b_ l_},Sn n es=a_ a->J5 T c a=a_ bs->(a.all λy=>vw C y)=d_->L2.IsL X n o es bs/\_7 bs=_7 a
 |[],a,bs,h,g,_=>by cases h;cases g;exact⟨.nil,_6⟩
 |e::es,a,bs,h,g,l=>by
  unfold Sn at h;simp only[bC,lT]at h;obtain⟨y,G,s,A,rfl⟩:=h;unfold J5 at g;simp only[bC,lT]at g;obtain⟨b,d,w,x,rfl⟩:=g;rw[bO,aH]at l;obtain⟨J,L,I,i,rfl⟩:=Mi G;obtain⟨g1,g2⟩:=O.gl l.1;obtain⟨p,u⟩:=Di O q f A x l.2;refine⟨?_,by rw[aR,aR,u]⟩;subst q;unfold RV at d;split at d
  .rename_i j;cases d;obtain⟨H,m,e⟩:=O.sub c y j;exact .cons g1 m g2 (B0 e λ_=>rfl) p
  .split at d
   .rename_i j;cases d;obtain⟨H,m,e⟩:=O.qy c y j;refine .cons g1 m g2 (B0 e λz=>?_) p;obtain⟨o,v,r⟩:=O.sub c c f;have z:=U? (W_.mp z);rw[<-z]at e;rw[<-ai v,e]at r;cases r
   .cases d
def Xp{G:Hp}{i:h_}{D:qh}{K:KA}{o:fq}{E:EK}(q:js K G0 B E G (IG i o) D):js K G0 B E G o {nx:=λb c=>D.nx (b.set i c_) c,rt:=D.rt}:=by
 cases o with
 |nx U=>exact λb e c a R x=>q _ e c a R.setNo x
 |rt d=>exact q
 |_=>exact q.elim
def FA{k:TryK}{s:FS}{i l m:h_}{yp z g:v_}{s1 s2 s3:s_}(h:fw T ev)(O:SOk X C T E)(hf:T.qQ k.c.1=a_ s)(hg:vw C k.c.1=d_)(hn:(k.c.2.2.1::k.c.2.2.2.1).all cq=d_)(hgy:vw C k.y=d_)(hxy:T.xs.rL k.y=d_)
  (his:slot C k.n=a_ i)(ξ:C.sc.names.lookup k.n=a_ .local)(hjo:fy C k.o=a_ l)(hjt:fy C k.t=a_ m)(hso:slot C k.o=a_ l)(hst:slot C k.t=a_ m)(Ψ:i≠l)(Φ:i≠m)(i2:vw C "isinstance"=d_)(i3:vw C "ValueError"=d_)
  (y1:(k.ys1.all λy=>vw C y)=d_) (y2:(k.ys2.all λy=>vw C y)=d_) (z1:_7 k.ys1<=1000) (z2:_7 k.ys2<=1000) (a1:Es k.n s1=a_ (k.o,k.ys1)) (a2:Es k.n s2=a_ (k.t,k.ys2)) (a3:Xf k.n k.o k.t s3=d_):
  ja X G0 B (ek (kx X) E) (.Try [.Expr (.Call (.Name k.c.1 k.c.2.1) (k.c.2.2.1::k.c.2.2.2.1) [] k.c.2.2.2.2.1) k.c.2.2.2.2.2] [.ExceptHandler (a_ (.Name k.y yp)) (a_ k.n) [s1,s2,s3] z] [] [] g) (FK s.f (Rw ev C s.ms (k.c.2.2.1::k.c.2.2.2.1)) (LJ T k.y i l m k.ys1 k.ys2 (LH l m))):=by
 obtain⟨⟨x,xp,e,es,cp,ep⟩,y,n,o,ζ,t,ε⟩:=k;dsimp only at *;obtain⟨k,f,fd,ps,hr,hm,hk,hb,F⟩:=O.qQ x s hf;obtain⟨g1,g2⟩:=O.gl hg;obtain⟨gy1,gy2⟩:=O.gl hgy;obtain⟨Cy,_,_,ν,_⟩:=O.rL y hxy;have β:=hn;rw[bO,aH]at β;obtain⟨m1,m2,m3⟩:=kf his;obtain⟨o1,o2,o3⟩:=i6 hjo;obtain⟨t1,t2,t3⟩:=i6 hjt;obtain⟨po,φ,lp1,ap1,rfl,l1⟩:=Li a1;obtain⟨pt,υ,Ω,ap2,rfl,l2⟩:=Li a2;obtain⟨sp,np,tp,α,bp,ip,L,e3,r,rfl,c2,c3,rt⟩:=Xg a3;obtain⟨p1,p2,p3,p4,p5,p6,p7,p8,j1,j2,hl2,rfl⟩:=BO c2;obtain⟨p9,Y,μ,j3,rfl⟩:=BN c3;obtain⟨Q,κ,ι,θ,rp,j4,hl4,rfl⟩:=FN rt;have bl:=O.bl;have hu:=O.units;have vo:∀a b g,PE (X.jp a b).qd (.Name o g) (fh l):=λa b g=>by obtain⟨h1,h2,h3⟩:=kf hso;exact o4 (X:=(X.jp a b).qd) (by show X.N[l]?=_;rw[O.n];exact h1) (by show BY X.env.scope o;rw[O.s];exact Ek h2) (ou h3) (ud h3)
 have vt:∀a b g,PE (X.jp a b).qd (.Name t g) (fh m):=λa b g=>by obtain⟨h1,h2,h3⟩:=kf hst;exact o4 (X:=(X.jp a b).qd) (by show X.N[m]?=_;rw[O.n];exact h1) (by show BY X.env.scope t;rw[O.s];exact Ek h2) (ou h3) (ud h3)
 have hs:∀a b,qR (X.jp a b).qd [.Assign [.Name o po] (.List φ lp1) ap1,.Assign [.Name t pt] (.List υ Ω) ap2,.If (.BoolOp .And [Dk n "ValueError" sp np tp α,.Compare (.Call (.Attribute (.BinOp (.Name o p1) .Add (.Name t p2) p3) "count" p4) [.Constant (.bool d_) j1 p5] [] p6) [.Eq] [.Constant (.int 1) j2 p7] p8,.Compare (.Constant (.bool d_) j3 p9) [.In] [.Name o Y] μ] bp) [.Return (a_ (.Call (.Attribute (.Name o Q) "index" κ) [.Constant (.bool d_) j4 ι] [] θ)) rp] [] ip]
   (λD σ H=>∃Cc w u,ol X.K Cc/\b.cls=.ref Cc/\b.dict=c_/\(∃vs,b.data=.fields vs)/\iN X.K (.ref Cc) (.type "ValueError")=a_ d_/\L2.IsL X n Cc φ w/\L2.IsL X n Cc υ u/\_7 w<=aG/\_7 u<=aG/\σ[i]?=a_ (a_ (.ref a))/\tSt (kx X) G0 B (ek (kx X) E) (λU=>LH l m (S0 l m w u U)) D σ H):=by
  intro a b η s' σ H D I ⟨Cc,w,u,P,hc,hd,hv,hve,L1,L2,w1,w2,hσ,q⟩;have c2e:ph (X.jp a b).qd B (ek (kx X) E) _ (RZ l m):=Z6 (pos:=p8) (by show X.A.units+64<cP;lia) (zz (Ui (ap:=p4) (cp:=p6) (by show X.A.units+65<cP;lia) (zz (Ue (pos:=p3) (rn (pos:=p1) l (vo a b p1)) (rn (pos:=p2) m (vt a b p2)))) (zz (M8 (pos:=p5) (j:=j1))) _6 _6 hl2)) (zz (Ul (pos:=p7) (j:=j2)));have c3e:ph (X.jp a b).qd B (ek (kx X) E) _ (RY l):=JV (pos:=μ) (by show X.A.units+65<cP;lia) (zz (M8 (pos:=p9) (j:=j3))) (rn (pos:=Y) l (vo a b Y));have ixe:ck (X.jp a b).qd B (ek (kx X) E) _ (RU l):=G9 (ap:=κ) (cp:=θ) (by show X.A.units+65<cP;lia) (rn (pos:=Q) l (vo a b Q)) (zz (M8 (pos:=ι) (j:=j4))) _6 _6 hl4;exact Kc (by rw[O.n];exact m1) (by rw[O.s];exact ξ) (ou m3) (ud m3) (O.gl i2).1 (bl _ (by decide+kernel)) (O.gl i3).1 (bl _ (by decide+kernel)) (by rw[hc];exact hve) (by rw[hc];rfl) P hc hd hv L1 L2 w1 w2 (by rw[O.n];exact O.nd) (by rw[O.n];exact o1) (by rw[O.n];exact t1) (by rw[O.s];exact nu o2) (by rw[O.s];exact nu t2) (O.fn o o3) (O.fn t t3) Ψ Φ (bg _6) (bg _6) c2e c3e ixe η s' σ H D I ⟨hσ,q⟩
 have P:=Yc (i:=i) (p:=xp) (cpos:=cp) (yp:=yp) (epos:=ep) (hpos:=z) (pos:=g) F hr g1 hm hk hb (wd (B:=B) h O.tonc.qd (ms:=s.ms) hn) O.stk O.frm O.ex0 gy1 ν (by rw[O.n];exact O.nd) (by rw[O.n];exact m1) (by rw[O.s];exact ξ) hs (bg _6) g2 gy2 (ag β.1) (i8 β.2);refine PS.imp P λD σ H ⟨G,U,R,ex,q⟩=>⟨G,U,R,?_⟩;unfold FK at q;cases er:Rw ev C s.ms (e::es) U with
 |er c=>rw[er]at q;exact q.elim
 |st=>rw[er]at q;exact q.elim
 |ok ds=>
  rw[er]at q;intro vs G1 H1 M al;refine⟨al.length.2,R.gb.same (R.bh.trans M.hh),G1,ds,M.gh,al,?_⟩;dsimp only at q;cases ef:s.f ds with
  |ok d=>rw[ef]at q;exact λv G' H' L Z=>q σ G' H' (M.trans L).gg (R.ext (M.trans L)) (ex.trans (M.trans L))
  |st=>rw[ef]at q;exact q.elim
  |er c=>
   rw[ef]at q;intro G' H' L;have q:js (kx X) G0 B (ek (kx X) E) G (LJ T y i l m ζ ε (LH l m) c U) D:=q;unfold LJ at q
   by_cases hs:(T.xs.sub c y&&T.xs.ve c&&T.xs.plain c&&T.xs.sub c c&&decide (i<_7 U))=d_
   .rw[aO hs]at q;simp only[aH,j_]at hs;obtain⟨⟨⟨⟨s1,s2⟩,s3⟩,s4⟩,s5⟩:=hs;obtain⟨Cy',J,hex⟩:=O.sub c y s1;rw[ν]at J;cases (J);refine⟨hex,λa b hc hd hv=>?_⟩;cases b1:J5 T c ζ with
    |none=>rw[b1]at q;exact q.elim
    |some w=>
     cases b2:J5 T c ε with
     |none=>rw[b1,b2]at q;exact q.elim
     |some u=>
      rw[b1,b2]at q;dsimp only at q;obtain⟨L1,n1⟩:=Di O.tonc _6 s4 l1 b1 y1;obtain⟨L2,n2⟩:=Di O.tonc _6 s4 l2 b2 y2;obtain⟨PX,nl⟩:=O.plain c s3;have iL:i<_7 σ:=by rw[R.len];exact s5
      refine⟨mz X.mg c,w,u,PX,hc,hd.resolve_right λ⟨C0,m0,e0⟩=>?_,hv,O.ve c s2,L1,L2,by rw[n1];exact cB z1 (by decide),by rw[n2];exact cB z2 (by decide),aQ iL,G',_,(R.ext (M.trans L)).setAny,ex.trans (M.trans L),Xp (js.same (M.trans L).gg q)⟩;cases (e0);exact nl m0
   .rw[aJ hs]at q;exact q.elim
def qp(T:GT)(ev:Ev)(C:SC)(st:s_):f_ (En->fq):=match Nr st with
 | a_ k => (match T.qQ k.c.1, slot C k.n, fy C k.o, fy C k.t with
  |some s,a_ i,a_ b,a_ a=>if vw C k.c.1&&(k.c.2.2.1::k.c.2.2.2.1).all cq&&vw C k.y&&T.xs.rL k.y&&decide (C.sc.names.lookup k.n=a_ .local)&&decide (slot C k.o=a_ b)&&decide (slot C k.t=a_ a)&&decide (i≠b)&&decide (i≠a)&&vw C "isinstance"&&vw C "ValueError"&&(k.ys1.all λy=>vw C y)&&(k.ys2.all λy=>vw C y)&&decide (_7 k.ys1<=1000)&&decide (_7 k.ys2<=1000)
    then a_ (FK s.f (Rw ev C s.ms (k.c.2.2.1::k.c.2.2.2.1)) (LJ T k.y i b a k.ys1 k.ys2 (LH b a)))else c_
  |_,_,_,_=>c_)
 |none=>c_
set_option tactic.hygienic true in
def Vs(h:fw T ev)(O:SOk X C T E){st:s_}{F:En->fq}(k:qp T ev C st=a_ F):ja X G0 B (ek (kx X) E) st F:=by
 unfold qp at k;cases a:Nr st with
 |none=>rw[a]at k;cases k
 |some t=>
  rw[a]at k;dsimp only at k;split at k
  .rename_i s i Y U q p o n;split at k
   .rename_i l;cases k;simp only[aH,j_]at l;obtain⟨⟨⟨⟨⟨⟨⟨⟨⟨⟨⟨⟨⟨⟨J,I⟩,H⟩,G⟩,A⟩,z⟩,y⟩,x⟩,w⟩,g⟩,f⟩,e⟩,d⟩,c⟩,b⟩:=l;obtain⟨L,j,m,Q,N,M,rfl,v,u,r⟩:=Vt a;exact FA h O q J I H G p A o n z y x w g f e d c b v u r
   .cases k
  .cases k
def Ao(T:GT)(ev:Ev)(C:SC)(st:s_):En->fq:=match qp T ev C st with
 |some F=>F
 |none=>pb
def Zc(h:fw T ev)(O:SOk X C T E){st:s_}:ja X G0 B (ek (kx X) E) st (Ao T ev C st):=by
 unfold Ao;cases a:qp T ev C st with
 |some F=>exact Vs h O a
 |none=>exact jr
end
mutual
def Ik:h_->GT->Expr->b_ k_
 |0,_,_=>[]
 |n+1,T,e=>match e with
  |.Name x _=>[x]
  |.IfExp c a b _=>yt n T c++Ik n T a++Ik n T b
  |.BoolOp _ vs _=>vs.flatMap (Ik n T)
  |e=>yt n T e
def yt:h_->GT->Expr->b_ k_
 |0,_,_=>[]
 |n+1,T,e=>match e with
  |.BinOp a _ b _=>yt n T a++yt n T b
  |.UnaryOp _ a _=>yt n T a
  |.BoolOp _ vs _=>vs.flatMap (yt n T)
  |.IfExp c a b _=>yt n T c++Ik n T a++Ik n T b
  |.Compare l _ rs _=>yt n T l++rs.flatMap (yt n T)
  |.Tuple es _ _=>es.flatMap (Ik n T)
  |.List es _=>es.flatMap (Ik n T)
  |.Subscript a i _=>yt n T a++yt n T i
  |.ListComp elt gens _ _=>Ik n T elt++gens.flatMap λg=>yt n T g.iter++g.ifs.flatMap (yt n T)
  | .Call (.Name f _) args _ _ => (match T.qQ f with
   |some s=>(s.ms.zip args).flatMap λp=>if p.1 then yt n T p.2 else Ik n T p.2
   |none=>if(T.cls f).isSome then args.flatMap (Ik n T)else args.flatMap (yt n T))
  |.Call (.Attribute o _ _) args _ _=>yt n T o++args.flatMap (Ik n T)
  |_=>[]
end
noncomputable def SS(T:GT)(st:s_):b_ k_:=match st with
 |.Return (a_ e) _=>Ik 30 T e
 |.Assign [.Name _ _] e _=>Ik 30 T e
 |.Assign [.Subscript _ k _] e _=>Ik 30 T e++yt 30 T k
 |.AugAssign _ _ e _=>yt 30 T e
 |.Expr (.Call (.Attribute (.Name _ _) m _) a _ _) _=>if m="extend" then a.flatMap (yt 30 T)else a.flatMap (Ik 30 T)
 |.Expr e _=>yt 30 T e
 |.If c _ _ _=>yt 30 T c
 |.For _ (.Name x p) [.Expr (.Call (.Attribute (.Name _ _) m _) [_] _ _) _] _ _=>if m="extend" then[]else[x]
 |.For _ iter _ _ _=>Ik 30 T iter
 |.Try [.Expr e _] _ _ _ _=>yt 30 T e
 |.Try [.Assign [.Name _ _] e _] _ _ _ _=>yt 30 T e
 |_=>[]
def Y2(C:SC)(xs:b_ k_):b_ h_:=xs.filterMap (slot C)
noncomputable def O4(T:GT)(C:SC)(x y:k_):l_:=decide (x=y)&&decide (slot C x=c_)&&vw C x&&(T.qQ x).isNone
def Mg{T:GT}{C:SC}{X:Cx}(O:nc X C T E){x y:k_}(h:O4 T C x y=d_):x=y/\Gl X x:=by unfold O4 at h;simp only[aH,j_]at h;exact⟨h.1.1.1,(O.gl h.1.2).1⟩
noncomputable def Hx(T:GT)(d:Ev)(C:SC)(e:Expr):f_ (En->bi):=match e with
 |.List c _=>if c.all cq then a_ (c7 (mq d C c))else c_
 |.Call (.Name x _) [a] [] _=>if O4 T C x "list" then(if cq a then a_ (g1 j9 (ig d C a))else c_)else c_
 |.BinOp (.List c _) f b _=>if Mh f&&c.all cq then a_ (Fw (c7 (mq d C c)) (ig d C b))else c_
 |_=>c_
noncomputable def ir(a:Ev)(C:SC)(e:Expr):f_ (En->n7):=match e with
 |.Call (.Attribute (.Name x _) m c) [k,v] [] b=>if m="setdefault"&&cq k&&cq v&&(c.endLine==b.line)then(slot C x).map λi=>if C.td.contains x then y6 i (ig a C k) (a C v)else Df i (ig a C k) (a C v)else c_
 |_=>c_
noncomputable def Hw(d g:Ev)(C:SC)(e:Expr):f_ (En->n7):=match e with
 | .IfExp c a b _ => (match ir d C a, ir d C b with
  |some f,c_=>a_ (R8 (g C c) f (Sd (d C b)))
  |none,a_ f=>a_ (R8 (g C c) (Sd (d C a)) f)
  |some f,a_ h=>a_ (R8 (g C c) f h)
  |none,c_=>c_)
 |e=>ir d C e
noncomputable def Am(a:Ev)(C:SC)(e:Expr):f_ (En->n7):=match e with
 | .Compare l [b] [r] _ => (match ir a C l, Ck b with
  |some f,a_ p=>if jc r then a_ (R7 p f (ig a C r))else c_
  |_,_=>c_)
 |_=>c_
section
variable{T:GT}{ev tv:Ev}{X:Cx}{C:SC}{G0 B:Hp}{E:XK}
set_option tactic.hygienic true in
def yw(h:fw T ev)(O:nc X C T E){e:Expr}{f:En->n7}(a:ir ev C e=a_ f):Qg X G0 B (ek (kx X) E) e f:=by
 unfold ir at a;split at a
 .rename_i x p m o k v n
  by_cases c:(decide (m="setdefault")&&cq k&&cq v&&(o.endLine==n.line))=d_
  .rw[aO c]at a;simp only[aH,j_]at c;obtain⟨⟨⟨rfl,l⟩,j⟩,g⟩:=c;cases b:slot C x with
   |none=>rw[b]at a;cases a
   |some i=>
    rw[b]at a;cases a;dsimp only
    by_cases d:C.td.contains x=d_
    .rw[aO d];exact Jk (by have:=O.units;lia) (O.var b) (bj h O k) (h X C B E v O) l j g
    .rw[aJ d];exact Ot (O.var b) (bj h O k) (h X C B E v O) l j g
  .rw[aJ c]at a;cases a
 .cases a
set_option tactic.hygienic true in
def OI(h:fw T ev)(j:Aw T tv)(O:nc X C T E){e:Expr}{f:En->n7}(d:Hw ev tv C e=a_ f):Qg X G0 B (ek (kx X) E) e f:=by
 unfold Hw at d;split at d
 .rename_i c a b p;cases i:ir ev C a with
  |none=>
   cases g:ir ev C b with
   |none=>rw[i,g]at d;cases d
   |some m=>rw[i,g]at d;cases d;exact Rj (j X C B E c O) (Lu (h X C B E a O)) (yw h O g)
  |some m=>
   cases g:ir ev C b with
   |none=>rw[i,g]at d;cases d;exact Rj (j X C B E c O) (yw h O i) (Lu (h X C B E b O))
   |some l=>rw[i,g]at d;cases d;exact Rj (j X C B E c O) (yw h O i) (yw h O g)
 .exact yw h O d
set_option tactic.hygienic true in
def IR(h:fw T ev)(O:nc X C T E){e:Expr}{f:En->n7}(a:Am ev C e=a_ f):NA X G0 B (ek (kx X) E) e f:=by
 unfold Am at a;split at a
 .rename_i l g r p;cases b:ir ev C l with
  |none=>rw[b]at a;cases a
  |some m=>
   cases d:Ck g with
   |none=>rw[b,d]at a;cases a
   |some q=>
    rw[b,d]at a;dsimp only at a
    by_cases c:jc r=d_
    .rw[aO c]at a;cases a;obtain⟨j,g1,g2,i⟩:=xn (X:=X) d O.units;exact BA g1 g2 i (yw h O b) (bj h O r) (j8 c)
    .rw[aJ c]at a;cases a
 .cases a
end
noncomputable def Al(T:GT)(b:Ev)(C:SC)(e:Expr):f_ (En->bi):=match e with
 |.Call (.Name x _) [a] [] _=>if O4 T C x "dict"&&cq a then a_ (ig b C a)else c_
 |_=>c_
noncomputable def x9(T:GT)(b d:Ev)(C:SC)(x:k_)(e:Expr):En->fq:=match fy C x with
 |none=>pb
 | a_ i => (match e with
  | .Dict j h _ => (match j, h with
   |[],[]=>if C.td.contains x then U5 i else U4 i
   |_,_=>pb)
  |.ListComp c gens a _=>rj i (ju b d C c gens a)
  | e => (match Hx T b C e with
   |some g=>if jb e then rj i g else pb
   | c_ => if jb e then (match Hw b d C e with
    |some f=>Nk i f
    | c_ => (match Al T b C e with
     |some g=>Ea i g
     |none=>uw i (b C e)))else pb))
noncomputable def Eg(c:Ev)(C:SC)(x m:k_)(b:b_ Expr):En->fq:=match slot C x,b with
 |some i,[a]=>if m="append" then(if cq a then Kx i (c C a)else pb)
  else if m="extend" then(if cq a then Ky i (ig c C a)else pb)
  else pb
 |_,_=>pb
def fz(is:b_ h_)(F:En->fq):En->fq:=λU=>F (nw is U)
noncomputable def CQ(i:h_)(U:En):l_:=match U[i]? with
 |some (.ow _)=>d_
 |_=>e_
abbrev Bv:=SC->b_ s_->En->fq
structure GrpQ where
 t:l_
 f:h_
 j:h_
 k:Expr
 v:Expr
noncomputable def ia:Expr->f_ k_
 |.Name x _=>a_ x
 |_=>c_
def cb{e:Expr}{x:k_}(h:ia e=a_ x):∃p,e=.Name x p:=by
 unfold ia at h;split at h
 .cases h;exact⟨_,_6⟩
 .cases h
noncomputable def yu:b_ s_->f_ Expr
 |[.Expr e _]=>a_ e
 |_=>c_
def ni{a:b_ s_}{e:Expr}(h:yu a=a_ e):∃p,a=[.Expr e p]:=by
 unfold yu at h;split at h
 .cases h;exact⟨_,_6⟩
 .cases h
noncomputable def Dm:b_ Expr->f_ Expr
 |[k,.List [] _]=>a_ k
 |_=>c_
def wz{es:b_ Expr}{k:Expr}(h:Dm es=a_ k):∃p,es=[k,.List [] p]:=by
 unfold Dm at h;split at h
 .cases h;exact⟨_,_6⟩
 .cases h
noncomputable def w8:b_ Expr->f_ Expr
 |[k]=>a_ k
 |_=>c_
def iq{es:b_ Expr}{k:Expr}(h:w8 es=a_ k):es=[k]:=by
 unfold w8 at h;split at h
 .cases h;rfl
 .cases h
def nr(C:SC)(tg:Expr)(a:b_ s_):f_ GrpQ:=do
 let y <-ia tg;let (o,e,h) <-oi (<-yu a);let b <-w8 h;let (d,g,i) <-oi o;let x <-ia d;let c <-Dm i;let f <-slot C x;let j <-fy C y
 if decide (g="setdefault")&&decide (e="append")&&cq c&&cq b then a_ ⟨C.td.contains x,f,j,c,b⟩else c_
inductive GrpS(C:SC)(tg:Expr)(body:b_ s_)(q:GrpQ):Prop
 |mk (y x:k_) (py px ap cp lp ap2 cp2 ep:v_) (_:tg=.Name y py) (_:body=[.Expr (.Call (.Attribute (.Call (.Attribute (.Name x px) "setdefault" ap) [q.k,.List [] lp] [] cp) "append" ap2) [q.v] [] cp2) ep]) (_:slot C x=a_ q.f) (_:fy C y=a_ q.j) (_:cq q.k=d_) (_:cq q.v=d_) (_:(ap.endLine==cp.line)=d_) (_:(ap2.endLine==cp2.line)=d_):GrpS C tg body q
set_option tactic.hygienic true in
def A7{C:SC}{tg:Expr}{a:b_ s_}{q:GrpQ}(b:nr C tg a=a_ q):GrpS C tg a q:=by
 simp only[nr,bind,bC]at b;obtain⟨y,u,O,s,⟨o,J,Q⟩,r,I,p,⟨H,L,T⟩,n,x,m,M,l,N,w,j,v,b⟩:=b;obtain⟨f,rfl⟩:=cb u;obtain⟨h,rfl⟩:=ni s;obtain⟨e,d,rfl,A⟩:=e9 r;obtain⟨G,z,rfl,B⟩:=e9 n;cases iq p;obtain⟨g,rfl⟩:=cb m;obtain⟨i,rfl⟩:=wz l;dsimp only at b;split at b
 .rename_i c;simp only[aH,j_]at c;obtain⟨⟨⟨rfl,rfl⟩,c1⟩,E⟩:=c;cases b;exact⟨y,x,f,g,G,z,i,e,d,h,_6,_6,w,v,c1,E,B,A⟩
 .cases b
def FL(t:l_)(f j:h_)(r:En->ey)(b a:En->bi):En->fq:=if t then Ni d_ ar kT f j r b a else Ni e_ cf kD f j r b a
structure ExtQ where
 w:h_
 j:h_
 y:h_
 e:Expr
def nj(C:SC)(tg iter:Expr)(b:b_ s_):f_ ExtQ:=do
 let z <-ia tg;let x <-ia iter;let (c,m,a) <-oi (<-yu b);let y <-ia c;let e <-w8 a;let w <-slot C x;let j <-fy C z;let y <-slot C y
 if decide (m="extend")&&cq e then a_ ⟨w,j,y,e⟩else c_
inductive ExtS(C:SC)(tg iter:Expr)(body:b_ s_)(q:ExtQ):Prop
 |mk (z x y:k_) (pz px py ap cp ep:v_) (_:tg=.Name z pz) (_:iter=.Name x px) (_:body=[.Expr (.Call (.Attribute (.Name y py) "extend" ap) [q.e] [] cp) ep]) (_:slot C x=a_ q.w) (_:fy C z=a_ q.j) (_:slot C y=a_ q.y) (_:cq q.e=d_) (_:(ap.endLine==cp.line)=d_):ExtS C tg iter body q
set_option tactic.hygienic true in
def A6{C:SC}{tg iter:Expr}{b:b_ s_}{q:ExtQ}(d:nj C tg iter b=a_ q):ExtS C tg iter b q:=by
 simp only[nj,bind,bC]at d;obtain⟨z,s,x,r,J,p,⟨H,m,a⟩,o,y,n,e,l,w,A,j,v,I,u,d⟩:=d;obtain⟨f,rfl⟩:=cb s;obtain⟨h,rfl⟩:=cb r;obtain⟨i,rfl⟩:=ni p;obtain⟨G,B,rfl,E⟩:=e9 o;obtain⟨g,rfl⟩:=cb n;cases iq l;dsimp only at d;split at d
 .rename_i c;simp only[aH,j_]at c;obtain⟨rfl,c1⟩:=c;cases d;exact⟨z,x,y,f,h,g,G,B,i,_6,_6,_6,A,v,u,c1,E⟩
 .cases d
def Ng(w j y:h_)(g:En->bi)(F:En->fq):En->fq:=λU=>if CQ w U then Nh w j y g U else F U
structure PopQ where
 x:h_
 y:h_
 e:Expr
def uf(C:SC)(x m:k_)(b:b_ Expr):f_ PopQ:=do
 let (c,d,a) <-oi (<-w8 b);let y <-ia c;let e <-w8 a;let i <-slot C x;let j <-slot C y
 if decide (m="append")&&decide (d="pop")&&cq e then a_ ⟨i,j,e⟩else c_
def Rt:s_->f_ (Expr×Expr×b_ s_)
 |.For tg iter a [] _=>a_ (tg,iter,a)
 |_=>c_
def Jq{st:s_}{q:Expr×Expr×b_ s_}(h:Rt st=a_ q):∃p,st=.For q.1 q.2.1 q.2.2 [] p:=by
 unfold Rt at h;split at h
 .cases h;exact⟨_,_6⟩
 .cases h
def Lj:s_->f_ (k_×Expr)
 |.Assign [.Name x _] e _=>a_ (x,e)
 |_=>c_
def yd{st:s_}{q:k_×Expr}(h:Lj st=a_ q):∃p a,st=.Assign [.Name q.1 p] q.2 a:=by
 unfold Lj at h;split at h
 .cases h;exact⟨_,_,_6⟩
 .cases h
def Rn:s_->f_ Expr
 |.Expr e _=>a_ e
 |_=>c_
def Jo{st:s_}{e:Expr}(h:Rn st=a_ e):∃p,st=.Expr e p:=by
 unfold Rn at h;split at h
 .cases h;exact⟨_,_6⟩
 .cases h
def GQ:Expr->f_ (k_×k_)
 |.Tuple [.Name y _,.Name z _] _ _=>a_ (y,z)
 |_=>c_
def Qb{e:Expr}{q:k_×k_}(h:GQ e=a_ q):∃p b k a,e=.Tuple [.Name q.1 p,.Name q.2 b] k a:=by
 unfold GQ at h;split at h
 .cases h;exact⟨_,_,_,_,_6⟩
 .cases h
def Jr:b_ s_->f_ (s_×s_×s_×s_)
 |[a,b,c,d]=>a_ (a,b,c,d)
 |_=>c_
def Ft{a:b_ s_}{q:s_×s_×s_×s_}(h:Jr a=a_ q):a=[q.1,q.2.1,q.2.2.1,q.2.2.2]:=by
 unfold Jr at h;split at h
 .cases h;rfl
 .cases h
def Kn:b_ Expr->f_ _r
 |[]=>a_ ()
 |_=>c_
def Gj{es:b_ Expr}{u:_r}(h:Kn es=a_ u):es=[]:=by
 unfold Kn at h;split at h
 .rfl
 .cases h
structure E1Q where
 f:h_
 jy:h_
 jz:h_
 jw:h_
def Cw(C:SC)(st:s_):f_ E1Q:=do
 let (tg,iter,a) <-Rt st;let (y,z) <-GQ tg;let (h,l,q) <-oi iter;let w <-ia h;let _ <-Kn q;let (o,i,n) <-oi (<-yu a);let d <-ia (<-w8 n);let (g,j,p) <-oi o;let x <-ia g;let e <-ia (<-Dm p);let f <-slot C x;let c <-fy C y;let b <-fy C z;let m <-slot C w
 if decide (l="items"/\j="setdefault"/\i="extend"/\slot C e=a_ c/\slot C d=a_ b/\c≠b/\c≠f/\b≠f)then a_ ⟨f,c,b,m⟩else c_
structure CoQ where
 a:E1Q
 i2:h_
 ic:h_
 e2:Expr
 e4:Expr
def tf(C:SC)(b:b_ s_):f_ CoQ:=do
 let (o,n,l,j) <-Jr b;let a <-Cw C o;let (m,g) <-Lj n;let (r,h,i) <-oi (<-Rn l);let s <-ia r;let p <-ia (<-w8 i);let (w,e) <-Lj j;let c <-fy C m;let q <-slot C s;let d <-fy C w
 if decide (h="update"/\slot C p=a_ c/\d=a.jw/\jb g=d_/\jb e=d_/\c≠a.f/\d≠a.f)then a_ ⟨a,c,q,g,e⟩else c_
section
variable{T:GT}{ev tv:Ev}{X:Cx}{C:SC}{G0 B:Hp}{E:XK}{pos:v_}
set_option tactic.hygienic true in
def IU(O:SOk X C T E){st:s_}{q:E1Q}(a:Cw C st=a_ q):PS X st (tEx X G0 B q.f q.jy q.jz q.jw):=by
 have L:X.A.units+5<cP:=by have:=O.units;lia
 simp only[Cw,bind,bC]at a;obtain⟨⟨tg,iter,u⟩,h1,⟨y,z⟩,h2,⟨wo,m0,a0⟩,h3,w,h4,_,h5,e0,Y,⟨o,m2,a2⟩,U,ze,Q,v,M,⟨xo,m1,b⟩,j,x,g,ke,e,G,d,f,e1,jy,m,jz,l,jw,e4,a⟩:=a;obtain⟨p1,rfl⟩:=Jq h1;obtain⟨py,pz,k1,tp,rfl⟩:=Qb h2;obtain⟨ap,cp,rfl,c1⟩:=e9 h3;obtain⟨pw,rfl⟩:=cb h4;cases Gj h5;obtain⟨ep,rfl⟩:=ni Y;obtain⟨ν,θ,rfl,c2⟩:=e9 U;cases iq Q;obtain⟨p3,rfl⟩:=cb M;obtain⟨ξ,ι,rfl,c3⟩:=e9 j;obtain⟨p,rfl⟩:=cb g;obtain⟨lp,rfl⟩:=wz e;obtain⟨p2,rfl⟩:=cb d;split at a
 .rename_i c;obtain⟨rfl,rfl,rfl,s,r,J,I,H⟩:=y_ c;cases a;have lt:∀{x:k_}{i:h_},fy C x=a_ i->i<_7 X.N:=λh=>by rw[O.n];exact(i_.mp (i6 h).1).1
  obtain rfl:G=y:=by have b:=(kf s).1;rw[(i6 m).1]at b;exact(aZ b).symm
  obtain rfl:v=z:=by have b:=(kf r).1;rw[(i6 l).1]at b;exact(aZ b).symm
  exact FH O.pass O.calm L (O.var e4) (O.tg m) (O.tg l) (O.var e1) (O.var s) (O.var r) c1 c3 c2 (lt m) (lt l) J I H
 .cases a
set_option tactic.hygienic true in
def IX(h:fw T ev)(O:SOk X C T E){c:Expr}{g:En->bi}{b:b_ s_}{q:CoQ}(d:tf C b=a_ q)(y:ph X B (ek (kx X) E) c g):ja X G0 B (ek (kx X) E) (.While c b [] pos) (uq q.a.f q.a.jw q.a.jy q.a.jz q.i2 q.ic g (ev C q.e2) (ev C q.e4)):=by
 have x:X.A.units+5<cP:=by have:=O.units;lia
 simp only[tf,bind,bC]at d;obtain⟨⟨s1,s2,s3,s4⟩,Q,a,N,⟨m,Y⟩,M,e0,L,⟨co,um,ua⟩,J,cn,I,mo,H,mn,G,⟨w,U⟩,z,i2,v,ic,u,iw,s,d⟩:=d;cases Ft Q;obtain⟨p1,p2,rfl⟩:=yd M;obtain⟨p3,rfl⟩:=Jo L;obtain⟨ap,cp,rfl,c1⟩:=e9 J;obtain⟨p4,rfl⟩:=cb I;cases iq H;obtain⟨p5,rfl⟩:=cb G;obtain⟨p6,p7,rfl⟩:=yd z;split at d
 .rename_i c;obtain⟨rfl,r,rfl,p,o,n,l⟩:=y_ c;cases d;exact U8 O.pass y (IU O N) (JE (λi=>h X C i E Y O.tonc) (λj e=>O.st v e (bg p)) n) (PH x (O.var u) (O.var r) c1) (JE (λi=>h X C i E U O.tonc) (λj e=>O.st s e (bg o)) l)
 .cases d
end
noncomputable def Vj(T:GT)(g r:Ev)(p:Bv)(C:SC)(st:s_):En->fq:=match st with
 | .Return o _ => (match o with
  |some e=>mj (g C e)
  |none=>AX)
 | .Assign s e _ => (match s with
  |[.Name x _]=>x9 T g r C x e
  | [.Subscript (.Name x _) k _] => (match slot C x with
   |some i=>if so k then(if C.td.contains x then D7 i (ig g C k) (g C e)else Nf i (ig g C k) (g C e))else pb
   |none=>pb)
  |_=>pb)
 | .Expr e _ => (match e with
  |.Constant (.str _) _ _=>Nj
  | .Call (.Attribute (.Name x G) m E) l u B => (match u with
   |[]=>if E.endLine==B.line then(match ir g C (.Call (.Attribute (.Name x G) m E) l [] B)with
    |some f=>D8 f
    | c_ => (match uf C x m l with
     |some q=>x8 q.x q.y (g C q.e)
     |none=>Eg g C x m l))else pb
   |_=>pb)
  |e=>if jb e then U3 (g C e)else pb)
 | .If c a b _ => (match Am g C c with
  |some f=>Yq f (p C a) (p C b)
  |none=>Im (r C c) (p C a) (p C b))
 | .For tg iter d h _ => (match h, Vr C tg with
  | [], a_ f => if jc iter then (match nr C tg d with
   |some q=>FL q.t q.f q.j (ki g C tg iter) (g C q.k) (g C q.v)
   | c_ => (match nj C tg iter d with
    |some q=>Ng q.w q.j q.y (ig g C q.e) (Kz f (ki g C tg iter) (p C d))
    |none=>Kz f (ki g C tg iter) (p C d)))else pb
  |_,_=>pb)
 | .While c d h _ => (match h with
  | [] => (match tf C d with
   |some q=>uq q.a.f q.a.jw q.a.jy q.a.jz q.i2 q.ic (r C c) (g C q.e2) (g C q.e4)
   |none=>PK (r C c) (p C d))
  |_=>pb)
 |.Raise A n I=>v8 T g C (.Raise A n I)
 |.Try d J h z H=>Ao T g C (.Try d J h z H)
 |_=>pb
def AR(T:GT)(b a:Ev)(c:Bv)(C:SC)(st:s_):En->fq:=fz (Y2 C (SS T st)) (Vj T b a c C st)
def K1(f:s_->En->fq):b_ s_->En->fq
 |[]=>uu
 |[s]=>f s
 |s::r=>fe (f s) (K1 f r)
def AE(T:GT)(b:Bv):Prop:=∀X C c B (E:XK) a,SOk X C T E->sv X c B (ek (kx X) E) a (b C a)
section
variable{T:GT}{ev tv:Ev}{bv:Bv}{X:Cx}{C:SC}{G0 B:Hp}{E:XK}{pos pos':v_}
set_option tactic.hygienic true in
def IB(h:fw T ev)(O:nc X C T E){e:Expr}{g:En->bi}(c:Hx T ev C e=a_ g):Qj X B (ek (kx X) E) e g:=by
 unfold Hx at c;split at c
 .rename_i m _
  by_cases d:m.all cq=d_
  .rw[aO d]at c;cases c;exact Dv kj (l7 h O d)
  .rw[aJ d]at c;cases c
 .rename_i x p a pos
  by_cases l:O4 T C x "list"=d_
  .rw[aO l]at c;obtain⟨rfl,j⟩:=Mg O l
   by_cases d:cq a=d_
   .rw[aO d]at c;cases c;exact Gq O.calm j (O.bl _ (by decide)) (bj h O a) d
   .rw[aJ d]at c;cases c
  .rw[aJ l]at c;cases c
 .rename_i m p i b pos
  by_cases f:(Mh i&&m.all cq)=d_
  .rw[aO f]at c;cases c;rw[aH]at f;have:i=.Mult:=by cases i<;>first|rfl|(cases f.1)
   subst this;exact Tt (Dv kj (l7 h O f.2)) Dj (bj h O b)
  .rw[aJ f]at c;cases c
 .cases c
set_option tactic.hygienic true in
def IV(O:nc X C T E){e:Expr}{g:En->bi}(b:Al T ev C e=a_ g):∃p a q,e=.Call (.Name "dict" p) [a] [] q/\g=ig ev C a/\Gl X "dict"/\cq a=d_:=by
 unfold Al at b;split at b
 .rename_i x p a q
  by_cases c:(O4 T C x "dict"&&cq a)=d_
  .rw[aO c]at b;rw[aH]at c;obtain⟨rfl,d⟩:=Mg O c.1;cases b;exact⟨p,a,q,_6,_6,d,c.2⟩
  .rw[aJ c]at b;cases b
 .cases b
def BV(h:fw T ev)(r:Aw T tv)(O:SOk X C T E){x:k_}{e:Expr}:ja X G0 B (ek (kx X) E) (.Assign [.Name x pos'] e pos) (x9 T ev tv C x e):=by
 unfold x9;cases d:fy C x with
 |none=>exact jr
 |some i=>
  dsimp only;have v:ja X G0 B (ek (kx X) E) (.Assign [.Name x pos'] e pos) (match Hx T ev C e with
   |some g=>if jb e then rj i g else pb
   | c_ => if jb e then (match Hw ev tv C e with
    |some f=>Nk i f
    | c_ => (match Al T ev C e with
     |some g=>Ea i g
     |none=>uw i (ev C e)))else pb):=by
   cases ho:Hx T ev C e with
   |none=>
    dsimp only
    by_cases j:jb e=d_
    .rw[aO j];cases hf:Hw ev tv C e with
     |none=>
      cases hd:Al T ev C e with
      |none=>have l:=h X C B E e O.tonc;exact JD l (O.st d l (bg j))
      |some g=>obtain⟨p,a,q,rfl,rfl,z,w⟩:=IV O.tonc hd;have l:=Xr (X:=X) (B:=B) (E:=ek (kx X) E) (p:=p) (pos:=q) z (O.bl _ (by decide)) (bj h O.tonc a) w;exact Yx (Yw (O.st d l (bg j))) (O.st d (Ti (by have:=O.units;lia) O.calm z (O.bl _ (by decide)) (bj h O.tonc a) (ag w)) (bg j))
     |some f=>have l:Qg X G0 B (ek (kx X) E) e f:=OI h r O.tonc hf;exact FC (O.st d l (bg j))
    .rw[aJ j];exact jr
   |some g=>
    dsimp only
    by_cases j:jb e=d_
    .rw[aO j];have l:Qj X B (ek (kx X) E) e g:=IB h O.tonc ho;exact Va l (O.st d l (bg j))
    .rw[aJ j];exact jr
  cases e with
  |Dict Q A p=>
   cases Q with
   |nil=>
    cases A with
    |nil=>
     dsimp only
     by_cases r:C.td.contains x=d_
     .rw[aO r];exact Yv (O.st d Tz (bg _6))
     .rw[aJ r];exact FD (O.st d Gw (bg _6))
    |cons _ _=>exact jr
   |cons _ _=>exact jr
  |ListComp m gens c y=>
   have u:=yf (X:=X) (B:=B) (E:=E) (pos:=y) (elt:=m) (gens:=gens) (scope:=c) h r O.tonc;have sw:∃b,eR (.ListComp m gens c y) (a_ (.Name x pos')) pos.line X.env=pure b:=⟨_,_6⟩;obtain⟨b,sw⟩:=sw;cases b with
   |false=>exact Va u.1 (O.st d u.1 sw)
   |true=>
    show ja X G0 B _ _ (rj i (ju ev tv C m gens c));obtain⟨M,L,J⟩:=i6 d;have Y:X.N[i]?=a_ x:=by rw[O.n];exact M
    have hl:L2.N1 X.env.scope x:=by rw[O.s];exact nu L
    have hN:X.N.Nodup:=by rw[O.n];exact O.nd
    clear u;cases Zp (B:=B) (elt:=m) (gens:=gens) (scope:=c) h r O.tonc with
    |st e=>rw[e];exact λo s σ H D I ⟨G,U,R,ex,q⟩=>q.elim
    |ok eg eG st hA hF hE hi d=>rw[eG];subst eg;intro o s σ H D I q;obtain⟨cl,O2,Bk⟩:=st I.ok;exact FE O2 O.calm hA Bk hF hE hi hN Y hl (O.fn x J) d sw o s σ H D I q
  |_=>exact v
def L5{a:Expr}{c:T_}{b:v_}(d:cq a=d_):((dW b (aU [a] c)).all (λx=> !x.1)&&(lG b (iA [] c)).all (λx=>x.1.isSome)
  &&decide (([a]:b_ Expr).length+([]:b_ fP).length+(if([]:b_ fP).isEmpty then 0 else 1)<30))=d_:=by
 rw[gi (by rw[bO,d];rfl)];rfl
set_option tactic.hygienic true in
def II(h:fw T ev)(O:SOk X C T E){x m:k_}{p j g:v_}{c:b_ Expr}(f:(j.endLine==g.line)=d_):ja X G0 B (ek (kx X) E) (.Expr (.Call (.Attribute (.Name x p) m j) c [] g) pos) (Eg ev C x m c):=by
 unfold Eg;split
 .rename_i i a e
  by_cases d:m="append"
  .subst d;rw[aO _6]
   by_cases b:cq a=d_
   .rw[aO b];exact U7 (O.var e) (h X C B E a O.tonc) _6 (L5 b) f (ag b) _6 _6
   .rw[aJ b];exact jr
  .rw[aJ d]
   by_cases d:m="extend"
   .subst d;rw[aO _6]
    by_cases b:cq a=d_
    .rw[aO b];exact U9 (O.var e) (bj h O.tonc a) _6 (L5 b) f (ag b) _6 _6
    .rw[aJ b];exact jr
   .rw[aJ d];exact jr
 .exact jr
set_option tactic.hygienic true in
def JK(h:fw T ev)(Y:Aw T tv)(u:AE T bv)(O:SOk X C T E){st:s_}:ja X G0 B (ek (kx X) E) st (Vj T ev tv bv C st):=by
 have U:X.A.units+5<cP:=by have:=O.units;lia
 cases st with
 |Return o p=>
  cases o with
  |none=>exact FF
  |some e=>exact AV (h X C B E e O.tonc)
 |Assign γ e p=>
  show ja X G0 B _ _ (match γ with
   |[.Name x _]=>x9 T ev tv C x e
   | [.Subscript (.Name x _) k _] => (match slot C x with
    |some i=>if so k then(if C.td.contains x then D7 i (ig ev C k) (ev C e)else Nf i (ig ev C k) (ev C e))else pb
    |none=>pb)
   |_=>pb)
  split
  .exact BV h Y O
  .rename_i x _ k _;cases hs:slot C x with
   |none=>exact jr
   |some i=>
    dsimp only
    by_cases hp:so k=d_
    .rw[aO hp]
     by_cases M:C.td.contains x=d_
     .rw[aO M];exact Ys U (O.var hs) (bj h O.tonc k) (h X C B E e O.tonc) B7
     rw[aJ M];exact FJ U (O.var hs) (bj h O.tonc k) (h X C B E e O.tonc) B7
    .rw[aJ hp];exact jr
  .exact jr
 |Expr e p=>
  show ja X G0 B _ _ (match e with
   |.Constant (.str _) _ _=>Nj
   | .Call (.Attribute (.Name x xp) m L) g s J => (match s with
    |[]=>if L.endLine==J.line then(match ir ev C (.Call (.Attribute (.Name x xp) m L) g [] J)with
     |some f=>D8 f
     | c_ => (match uf C x m g with
      |some q=>x8 q.x q.y (ev C q.e)
      |none=>Eg ev C x m g))else pb
    |_=>pb)
   |e=>if jb e then U3 (ev C e)else pb)
  split
  .exact JI
  .rename_i x _ m L g s J;cases s with
   |nil=>
    dsimp only
    by_cases hl:(L.endLine==J.line)=d_
    .rw[aO hl];cases N:ir ev C _ with
     |none=>
      dsimp only;cases l:uf C x m g with
      |none=>exact II h O hl
      |some q=>
       dsimp only;simp only[uf,bind,bC]at l;obtain⟨e0,h1,⟨yo,m2,a⟩,h2,y,h5,e,h6,i,I,j,H,l⟩:=l;cases iq h1;obtain⟨η,ε,rfl,h4⟩:=e9 h2;obtain⟨py,rfl⟩:=cb h5;cases iq h6;dsimp only at l;split at l
       .rename_i c;simp only[aH,j_]at c;obtain⟨⟨rfl,rfl⟩,h3⟩:=c;cases l;exact U6 (O.var I) (O.var H) (h X C B E e O.tonc) h3 hl h4
       .cases l
     |some f=>exact Yt (yw h O.tonc N) _6
    .rw[aJ hl];exact jr
   |cons _ _=>exact jr
  .by_cases r:jb e=d_
   .rw[aO r];exact FI (h X C B E e O.tonc) (bg r)
   .rw[aJ r];exact jr
 |If c a b p=>
  show ja X G0 B _ _ (match Am ev C c with
   |some f=>Yq f (bv C a) (bv C b)
   |none=>Im (tv C c) (bv C a) (bv C b))
  cases N:Am ev C c with
  |none=>exact PJ (Y X C B E c O.tonc) (u X C G0 B E a O) (u X C G0 B E b O)
  |some f=>exact JF (IR h O.tonc N) (u X C G0 B E a O) (u X C G0 B E b O)
 |For tg iter d n p=>
  show ja X G0 B _ _ (match n,Vr C tg with
   | [], a_ f => if jc iter then (match nr C tg d with
    |some q=>FL q.t q.f q.j (ki ev C tg iter) (ev C q.k) (ev C q.v)
    | c_ => (match nj C tg iter d with
     |some q=>Ng q.w q.j q.y (ig ev C q.e) (Kz f (ki ev C tg iter) (bv C d))
     |none=>Kz f (ki ev C tg iter) (bv C d)))else pb
   |_,_=>pb)
  cases n with
  |cons _ _=>exact jr
  |nil=>
   cases N:Vr C tg with
   |none=>exact jr
   |some f=>
    dsimp only
    by_cases r:jc iter=d_
    .rw[aO r];obtain⟨gl,G⟩:=Y9 (B:=B) O N;have Q:=JH (G0:=G0) (pos:=p) O.pass O.calm (F5 h O.tonc iter) G (u X C G0 B E d O) (gu r);cases l:nr C tg d with
     |some q=>
      dsimp only;obtain⟨y,x,py,px,L,J,lp,η,ε,pe,rfl,rfl,I,H,c1,c2,c3,c4⟩:=A7 l;unfold FL;split
      .exact AW (SO X) O.pass O.calm U (F5 h O.tonc iter) (O.tg H) (O.var I) (h X C B E q.k O.tonc) (h X C B E q.v O.tonc) c1 c2 c3 c4 (gu r)
      .exact AW (Eo X) O.pass O.calm U (F5 h O.tonc iter) (O.tg H) (O.var I) (h X C B E q.k O.tonc) (h X C B E q.v O.tonc) c1 c2 c3 c4 (gu r)
     |none=>
      dsimp only;cases hx:nj C tg iter d with
      |none=>exact Q
      |some q=>dsimp only;obtain⟨z,x,y,pz,px,py,L,J,pe,rfl,rfl,rfl,I,H,e3,c1,c2⟩:=A6 hx;exact Yr (CQ q.w) (FG O.pass O.calm (O.var I) (O.tg H) (O.var e3) (bj h O.tonc q.e) c1 c2) Q
    .rw[aJ r];exact jr
 |While c d n p=>
  cases n with
  |cons _ _=>exact jr
  |nil=>
   show ja X G0 B _ _ (match tf C d with
    |some q=>uq q.a.f q.a.jw q.a.jy q.a.jz q.i2 q.ic (tv C c) (ev C q.e2) (ev C q.e4)
    |none=>PK (tv C c) (bv C d))
   cases l:tf C d with
   |some q=>exact IX h O l (Y X C B E c O.tonc)
   |none=>exact Yy O.pass (Y X C B E c O.tonc) (u X C G0 B E d O)
 |Raise Δ ζ p=>exact Uz h O.tonc
 |Try d hs n Γ p=>exact Zc h O
 |_=>exact jr
def Vk(h:fw T ev)(a:Aw T tv)(b:AE T bv)(O:SOk X C T E){st:s_}:ja X G0 B (ek (kx X) E) st (AR T ev tv bv C st):=JG _ (JK h a b O)
theorem Vb{f:s_->En->fq}{E:EK}(h:∀st,ja X G0 B E st (f st)):∀{ss:b_ s_},sv X G0 B E ss (K1 f ss)
 |[]=>Vf
 |[s]=>Vg (h s)
 |s::t::r=>Y5 (h s) (Vb h (ss:=t::r))
end
def Ls:h_:=40
def gB(T:GT):h_->Bv
 |0=>λq q=>pb
 |n+1=>λC a=>K1 (AR T (gP T Ls e_) (gP T Ls d_) (gB T n) C) a
def JA{X:Cx}{c B:Hp}{E:EK}{b:b_ s_}:sv X c B E b pb:=λa s σ H D I ⟨G,U,R,x,q⟩=>q.elim
theorem Rx(T:GT):∀n,AE T (gB T n)
 |0=>λX C b B E a O=>JA
 |n+1=>λX C b B E a O=>Vb λst=>Vk (Br T Ls).1 (Br T Ls).2 (Rx T n) O
structure TabIs(P:aV)(w:bP)(K:aK)(mg:k_->f_ aC)(base:r_)(T:GT)(k:h_):Prop where
 qQ:∀x s,T.qQ x=a_ s->∃f fd ps,mg x=a_ (.ref f)/\cT K (.ref f)=d_/\lv K fd ps []/\kz P w K mg base (Bb P w) k f fd ps (spPu ⟨K,mz mg⟩ s.ms s.f)
 rc:∀x y,T.rc x=a_ y->∃t,mg x=a_ (.str y t)
 bl:∀x∈lq,mg x=c_
 rL:∀x,T.xs.rL x=d_->∃C bm newId,mg x=a_ (.ref C)/\dH K C bm newId=d_/\rJ bm newId
 sub:∀c y,T.xs.sub c y=d_->∃Cy,mg y=a_ (.ref Cy)/\aS K (.ref (mz mg c)) (.ref Cy)=a_ d_
 ve:∀c,T.xs.ve c=d_->iN K (.ref (mz mg c)) (.type "ValueError")=a_ d_
 qy:∀c y,T.xs.qy c y=d_->∃Cy,mg y=a_ (.ref Cy)/\aS K (.ref (mz mg c)) (.ref Cy)=a_ e_
 qT:∀x,T.xs.qT x=d_->∃C,C∈rg/\mg x=a_ (.ref C)
 pp:∀c,T.xs.pp c=d_->mz mg c∉rg
 plain:∀c,T.xs.plain c=d_->ol K (mz mg c)/\mz mg c∉rg
 lams:∀e fs ds d,T.lam e fs ds=.ok d->Qi P w K mg base k e fs ds d
 own:∀x s,T.own x=d_->T.qQ x=a_ s->∃f fd ps,mg x=a_ (.ref f)/\cT K (.ref f)=d_/\lv K fd ps []/\kz P w K mg base (Bb P w) k f fd ps (spOw ⟨K,mz mg⟩ s.ms s.f)
 cls:∀c n1 n2,T.cls c=a_ (n1,n2)->1<=k/\rN P w K mg base c n1 n2
def io.u65{k:h_}{A:bT}(r:io k A):A.units+65<cP:=by have:=r.un;lia
def TabIs.xok{X:Cx}{T:GT}{k:h_}{C:SC}{E:XK}(t:TabIs X.prog X.w X.K X.mg X.base T k)(b:io k X.A)(n:X.N=C.N)(s:X.env.scope=C.sc)(r:C.N.Nodup)(calm:X.calm=d_)(o:Acc X E)(kc:C.blk=e_->X.ex=[]/\X.stack=X.env::X.g8/\X.env.frame=a_ X.env.locals)(a:C.lam=d_->Qh X):nc X C T E:=
 ⟨n,s,r,calm,io.u65 b,λx s h=>by
  obtain⟨f,m,ps,l,j,i,g⟩:=t.qQ x s h;exact⟨k,f,m,ps,b,l,j,i,g⟩,t.rc,t.bl,t.rL,t.sub,t.ve,t.qy,t.qT,t.pp,t.plain,o,kc,a,λe fs v d h=>⟨k,b,t.lams e fs v d h⟩,λx s h u=>by
  obtain⟨f,m,ps,l,j,i,g⟩:=t.own x s h u;exact⟨k,f,m,ps,b,l,j,i,g⟩,λc q p h=>⟨b.am (t.cls c q p h).1,(t.cls c q p h).2⟩⟩
theorem qW.len{K:KA}{G:Hp}:∀{fs:b_ (k_×D)}{a:b_ (k_×V)},qW K G fs a->_7 fs=_7 a/\fs.map (·.1)=a.map (·.1)
 |[],_,h=>by rw[show _=[]from h];exact⟨_6,_6⟩
 |(n,d)::fs,_,⟨v,r,f,_,e⟩=>by subst f;obtain⟨c,b⟩:=qW.len e;exact⟨by rw[aR,aR,c],by rw[bK,bK,b]⟩
structure ee where
 x:k_
 st:s_
 ms:b_ l_
 lm:l_
def xm(st:s_):b_ k_:=(dh st).args.map (·.arg)
noncomputable def zg(ps:b_ k_):b_ (k_×gK)->b_ k_
 |[]=>[]
 |(n,k)::r=>if(k=.local\/k=.cell)/\n∉ps then n::zg ps r else zg ps r
def Z3(st:s_):b_ k_:=xm st++zg (xm st) (aj st).names
def GJ(st:s_)(a:l_):SC:=⟨Z3 st,aj st,K9 20 (bx st),a,e_⟩
noncomputable def zt(d:ee):l_:=
 decide ((aj d.st).kind=.function)&&decide ((aj d.st).isCoroutine=e_)&&decide ((aj d.st).isGenerator=e_)&&decide ((Z3 d.st).Nodup)&&decide ((Z3 d.st).take (xm d.st).length=xm d.st) &&
 ((xm d.st).all λx=>decide ((aj d.st).names.lookup x=a_ .local)||decide ((aj d.st).names.lookup x=a_ .cell))&&((aj d.st).names.all λy=>decide (y.2≠.free))&&decide (_7 d.ms=(xm d.st).length)
def ot{d:ee}(h:zt d=d_):pc (Z3 d.st) (xm d.st) (aj d.st)/\_7 d.ms=(xm d.st).length:=by
 unfold zt at h;simp only[aH,j_]at h;obtain⟨⟨⟨⟨⟨⟨⟨m,l⟩,j⟩,i⟩,g⟩,f⟩,e⟩,c⟩:=h;refine⟨⟨m,l,j,i,g,λx b=>?_,λy a=>?_⟩,c⟩
 .have q:=J_.mp f x b;rw[dN,j_,j_]at q;exact q
 .exact y_ (J_.mp e y a)
def Cd(st:s_)(x:k_):Prop:=∀(kV b d:aC)(e:f_ g_)(c ct:aC)(a:b_ aC),_7 a=(xm st).length->bindArgs (cY x x (dh st) (bx st) (aj st) .none kV b d e c ct) ⟨a,[]⟩=pure ((xm st).zip a)
structure DefIn(K:aK)(mg:k_->f_ aC)(d:ee):Prop where
 ok:zt d=d_
 bd:Cd d.st d.x
 nz:∃f fd,mg d.x=a_ (.ref f)/\Fun K d.x d.x d.st f fd/\(d.lm=d_->∃c P,fd.code=.ref c/\(c,P,d.x++".<locals>."++"<lambda>")∈K7/\pJ K c P=d_)
def BF{K:aK}{h:r_}{i:k_->f_ aC}{d:ee}(X:K.In h)(G:h.Ns cD i)(ok:zt d=d_)(o:Cd d.st d.x){f:g_}{n kV g j b ct:aC}{od p:f_ g_}{e:q_ (f_ aC)}
  (a:dM K cD d.x=a_ (a_ (.ref f)))(l:K.lookup f=a_ ⟨n,od,.func (cY d.x d.x (dh d.st) (bx d.st) (aj d.st) .none kV g j p b ct),e⟩)(c:fB K b d.x=d_)(k:cT K (.ref f)=d_)(m:d.lm=d_->∃c P,b=.ref c/\(c,P,d.x++".<locals>."++"<lambda>")∈K7/\pJ K c P=d_):DefIn K i d:=
 ⟨ok,o,f,_,aF X G a,Ru l c k,m⟩
noncomputable def ky(a:b_ ee)(x:k_):f_ ee:=match a with
 |[]=>c_
 |d::r=>if d.x=x then a_ d else ky r x
theorem Ga{x:k_}{d:ee}:∀{a:b_ ee},ky a x=a_ d->d∈a/\d.x=x
 |[],h=>by cases h
 |e::r,h=>by
  unfold ky at h
  by_cases z:e.x=x
  .rw[aO z]at h;cases h;exact⟨bI,z⟩
  .rw[aJ z]at h;obtain⟨c,b⟩:=Ga h;exact⟨bJ _ c,b⟩
def Qq:h_:=20
def cu(T:GT)(d:ee):b_ D->bi:=OH d.ms (Z3 d.st).length (gB T Qq (GJ d.st d.lm) (bx d.st))
noncomputable def my(a:b_ ee)(gs:k_->f_ k_)(xs:XT):h_->GT
 |0=>⟨λq=>c_,gs,xs,λq q q=>.st,λq=>e_,λq=>c_⟩
 |n+1=>⟨λx=>match ky a x with
  |some d=>a_ ⟨d.ms,cu (my a gs xs n) d⟩
  |none=>c_,gs,xs,λq q q=>.st,λq=>e_,xs.cls⟩
structure XsIn(K:aK)(mg:k_->f_ aC)(xs:XT):Prop where
 rL:∀x,xs.rL x=d_->∃C bm newId,mg x=a_ (.ref C)/\dH K C bm newId=d_/\rJ bm newId
 sub:∀c y,xs.sub c y=d_->∃Cy,mg y=a_ (.ref Cy)/\aS K (.ref (mz mg c)) (.ref Cy)=a_ d_
 ve:∀c,xs.ve c=d_->iN K (.ref (mz mg c)) (.type "ValueError")=a_ d_
 qy:∀c y,xs.qy c y=d_->∃Cy,mg y=a_ (.ref Cy)/\aS K (.ref (mz mg c)) (.ref Cy)=a_ e_
 qT:∀x,xs.qT x=d_->∃C,C∈rg/\mg x=a_ (.ref C)
 pp:∀c,xs.pp c=d_->mz mg c∉rg
 plain:∀c,xs.plain c=d_->ol K (mz mg c)/\mz mg c∉rg
 cls:∀c n1 n2,xs.cls c=a_ (n1,n2)->∀P w base,rN P w K mg base c n1 n2
section
variable{P:aV}{w:bP}{K:aK}{mg:k_->f_ aC}{base:r_}{ds:b_ ee}{gs:k_->f_ k_}{xs:XT}
def GV{x:k_}{d:ee}(n:h_)(h:ky ds x=a_ d):(my ds gs xs (n+1)).qQ x=a_ ⟨d.ms,cu (my ds gs xs n) d⟩:=by
 show(match ky ds x with
  |some d=>a_ (FS.mk d.ms (cu (my ds gs xs n) d))
  |none=>c_)=_
 rw[h]
def Bm(mg:k_->f_ aC)(base:r_):Prop:=∃a o,mg "__builtins__"=a_ (.ref a)/\a≠kQ/\a≠cD/\base.get? a=a_ o/\o.cls=.type "module"/\o.dict=a_ kQ/\o.data=.plain
theorem lu{lo:h_}:∀(b:b_ (k_×gK))(n:h_)(a:b_ (k_×g_)),lo<=n->(∀p∈a,lo<=p.2)->∀p∈jT n b a,lo<=p.2
 |[],_,a,_,h,p,c=>h p c
 |(f,g)::r,n,a,e,h,p,c=>by
  unfold jT at c;split at c
  .refine lu r (n+1) _ (Nat.le_succ_of_le e) (λq d=>?_) p c;rcases o_.mp d with rfl|d
   .exact e
   .exact h q d
  .exact lu r n _ e h p c
def Mn{d:ee}{g:fA}{N:b_ k_}{f:g_}{b:aC}{A:bT}{a:b_ T_}{s:aE}{H:Hp}{E:XK}(h:K.In base)(q:Bm mg base)(l:g.code=b)(j:d.lm=d_->∃c P,g.code=.ref c/\(c,P,d.x++".<locals>."++"<lambda>")∈K7/\pJ K c P=d_):
  (GJ d.st d.lm).lam=d_->Qh (ly (Bb P w) P w K mg base N d.x (aj d.st) f b A a s H E):=λz=>by
 obtain⟨c,r,o,n,m⟩:=j z;refine⟨c,r,n,l.symm.trans o,PySem.W.codeHd_of_K h m,q,λy c e=>?_,λy e=>t_ λz=>z e⟩;exact lu _ _ _ (hW _) (λp i=>by simp at i) _ (gL e)
theorem Vp(o:K.In base)(q:Bm mg base)(p:∀d∈ds,DefIn K mg d)(g:∀x y,gs x=a_ y->∃t,mg x=a_ (.str y t))(i:∀x∈lq,mg x=c_)(a:XsIn K mg xs):∀n,TabIs P w K mg base (my ds gs xs n) n
 |0=>⟨λx s h=>(by cases h),g,i,a.rL,a.sub,a.ve,a.qy,a.qT,a.pp,a.plain,λe fs ds d h=>(by cases h),λx s h=>(by cases h),λc m l h=>(by cases h)⟩
 |n+1=>by
  have z:=Vp o q p g i a n;refine⟨λx s h=>?_,g,i,a.rL,a.sub,a.ve,a.qy,a.qT,a.pp,a.plain,λe fs M d h=>(by cases h),λx s h Q=>(by cases h),λc m l h=>⟨pU 1 n,a.cls c m l h P w base⟩⟩;unfold my at h;dsimp only at h;cases e:ky ds x with
  |none=>rw[e]at h;cases h
  |some d=>rw[e]at h;cases h;obtain⟨v,u⟩:=Ga e;subst u;obtain⟨ok,N,f,L,r,F,I⟩:=p d v;obtain⟨S,G⟩:=ot ok;refine⟨f,L,xm d.st,r,F.kp,F.rF N,Rq F S G λj A b s H O E J C=>?_⟩;exact Rx _ _ _ (GJ d.st d.lm) O H E _ ⟨TabIs.xok (X:=ly (Bb P w) P w K mg base (Z3 d.st) d.x (aj d.st) f j A b s H E) z C _6 _6 S.nd _6 Er (λZ=>⟨_6,_6,_6⟩) (Mn o q J I),λy B=>H_ B,_X,_6,_6,_6⟩
def Nm(K:aK):Sp:=λc H Q q=>GOk H/\∃(a:g_) (b:b_ n_),c=[.ref a]/\h8 K H a (b.map V.int)/\_7 b<=63/\∀d,Q (.bl d_) d
theorem Bj{K:KA}{G:Hp}:∀a:b_ n_,bt K G (a.map D.int) (a.map V.int)
 |[]=>rfl
 |n::a=>⟨.int n,a.map V.int,_6,_6,Bj a⟩
def DZ{d:ee}{f:g_}{L kV j B h ct:aC}{od I:f_ g_}{p:q_ (f_ aC)}(ok:zt d=d_)(M:d.lm=e_)
  (a:dM K cD d.x=a_ (a_ (.ref f)))(l:K.lookup f=a_ ⟨L,od,.func (cY d.x d.x (dh d.st) (bx d.st) (aj d.st) .none kV j B I h ct),p⟩)(c:fB K h d.x=d_)(k:cT K (.ref f)=d_)
  (C:K.In base) (G:Bm mg base) (hd:∀d∈ds,DefIn K mg d) (T:∀x y,gs x=a_ y->∃t,mg x=a_ (.str y t)) (hb:∀x∈lq,mg x=c_) (hX:XsIn K mg xs) {n:h_} {s:FS} (i:(my ds gs xs n).qQ "law"=a_ s) (o:s.ms=[e_])
  (r:∀g:b_ n_,g.length<=63->s.f [.a8 (g.map D.int)]=.ok (.bl d_)) (O:Q! (ky ds "law"=a_ d) Q2!) (Y:Q! (xm d.st=[("_law_script":k_)]) Q2!):
  kz P w K mg base N0 n f (cY d.x d.x (dh d.st) (bx d.st) (aj d.st) .none kV j B I h ct) ["_law_script"] (Nm K):=by
 cases n with
 |zero=>cases i
 |succ n=>
  unfold my at i;dsimp only at i;rw[O]at i;cases i;obtain⟨S,u⟩:=ot ok;have F:=Rq (P:=P) (w:=w) (base:=base) (mg:=mg) (k:=n) (ms:=d.ms) (Fb:=gB (my ds gs xs n) Qq (GJ d.st d.lm) (bx d.st)) (Ru l c k) S u λm A b s H G0 E hc U=>by exact Rx _ _ _ (GJ d.st d.lm) G0 H E _ ⟨TabIs.xok (X:=ly (Bb P w) P w K mg base (Z3 d.st) d.x (aj d.st) f m A b s H E) (Vp C G hd T hb hX n) U _6 _6 S.nd _6 Er (λZ=>⟨_6,_6,_6⟩) (Mn C G hc λz=>by rw[M]at z;cases z),λy N=>H_ N,_X,_6,_6,_6⟩
  rw[Y]at F;refine F.calm.imp λvs H Q E ⟨gb,a,g,e,J,hn,q⟩=>?_;subst e;have o:d.ms=[e_]:=o;have e:cu (my ds gs xs n) d [.a8 (g.map D.int)]=.ok (.bl d_):=r g hn;show spPu _ d.ms (cu (my ds gs xs n) d) _ H Q E0;refine⟨by rw[o];rfl,gb,H,[.a8 (g.map D.int)],a6.refl H,by rw[o];exact⟨_,[],_,[],_6,_6,⟨a,_,_6,J,Bj g⟩,_6,_6⟩,?_⟩;rw[e];intro v G' H' _ dn;rw[show v=.bl d_ from dn];exact q H'
end
def xc(b:g_):f_ HO:=(K7.find? λp=>p.2.1==b).map λp=>.tbl p.2.2
def Ap{b:g_}{o:HO}(h:xc b=a_ o):∃p∈K7,p.2.1=b/\o=.tbl p.2.2:=by
 unfold xc at h;cases e:K7.find? λp=>p.2.1==b with
 |none=>rw[e]at h;cases (h)
 |some p=>rw[e]at h;cases (h);exact⟨p,List.mem_of_find?_eq_some e,by simpa using List.find?_some e,_6⟩
theorem L7{α:Type}{f:α->g_}:∀{l:b_ α}{p:α},(l.map f).Nodup->p∈l->l.find? (λq=>f q==f p)=a_ p
 |[],_,_,h=>by simp at h
 |a::r,p,b,h=>by
  rw[bK,G_]at b;rw[hU]
  by_cases e:f a=f p
  .have c:(f a==f p)=d_:=by simpa using e
   rw[c];rcases o_.mp h with rfl|h
   .rfl
   .exact u_ (e▸J? h) b.1
  .have c:(f a==f p)=e_:=by simpa using e
   rw[c];rcases o_.mp h with rfl|h
   .exact u_ _6 e
   .exact L7 b.2 h
def P7(a:(K7.map (·.2.1)).Nodup){p:g_×g_×k_}(b:p∈K7):xc p.2.1=a_ (.tbl p.2.2):=by unfold xc;rw[L7 (f:=λp:g_×g_×k_=>p.2.1) a b];rfl
def Qk(h:r_):Prop:=∀p∈K7,n! h p.1 p.2.1/\h.get? p.2.1=a_ (nY #[])
def Pb{P:aV}{w:bP}{K:aK}{B mb:k_->f_ aC}{k:h_}{fa a:g_}{fd:fA}{x:k_}{c:aE}{A:b_ aC}{G:b_ n_}
  (KX:K.In c.1)(nK:B! K=d_)(nd:(K7.map (·.2.1)).Nodup)(J:Qk c.1)(bm:Bm B c.1)(O:c.1.Ns cD B)(T:c.1.Ns kQ mb)(ζ:∀x:k_,x≠"__name__"->mb x=eX x)(Q:c.1.NoLimit)(hg:c.gens=#[])
  (U:c.1.get? a=a_ {cls:=.type "list",data:=.seq A.toArray}) (hi:h! A G) (hl:_7 G<=aG) (δ:_7 G<=63) (hr:io k qC)
  (F:∀base:r_,K.In base->base.Ns cD B->Bm B base->kz P w K B base N0 k fa fd [x] (Nm K)) (I:∀(s:aE)(u:aC),d! s fd ⟨[u],[]⟩ [(x,u)]):
  gX (aW P w) qC (.call (.ref fa) ⟨[.ref a],[]⟩) (λr j=>r=.ok (.ret (.bool d_))/\OldK c.1 j.1/\j.os=c.os/\nE j.gens) c:=by
 have rv:=Ca hi;have M:=hi.length;have Θ:∀{b:g_}{u:HO},xc b=a_ u->c.1.get? b=a_ (nY #[]):=λ{b u} e=>by obtain⟨p,g,rfl,_⟩:=Ap e;exact(J p g).2
 have E:∀S:f_ HO,(S=c_\/S=a_ (.n4 {cls:=.type "list",data:=.seq A.toArray} (.a8 (G.map V.int))))->(S≠c_->K.lookup a=c_)->h8 K (λb=>if b=a then S else xc b) a (G.map V.int)->
   gX (aW P w) qC (.call (.ref fa) ⟨[.ref a],[]⟩) (λr j=>r=.ok (.ret (.bool d_))/\OldK c.1 j.1/\j.os=c.os/\nE j.gens) c:=by
  intro S hS η sq;generalize hH:(λb=>if b=a then S else xc b)=H at sq;have Ha:H a=S:=by rw[<-hH];exact aO _6
  have Hb:∀b,b≠a->H b=xc b:=λb T=>by rw[<-hH];exact aJ T
  have i:∀{b:g_}{u:HO},H b=a_ u->(b=a/\u=.n4 {cls:=.type "list",data:=.seq A.toArray} (.a8 (G.map V.int))/\K.lookup a=c_)\/∃p∈K7,p.2.1=b/\u=.tbl p.2.2:=λ{b u} e=>by
   by_cases z:b=a
   .rw[z,Ha]at e;obtain y|y:=hS
    .rw[y]at e;cases (e)
    .rw[y]at e;cases (e);exact .inl ⟨z,_6,η (by rw[y];simp)⟩
   .rw[Hb b z]at e;exact .inr (Ap e)
  have N:qb P w H c.1:=λb u e=>by
   rcases i e with⟨rfl,rfl,_⟩|⟨p,g,rfl,rfl⟩
   .exact⟨U,by rw[bB];exact hl,A,_,rv,U⟩
   .exact⟨#[],(J p g).2,trivial⟩
  have f:∀{b:g_}{o:D_},c.1.get? b=a_ o->H b=c_->(A8 c.1 H).get? b=a_ o:=λe n=>Sf e n;have free:∀{b:g_}{o:D_},c.1.get? b=a_ o->(∀n,o.data≠.seq A.toArray n)->o≠nY #[]->H b=c_:=λ{b o} e h1 h2=>by
   cases q:H b with
   |none=>rfl
   |some u=>
    rcases i q with⟨rfl,_⟩|⟨p,g,rfl,_⟩
    .rw[U]at e;cases (e);exact u_ _6 (h1 _)
    .rw[(J p g).2]at e;cases (e);exact u_ _6 h2
  have l:∀{b:g_}{m:k_->f_ aC},c.1.Ns b m->(A8 c.1 H).Ns b m:=λ{b m} ⟨o,es,ep,e,d,r⟩=>⟨o,es,ep,f e (free e (λn z=>by rw[d]at z;cases (z)) λz=>by rw[z]at d;cases (d)),d,r⟩;have Y:K.In (A8 c.1 H):=λb o e=>f (KX b o e) (by
   cases q:H b with
   |none=>rfl
   |some u=>
    rcases i q with⟨rfl,_,z⟩|⟨p,g,rfl,_⟩
    .rw[z]at e;cases (e)
    .have L:=KX _ _ e;rw[(J p g).2]at L;have h2:=J_.mp nK _ (PySem.W.mem_of_lookupK e);cases (L);exact u_ (show e_=d_ from h2) p_)
  have κ:Bm B (A8 c.1 H):=by obtain⟨m,o,b1,b2,b3,b4,b5,b6,b7⟩:=bm;exact⟨m,o,b1,b2,b3,f b4 (free b4 (λn z=>by rw[b7]at z;cases (z)) λz=>by rw[z]at b5;cases (b5)),b5,b6,b7⟩
  have hM:Mod K B (A8 c.1 H):=⟨Y,l O,⟨mb,l T,ζ⟩,let ⟨mc,h1,h2⟩:=Q;⟨mc,l h1,h2⟩⟩;have e0:Env0 P w K B (A8 c.1 H) qC [] c H:=⟨_6,hM,λb o e=>Xs e,eZ (O1 _ _),trivial,λb T=>u_ (show b∈([]:b_ g_)from T) (by simp),N,.of_eq hg⟩;have gb:GOk H:=λp g=>by
   have:p.2.1≠a:=λz=>by have:=(J p g).2;rw[z,U]at this;cases (this)
   rw[Hb _ this];exact P7 nd g
  refine lD ((F _ Y (l O) κ).run qC [] c H ⟨[.ref a],[]⟩ [.ref a] [.ref a] (λv Z=>v=.bl d_) E0 hr e0 (I c (.ref a)) (.cons _6 .nil) ⟨gb,a,G,_6,sq,δ,λZ=>rfl⟩) λr j h=>?_;cases r with
  |error e=>exact cS h
  |ok fl=>
   cases fl with
   |next=>exact cS h
   |brk=>exact cS h
   |cont=>exact cS h
   |ret u=>
    obtain⟨v,H',os,β,un,C,r',q⟩:=h;have q':v=.bl d_:=q;subst q';obtain rfl:u=iR d_:=r';have keep:∀b o,c.1.get? b=a_ o->(j.1.get? b=a_ o)\/∃p∈K7,p.2.1=b/\∃ps,j.1.get? b=a_ (nY ps):=λb o e=>by
     cases q:H b with
     |none=>exact .inl (un.keep b o e q (by intro z;exact u_ (show b∈([]:b_ g_)from z) (by simp)) (by simp))
     |some u=>
      rcases i q with⟨rfl,rfl,_⟩|⟨p,g,rfl,rfl⟩
      .obtain⟨e1,_⟩:=N b _ q;obtain⟨L,_⟩:=C b _ (un.nw b _ _ q);rw[e]at e1;cases (e1);exact .inl L
      .obtain⟨ps,L,_⟩:=C _ _ (un.qw _ _ q);exact .inr ⟨p,g,_6,ps,L⟩
    refine⟨_6,⟨λb o e=>?_,λb o e=>?_⟩,os,β⟩
    .rcases keep b o e with z|⟨p,g,rfl,ps,z⟩
     .exact .inl z
     .obtain⟨c1,c2⟩:=J p g;rw[c2]at e;cases (e);exact .inr (.inl ⟨(c1.tab c2).isCodeTable,_6,#[],ps,_6,by rw[Array.empty_append];exact z⟩)
    .rcases keep b o e with z|⟨p,g,rfl,ps,z⟩
     .exact⟨_,z⟩
     .exact⟨_,z⟩
 cases hk:K.lookup a with
 |some o=>have e:=KX a o hk;rw[U]at e;cases (e);exact E c_ (.inl _6) (λz=>u_ _6 z) (.inr ⟨_,A.toArray,_,hk,_6,_6,_6,by rw[aX,M];exact hl,by simpa using rv⟩)
 |none=>exact E _ (.inr _6) (λZ=>hk) (.inl (.inr ⟨{cls:=.type "list",data:=.seq A.toArray},aO _6⟩))
def LV{l:_d}{k:h_}{q:aV}{j:b_ k_}{XP:(k_->f_ aC)->r_->Prop}{B:bP->r_->Prop}{d:DefRec}{K:Params->aK}(hn:l.most=a_ 63)(v:d.params.defaults=[])(U:io k qC)(O:(K7.map (·.2.1)).Nodup)
  (hY:∀(w:bP)(h:r_),B w h->(K w.params).In h)(Q:∀w:bP,B! (K w.params)=d_)
  (M:∀(w:bP)(h:r_),B w h->Qk h)
  (F:∀(w:bP)(i:k_->f_ aC)(p:g_)(h:r_),(K w.params).In h->h.Ns cD i->i d.name=a_ (.ref p)->
   ∃x:fA,(∀(s:aE)(u:aC),d! s x ⟨[u],[]⟩ [("_law_script",u)])/\∀base:r_,(K w.params).In base->base.Ns cD i->Bm i base->kz l.prog w (K w.params) i base N0 k p x ["_law_script"] (Nm (K w.params))):
  PySem.W.WalkO q j XP B l.row.toRowW d [] (λf C=>PySem.call f C):=by
 refine Att.Eu hn v λw H E i mb p o pm cd η a C ns G Y ho I γ r n m c hg=>?_;have L:=hY w _ Y;obtain⟨x,hb,hF⟩:=F w i p _ L G.T.g r;obtain⟨J,N,b1,b2,A,b4,b5,y⟩:=G.T.bmain;have bG:J≠cD:=λz=>by obtain⟨o,es,ep,e,I,_⟩:=G.T.g;rw[z,e]at A;cases A;rw[I]at y;cases y
 exact Pb L (Q w) O (M w _ Y) ⟨J,N,b1,b2,bG,A,b4,b5,y⟩ G.T.g G.T.b G.T.builtins G.T.nolimit hg n m (cB c (by decide)) c U hF hb
end Pu
namespace LK
open L2 Pu
def kc(i:h_):s_:=PySem.Challenge.pw_askbook_k21_askings_refused.main.body.getD i (.Pass ⟨0,0,0,0⟩)
def Rc:ee:=⟨"put_in",kc 11,[d_,d_],e_⟩
def A4:ee:=⟨"put_further",kc 12,[d_,d_,d_],e_⟩
def E9:ee:=⟨"is_number",kc 15,[d_],e_⟩
def Ol:ee:=⟨"is_word",kc 16,[d_],e_⟩
def Oj:ee:=⟨"is_term",kc 17,[d_],e_⟩
def Az:ee:=⟨"is_tuple_of",kc 18,[d_,d_,d_,d_],e_⟩
def Oh:ee:=⟨"is_pair",kc 19,[d_],e_⟩
def Og:ee:=⟨"is_fact",kc 20,[d_],e_⟩
def Of:ee:=⟨"is_atom",kc 21,[d_],e_⟩
def Cq:ee:=⟨"are_rising",kc 22,[d_],e_⟩
def qr:ee:=⟨"are_of_one_length",kc 23,[d_],e_⟩
def Fg:ee:=⟨"stand_ins",kc 24,[d_],e_⟩
def Ji:ee:=⟨"terms_of",kc 25,[d_],e_⟩
def yh:ee:=⟨"are_standing",kc 26,[d_,d_],e_⟩
def yk:ee:=⟨"checked_book",kc 27,[d_],e_⟩
def vd:ee:=⟨"checked_asking",kc 28,[e_],e_⟩
def E7:ee:=⟨"found_way",kc 30,[d_,d_,e_],e_⟩
def Oo:ee:=⟨"way_put",kc 31,[d_,d_],e_⟩
def Cs:ee:=⟨"numbers_of",kc 32,[d_],e_⟩
def ko:ee:=⟨"numbers_for_stand_ins",kc 33,[d_,d_],e_⟩
def yj:ee:=⟨"book_against",kc 34,[d_,d_],e_⟩
def Re:ee:=⟨"within",kc 35,[e_,e_],e_⟩
def Wm:ee:=⟨"alike",kc 36,[e_,e_],e_⟩
def xh:ee:=⟨"facts_by_name",kc 39,[e_],e_⟩
def E6:ee:=⟨"atom_fits",kc 40,[d_,d_],e_⟩
def Rb:ee:=⟨"picked",kc 41,[d_,d_],e_⟩
def Fe:ee:=⟨"places_of",kc 42,[d_,d_],e_⟩
def vh:ee:=⟨"shared_columns",kc 43,[d_,d_],e_⟩
def Je:ee:=⟨"narrowed",kc 44,[e_,d_],e_⟩
def tj:ee:=⟨"rows_by_columns",kc 45,[d_,d_],e_⟩
def Ra:ee:=⟨"joined",kc 46,[e_,e_,d_],e_⟩
def Cp:ee:=⟨"all_joined",kc 47,[d_,d_],e_⟩
def BI:ee:=⟨"kept",kc 48,[d_,d_],e_⟩
def ym:ee:=⟨"joining_cost",kc 49,[d_,d_],e_⟩
def xj:ee:=⟨"joining_order",kc 50,[d_,d_],e_⟩
def xi:ee:=⟨"joined_freely",kc 51,[d_,d_],e_⟩
def E8:ee:=⟨"head_rows",kc 52,[d_,e_],e_⟩
def Oc:ee:=⟨"answers",kc 54,[e_,d_],e_⟩
def Oq:ee:=⟨"without",kc 56,[d_,e_],e_⟩
def Jf:ee:=⟨"needless",kc 57,[e_,e_],e_⟩
def BH:ee:=⟨"lean",kc 58,[e_],e_⟩
def Oi:ee:=⟨"is_rule",kc 60,[d_],e_⟩
def xg:ee:=⟨"checked_rules",kc 61,[e_,d_],e_⟩
def Fd:ee:=⟨"made_with",kc 62,[d_,e_,d_,d_],e_⟩
def Cr:ee:=⟨"made_newly",kc 63,[d_,d_,d_,d_],e_⟩
def Co:ee:=⟨"all_coming",kc 64,[d_,e_],e_⟩
def xq:ee:=⟨"comes",kc 65,[e_,d_],e_⟩
def IW:ee:=⟨"why",kc 66,[e_,d_,d_],e_⟩
def Jg:ee:=⟨"taken_by",kc 68,[d_,d_,d_],e_⟩
def A0:ee:=⟨"next_taking",kc 69,[d_,d_],e_⟩
def On:ee:=⟨"takings",kc 70,[d_],e_⟩
def BG:ee:=⟨"tree",kc 71,[e_],e_⟩
def yn:ee:=⟨"kept_by_tree",kc 72,[d_,d_],e_⟩
def vf:ee:=⟨"joined_by_tree",kc 73,[d_,d_,d_,d_],e_⟩
def Od:ee:=⟨"by_tree",kc 74,[e_,d_],e_⟩
def iz:ee:=⟨"_law_cell_at",kc 76,[d_,d_],e_⟩
def cy:ee:=⟨"_law_mixed",kc 77,[d_,d_,d_],e_⟩
def Jd:ee:=⟨"_law_good",kc 78,[],e_⟩
def ti:ee:=⟨"_law_with_asking",kc 79,[d_,e_,d_],e_⟩
def xk:ee:=⟨"_law_with_book",kc 80,[d_,d_,e_],e_⟩
def vg:ee:=⟨"_law_with_rules",kc 81,[d_,e_],e_⟩
def Fc:ee:=⟨"_law_asked",kc 82,[d_,d_,e_],e_⟩
def jk:ee:=⟨"_law_kind",kc 83,[d_,d_,e_],e_⟩
def jf:ee:=⟨"_law_bad",kc 84,[d_,d_],e_⟩
def q8:ee:=⟨"law",kc 85,[e_],e_⟩
def Fh:b_ ee:=[Rc,A4,E9,Ol,Oj,Az,Oh,Og,Of,Cq,qr,Fg,Ji,yh,yk,vd,E7,Oo,Cs,ko,yj,Re,Wm,xh,E6,Rb,Fe,vh,Je,tj,Ra,Cp,BI,ym,xj,xi,E8,Oc,Oq,Jf,BH,Oi,xg,Fd,Cr,Co,xq,IW,Jg,A0,On,BG,yn,vf,Od,iz,cy,Jd,ti,xk,vg,Fc,jk,jf,q8]
def xs:XT:=⟨λx=>decide (x="AskError")||(decide (x="NoBook")||(decide (x="NoAsking")||(decide (x="Unlike")||(decide (x="NoTree")||(decide (x="NoRules")||(decide (x="NoBonds")||(decide (x="NoColumns")||(decide (x="NoText")||(e_))))))))),λc y=>(decide (c="AskError")&&decide (y="AskError"))||((decide (c="NoBook")&&decide (y="NoBook"))||((decide (c="NoBook")&&decide (y="AskError"))||((decide (c="NoAsking")&&decide (y="NoAsking"))||((decide (c="NoAsking")&&decide (y="AskError"))||((decide (c="Unlike")&&decide (y="Unlike"))||((decide (c="Unlike")&&decide (y="AskError"))||((decide (c="NoTree")&&decide (y="NoTree"))||((decide (c="NoTree")&&decide (y="AskError"))||((decide (c="NoRules")&&decide (y="NoRules"))||((decide (c="NoRules")&&decide (y="AskError"))||((decide (c="NoBonds")&&decide (y="NoBonds"))||((decide (c="NoBonds")&&decide (y="AskError"))||((decide (c="NoColumns")&&decide (y="NoColumns"))||((decide (c="NoColumns")&&decide (y="AskError"))||((decide (c="NoText")&&decide (y="NoText"))||((decide (c="NoText")&&decide (y="AskError"))||(e_))))))))))))))))),λc=>decide (c="AskError")||(decide (c="NoBook")||(decide (c="NoAsking")||(decide (c="Unlike")||(decide (c="NoTree")||(decide (c="NoRules")||(decide (c="NoBonds")||(decide (c="NoColumns")||(decide (c="NoText")||(e_))))))))),λc y=>(decide (c="NoBook")&&decide (y="NoAsking"))||((decide (c="NoBook")&&decide (y="Unlike"))||((decide (c="NoBook")&&decide (y="NoTree"))||((decide (c="NoBook")&&decide (y="NoRules"))||((decide (c="NoBook")&&decide (y="NoBonds"))||((decide (c="NoBook")&&decide (y="NoColumns"))||((decide (c="NoBook")&&decide (y="NoText"))||((decide (c="NoAsking")&&decide (y="NoBook"))||((decide (c="NoAsking")&&decide (y="Unlike"))||((decide (c="NoAsking")&&decide (y="NoTree"))||((decide (c="NoAsking")&&decide (y="NoRules"))||((decide (c="NoAsking")&&decide (y="NoBonds"))||((decide (c="NoAsking")&&decide (y="NoColumns"))||((decide (c="NoAsking")&&decide (y="NoText"))||((decide (c="Unlike")&&decide (y="NoBook"))||((decide (c="Unlike")&&decide (y="NoAsking"))||((decide (c="Unlike")&&decide (y="NoTree"))||((decide (c="Unlike")&&decide (y="NoRules"))||((decide (c="Unlike")&&decide (y="NoBonds"))||((decide (c="Unlike")&&decide (y="NoColumns"))||((decide (c="Unlike")&&decide (y="NoText"))||((decide (c="NoRules")&&decide (y="NoBook"))||((decide (c="NoRules")&&decide (y="NoAsking"))||((decide (c="NoRules")&&decide (y="Unlike"))||((decide (c="NoRules")&&decide (y="NoTree"))||((decide (c="NoRules")&&decide (y="NoBonds"))||((decide (c="NoRules")&&decide (y="NoColumns"))||((decide (c="NoRules")&&decide (y="NoText"))||(e_)))))))))))))))))))))))))))),λx=>e_,λc=>e_,λc=>decide (c="NoBook")||(decide (c="NoAsking")||(decide (c="Unlike")||(decide (c="NoRules")||(e_)))),λc=>if c="Fits" then a_ ("columns","rows")else c_⟩
def gs(x:k_):f_ k_:=if x="LETTERS" then a_ "abcdefghijklmnopqrstuvwxyz" else c_
def DV:zt q8=d_:=by decide+kernel
noncomputable def J0:s_:=match kc 38 with
 |.ClassDef _ _ _ (st::_) _ _ _ _ _ _ _=>st
 |st=>st
def xb(n:h_):GT:=my Fh gs xs n
noncomputable def TN:b_ aC:=[.type "ValueError",.type "Exception",.type "BaseException",.type "object"]
def mm:rJ TN "ValueError.__new__":=⟨"ValueError",_,_,_,_,_,_n,by decide+kernel,_n⟩
end LK
namespace Pu
open L2
def L8{T:GT}{d:ee}{F:En->fq}{k:h_}{b:b_ l_}(h:gB T Qq (GJ d.st d.lm) (bx d.st)=F)(c:(Z3 d.st).length=k)(e:d.ms=b)(a:b_ D):cu T d a=vz (F (fc b a++aT (k-_7 a) .no)):=by unfold cu OH;rw[h,c,e]
section
variable(U:En)(d e:D)(i j:h_)(g h k c:En->bi)(F F':En->fq)(r:En->ey)(f:D->f_ D)(f2 f3:D->D->f_ D)
@[simp] theorem AI(a:b_ l_):fc a []=[]:=by cases a<;>rfl
@[simp] theorem HZ(a:b_ l_)(b:b_ D):fc (d_::a) (d::b)=.bo d::fc a b:=rfl
@[simp] theorem GA(a:b_ l_)(b:b_ D):fc (e_::a) (d::b)=.pu d::fc a b:=rfl
@[simp] theorem Au:fe F F' U=match F U with
 |.nx a=>F' a
 |o=>o:=rfl
@[simp] theorem RA:uu U=.nx U:=rfl
@[simp] theorem QJ:Nj U=.nx U:=rfl
@[simp] theorem TQ:pb U=.st:=rfl
@[simp] theorem RF:gd U=.st:=rfl
@[simp] theorem AH:mj g U=(g U).then .rt:=rfl
@[simp] theorem GO:Im c F F' U=(c U).then λd=>match d with
 |.bl d_=>F U
 |.bl e_=>F' U
 |_=>.st:=rfl
@[simp] theorem V3:uw i g U=(g U).then λd=>.nx (U.set i (.pu d)):=rfl
@[simp] theorem QH:rj i g U=(g U).then λd=>match d with
 |.a8 a=>.nx (U.set i (.ow a))
 |_=>.st:=rfl
@[simp] theorem QI:U4 i U=.nx (U.set i (.od e_ [])):=rfl
@[simp] theorem NI:D9 i g U=(g U).then λd=>match d with
 |.h7 e_ a=>.nx (U.set i (.od e_ a))
 |_=>.st:=rfl
@[simp] theorem HU(f:D->fq):(bi.ok d).then f=f d:=rfl
@[simp] theorem HS(f:D->fq):bi.st.then f=.st:=rfl
@[simp] theorem HV(f:D->fq)(c:k_):(bi.er c).then f=.er c:=rfl
@[simp] theorem Qc(f:D->bi):(bi.ok d).bind f=f d:=rfl
@[simp] theorem GB(f:D->bi):bi.st.bind f=.st:=rfl
@[simp] theorem GC(f:D->bi)(c:k_):(bi.er c).bind f=.er c:=rfl
@[simp] theorem Qd:bi.of (a_ d)=.ok d:=rfl
@[simp] theorem HW:bi.of c_=.st:=rfl
@[simp] theorem KB:vz (.rt d)=.ok d:=rfl
@[simp] theorem KC:vz (.nx U)=.ok .fm:=rfl
@[simp] theorem LZ:vz .st=.st:=rfl
@[simp] theorem KD(c:k_):vz (.er c)=.er c:=rfl
@[simp] theorem SV:jd i U=match U[i]? with
 |some (.pu d)=>.ok d
 |_=>.st:=rfl
@[simp] theorem KI:az i U=match U[i]? with
 |some (.pu d)=>.ok d
 |some (.bo d)=>.ok d
 |some (.ow b)=>.ok (.a8 b)
 |some (.od t a)=>.ok (.h7 t a)
 |_=>.st:=rfl
@[simp] theorem SF:Zu i U=match U[i]? with
 |some (.pu d)=>.ok d
 |some (.bo d)=>.ok d
 |_=>.st:=rfl
@[simp] theorem SE:gC d U=.ok d:=rfl
@[simp] theorem SD:g1 f g U=(g U).bind λx=>bi.of (f x):=rfl
@[simp] theorem Zh:g2 f2 g h U=(g U).bind λx=>(h U).bind λy=>bi.of (f2 x y):=rfl
@[simp] theorem RG:Wr c g h U=(c U).bind λd=>match d with
 |.bl d_=>g U
 |.bl e_=>h U
 |_=>.st:=rfl
@[simp] theorem SZ:R9 c U=(c U).bind λd=>match d with
 |.bl b=>.ok (.bl !b)
 |_=>.st:=rfl
@[simp] theorem RL:Js g h U=(g U).bind λd=>match d with
 |.bl d_=>h U
 |.bl e_=>.ok (.bl e_)
 |_=>.st:=rfl
@[simp] theorem TU:LL g h U=(g U).bind λd=>match d with
 |.bl d_=>.ok (.bl d_)
 |.bl e_=>h U
 |_=>.st:=rfl
@[simp] theorem SX:OE g U=(g U).bind λx=>bi.of (bD (Eh x)):=rfl
@[simp] theorem LY(b:l_):bD (Eh (.bl b))=a_ (.bl b):=rfl
@[simp] theorem MZ:yx f2 f3 g h k U=(g U).bind λx=>(h U).bind λy=>(bi.of (f2 x y)).bind λz=>match z with
 |.bl d_=>(k U).bind λw=>bi.of (f3 y w)
 |.bl e_=>.ok (.bl e_)
 |_=>.st:=rfl
@[simp] theorem V1:Pu.ac g r U=match g U with
 | .ok d => (match r U with
  |.ok a=>.ok (d::a)
  |.er c=>.er c
  |.st=>.st)
 |.er c=>.er c
 |.st=>.st:=rfl
@[simp] theorem QK:af U=.ok []:=rfl
@[simp] theorem QN(fn:b_ D->bi):fj fn r U=match r U with
 |.ok a=>fn a
 |.er c=>.er c
 |.st=>.st:=rfl
@[simp] theorem RC:c7 r U=match r U with
 |.ok a=>if _7 a<=16777216 then .ok (.a8 a)else .st
 |.er c=>.er c
 |.st=>.st:=rfl
@[simp] theorem SW:Pu.cr r U=match r U with
 |.ok a=>if _7 a<=16777216 then .ok (.ci a)else .st
 |.er c=>.er c
 |.st=>.st:=rfl
@[simp] theorem QG:jl g U=match g U with
 | .ok d => (match Cb d with
  |some a=>.ok a
  |none=>.st)
 |.er c=>.er c
 |.st=>.st:=rfl
@[simp] theorem LX(a:b_ D):Cb (.a8 a)=a_ a:=rfl
@[simp] theorem LW(a:b_ D):Cb (.ci a)=a_ a:=rfl
@[simp] theorem As:fz [] F U=F U:=rfl
@[simp] theorem GP(is:b_ h_):fz (i::is) F U=fz is F (n4 i U):=rfl
@[simp] theorem V2:n4 i U=match U[i]? with
 |some (.ow b)=>U.set i (.pu (.a8 b))
 |some (.od t a)=>U.set i (.pu (.h7 t a))
 |_=>U:=rfl
@[simp] theorem KH:Jz i d U=a_ (U.set i (.pu d)):=rfl
@[simp] theorem RK:Kx i g U=match U[i]? with
 |some (.ow a)=>(g U).then λd=>if _7 a<16777216 then .nx (U.set i (.ow (a++[d])))else .st
 |_=>.st:=rfl
@[simp] theorem RI:Ky i g U=match U[i]? with
 |some (.ow b)=>(g U).then λd=>match nv d with
  |some a=>if _7 b+_7 a<=16777216 then .nx (U.set i (.ow (b++a)))else .st
  |none=>.st
 |_=>.st:=rfl
@[simp] theorem HY(a:b_ D):nv (.a8 a)=a_ a:=rfl
@[simp] theorem HX(a:b_ D):nv (.ci a)=a_ a:=rfl
@[simp] theorem NL(a:b_ D):Ab (.a8 a)=a_ (.int a.length):=rfl
@[simp] theorem NJ(a:b_ D):Ab (.ci a)=a_ (.int a.length):=rfl
@[simp] theorem MX(d:D)(xs:b_ D):xa d (.a8 xs)=Hh d (.a8 xs):=rfl
@[simp] theorem MV(d:D)(xs:b_ D):xa d (.ci xs)=Hh d (.ci xs):=rfl
@[simp] theorem MW(d:D)(x:k_):xa d (.str x)=Hh d (.str x):=rfl
@[simp] theorem GN(d:D)(xs:b_ D):i7 d (.a8 xs)=qm d (.a8 xs):=rfl
@[simp] theorem GL(d:D)(xs:b_ D):i7 d (.ci xs)=qm d (.ci xs):=rfl
@[simp] theorem GM(d:D)(x:k_):i7 d (.str x)=qm d (.str x):=rfl
@[simp] theorem TV(a b:n_):Uv (.int a) (.int b)=a_ (.bl (decide (a<b))):=rfl
@[simp] theorem TX(a b:n_):JN (.int a) (.int b)=a_ (.bl (decide (a<=b))):=rfl
@[simp] theorem TY(a b:n_):JO (.int a) (.int b)=a_ (.bl (decide (b<a))):=rfl
@[simp] theorem TZ(a b:n_):PP (.int a) (.int b)=a_ (.bl (decide (b<=a))):=rfl
@[simp] theorem RJ(a b:n_):k9 (.int a) (.int b)=a_ (.bl (a==b)):=rfl
@[simp] theorem RB(a b:n_):Hj (.int a) (.int b)=a_ (.bl (!(a==b))):=rfl
@[simp] theorem RM(a b:n_):mv (.int a) (.int b)=a_ (.int (a+b)):=rfl
@[simp] theorem SY(a b:n_):Uw (.int a) (.int b)=a_ (.int (a-b)):=rfl
@[simp] theorem RD:B6 d .fm=a_ (.bl (F3 d)):=rfl
@[simp] theorem KG:lg d .fm=a_ (.bl (!F3 d)):=rfl
@[simp] theorem HR(a:b_ D):uh (.a8 a)=a_ (.ci a):=rfl
@[simp] theorem HQ(a:b_ D):uh (.ci a)=a_ (.ci a):=rfl
@[simp] theorem SA:gM f2 g h U=(g U).bind λx=>match x with
 |.a8 xs=>(h U).bind λy=>bi.of (f2 (.a8 xs) y)
 |_=>.st:=rfl
@[simp] theorem NY(x:k_):cm "str" (.str x)=a_ (.bl d_):=by kernel_rfl
@[simp] theorem MB(x:n_):cm "str" (.int x)=a_ (.bl e_):=by kernel_rfl
@[simp] theorem MC(x:l_):cm "str" (.bl x)=a_ (.bl e_):=by kernel_rfl
@[simp] theorem NZ:cm "str" .fm=a_ (.bl e_):=by kernel_rfl
@[simp] theorem NX(x:b_ D):cm "str" (.ci x)=a_ (.bl e_):=by kernel_rfl
@[simp] theorem MA(x:b_ D):cm "str" (.a8 x)=a_ (.bl e_):=by kernel_rfl
@[simp] theorem MK(x:k_):cm "int" (.str x)=a_ (.bl e_):=by kernel_rfl
@[simp] theorem MN(x:n_):cm "int" (.int x)=a_ (.bl d_):=by kernel_rfl
@[simp] theorem MO(x:l_):cm "int" (.bl x)=a_ (.bl d_):=by kernel_rfl
@[simp] theorem ML:cm "int" .fm=a_ (.bl e_):=by kernel_rfl
@[simp] theorem MJ(x:b_ D):cm "int" (.ci x)=a_ (.bl e_):=by kernel_rfl
@[simp] theorem MM(x:b_ D):cm "int" (.a8 x)=a_ (.bl e_):=by kernel_rfl
@[simp] theorem MQ(x:k_):cm "bool" (.str x)=a_ (.bl e_):=by kernel_rfl
@[simp] theorem MS(x:n_):cm "bool" (.int x)=a_ (.bl e_):=by kernel_rfl
@[simp] theorem MT(x:l_):cm "bool" (.bl x)=a_ (.bl d_):=by kernel_rfl
@[simp] theorem MR:cm "bool" .fm=a_ (.bl e_):=by kernel_rfl
@[simp] theorem MP(x:b_ D):cm "bool" (.ci x)=a_ (.bl e_):=by kernel_rfl
@[simp] theorem MU(x:b_ D):cm "bool" (.a8 x)=a_ (.bl e_):=by kernel_rfl
@[simp] theorem NS(x:k_):cm "tuple" (.str x)=a_ (.bl e_):=by kernel_rfl
@[simp] theorem NV(x:n_):cm "tuple" (.int x)=a_ (.bl e_):=by kernel_rfl
@[simp] theorem NW(x:l_):cm "tuple" (.bl x)=a_ (.bl e_):=by kernel_rfl
@[simp] theorem NT:cm "tuple" .fm=a_ (.bl e_):=by kernel_rfl
@[simp] theorem NR(x:b_ D):cm "tuple" (.ci x)=a_ (.bl d_):=by kernel_rfl
@[simp] theorem NU(x:b_ D):cm "tuple" (.a8 x)=a_ (.bl e_):=by kernel_rfl
@[simp] theorem ME(x:k_):cm "list" (.str x)=a_ (.bl e_):=by kernel_rfl
@[simp] theorem MH(x:n_):cm "list" (.int x)=a_ (.bl e_):=by kernel_rfl
@[simp] theorem MI(x:l_):cm "list" (.bl x)=a_ (.bl e_):=by kernel_rfl
@[simp] theorem MF:cm "list" .fm=a_ (.bl e_):=by kernel_rfl
@[simp] theorem MD(x:b_ D):cm "list" (.ci x)=a_ (.bl e_):=by kernel_rfl
@[simp] theorem MG(x:b_ D):cm "list" (.a8 x)=a_ (.bl d_):=by kernel_rfl
@[simp] theorem NQ(a b:D):jx (.ci [a,b]) (.int 0)=a_ a:=rfl
@[simp] theorem NP(a b:D):jx (.ci [a,b]) (.int 1)=a_ b:=rfl
@[simp] theorem NO(a b c:D):jx (.ci [a,b,c]) (.int 0)=a_ a:=rfl
@[simp] theorem NN(a b c:D):jx (.ci [a,b,c]) (.int 1)=a_ b:=rfl
@[simp] theorem NM(a b c:D):jx (.ci [a,b,c]) (.int 2)=a_ c:=rfl
def Ia(a b:n_)(h:0<b):mw (.int a) (.int b)=a_ (.int (a%b)):=aO h
def Ib(a b:n_)(h:(-(2^64)<a/\a<2^64)\/(-(2^64)<b/\b<2^64)):mx (.int a) (.int b)=a_ (.int (a*b)):=aO h
end
@[simp] theorem QM(w j y:h_)(g:En->bi)(F:En->fq)(U:En):Ng w j y g F U=match U[w]? with
 |some (.ow _)=>Nh w j y g U
 |_=>F U:=by
 unfold Ng CQ;cases e:U[w]? with
 |none=>rfl
 |some s=>cases s<;>rfl
@[simp] theorem RH(cls:k_->f_ (k_×k_))(f:k_)(g:En->bi)(U:En):Wq cls f g U=(g U).bind λd=>bi.of (Z9 cls f d):=rfl
@[simp] theorem NG(g:En->bi)(U:En):rq g U=match g U with
 |.ok (.h7 d_ a)=>.ok (a.map (·.1))
 |.er c=>.er c
 |r=>jl (λq=>r) U:=rfl
@[simp] theorem KF(g:En->bi)(U:En):tw g U=match g U with
 |.ok (.h7 d_ a)=>.ok (a.map Mj)
 |.er c=>.er c
 |_=>.st:=rfl
@[simp] theorem MY(r:En->ey)(U:En):yz r U=match r U with
 | .ok [.a8 a, .ci b] => (match El a b with
  |some l=>if _7 a<=aG then .ok (.h7 e_ (zh [] l))else .st
  |none=>.st)
 |.er c=>.er c
 |_=>.st:=rfl
@[simp] theorem QL(d k x:En->bi)(U:En):Bq d k x U=(d U).bind λe=>match e with
 |.h7 e_ a=>(k U).bind λc=>(x U).bind λb=>match cf c with
  |some j=>.ok ((cx a j).getD b)
  |none=>.st
 |.h7 d_ a=>(k U).bind λc=>(x U).bind λb=>match ar c with
  |some j=>.ok ((fk a j).getD b)
  |none=>.st
 |_=>.st:=rfl
@[simp] theorem RE(c b a:k_)(d e:D):Ut c b a [d,e]=.ok (.obj (.Name c ⟨0,0,0,0⟩) [(b,d),(a,e)]):=rfl
@[simp] theorem NH(a:b_ (D×D)):D5 (.h7 e_ a)=a_ (.ci (a.map (·.2))):=rfl
end Pu
namespace LK
open L2 Pu
def iu(n:h_):En->fq:=(fe (Im (g2 Uv (az 1) (g1 Ab (az 0))) (mj (g2 jx (az 0) (az 1))) uu)
 (fe (Im (g2 k9 (az 0) (c7 af)) (mj (gC (.int 0))) uu)
 (mj (g2 mv (g2 mx (g2 jx (az 0) (g2 mw (az 1) (g1 Ab (az 0)))) (gC (.int 31))) (az 1)))))
def A5(n:h_)(a:b_ D):cu (xb (n+1)) iz a=vz (iu n (fc [d_,d_] a++aT (2-_7 a) .no)):=L8 (by kernel_rfl) (by decide+kernel) _6 a
def wg(n:h_):En->fq:=(fe (uw 3 (g2 mw (g2 mx (g2 mv (g2 mv (fj (cu (xb n) iz) (ac (az 0) (ac (az 1) af))) (g2 mx (gC (.int 7919)) (az 1))) (gC (.int 1))) (gC (.int 48271))) (gC (.int 2147483647))))
 (mj (g2 mw (g2 mw (g2 mv (g2 mv (g2 mx (az 3) (az 3)) (g2 mx (gC (.int 7)) (az 3))) (az 1)) (gC (.int 2147483629))) (az 2))))
def Fo(n:h_)(a:b_ D):cu (xb (n+1)) cy a=vz (wg n (fc [d_,d_,d_] a++aT (4-_7 a) .no)):=L8 (by kernel_rfl) (by decide+kernel) _6 a
def u9(n:h_):En->fq:=(fe (uw 2 (cr (ac (gC (.str "r")) (ac (cr (ac (gC (.str "x")) (ac (gC (.str "y")) af))) af))))
 (fe (Im (g2 k9 (az 0) (gC (.int 0))) (fe (fz [2,2] (rj 3 (c7 (ac (gC .fm) (ac (c7 (ac (cr (ac (gC (.str "x")) af)) (ac (cr (ac (jd 2) af)) af))) (ac (cr (ac (cr (ac (gC (.str "x")) af)) (ac (cr af) af))) (ac (cr (ac (cr (ac (gC (.str "z")) af)) (ac (cr (ac (jd 2) af)) af))) af)))))))
 (fe (fz [2] (Ky 3 (c7 (ac (cr (ac (cr (ac (gC (.str "x")) af)) (ac (c7 (ac (jd 2) af)) af))) (ac (cr (ac (cr (ac (gC (.str "x")) af)) (ac (cr (ac (cr (ac (gC (.str "r")) (ac (cr (ac (gC (.str "X")) (ac (gC (.int 1)) af))) af))) af)) af))) af)))))
 (mj (g2 jx (az 3) (g2 mw (az 1) (gC (.int 6))))))) uu)
 (fe (Im (g2 k9 (az 0) (gC (.int 1))) (fe (rj 3 (c7 (ac (gC .fm) (ac (c7 (ac (cr (ac (gC (.str "r")) (ac (cr (ac (gC (.int 2)) (ac (gC (.int 1)) af))) af))) (ac (cr (ac (gC (.str "r")) (ac (cr (ac (gC (.int 1)) (ac (gC (.int 2)) af))) af))) af))) (ac (c7 (ac (c7 (ac (gC (.str "r")) (ac (cr (ac (gC (.int 1)) (ac (gC (.int 2)) af))) af))) af)) af)))))
 (fe (Ky 3 (c7 (ac (c7 (ac (cr (ac (gC (.str "r")) (ac (c7 (ac (gC (.int 1)) (ac (gC (.int 2)) af))) af))) af)) (ac (c7 (ac (cr (ac (gC (.str "r")) (ac (cr (ac (gC (.int 1)) af)) af))) (ac (cr (ac (gC (.str "r")) (ac (cr (ac (gC (.int 1)) (ac (gC (.int 2)) af))) af))) af))) af))))
 (mj (g2 jx (az 3) (g2 mw (az 1) (gC (.int 5))))))) uu)
 (fe (Im (g2 k9 (az 0) (gC (.int 2))) (fe (fz [2,2,2,2,2,2,2] (rj 3 (c7 (ac (gC .fm) (ac (cr af) (ac (Fw (c7 (ac (cr (ac (jd 2) (ac (cr (ac (jd 2) af)) af))) af)) (gC (.int 9))) (ac (c7 (ac (c7 (ac (jd 2) (ac (cr (ac (jd 2) af)) af))) af)) (ac (c7 (ac (cr (ac (jd 2) (ac (cr af) af))) af)) (ac (c7 (ac (cr (ac (jd 2) (ac (g2 mx (cr (ac (jd 2) af)) (gC (.int 5))) af))) af)) af)))))))))
 (fe (fz [2,2] (Ky 3 (c7 (ac (c7 (ac (cr (ac (cr (ac (gC (.str "r")) (ac (cr (ac (gC (.str "x")) (ac (gC (.str "z")) af))) af))) (ac (cr (ac (jd 2) af)) af))) af)) (ac (c7 (ac (cr (ac (cr (ac (gC (.str "r")) (ac (cr (ac (gC (.str "x")) af)) af))) (ac (cr (ac (jd 2) af)) af))) af)) af)))))
 (fe (Kx 3 (c7 (ac (cr (ac (cr (ac (gC (.str "s")) (ac (cr (ac (gC (.str "x")) af)) af))) (ac (cr (ac (cr (ac (gC (.str "s")) (ac (cr (ac (gC (.str "x")) (ac (gC (.str "y")) af))) af))) af)) af))) af)))
 (fe (Kx 3 (c7 (ac (cr (ac (cr (ac (gC (.str "r")) (ac (cr (ac (gC (.str "x")) af)) af))) (ac (cr (ac (cr (ac (gC (.str "t")) (ac (cr (ac (gC (.str "x")) af)) af))) af)) af))) af)))
 (fe (Kx 3 (c7 (ac (cr (ac (cr (ac (gC (.str "s")) (ac (cr (ac (gC (.str "x")) af)) af))) (ac (cr (ac (cr (ac (gC (.str "t")) (ac (cr (ac (gC (.str "x")) af)) af))) af)) af))) (ac (cr (ac (cr (ac (gC (.str "t")) (ac (cr (ac (gC (.str "x")) af)) af))) (ac (cr (ac (cr (ac (gC (.str "s")) (ac (cr (ac (gC (.str "x")) (ac (gC (.str "x")) af))) af))) af)) af))) af))))
 (mj (g2 jx (az 3) (g2 mw (az 1) (gC (.int 11)))))))))) uu)
 (fz [2,2,2] (mj (g2 jx (c7 (ac (cr (ac (cr af) (ac (cr (ac (jd 2) af)) af))) (ac (cr (ac (cr (ac (gC (.str "x")) (ac (gC (.str "y")) af))) (ac (cr (ac (jd 2) af)) af))) (ac (cr (ac (cr (ac (gC (.int 1)) (ac (gC (.int 2)) (ac (gC (.int 3)) af)))) (ac (cr (ac (jd 2) af)) af))) af)))) (g2 mw (az 1) (gC (.int 3))))))))))
def Os(n:h_)(a:b_ D):cu (xb (n+1)) jf a=vz (u9 n (fc [d_,d_] a++aT (4-_7 a) .no)):=L8 (by kernel_rfl) (by decide+kernel) _6 a
def Qr(n:h_):En->fq:=(fe (uw 1 (fj (cu (xb n) cy) (ac (az 0) (ac (gC (.int 0)) (ac (gC (.int 4)) af)))))
 (fe (uw 2 (fj (cu (xb n) cy) (ac (az 0) (ac (gC (.int 1)) (ac (gC (.int 72)) af)))))
 (fe (uw 3 (fj (cu (xb n) jf) (ac (az 1) (ac (fj (cu (xb n) cy) (ac (az 0) (ac (gC (.int 2)) (ac (g2 Hk (gC (.int 10)) (gC (.int 6))) af)))) af))))
 (fe (uw 4 (cr (ac (cr (ac (gC (.str "r")) (ac (cr (ac (gC (.str "x")) (ac (gC (.str "y")) af))) af))) (ac (cr (ac (cr (ac (gC (.str "r")) (ac (cr (ac (gC (.str "y")) (ac (gC (.str "x")) af))) af))) af)) af))))
 (fe (fz [4] (Im (g2 Hj (fj (cu (xb n) xq) (ac (Fw (c7 (ac (jd 4) af)) (gC (.int 8))) (ac (c7 (ac (cr (ac (gC (.str "r")) (ac (cr (ac (gC (.int 1)) (ac (gC (.int 2)) af))) af))) af)) af))) (c7 (ac (cr (ac (gC (.str "r")) (ac (cr (ac (gC (.int 1)) (ac (gC (.int 2)) af))) af))) (ac (cr (ac (gC (.str "r")) (ac (cr (ac (gC (.int 2)) (ac (gC (.int 1)) af))) af))) af)))) (mj (gC (.bl e_))) uu))
 (fz [3] (mj (g2 k9 (fj (cu (xb n) jk) (ac (az 1) (ac (az 2) (ac (jd 3) af)))) (az 1)))))))))
def IT(n:h_)(a:b_ D):cu (xb (n+1)) q8 a=vz (Qr n (fc [e_] a++aT (5-_7 a) .no)):=L8 (by kernel_rfl) (by decide+kernel) _6 a
end LK
section
set_option genInjectivity true
namespace LK
open Pu
noncomputable abbrev GD(a:b_ n_):D:=.a8 (a.map D.int)
def Q3(a:b_ n_)(k:n_):n_:=if k<_7 a then(a[k.toNat]?).getD 0 else if a=[]then 0 else(a[(k%a.length).toNat]?).getD 0*31+k
theorem Aq:∀a:b_ n_,ff (a.map D.int)=a_ (a.map gF)
 |[]=>rfl
 |n::a=>by show(match cw (.int n)with|some p=>(match ff (a.map D.int)with|some ps=>a_ (p::ps)|none=>c_)|none=>c_)=_;rw[Aq a];rfl
theorem fx:∀a:b_ n_,bA (a.map gF)=d_
 |[]=>rfl
 |n::a=>by show(jO (.int n)&&bA (a.map gF))=d_;rw[fx a];rfl
theorem yq:∀a:b_ n_,cN (a.map gF)<=1
 |[]=>by decide
 |n::a=>by
  show max (iE (.int n)) (cN (a.map gF))<=1;have:=yq a;have h:iE (.int n)<=1:=cM _
  lia
def Hq(a:b_ n_):cG (.list (a.map gF))=d_:=by
 unfold cG;have b:jO (.list (a.map gF))=d_:=fx a;have c:iE (.list (a.map gF))<=2:=by
  have:=yq a;show cN (a.map gF)+1<=2
  lia
 rw[b];simp only[Bool.true_and,j_]
 lia
def Rl(a:b_ n_):k9 (GD a) (.a8 [])=a_ (.bl (decide (a=[]))):=by
 unfold k9 Zr GD;have c:cw (.a8 (a.map D.int))=a_ (.list (a.map gF)):=by unfold cw;rw[Aq]
 have b:cw (.a8 [])=a_ (.list []):=rfl;rw[c,b];dsimp only;rw[Hq,show cG (.list [])=d_ from by decide];cases a<;>rfl
def Sw(a:b_ n_)(k:n_)(e:0<=k)(d:k<_7 a):jx (GD a) (.int k)=a_ (.int ((a[k.toNat]?).getD 0)):=by
 show L2.atI (a.map D.int) k=_;have b:k=((k.toNat:h_):n_):=by lia
 have c:k.toNat<_7 a:=by lia
 rw[b];refine(L2.Wf (j:=k.toNat) (v:=D.int ((a[k.toNat]?).getD 0)) ?_).trans (by rw[<-b]);rw[bY,bF c];rfl
def Wk(n:h_)(b:b_ n_)(k:n_)(i:0<=k):cu (xb (n+1)) iz [GD b,.int k]=.ok (.int (Q3 b k)):=by
 rw[A5];unfold Q3
 by_cases e:k<_7 b
 .have g:=Sw b k i e;simp[iu,e,g]
 .by_cases h:b=[]
  .subst h;have f:=Rl [];have j:¬k<0:=by lia
   simp[iu,j,f]
  .have o:0<_7 b:=by cases b<;>simp_all
   have d:0<=k%(b.length:n_):=pV _ (by lia);have c:k%(b.length:n_)<_7 b:=nZ _ (by lia);have g:=Sw b (k%b.length) d c;have f:=Rl b;have m:=Ia k b.length (by lia);have l:=λa=>Ib a 31 (.inr (by decide));simp[iu,e,h,g,f,m,l]
def Dp(a:b_ n_)(k m:n_):n_:=
 let x:=(Q3 a k+7919*k+1)*48271%2147483647
 (x*x+7*x+k)%2147483629%m
def zm(n:h_)(b:b_ n_)(k m:n_)(d:0<=k)(c:0<m):cu (xb (n+2)) cy [GD b,.int k,.int m]=.ok (.int (Dp b k m)):=by rw[Fo];have o:=Wk n b k d;have l:=Ib 7919 k (.inl (by decide));have j:=λa=>Ib a 48271 (.inr (by decide));have i:=λa=>Ia a 2147483647 (by decide);have h:=λa=>Ia a 2147483629 (by decide);have g:=λa=>Ia a m c;have f:=λa=>Ib 7 a (.inl (by decide));have e:∀a:n_,mx (.int (a%2147483647)) (.int (a%2147483647))=a_ (.int (a%2147483647*(a%2147483647))):=λa=>Ib _ _ (.inl (by lia));simp[wg,o,l,j,i,h,g,f,e,Dp]
def zi(a:b_ n_)(k m:n_)(b:0<m):0<=Dp a k m/\Dp a k m<m:=⟨pV _ (by lia),nZ _ b⟩
end LK
end
namespace LK
open Pu
def nz(n:k_)(l:b_ D):D:=.ci [.str n,.ci l]
def ra:D:=nz "r" [.str "x",.str "y"]
def rl(h:D)(b:b_ D):D:=.ci [h,.ci b]
def km:h_->b_ D
 |0=>[.fm,.a8 [.ci [.str "x"],.ci [ra]],.ci [.ci [.str "x"],.ci []],.ci [.ci [.str "z"],.ci [ra]],.ci [.ci [.str "x"],.a8 [ra]],.ci [.ci [.str "x"],.ci [nz "r" [.str "X",.int 1]]]]
 |1=>[.fm,.a8 [nz "r" [.int 2,.int 1],nz "r" [.int 1,.int 2]],.a8 [.a8 [.str "r",.ci [.int 1,.int 2]]],.a8 [.ci [.str "r",.a8 [.int 1,.int 2]]],.a8 [nz "r" [.int 1],nz "r" [.int 1,.int 2]]]
 |2=>[.fm,.ci [],.a8 (aT 9 (rl ra [ra])),.a8 [.a8 [ra,.ci [ra]]],.a8 [rl ra []],.a8 [rl ra [ra,ra,ra,ra,ra]],.a8 [rl (nz "r" [.str "x",.str "z"]) [ra]],.a8 [rl (nz "r" [.str "x"]) [ra]],.a8 [rl (nz "s" [.str "x"]) [nz "s" [.str "x",.str "y"]]],.a8 [rl (nz "r" [.str "x"]) [nz "t" [.str "x"]]],.a8 [rl (nz "s" [.str "x"]) [nz "t" [.str "x"]],rl (nz "t" [.str "x"]) [nz "s" [.str "x",.str "x"]]]]
 |_=>[.ci [.ci [],.ci [ra]],.ci [.ci [.str "x",.str "y"],.ci [ra]],.ci [.ci [.int 1,.int 2,.int 3],.ci [ra]]]
def sw:D:=rl ra [nz "r" [.str "y",.str "x"]]
def two:b_ D:=[nz "r" [.int 1,.int 2],nz "r" [.int 2,.int 1]]
def c1:cu (xb 28) xq [.a8 (aT 8 sw),.a8 [nz "r" [.int 1,.int 2]]]=.ok (.a8 two):=by kernel_rfl
def PZ(k:n_):bi->l_
 |.ok (.int i)=>decide (i=k)
 |_=>e_
def CS{k:n_}{r:bi}(h:PZ k r=d_):r=.ok (.int k):=by
 unfold PZ at h;split at h
 .rw[y_ h]
 .cases h
def IY(k:h_):l_:=(km k).all λd=>(eW 72).all λw=>PZ k (cu (xb 28) jk [.int (k:n_),.int (w:n_),d])
def OR:IY 0=d_:=by decide+kernel
def OQ:IY 1=d_:=by decide+kernel
def OP:IY 2=d_:=by decide+kernel
def OO:IY 3=d_:=by decide+kernel
def j0{fn:b_ D->bi}{r:En->ey}{U:En}{ds:b_ D}{x:bi}(b:r U=.ok ds)(a:fn ds=x):fj fn r U=x:=by unfold fj;rw[b];exact a
def X6(l:b_ D)(i:n_)(c:0<=i)(b:i<_7 l):∃d∈l,jx (.a8 l) (.int i)=a_ d:=by
 have a:i.toNat<_7 l:=by lia
 refine⟨l[i.toNat],List.getElem_mem a,?_⟩;unfold jx;simp only[L2.atI,L2.Zz,c,b,K_,pE,bF a]
def Dq(l:b_ D)(c m:n_)(a:0<m)(b:(l.length:n_)=m):∃d∈l,jx (.a8 l) (.int (c%m))=a_ d:=X6 l (c%m) (pV _ (by lia)) (by have:=nZ c a;lia)
def mi{A B:En->fq}{U δ':En}{o:fq}(h:A U=.nx δ')(k:B δ'=o):fe A B U=o:=by rw[Au,h];exact k
def FQ{A B:En->fq}{U:En}{d:D}(h:A U=.rt d):fe A B U=.rt d:=by rw[Au,h]
def PN{c:En->bi}{A B:En->fq}{U:En}{o:fq}(h:c U=.ok (.bl d_))(k:A U=o):Im c A B U=o:=by rw[GO,h];exact k
def GE{c:En->bi}{A:En->fq}{U:En}(h:c U=.ok (.bl e_)):Im c A uu U=.nx U:=by rw[GO,h];rfl
def Nc{g:En->bi}{U:En}{d:D}(h:g U=.ok d):mj g U=.rt d:=by rw[AH,h];rfl
def Yn{l:b_ D}{c m:n_}{d:D}{g:En->bi}{U:En}(a:0<m)(f:U[1]?=a_ (.bo (.int c)))(b:g U=.ok (.a8 l))(e:jx (.a8 l) (.int (c%m))=a_ d):g2 jx g (g2 mw (az 1) (gC (.int m))) U=.ok d:=by rw[Zh,b,Zh];simp only[KI,SE,f,Qc,Ia c m a,e,Qd]
def BU(k:h_)(c:n_)(g:k<4):∃d∈km k,cu (xb 28) jf [.int (k:n_),.int c]=.ok d:=by
 have a:∀d,u9 27 [.bo (.int (k:n_)),.bo (.int c),.no,.no]=.rt d->cu (xb 28) jf [.int (k:n_),.int c]=.ok d:=λd h=>by rw[Os 27];show vz (u9 27 [.bo (.int (k:n_)),.bo (.int c),.no,.no])=_;rw[h];rfl
 have f:k=0\/k=1\/k=2\/k=3:=by lia
 obtain rfl|rfl|rfl|rfl:=f
 .obtain⟨d,b,e⟩:=Dq (km 0) c 6 (by decide) _6;exact⟨d,b,a d (mi (δ':=[.bo (.int 0),.bo (.int c),.pu ra,.no]) _6 (FQ (PN (by kernel_rfl) (mi (δ':=[.bo (.int 0),.bo (.int c),.pu ra,.ow ((km 0).take 4)]) _6 (mi (δ':=[.bo (.int 0),.bo (.int c),.pu ra,.ow (km 0)]) _6 (Nc (Yn (l:=km 0) (by decide) _6 _6 e)))))))⟩
 .obtain⟨d,b,e⟩:=Dq (km 1) c 5 (by decide) _6;exact⟨d,b,a d (mi (δ':=[.bo (.int 1),.bo (.int c),.pu ra,.no]) _6 (mi (GE (by kernel_rfl)) (FQ (PN (by kernel_rfl) (mi (δ':=[.bo (.int 1),.bo (.int c),.pu ra,.ow ((km 1).take 3)]) _6 (mi (δ':=[.bo (.int 1),.bo (.int c),.pu ra,.ow (km 1)]) _6 (Nc (Yn (l:=km 1) (by decide) _6 _6 e))))))))⟩
 .obtain⟨d,b,e⟩:=Dq (km 2) c 11 (by decide) _6;exact⟨d,b,a d (mi (δ':=[.bo (.int 2),.bo (.int c),.pu ra,.no]) _6 (mi (GE (by kernel_rfl)) (mi (GE (by kernel_rfl)) (FQ (PN (by kernel_rfl) (mi (δ':=[.bo (.int 2),.bo (.int c),.pu ra,.ow ((km 2).take 6)]) _6 (mi (δ':=[.bo (.int 2),.bo (.int c),.pu ra,.ow ((km 2).take 8)]) _6 (mi (δ':=[.bo (.int 2),.bo (.int c),.pu ra,.ow ((km 2).take 9)]) _6 (mi (δ':=[.bo (.int 2),.bo (.int c),.pu ra,.ow ((km 2).take 10)]) _6 (mi (δ':=[.bo (.int 2),.bo (.int c),.pu ra,.ow (km 2)]) _6 (Nc (Yn (l:=km 2) (by decide) _6 _6 e))))))))))))⟩
 .obtain⟨d,b,e⟩:=Dq (km 3) c 3 (by decide) _6;exact⟨d,b,a d (mi (δ':=[.bo (.int 3),.bo (.int c),.pu ra,.no]) _6 (mi (GE (by kernel_rfl)) (mi (GE (by kernel_rfl)) (mi (GE (by kernel_rfl)) (by
   simp only[GP,As,V2,fX,dE];exact Nc (Yn (l:=km 3) (by decide) _6 _6 e))))))⟩
def Xa{k w:h_}{d:D}(f:k<4)(a:w<72)(b:d∈km k):cu (xb 28) jk [.int (k:n_),.int (w:n_),d]=.ok (.int (k:n_)):=by
 have e:IY k=d_:=by
  have a:k=0\/k=1\/k=2\/k=3:=by lia
  obtain rfl|rfl|rfl|rfl:=a
  .exact OR
  .exact OQ
  .exact OP
  .exact OO
 have c:=J_.mp e d b;exact CS (J_.mp c w (_a.mpr a))
def SR(k:h_)(b:k<4):k9 (.int (k:n_)) (.int (k:n_))=a_ (.bl d_):=by
 have a:k=0\/k=1\/k=2\/k=3:=by lia
 rcases a with rfl|rfl|rfl|rfl<;>kernel_rfl
def SN:Hj (.a8 two) (.a8 two)=a_ (.bl e_):=by kernel_rfl
def S1(F:b_ D->bi):En->fq:=uw 1 (fj F (ac (az 0) (ac (gC (.int 0)) (ac (gC (.int 4)) af))))
def S2(F:b_ D->bi):En->fq:=uw 2 (fj F (ac (az 0) (ac (gC (.int 1)) (ac (gC (.int 72)) af))))
def S3(B F:b_ D->bi):En->fq:=uw 3 (fj B (ac (az 1) (ac (fj F (ac (az 0) (ac (gC (.int 2)) (ac (g2 Hk (gC (.int 10)) (gC (.int 6))) af)))) af)))
def S4:En->fq:=uw 4 (cr (ac (cr (ac (gC (.str "r")) (ac (cr (ac (gC (.str "x")) (ac (gC (.str "y")) af))) af))) (ac (cr (ac (cr (ac (gC (.str "r")) (ac (cr (ac (gC (.str "y")) (ac (gC (.str "x")) af))) af))) af)) af)))
def S5(M:b_ D->bi):En->fq:=fz [4] (Im (g2 Hj (fj M (ac (Fw (c7 (ac (jd 4) af)) (gC (.int 8))) (ac (c7 (ac (cr (ac (gC (.str "r")) (ac (cr (ac (gC (.int 1)) (ac (gC (.int 2)) af))) af))) af)) af))) (c7 (ac (cr (ac (gC (.str "r")) (ac (cr (ac (gC (.int 1)) (ac (gC (.int 2)) af))) af))) (ac (cr (ac (gC (.str "r")) (ac (cr (ac (gC (.int 2)) (ac (gC (.int 1)) af))) af))) af)))) (mj (gC (.bl e_))) uu)
def S6(Q:b_ D->bi):En->fq:=fz [3] (mj (g2 k9 (fj Q (ac (az 1) (ac (az 2) (ac (jd 3) af)))) (az 1)))
def Pc(n:h_):Qr n=fe (S1 (cu (xb n) cy)) (fe (S2 (cu (xb n) cy)) (fe (S3 (cu (xb n) jf) (cu (xb n) cy)) (fe S4 (fe (S5 (cu (xb n) xq)) (S6 (cu (xb n) jk)))))):=rfl
def Xh{F B M Q:b_ D->bi}{s:D}{k w:h_}{c:n_}{d:D}(o:F [s,.int 0,.int 4]=.ok (.int (k:n_)))(n:F [s,.int 1,.int 72]=.ok (.int (w:n_)))(m:F [s,.int 2,.int 1000000]=.ok (.int c))(l:B [.int (k:n_),.int c]=.ok d)
  (j:M [.a8 (aT 8 sw),.a8 [nz "r" [.int 1,.int 2]]]=.ok (.a8 two))(i:Q [.int (k:n_),.int (w:n_),d]=.ok (.int (k:n_)))(ek:k9 (.int (k:n_)) (.int (k:n_))=a_ (.bl d_)):
  fe (S1 F) (fe (S2 F) (fe (S3 B F) (fe S4 (fe (S5 M) (S6 Q))))) [.pu s,.no,.no,.no,.no]=.rt (.bl d_):=by
 have h:S1 F [.pu s,.no,.no,.no,.no]=.nx [.pu s,.pu (.int (k:n_)),.no,.no,.no]:=by unfold S1;rw[V3,j0 (ds:=[s,.int 0,.int 4]) _6 o];rfl
 have g:S2 F [.pu s,.pu (.int (k:n_)),.no,.no,.no]=.nx [.pu s,.pu (.int (k:n_)),.pu (.int (w:n_)),.no,.no]:=by unfold S2;rw[V3,j0 (ds:=[s,.int 1,.int 72]) _6 n];rfl
 have p:fj F (ac (az 0) (ac (gC (.int 2)) (ac (g2 Hk (gC (.int 10)) (gC (.int 6))) af))) [.pu s,.pu (.int (k:n_)),.pu (.int (w:n_)),.no,.no]=.ok (.int c):=j0 (ds:=[s,.int 2,.int 1000000]) _6 m;have f:S3 B F [.pu s,.pu (.int (k:n_)),.pu (.int (w:n_)),.no,.no]=.nx [.pu s,.pu (.int (k:n_)),.pu (.int (w:n_)),.pu d,.no]:=by unfold S3;rw[V3,j0 (ds:=[.int (k:n_),.int c]) (by rw[V1,V1,p];rfl) l];rfl
 have e:S4 [.pu s,.pu (.int (k:n_)),.pu (.int (w:n_)),.pu d,.no]=.nx [.pu s,.pu (.int (k:n_)),.pu (.int (w:n_)),.pu d,.pu sw]:=rfl;have b:S5 M [.pu s,.pu (.int (k:n_)),.pu (.int (w:n_)),.pu d,.pu sw]=.nx [.pu s,.pu (.int (k:n_)),.pu (.int (w:n_)),.pu d,.pu sw]:=by unfold S5;simp only[GP,As,V2,fX,dE];rw[GO,Zh,j0 (ds:=[.a8 (aT 8 sw),.a8 [nz "r" [.int 1,.int 2]]]) _6 j];show((bi.of (Hj (.a8 two) (.a8 two))).then _)=_;rw[SN];rfl
 have a:S6 Q [.pu s,.pu (.int (k:n_)),.pu (.int (w:n_)),.pu d,.pu sw]=.rt (.bl d_):=by unfold S6;simp only[GP,As,V2,fX,dE];rw[AH,Zh,j0 (ds:=[.int (k:n_),.int (w:n_),d]) _6 i];show(match bi.of (k9 (.int (k:n_)) (.int (k:n_)))with|.ok d=>fq.rt d|.er c=>.er c|.st=>.st)=_;rw[ek];rfl
 rw[Au,h];dsimp only;rw[Au,g];dsimp only;rw[Au,f];dsimp only;rw[Au,e];dsimp only;rw[Au,b];exact a
def Ta(a:b_ n_)(r:_7 a<=63):cu (xb 29) q8 [.a8 (a.map D.int)]=.ok (.bl d_):=by
 obtain⟨p,h⟩:=zi a 0 4 (by decide);obtain⟨q,i⟩:=zi a 1 72 (by decide);obtain⟨k,l⟩:∃k:h_,Dp a 0 4=(k:n_):=⟨(Dp a 0 4).toNat,by lia⟩;obtain⟨w,j⟩:∃k:h_,Dp a 1 72=(k:n_):=⟨(Dp a 1 72).toNat,by lia⟩;have g:=zm 26 a 0 4 (by decide) (by decide);have f:=zm 26 a 1 72 (by decide) (by decide);have o:=zm 26 a 2 1000000 (by decide) (by decide);rw[l]at g h;rw[j]at f i;have c:k<4:=by lia
 have b:w<72:=by lia
 obtain⟨d,m,n⟩:=BU k (Dp a 2 1000000) c;have e:vz (Qr 28 [.pu (GD a),.no,.no,.no,.no])=.ok (.bl d_):=by rw[Pc,Xh g f o n c1 (Xa c b m) (SR k c)];rfl
 exact(IT 28 [.a8 (a.map D.int)]).trans e
end LK
section
namespace LK
open L2 Pu
def RO{b:b_ aC}(h:_7 b=1):∃a,b=[a]:=List.length_eq_one_iff.mp h
def RN{c:b_ aC}(h:_7 c=2):∃a b,c=[a,b]:=by
 obtain _|⟨a,c⟩:=c
 .cases h
 .obtain⟨b,rfl⟩:=RO (_F h);exact⟨a,b,_6⟩
def QO{d:b_ aC}(h:_7 d=3):∃a b c,d=[a,b,c]:=by
 obtain _|⟨a,d⟩:=d
 .cases h
 .obtain⟨b,c,rfl⟩:=RN (_F h);exact⟨a,b,c,_6⟩
def SG{e:b_ aC}(h:_7 e=4):∃a b c d,e=[a,b,c,d]:=by
 obtain _|⟨a,e⟩:=e
 .cases h
 .obtain⟨b,c,d,rfl⟩:=QO (_F h);exact⟨a,b,c,d,_6⟩
def QD(K:aK)(d:ee):Prop:=∃f e kV g c a ct od h b,dM K cD d.x=a_ (a_ (.ref f))/\K.lookup f=a_ ⟨e,od,.func (cY d.x d.x (dh d.st) (bx d.st) (aj d.st) .none kV g c h a ct),b⟩/\fB K a d.x=d_/\cT K (.ref f)=d_
def SU{K:aK}{d:ee}{f h kV i g b ct od j e}(a:dM K cD d.x=a_ (a_ (.ref f)))(l:K.lookup f=a_ ⟨h,od,.func (cY d.x d.x (dh d.st) (bx d.st) (aj d.st) .none kV i g j b ct),e⟩)(c:fB K b d.x=d_)(k:cT K (.ref f)=d_):QD K d:=⟨_,_,_,_,_,_,_,_,_,_,a,l,c,k⟩
def Ww{K:aK}(kV c a:aC)(e:f_ g_)(d ct:aC):lv K (cY "__init__" "Fits.__init__" (dh J0) (bx J0) (aj J0) .none kV c a e d ct) ["self","columns","rows"] []:=by refine .all λf b=>?_;obtain⟨_,_,_,rfl⟩:=QO b;rfl
def Z4:∀d∈Fh,zt d=d_/\d.lm=e_:=by decide+kernel
def HC:∀d∈Fh,Cd d.st d.x:=by
 intro d b;simp only[Fh,fR,eU,S_]at b;obtain rfl|rfl|rfl|rfl|rfl|rfl|rfl|rfl|rfl|rfl|rfl|rfl|rfl|rfl|rfl|rfl|rfl|rfl|rfl|rfl|rfl|rfl|rfl|rfl|rfl|rfl|rfl|rfl|rfl|rfl|rfl|rfl|rfl|rfl|rfl|rfl|rfl|rfl|rfl|rfl|rfl|rfl|rfl|rfl|rfl|rfl|rfl|rfl|rfl|rfl|rfl|rfl|rfl|rfl|rfl|rfl|rfl|rfl|rfl|rfl|rfl|rfl|rfl|rfl|rfl:=b
 all_goals (intro _ _ _ _ _ _ c a;first|(obtain⟨_,rfl⟩:=RO a;rfl)|(obtain rfl:=List.eq_nil_of_length_eq_zero a;rfl)|(obtain⟨_,_,rfl⟩:=RN a;rfl)|(obtain⟨_,_,_,rfl⟩:=QO a;rfl)|(obtain⟨_,_,_,_,rfl⟩:=SG a;rfl))
def BX{l:_d}{w:bP}{K:aK}{h:r_}{A:k_->f_ aC}{fa:g_}{n:h_}{s:FS}(X:K.In h)(G:h.Ns cD A)(Y:A "law"=a_ (.ref fa))(hl:(xb n).qQ "law"=a_ s)(hm:s.ms=[e_])(U:∀ns:b_ n_,ns.length<=63->s.f [.a8 (ns.map D.int)]=.ok (.bl d_))
  {t0:Z?}
  {m:g_}
  {j:g_}
  {i:g_}
  {g:g_}
  {u:g_}
  {b:g_}
  {r:g_}
  {q:g_}
  {p:g_}
  {o B:g_} {L M O I C Q:aC} {J T:f_ g_} {H:q_ (f_ aC)}
  (hD:∀d∈Fh,QD K d)
  (hB:∀x∈lq,dM K cD x=a_ c_)
  (s0:dM K cD "LETTERS"=a_ (a_ (.str "abcdefghijklmnopqrstuvwxyz" t0)))
  (xa0:dM K cD "AskError"=a_ (a_ (.ref m)))
  (xe0:dH K m [.type "ValueError",.type "Exception",.type "BaseException",.type "object"] "ValueError.__new__"=d_)
  (xv0:cH K (.ref m) (.type "ValueError")=a_ d_)
  (xa1:dM K cD "NoBook"=a_ (a_ (.ref j)))
  (xe1:dH K j [.type "ValueError",.type "Exception",.type "BaseException",.type "object"] "ValueError.__new__"=d_)
  (xv1:cH K (.ref j) (.type "ValueError")=a_ d_)
  (xa2:dM K cD "NoAsking"=a_ (a_ (.ref i)))
  (xe2:dH K i [.type "ValueError",.type "Exception",.type "BaseException",.type "object"] "ValueError.__new__"=d_)
  (xv2:cH K (.ref i) (.type "ValueError")=a_ d_)
  (xa3:dM K cD "Unlike"=a_ (a_ (.ref g)))
  (xe3:dH K g [.type "ValueError",.type "Exception",.type "BaseException",.type "object"] "ValueError.__new__"=d_)
  (xv3:cH K (.ref g) (.type "ValueError")=a_ d_)
  (xa4:dM K cD "NoTree"=a_ (a_ (.ref u)))
  (xe4:dH K u [.type "ValueError",.type "Exception",.type "BaseException",.type "object"] "ValueError.__new__"=d_)
  (xv4:cH K (.ref u) (.type "ValueError")=a_ d_)
  (xa5:dM K cD "NoRules"=a_ (a_ (.ref b)))
  (xe5:dH K b [.type "ValueError",.type "Exception",.type "BaseException",.type "object"] "ValueError.__new__"=d_)
  (xv5:cH K (.ref b) (.type "ValueError")=a_ d_)
  (xa6:dM K cD "NoBonds"=a_ (a_ (.ref r)))
  (xe6:dH K r [.type "ValueError",.type "Exception",.type "BaseException",.type "object"] "ValueError.__new__"=d_)
  (xv6:cH K (.ref r) (.type "ValueError")=a_ d_)
  (xa7:dM K cD "NoColumns"=a_ (a_ (.ref q)))
  (xe7:dH K q [.type "ValueError",.type "Exception",.type "BaseException",.type "object"] "ValueError.__new__"=d_)
  (xv7:cH K (.ref q) (.type "ValueError")=a_ d_)
  (xa8:dM K cD "NoText"=a_ (a_ (.ref p)))
  (xe8:dH K p [.type "ValueError",.type "Exception",.type "BaseException",.type "object"] "ValueError.__new__"=d_)
  (xv8:cH K (.ref p) (.type "ValueError")=a_ d_)
  (xp0:aS K (.ref m) (.ref m)=a_ d_)
  (xp1:aS K (.ref j) (.ref j)=a_ d_)
  (xp2:aS K (.ref j) (.ref m)=a_ d_)
  (xp3:aS K (.ref i) (.ref i)=a_ d_)
  (xp4:aS K (.ref i) (.ref m)=a_ d_)
  (xp5:aS K (.ref g) (.ref g)=a_ d_)
  (xp6:aS K (.ref g) (.ref m)=a_ d_)
  (xp7:aS K (.ref u) (.ref u)=a_ d_)
  (xp8:aS K (.ref u) (.ref m)=a_ d_)
  (xp9:aS K (.ref b) (.ref b)=a_ d_)
  (xp10:aS K (.ref b) (.ref m)=a_ d_)
  (xp11:aS K (.ref r) (.ref r)=a_ d_)
  (xp12:aS K (.ref r) (.ref m)=a_ d_)
  (xp13:aS K (.ref q) (.ref q)=a_ d_)
  (xp14:aS K (.ref q) (.ref m)=a_ d_)
  (xp15:aS K (.ref p) (.ref p)=a_ d_)
  (xp16:aS K (.ref p) (.ref m)=a_ d_)
  (xq0:aS K (.ref j) (.ref i)=a_ e_)
  (xq1:aS K (.ref j) (.ref g)=a_ e_)
  (xq2:aS K (.ref j) (.ref u)=a_ e_)
  (xq3:aS K (.ref j) (.ref b)=a_ e_)
  (xq4:aS K (.ref j) (.ref r)=a_ e_)
  (xq5:aS K (.ref j) (.ref q)=a_ e_)
  (xq6:aS K (.ref j) (.ref p)=a_ e_)
  (xq7:aS K (.ref i) (.ref j)=a_ e_)
  (xq8:aS K (.ref i) (.ref g)=a_ e_)
  (xq9:aS K (.ref i) (.ref u)=a_ e_)
  (xq10:aS K (.ref i) (.ref b)=a_ e_)
  (xq11:aS K (.ref i) (.ref r)=a_ e_)
  (xq12:aS K (.ref i) (.ref q)=a_ e_)
  (xq13:aS K (.ref i) (.ref p)=a_ e_)
  (xq14:aS K (.ref g) (.ref j)=a_ e_)
  (xq15:aS K (.ref g) (.ref i)=a_ e_)
  (xq16:aS K (.ref g) (.ref u)=a_ e_)
  (xq17:aS K (.ref g) (.ref b)=a_ e_)
  (xq18:aS K (.ref g) (.ref r)=a_ e_)
  (xq19:aS K (.ref g) (.ref q)=a_ e_)
  (xq20:aS K (.ref g) (.ref p)=a_ e_)
  (xq21:aS K (.ref b) (.ref j)=a_ e_)
  (xq22:aS K (.ref b) (.ref i)=a_ e_)
  (xq23:aS K (.ref b) (.ref g)=a_ e_)
  (xq24:aS K (.ref b) (.ref u)=a_ e_)
  (xq25:aS K (.ref b) (.ref r)=a_ e_)
  (xq26:aS K (.ref b) (.ref q)=a_ e_)
  (xq27:aS K (.ref b) (.ref p)=a_ e_)
  (ps:u? K (.builtin "object.__class__") "__get__"=a_ (a_ (.builtin "getset_descriptor.__get__")))
  (pk:T? K (.builtin "object.__class__")=a_ d_)
  (px1_0:bW K (.ref j) "__getattribute__"=a_ (a_ (.builtin "BaseException.__getattribute__")))
  (px1_1:bW K (.ref j) "__getattr__"=a_ c_)
  (px1_2:cH K (.ref j) (.type "BaseException")=a_ d_)
  (px1_3:bW K (.ref j) "__class__"=a_ (a_ (.builtin "object.__class__")))
  (px1_4:mM K j (.type "object")=a_ d_)
  (px2_0:bW K (.ref i) "__getattribute__"=a_ (a_ (.builtin "BaseException.__getattribute__")))
  (px2_1:bW K (.ref i) "__getattr__"=a_ c_)
  (px2_2:cH K (.ref i) (.type "BaseException")=a_ d_)
  (px2_3:bW K (.ref i) "__class__"=a_ (a_ (.builtin "object.__class__")))
  (px2_4:mM K i (.type "object")=a_ d_)
  (px3_0:bW K (.ref g) "__getattribute__"=a_ (a_ (.builtin "BaseException.__getattribute__")))
  (px3_1:bW K (.ref g) "__getattr__"=a_ c_)
  (px3_2:cH K (.ref g) (.type "BaseException")=a_ d_)
  (px3_3:bW K (.ref g) "__class__"=a_ (a_ (.builtin "object.__class__")))
  (px3_4:mM K g (.type "object")=a_ d_)
  (px5_0:bW K (.ref b) "__getattribute__"=a_ (a_ (.builtin "BaseException.__getattribute__")))
  (px5_1:bW K (.ref b) "__getattr__"=a_ c_)
  (px5_2:cH K (.ref b) (.type "BaseException")=a_ d_)
  (px5_3:bW K (.ref b) "__class__"=a_ (a_ (.builtin "object.__class__")))
  (px5_4:mM K b (.type "object")=a_ d_)
  (fc0_0:dM K cD "Fits"=a_ (a_ (.ref o)))
  (fc0_1:lZ K o Str.empty=d_)
  (fc0_2:lC K o=d_)
  (fc0_3:oB K o=d_)
  (fc0_4:bW K (.ref o) "__setattr__"=a_ (a_ (.builtin "object.__setattr__")))
  (fc0_5:bW K (.ref o) "columns"=a_ c_)
  (fc0_6:bW K (.ref o) "rows"=a_ c_)
  (fc0_7:pQ K o=d_)
  (fc0_8:bW K (.ref o) "__init__"=a_ (a_ (.ref B)))
  (fc0_9:O! K (.ref B)=d_)
  (fc0_10:cT K (.ref o)=d_)
  (fc0_11:K.lookup B=a_ ⟨L,J,.func (cY "__init__" "Fits.__init__" (dh J0) (bx J0) (aj J0) .none M O I T C Q),H⟩)
  (fc0_12:fB K C "Fits.__init__"=d_):
  ∃fd:fA,(∀(s:aE)(v:aC),d! s fd ⟨[v],[]⟩ [("_law_script",v)])/\∀base:r_,K.In base->base.Ns cD A->Bm A base->kz l.prog w K A base N0 n fa fd ["_law_script"] (Nm K):=by
 obtain⟨_,_,kV,dc,pm,cd,ct,_,an,_,a,l,c,k⟩:=hD q8 (by simp only[Fh,fR,true_or,or_true]);cases Y.symm.trans (aF X G a);have E:∀d∈Fh,DefIn K A d:=by intro d E;obtain⟨_,_,_,_,_,_,_,_,_,_,a,l,c,k⟩:=hD d E;exact BF X G (Z4 d E).1 (HC d E) a l c k (λz=>by rw[(Z4 d E).2]at z;cases z)
 have hs:∀x y,gs x=a_ y->∃t,A x=a_ (.str y t):=by
  intro x y e;unfold gs at e
  by_cases h0:x="LETTERS"
  .rw[aO h0]at e;cases e;subst h0;exact⟨_,aF X G s0⟩
  rw[aJ h0]at e;cases e
 have hb:∀x∈lq,A x=c_:=λx hx=>PySem.W.mg_none_of X G (hB x hx);have hX:XsIn K A xs:=by
  refine⟨λx h=>?_,λc y h=>?_,λc h=>?_,λc y h=>?_,λx h=>?_,λc h=>?_,λc h=>?_,λc n1 n2 h=>?_⟩
  .simp only[xs,dN,aH,j_,m_,S_]at h;obtain rfl|rfl|rfl|rfl|rfl|rfl|rfl|rfl|rfl:=h
   .exact⟨m,_,_,aF X G xa0,xe0,mm⟩
   .exact⟨j,_,_,aF X G xa1,xe1,mm⟩
   .exact⟨i,_,_,aF X G xa2,xe2,mm⟩
   .exact⟨g,_,_,aF X G xa3,xe3,mm⟩
   .exact⟨u,_,_,aF X G xa4,xe4,mm⟩
   .exact⟨b,_,_,aF X G xa5,xe5,mm⟩
   .exact⟨r,_,_,aF X G xa6,xe6,mm⟩
   .exact⟨q,_,_,aF X G xa7,xe7,mm⟩
   .exact⟨p,_,_,aF X G xa8,xe8,mm⟩
  .simp only[xs,dN,aH,j_,m_,S_]at h;obtain ⟨rfl,rfl⟩|⟨rfl,rfl⟩|⟨rfl,rfl⟩|⟨rfl,rfl⟩|⟨rfl,rfl⟩|⟨rfl,rfl⟩|⟨rfl,rfl⟩|⟨rfl,rfl⟩|⟨rfl,rfl⟩|⟨rfl,rfl⟩|⟨rfl,rfl⟩|⟨rfl,rfl⟩|⟨rfl,rfl⟩|⟨rfl,rfl⟩|⟨rfl,rfl⟩|⟨rfl,rfl⟩|⟨rfl,rfl⟩:=h
   .exact⟨m,aF X G xa0,by rw[ai (aF X G xa0)];exact xp0⟩
   .exact⟨j,aF X G xa1,by rw[ai (aF X G xa1)];exact xp1⟩
   .exact⟨m,aF X G xa0,by rw[ai (aF X G xa1)];exact xp2⟩
   .exact⟨i,aF X G xa2,by rw[ai (aF X G xa2)];exact xp3⟩
   .exact⟨m,aF X G xa0,by rw[ai (aF X G xa2)];exact xp4⟩
   .exact⟨g,aF X G xa3,by rw[ai (aF X G xa3)];exact xp5⟩
   .exact⟨m,aF X G xa0,by rw[ai (aF X G xa3)];exact xp6⟩
   .exact⟨u,aF X G xa4,by rw[ai (aF X G xa4)];exact xp7⟩
   .exact⟨m,aF X G xa0,by rw[ai (aF X G xa4)];exact xp8⟩
   .exact⟨b,aF X G xa5,by rw[ai (aF X G xa5)];exact xp9⟩
   .exact⟨m,aF X G xa0,by rw[ai (aF X G xa5)];exact xp10⟩
   .exact⟨r,aF X G xa6,by rw[ai (aF X G xa6)];exact xp11⟩
   .exact⟨m,aF X G xa0,by rw[ai (aF X G xa6)];exact xp12⟩
   .exact⟨q,aF X G xa7,by rw[ai (aF X G xa7)];exact xp13⟩
   .exact⟨m,aF X G xa0,by rw[ai (aF X G xa7)];exact xp14⟩
   .exact⟨p,aF X G xa8,by rw[ai (aF X G xa8)];exact xp15⟩
   .exact⟨m,aF X G xa0,by rw[ai (aF X G xa8)];exact xp16⟩
  .simp only[xs,dN,aH,j_,m_,S_]at h;obtain rfl|rfl|rfl|rfl|rfl|rfl|rfl|rfl|rfl:=h
   .rw[ai (aF X G xa0)];show(if fJ "ValueError"=d_ then cH K (.ref m) (.type "ValueError")else c_)=a_ d_;rw[aO (by decide+kernel)];exact xv0
   .rw[ai (aF X G xa1)];show(if fJ "ValueError"=d_ then cH K (.ref j) (.type "ValueError")else c_)=a_ d_;rw[aO (by decide+kernel)];exact xv1
   .rw[ai (aF X G xa2)];show(if fJ "ValueError"=d_ then cH K (.ref i) (.type "ValueError")else c_)=a_ d_;rw[aO (by decide+kernel)];exact xv2
   .rw[ai (aF X G xa3)];show(if fJ "ValueError"=d_ then cH K (.ref g) (.type "ValueError")else c_)=a_ d_;rw[aO (by decide+kernel)];exact xv3
   .rw[ai (aF X G xa4)];show(if fJ "ValueError"=d_ then cH K (.ref u) (.type "ValueError")else c_)=a_ d_;rw[aO (by decide+kernel)];exact xv4
   .rw[ai (aF X G xa5)];show(if fJ "ValueError"=d_ then cH K (.ref b) (.type "ValueError")else c_)=a_ d_;rw[aO (by decide+kernel)];exact xv5
   .rw[ai (aF X G xa6)];show(if fJ "ValueError"=d_ then cH K (.ref r) (.type "ValueError")else c_)=a_ d_;rw[aO (by decide+kernel)];exact xv6
   .rw[ai (aF X G xa7)];show(if fJ "ValueError"=d_ then cH K (.ref q) (.type "ValueError")else c_)=a_ d_;rw[aO (by decide+kernel)];exact xv7
   .rw[ai (aF X G xa8)];show(if fJ "ValueError"=d_ then cH K (.ref p) (.type "ValueError")else c_)=a_ d_;rw[aO (by decide+kernel)];exact xv8
  .simp only[xs,dN,aH,j_,m_,S_]at h;obtain ⟨rfl,rfl⟩|⟨rfl,rfl⟩|⟨rfl,rfl⟩|⟨rfl,rfl⟩|⟨rfl,rfl⟩|⟨rfl,rfl⟩|⟨rfl,rfl⟩|⟨rfl,rfl⟩|⟨rfl,rfl⟩|⟨rfl,rfl⟩|⟨rfl,rfl⟩|⟨rfl,rfl⟩|⟨rfl,rfl⟩|⟨rfl,rfl⟩|⟨rfl,rfl⟩|⟨rfl,rfl⟩|⟨rfl,rfl⟩|⟨rfl,rfl⟩|⟨rfl,rfl⟩|⟨rfl,rfl⟩|⟨rfl,rfl⟩|⟨rfl,rfl⟩|⟨rfl,rfl⟩|⟨rfl,rfl⟩|⟨rfl,rfl⟩|⟨rfl,rfl⟩|⟨rfl,rfl⟩|⟨rfl,rfl⟩:=h
   .exact⟨i,aF X G xa2,by rw[ai (aF X G xa1)];exact xq0⟩
   .exact⟨g,aF X G xa3,by rw[ai (aF X G xa1)];exact xq1⟩
   .exact⟨u,aF X G xa4,by rw[ai (aF X G xa1)];exact xq2⟩
   .exact⟨b,aF X G xa5,by rw[ai (aF X G xa1)];exact xq3⟩
   .exact⟨r,aF X G xa6,by rw[ai (aF X G xa1)];exact xq4⟩
   .exact⟨q,aF X G xa7,by rw[ai (aF X G xa1)];exact xq5⟩
   .exact⟨p,aF X G xa8,by rw[ai (aF X G xa1)];exact xq6⟩
   .exact⟨j,aF X G xa1,by rw[ai (aF X G xa2)];exact xq7⟩
   .exact⟨g,aF X G xa3,by rw[ai (aF X G xa2)];exact xq8⟩
   .exact⟨u,aF X G xa4,by rw[ai (aF X G xa2)];exact xq9⟩
   .exact⟨b,aF X G xa5,by rw[ai (aF X G xa2)];exact xq10⟩
   .exact⟨r,aF X G xa6,by rw[ai (aF X G xa2)];exact xq11⟩
   .exact⟨q,aF X G xa7,by rw[ai (aF X G xa2)];exact xq12⟩
   .exact⟨p,aF X G xa8,by rw[ai (aF X G xa2)];exact xq13⟩
   .exact⟨j,aF X G xa1,by rw[ai (aF X G xa3)];exact xq14⟩
   .exact⟨i,aF X G xa2,by rw[ai (aF X G xa3)];exact xq15⟩
   .exact⟨u,aF X G xa4,by rw[ai (aF X G xa3)];exact xq16⟩
   .exact⟨b,aF X G xa5,by rw[ai (aF X G xa3)];exact xq17⟩
   .exact⟨r,aF X G xa6,by rw[ai (aF X G xa3)];exact xq18⟩
   .exact⟨q,aF X G xa7,by rw[ai (aF X G xa3)];exact xq19⟩
   .exact⟨p,aF X G xa8,by rw[ai (aF X G xa3)];exact xq20⟩
   .exact⟨j,aF X G xa1,by rw[ai (aF X G xa5)];exact xq21⟩
   .exact⟨i,aF X G xa2,by rw[ai (aF X G xa5)];exact xq22⟩
   .exact⟨g,aF X G xa3,by rw[ai (aF X G xa5)];exact xq23⟩
   .exact⟨u,aF X G xa4,by rw[ai (aF X G xa5)];exact xq24⟩
   .exact⟨r,aF X G xa6,by rw[ai (aF X G xa5)];exact xq25⟩
   .exact⟨q,aF X G xa7,by rw[ai (aF X G xa5)];exact xq26⟩
   .exact⟨p,aF X G xa8,by rw[ai (aF X G xa5)];exact xq27⟩
  .simp only[xs,dN,aH,j_,m_,S_]at h
  .simp only[xs,dN,aH,j_,m_,S_]at h
  .simp only[xs,dN,aH,j_,m_,S_]at h;obtain rfl|rfl|rfl|rfl:=h
   .rw[ai (aF X G xa1)];exact⟨⟨px1_0,px1_1,px1_2,px1_3,ps,pk,px1_4⟩,eU⟩
   .rw[ai (aF X G xa2)];exact⟨⟨px2_0,px2_1,px2_2,px2_3,ps,pk,px2_4⟩,eU⟩
   .rw[ai (aF X G xa3)];exact⟨⟨px3_0,px3_1,px3_2,px3_3,ps,pk,px3_4⟩,eU⟩
   .rw[ai (aF X G xa5)];exact⟨⟨px5_0,px5_1,px5_2,px5_3,ps,pk,px5_4⟩,eU⟩
  .by_cases N:c="Fits"
   .subst N;cases h;refine λP w base=>⟨o,B,_,aF X G fc0_0,⟨fc0_1,fc0_2,fc0_3,fc0_4⟩,fc0_5,fc0_6,by decide,⟨fc0_7,fc0_8,fc0_9,fc0_10⟩,Ww _ _ _ _ _ _,Wx fc0_11 fc0_12 (ot (d:=⟨"__init__",J0,[e_,e_,e_],e_⟩) (by decide+kernel)).1 (by decide+kernel) ⟨fc0_1,fc0_2,fc0_3,fc0_4⟩ fc0_5 fc0_6⟩
   .simp only[xs,aJ N]at h;cases h
 refine⟨cY q8.x q8.x (dh q8.st) (bx q8.st) (aj q8.st) .none kV dc pm an cd ct,λs v=>.of_eq _6,λbase kb Z bm=>?_⟩;exact DZ DV _6 a l c k kb bm E hs hb hX hl hm U
end LK
namespace PySem.W.Fast
def Z!:True:=⟨⟩
def tw96281830608392766:=Z!
def tw12137298909845040128:=Z!
def tw2091774546848821161:=Z!
def tw304659916817985317:=Z!
def tw7085056604499238844:=Z!
def tw7745771728777620613:=Z!
def tw3201993615714481665:=Z!
def tw8887846885083364625:=Z!
def tw17206735188215847645:=Z!
def tw9304076930276689402:=Z!
def tw4360522537724921001:=Z!
def tw16839262717840438371:=Z!
def tw7364902523558708746:=Z!
def tw6597859612254502583:=Z!
def tw17527779986376361909:=Z!
def tw10302436096060345856:=Z!
def tw4660387955040101128:=Z!
def tw17179180419392044199:=Z!
def tw18324263458599162026:=Z!
def tw2057736811126672222:=Z!
def tw6111444549894033037:=Z!
def tw832261936612187974:=Z!
def tw18184709084755542446:=Z!
def tw17722151227810927670:=Z!
def tw16886996503031081565:=Z!
def tw11128669952172589503:=Z!
def tw1970444257565326298:=Z!
def tw2034408037542678532:=Z!
def tw1944173050626251884:=Z!
def tw6053164174980096355:=Z!
def tw10397757743333776739:=Z!
def tw11741968208719414946:=Z!
def tw15119225530020329080:=Z!
def tw5824128759191872698:=Z!
def tw11781645612149608605:=Z!
def tw16777494892922604009:=Z!
def tw8349908873157555650:=Z!
def tw17951367376114298577:=Z!
def tw15890399168257694091:=Z!
def tw15076263138564414481:=Z!
def tw14143366388238295215:=Z!
def tw11751928662955306354:=Z!
def tw3833000007161399517:=Z!
def tw9872011923846192596:=Z!
def tw10526361894252227056:=Z!
def tw17699190508079518229:=Z!
def tw17476193086984191451:=Z!
def tw6760953333798729939:=Z!
def tw1629690614723264012:=Z!
def tw4430838425604884867:=Z!
def tw6814303153883104283:=Z!
def tw2340389834393490136:=Z!
def tw17936759480520707895:=Z!
def tw5171947841077350256:=Z!
def tw2417832695084822661:=Z!
def tw7258259002438479361:=Z!
def tw6920772286860939423:=Z!
def tw3514427423139563954:=Z!
def tw6052057838077524164:=Z!
def tw4463818725052736724:=Z!
def tw11937574933421039493:=Z!
def tw3123517157275114051:=Z!
def tw6798474532322333694:=Z!
def tw16130407938369821553:=Z!
def tw6691818750538472015:=Z!
def tw11962627631469672291:=Z!
def tw11572765259576342960:=Z!
def tw2800246708678652050:=Z!
def tw13098250865284101219:=Z!
def tw9748340984601324753:=Z!
def tw16565924267644108949:=Z!
def tw17421897008074673864:=Z!
def tw12244376775224587311:=Z!
def tw10013814230970725791:=Z!
def tw12988007525009646098:=Z!
def tw3634901452008656841:=Z!
def tw7319558486069073758:=Z!
def tw2044642371918974535:=Z!
def tw2041711758708340475:=Z!
def tw15408558405406111909:=Z!
def tw18153849762936149517:=Z!
def tw1808084737720471903:=Z!
def tw11563468779346351995:=Z!
def tw6235611777634883798:=Z!
def tw4006594389580240443:=Z!
def tw3917314722006703058:=Z!
def tw13592456116047134505:=Z!
def tw4585685020439109562:=Z!
def tw14839669643740938394:=Z!
def tw10752846180767593652:=Z!
def tw13994143954066483982:=Z!
def tw12747856785424912531:=Z!
def tw14875134457019952146:=Z!
def tw4474573660518786846:=Z!
def tw12837201380331243336:=Z!
def tw5137869913527849905:=Z!
def tw9293246810065036210:=Z!
def tw9982060569592209001:=Z!
def tw12277714835821088651:=Z!
def tw8906348717069298843:=Z!
def tw13673045973754027758:=Z!
def tw1516828721243626464:=Z!
def tw17384035571547172493:=Z!
def tw14145773669446033181:=Z!
def tw5872712950681903452:=Z!
def tw14583050173399889822:=Z!
def tw7088497724600060501:=Z!
def tw273437679686539703:=Z!
def tw6038025468544202846:=Z!
def tw268131768167129376:=Z!
def tw8885564484975370140:=Z!
def tw871437255722955742:=Z!
def tw11588858522367772093:=Z!
def tw11798719730100300747:=Z!
def tw11249684454046542968:=Z!
def tw3530309476668187626:=Z!
def tw7338766971683488623:=Z!
def tw4533694869251646510:=Z!
def tw476099014039621539:=Z!
def tw11904565689718787970:=Z!
def tw4023732585128670364:=Z!
def tw8949065421277664070:=Z!
def tw7374264110399447618:=Z!
def tw4649714060490902778:=Z!
def tw15939235185956444360:=Z!
def tw12862297701008745612:=Z!
def tw5767888957649466659:=Z!
def tw5554057959229823456:=Z!
def tw3022582917569294294:=Z!
def tw2436105350328978101:=Z!
def tw1949476436453793017:=Z!
def tw11222103573519394596:=Z!
def tw4217505962008074367:=Z!
def tw7317968719969577068:=Z!
def tw7907778605393970763:=Z!
def tw14587470091666771479:=Z!
def tw11891118499234391368:=Z!
def tw7825461065813294898:=Z!
def tw7298243477368263277:=Z!
def tw14463002294474514100:=Z!
def tw14365874729653547716:=Z!
def tw5107301348897463851:=Z!
def tw10430722287768726143:=Z!
def tw12935561485359748837:=Z!
def tw9142880910043018241:=Z!
def tw5744407103829362340:=Z!
def tw10799896739441825734:=Z!
def tw15365694804586263414:=Z!
def tw57781101076537232:=Z!
def tw18009588359270289505:=Z!
def tw8635035545434810754:=Z!
def tw17051316492958518394:=Z!
def tw15628876694899974449:=Z!
def tw2362937538024462967:=Z!
def tw1908744019640022061:=Z!
def tw13401935579170894005:=Z!
def tw1720121601601606024:=Z!
def tw9953523652773360834:=Z!
def tw6934438147591341129:=Z!
def tw14672475596936559311:=Z!
def tw4735406591455134254:=Z!
def tw3276083714269709559:=Z!
def tw803864340932187491:=Z!
def tw3935634899457907529:=Z!
def tw4008258243769626020:=Z!
def tw2638990601096479846:=Z!
def tw10135908509939581993:=Z!
def tw10352266021764280855:=Z!
def tw3264601264844013410:=Z!
def tw12923272080181219249:=Z!
def tw14682591307370769651:=Z!
def tw2999950508933346532:=Z!
def tw15413903720784713301:=Z!
end PySem.W.Fast
set_option tactic.hygienic true
open PySem PySem.W PyProof.Rows
set_option maxRecDepth 100000 in
set_option maxHeartbeats 0 in
theorem PySem.Challenge.cw_askbook_k21_askings_refused_holds : PySem.Challenge.rw_askbook_k21_askings_refused.Holds := by
 w_on;o_law;k_head;(case hw=>w_witness2)
 k_fill
 refine Pu.LV (l:=PySem.Challenge.rw_askbook_k21_askings_refused) (k:=30) rfl rfl ⟨rfl,by decide,by decide⟩ (by decide) (λw h Y=>PySem.W.kIn_of Y) ?hNt ?hTb ?hFn
 case hNt=>intro w;kernel_rfl
 case hTb=>intro w h Y p g;cases g
 case hFn=>
  intro w j m h i G b
  refine' LK.BX (n:=30) i G b (Pu.GV 29 rfl) rfl LK.Ta ?hD ?hB ?s0 ?xa0 ?xe0 ?xv0 ?xa1 ?xe1 ?xv1 ?xa2 ?xe2 ?xv2 ?xa3 ?xe3 ?xv3 ?xa4 ?xe4 ?xv4 ?xa5 ?xe5 ?xv5 ?xa6 ?xe6 ?xv6 ?xa7 ?xe7 ?xv7 ?xa8 ?xe8 ?xv8 ?xp0 ?xp1 ?xp2 ?xp3 ?xp4 ?xp5 ?xp6 ?xp7 ?xp8 ?xp9 ?xp10 ?xp11 ?xp12 ?xp13 ?xp14 ?xp15 ?xp16 ?xq0 ?xq1 ?xq2 ?xq3 ?xq4 ?xq5 ?xq6 ?xq7 ?xq8 ?xq9 ?xq10 ?xq11 ?xq12 ?xq13 ?xq14 ?xq15 ?xq16 ?xq17 ?xq18 ?xq19 ?xq20 ?xq21 ?xq22 ?xq23 ?xq24 ?xq25 ?xq26 ?xq27 ?ps ?pk ?px1_0 ?px1_1 ?px1_2 ?px1_3 ?px1_4 ?px2_0 ?px2_1 ?px2_2 ?px2_3 ?px2_4 ?px3_0 ?px3_1 ?px3_2 ?px3_3 ?px3_4 ?px5_0 ?px5_1 ?px5_2 ?px5_3 ?px5_4 ?fc0_0 ?fc0_1 ?fc0_2 ?fc0_3 ?fc0_4 ?fc0_5 ?fc0_6 ?fc0_7 ?fc0_8 ?fc0_9 ?fc0_10 ?fc0_11 ?fc0_12
  case hD=>
   intro d f
   simp only[LK.Fh,List.mem_cons,List.not_mem_nil,or_false]at f
   rcases f with rfl|rfl|rfl|rfl|rfl|rfl|rfl|rfl|rfl|rfl|rfl|rfl|rfl|rfl|rfl|rfl|rfl|rfl|rfl|rfl|rfl|rfl|rfl|rfl|rfl|rfl|rfl|rfl|rfl|rfl|rfl|rfl|rfl|rfl|rfl|rfl|rfl|rfl|rfl|rfl|rfl|rfl|rfl|rfl|rfl|rfl|rfl|rfl|rfl|rfl|rfl|rfl|rfl|rfl|rfl|rfl|rfl|rfl|rfl|rfl|rfl|rfl|rfl|rfl|rfl
   all_goals (refine' LK.SU ?a ?l ?c ?k;(case a=>k_is);(case l=>k_is);(case c=>k_is);(case k=>k_is))
  case hB=>
   intro x e
   simp only[Pu.lq,List.mem_cons,List.not_mem_nil,or_false]at e
   rcases e with rfl|rfl|rfl|rfl|rfl|rfl|rfl|rfl|rfl|rfl|rfl|rfl|rfl|rfl|rfl|rfl|rfl|rfl|rfl|rfl
   all_goals k_is
  (case s0=>k_is)
  (case xa0=>k_is)
  (case xe0=>k_exc)
  (case xv0=>k_is)
  (case xa1=>k_is)
  (case xe1=>k_exc)
  (case xv1=>k_is)
  (case xa2=>k_is)
  (case xe2=>k_exc)
  (case xv2=>k_is)
  (case xa3=>k_is)
  (case xe3=>k_exc)
  (case xv3=>k_is)
  (case xa4=>k_is)
  (case xe4=>k_exc)
  (case xv4=>k_is)
  (case xa5=>k_is)
  (case xe5=>k_exc)
  (case xv5=>k_is)
  (case xa6=>k_is)
  (case xe6=>k_exc)
  (case xv6=>k_is)
  (case xa7=>k_is)
  (case xe7=>k_exc)
  (case xv7=>k_is)
  (case xa8=>k_is)
  (case xe8=>k_exc)
  (case xv8=>k_is)
  (case xp0=>kts_exm)
  (case xp1=>kts_exm)
  (case xp2=>kts_exm)
  (case xp3=>kts_exm)
  (case xp4=>kts_exm)
  (case xp5=>kts_exm)
  (case xp6=>kts_exm)
  (case xp7=>kts_exm)
  (case xp8=>kts_exm)
  (case xp9=>kts_exm)
  (case xp10=>kts_exm)
  (case xp11=>kts_exm)
  (case xp12=>kts_exm)
  (case xp13=>kts_exm)
  (case xp14=>kts_exm)
  (case xp15=>kts_exm)
  (case xp16=>kts_exm)
  (case xq0=>kts_exm)
  (case xq1=>kts_exm)
  (case xq2=>kts_exm)
  (case xq3=>kts_exm)
  (case xq4=>kts_exm)
  (case xq5=>kts_exm)
  (case xq6=>kts_exm)
  (case xq7=>kts_exm)
  (case xq8=>kts_exm)
  (case xq9=>kts_exm)
  (case xq10=>kts_exm)
  (case xq11=>kts_exm)
  (case xq12=>kts_exm)
  (case xq13=>kts_exm)
  (case xq14=>kts_exm)
  (case xq15=>kts_exm)
  (case xq16=>kts_exm)
  (case xq17=>kts_exm)
  (case xq18=>kts_exm)
  (case xq19=>kts_exm)
  (case xq20=>kts_exm)
  (case xq21=>kts_exm)
  (case xq22=>kts_exm)
  (case xq23=>kts_exm)
  (case xq24=>kts_exm)
  (case xq25=>kts_exm)
  (case xq26=>kts_exm)
  (case xq27=>kts_exm)
  (case ps=>k_is)
  (case pk=>k_is)
  (case px1_0=>k_is)
  (case px1_1=>k_is)
  (case px1_2=>k_is)
  (case px1_3=>k_is)
  (case px1_4=>k_is)
  (case px2_0=>k_is)
  (case px2_1=>k_is)
  (case px2_2=>k_is)
  (case px2_3=>k_is)
  (case px2_4=>k_is)
  (case px3_0=>k_is)
  (case px3_1=>k_is)
  (case px3_2=>k_is)
  (case px3_3=>k_is)
  (case px3_4=>k_is)
  (case px5_0=>k_is)
  (case px5_1=>k_is)
  (case px5_2=>k_is)
  (case px5_3=>k_is)
  (case px5_4=>k_is)
  (case fc0_0=>k_is)
  (case fc0_1=>k_is)
  (case fc0_2=>k_is)
  (case fc0_3=>k_is)
  (case fc0_4=>k_is)
  (case fc0_5=>k_is)
  (case fc0_6=>k_is)
  (case fc0_7=>k_is)
  (case fc0_8=>k_is)
  (case fc0_9=>k_is)
  (case fc0_10=>k_is)
  (case fc0_11=>k_is)
  (case fc0_12=>k_is)
end
