import PyProof.Rows.All
import PyProof.Rows.IntMath
import PyProof.FitsBits
import PyProof.StrBlockI
import PyProof.StrBlock2
import PyProof.Draws
import PyProof.EnumMake
import PyProof.Rows.StrNews
import KE.KIntText
import PyProof.PureStr
import PyProof.MeetsStr2
import PyProof.Rows.StrItems
import PyProof.StrLawsChain
import PyProof.StrLawsTight
import PyProof.StrLawsIn
import PyProof.StrWalks
import PyProof.FactsAll.str_7
import PyProof.FactsAll.list_1
import PyProof.FitsReplace
import PyProof.FactsAll.str_5
import PyProof.FString
import PyProof.StrLawsJoin
import PyProof.MeetsStr
import KE.KDictSum
import PyProof.Rows.RuleC_int
import PyProof.FactsAll.tuple_1
import KE.KEqDict
import PyProof.Rows.TupTab
import PyProof.AttrMissSeq
import KE.KDictOf
import KE.KPairComp
import PyProof.DictWalks
import PyProof.DictValues
import PyProof.DictItems
import PyProof.Rows.SetFrom
import KE.KRevIter
import PyProof.InstStoreFacts
import PyProof.ExcInit
import PyProof.IsiBase
import PyProof.ExcAttrAll.ValueError
import OpenK.KDescr
import KE.KIsAll
import PyProof.Rows.CatchOwn
import PyProof.RulesTry
import PyProof.RulesAs
import PyProof.RulesDel
import OpenK.KOwn
import PyProof.ExcBaseAll.ValueError
import PyProof.StationsW
import Wide.All
import OpenK.AllK
import Wide.FinOn
import Lean
import PyProof.EqAt
import PyProof.EqKinds
import PyProof.NeKinds
import PyProof.TupleCall
import PySem.Challenge.RW_wakeorder_k65_too_many_or_none
open Option renaming some->a_,none->g_,isSome_iff_exists->F9,map_some->HY,any_eq_true->Mz,isSome_map->MQ,getD_none->Na,bind_some->Nb
open PySem renaming wpAny_bind->b_,wpAny_pure->f_,Value->h_,Addr->i_,starEach->j_,Shared->k_,sizeLine->n_,wpAny->o_,model->u_,Str->Dy,eval->DC,wpAny_newObj_type->DH,wpAny_call_entry->DU,Heap->Eg,wpAny_callSpecial?_slot->Ek,mainGlobals->Eo,wpAny_mono->Ew,wpAny_holding->Ex,sizeLine_eq->Ey,cLine->Ez,Program->EC,wpAny_setField->ED,backTo->EG,boot_len->EJ,wpAny_seqItems->EK,rawInt->EL,Expr->EM,compareOp->EU,codeAny_builtin->E3,attributeBase->E5,Stmt->E6,wpAny_field->E9,swapsWith->Fd,World->Fe,mem_of_lookup->Fj,sysModules->Fm,wpAny_truthy_bool->Fp,Around->Fu,wpAny_Call_Name_kw->FD,wpAny_isInstance->FF,cellsFrom->FG,DictEntry->FJ,bootBuiltins->FV,binaryOp->FX,wpAny_attempt->F_,plainId_quiet->Ga,intKind->Gb,codeAny_mono->Gd,FuncData->Gi,assignEach->Gq,pyNext->Gv,wpAny_of_eq->GD,wpAny_loadPart_at->GF,foldedSetIterable->GG,wpAny_fieldsOf->GQ,wpAny_typeNameOfWhole_valiter->GX,wpAny_typeNameOfWhole_keyiter->GY,keywordEach->GZ,ExcAttrBase->G1,wpAny_rule->G2,ExcBaseFacts->G3,wpAny_passesOwn->G6,wpAny_execs_nil->G7,NameKind->G8,wpAny_setState_of->Hf,wpAny_dictEntries->Hg,holding->Hh,codeAny->Hi,wpAny_askSetting->Hr,wpAny_setEntries_of->Hw,ZipApart->Hy,wpAny_updateSeq->Hz,wpAny_specialOf->HA,wpAny_dictEpoch->HB,wpAny_tupleItemsOf->HE,wpAny_pyIter_tuple->HF,call->HG,Paired->HI,wpAny_letGo->HK,scanBound->HL,wpAny_pyIter_enum->HR,Obj->H9,builtinLookup_eq_fast->Ib,eqBool->Ig,Within->Ih,wpAny_onRaise->Ik,behindInMarks->Il,argBest->Im,Keyword->Io,sliceBounds->Ip,codeAny_call_builtin->Iq,backToKw->Ir,assign->Iz,IsPair->IC,wpAny_typeOf->II,reduceHash->IT,isSubtype_stop->IU,firstArgMember->IV,wpAny_pyIter_slot->Jj,wpAny_pyIter_list->Jk,excClassObj->Jl,wpAny_standAt->Jq,wpAny_handled->Jr,wpAny_pyIter_zip->JD,wpAny_forIn_list->JE,setFlight->JF,wpAny_load->JR,wpAny_call->JS,standAt->JT,isInstance->JU,typeLookup_type->J1,letOwnedTupleGo->J5,wpAny_isOneOf_valiter->J_,isSubtype_tuple_tuple->Ka,wpAny_tryCatch->Kj,wpAny_throw->Kk,wpAny_runValue->Kl,setField->Km,richCompare->Kn,pyHash->Ko,bindArgs->Kp,SetTable->Ks,pickOrder->KA,getMethod->KC,BindsTo->KI,wpAny_newList->KU,Result->K0,wpAny_setEpoch_of->K4,relayAll->K5,concat_meets->K7,callerA->K8,Scope->Lc,Model->Ld,GenState->Le,plainObj_wpAny_Assign_Attribute->Lm,wpAny_execs_cons->Lr,updateSeq->Lu,seqItems?->Lv,pyIter->Lw,noteFrame->Lx,noFill_tuple_add->Ly,checkBuiltinCall->Lz,IsPart->LC,Env->LH,numAt->LI,pushCells_keeps->LN,codeAny_of_tree->LO,wpAny_richCompare_same_room->LZ,setNext->L1,collect->L3,ItemsOf->L5,wpAny_newTuple->L_,wpAny_loadPart->Ma,wpAny_letOwnedTupleGo_enum->Mb,setsByText->Mc,raiseNew->Md,newTuple->Me,newFunctionEnv->Mf,newExc->Mg,isSubtype_type->Mh,intKind_is->Mi,Walks->Mj,Fin->Mn,wpAny_letOwnedTupleGo_zip->Mw,codeAny_handlers_suite_as->Mx,wpAny_comprehension_free->ME,swapsWithSole->MF,swappedStores->MG,seq_tuple_add->MH,rangeSize_one->MJ,nums_intItems->MK,lastMarks->MY,eqIsQuiet->MZ,bindL->M0,bindC->M1,PassesOwn->M7,wpAny_Assign_Subscript->Nh,seqIndex_neg->Ni,newList->Nj,isTrue->Nk,getItem->Nl,getAttr->Nm,OwnTail->Nr,ElemsOf->Nt,wpAny_notOrdered_dict->NF,wpAny_isOneOf_keyiter->NG,codeAny_handlers_test->NH,Sem->NI,unbindBehindTheSuite->NY,seqIndex_of->NZ,numAt_eq->N0,intItems_at->N1,handleBy->N2,codeAny_extend_loopS->N3,callWith->N4,atKey->N5,Drawn->N_,wpAny_isSubtype_exc->Ou,wpAny_handleBy_cons->Ov,call_enumerate_list->Ow,wpAny_setItem_heap->OD,wpAny_setField_rec->OE,wpAny_Name->OF,typeLookup->OG,tupleKind_room_in1->OH,truthy->OI,checkCount->OJ,call_meets->OM,builtinsNs->ON,wpAny_storeSet_of->OS,wpAny_assign_Name->OT,unaryOp->OU,storedH->OV,slot_list_getitem->OW,setItem->OX,setAttr->OY,leaving->OZ,hashInt->O0,fits_of_scanBound->O1,call_sum_walkAnyS->O3,wpAny_lookBehind->Pd,wpAny_Try_except->Pe,wpAny_Dict_empty->Pf,small_one->Pg,pastItsLine_dict->Ph,getAttrBy->Pj,drawOrder->Pk
open Bool renaming false->c_,true->e_,and_eq_true->r_,false_ne_true->Dz,false_eq_true->Ec,not_true->GC,eq_iff_iff->Ht,true_and->HW,false_and->Iy,or_eq_true->Jy,and_false->JQ,not_false->Lq,or_true->L8,or_false->OR
open PySem.Heap renaming get?_push_of_some->d_,get?_push_size->l_,lt_size->mf,get?_update_other->Dw,size_push->DZ,get?_update_self->Ef,ExtBut->EY,SameBut->FN,size_update->Hj,get?_none_of_le->JL,IsTuple->L6
open List renaming getElem?_set_ne->m_,mem_cons->p_,getElem?_set_self->vw,getElem?_eq_some_iff->v_,map_cons->x_,length_map->y_,lookup_cons->A_,length_cons->B_,getElem?_eq_getElem->C_,size_toArray->Dv,lookup->DF,not_mem_nil->DK,length_set->DM,getD_eq_getElem?_getD->DN,mem_cons_of_mem->DQ,range->DR,foldl_cons->D_,mem_cons_self->Ea,length_append->Eb,mem_map->Ed,replicate->Eh,getElem?_map->El,map_map->En,mem_append_right->EA,exists_cons_of_length_eq_add_one->EF,getElem?_append_left->EO,mem_singleton->ER,mem_range->EV,mem_filter->EW,getElem_mem->EX,getElem?_eq_none->E2,append_assoc->E4,set_cons_zero->E_,set_cons_succ->Fb,append_nil->Fc,length_eq_zero_iff->Fv,getElem?_cons_succ->Fw,mem_append->FR,length_replicate->FZ,map_nil->GA,filterMap_cons->GH,mem_filterMap->GO,find?_cons->GV,length_range->G4,length_eraseIdx->Hb,getElem?_append_right->Hc,all_eq_true->Hk,map_congr_left->Hl,eq_of_mem_replicate->Hq,take_of_length_le->HD,eq_nil_iff_forall_not_mem->HQ,mem_append_left->HZ,length_nil->Ie,forIn_nil->Iv,drop_zero->Iw,mem_or_eq_of_mem_set->IG,drop_eq_getElem_cons->IH,reverse_cons->IL,flatMap_cons->IM,length_take->I9,getElem?_replicate->I_,filter_cons_of_neg->Ja,drop_length->Jb,range_succ_eq_map->Jo,getElem_cons_succ->Jp,nodup_cons->Ju,nil_append->Jv,forIn_cons->Jw,mem_iff_getElem?->JA,length_singleton->JB,getElem?_toArray->JC,pairwise_append->JO,length->JP,getElem_of_mem->J8,getElem?_range->J9,zip_cons_cons->Kg,getElem?_drop->Kh,ext_getElem?->KJ,countP_cons->KW,of_mem_zip->K3,getElem?_cons_zero->LW,filter_cons_of_pos->LX,eraseIdx_cons_succ->LY,pairwise_lt_range->L7,length_filter_le->Mv,range_eq_range'->MA,range'->MB,mem_of_getElem?->MC,toList_toArray->MR,length_reverse->MS,filter_eq_self->MT,map_replicate->Nd,contains_cons->Nf,take_sublist->Nz,take_add_one->NA,nodup_append->NB,foldl_append->NC,take_length->NQ,range'_succ->NR,mem_flatMap->NT,length_drop->NU,filter_cons->NV,any_eq_true->NW,range_succ->Oo,map_const'->Oq,map_append->Ot,nodup_nil->OC,zipIdx->Py
open Nat renaming le_refl->t_,ne_of_lt->Dx,lt_of_lt_of_le->DL,le_trans->Ee,lt_irrefl->EB,zero_le->E1,ne_of_gt->E7,lt_succ_self->Fz,le_succ->FT,lt_succ_of_lt->Gg,le_of_lt->Gr,succ_ne_self->Jh,le_add_right->Ji,lt_trans->Jt,mul_le_mul->JZ,add_assoc->Kf,not_lt->Kw,zero_add->KO,lt_trichotomy->KP,le_of_eq->KQ,mul_add->K2,min_eq_left->Lk,mul_le_mul_left->Nc,le_of_succ_le->NP,min_eq_right->Ol,sub_zero->Pt,mul_succ->Pu,lt_or_ge->Pw,le_total->Px
open PySem.Value renaming ref->w_,none->Er,type->Gf,builtin->Hm,int->Hv,isInt->HU,isInt_shape->Kr,bool->La,str->Nq,float->O6,bytes->O7
open Decidable renaming decide->z_
open PySem.W renaming findIn->DB,kitOne->EE,emptyDict->ET,mroIn->Fl,typeIn->FP,InstAt->Ge,keepIn->Gw,instObj->Gx,cellsFrom_some->GI,hasDictIn->GW,looks_findIn->Hx,excIn->HM,lookIn->IB,callWith_K->IW,methodCall_KW->Jc,plainGet_of->JG,clsIn->JH,isNs_of_in->JV,methodObj->Kb,OpenLaw->Kq,specialIn->KD,kia_one->KG,fnOf->KN,notCls->KZ,plainGet->K_,handedIn->LA,codeIn->LB,looks_mroIn->LJ,looks_clsIn->LP,any_some->LQ,tail_of_in->Ml,WalkO->MM,readsIn->M3,plainOver->M4,kia_tup->M5,findCls->M6,nsIn->Nn,makesIn->Np,Frag->N7,findObj_own->Ox,kitAny->OO,takesIn->O4,set_plain->O5
open PySem.NameKind renaming free->DJ,cell->FY
open Array renaming length_toList->DO,getElem?_eq_getElem->EN,getElem?_toList->EZ,getElem?_eq_none->Fh,getElem?_eq_some_iff->FK,toList_push->Ky,toList->Kz,forIn_toList->MV,find?_toList->MW,append_assoc->MX
open Option.some renaming inj->DV,injEq->F8
open PyProof.Rows renaming callWith_type1->DY,boot_list->Fs,seqObj->Gk,boot_tuple->Gz,slot_tuple_getitem->GK,IntsAre->G9,envOfC->He,pendingOf->Ij,AllBare->Jn,callWith_builtin1->JN,boot_isinstance->J7,boot_max->Kv,Call_->LM,entry_list_sort->LV,slot_list_sort->Mp,failedOf->Mr,boot_range->Ms,args_list_sort->Mt,SortSt->Mu,listUpdate_at->MP,subscriptTail_builtinR->Nu,plain_sorted->Nv,entry_sorted->Nw,args_sorted1->Nx,seqEpoch_at->Of,kind_sorted->Og,boot_sorted->Oh,boot_min->Oi,SortKind->Oj,lt_int->OA,IsTup->Pc
open PySem.Builtin.Tuple renaming tupleHashOf->Ei,tupleExact->H_,tupleItemsOf->Kc
open False renaming elim->Ej
open Ne renaming symm->Em
open PySem.Heap.SameBut renaming update->Ep
open PySem.Around renaming under_plainId->Et
open Except renaming ok->EI,error->FE,bind->OQ
open PySem.Obj renaming mapSeq->ES,mapFields->Fn,data_mapFields->Ft,isFreed_of_fields->F7,cls_mapFields->IP,putSet->Kt
open Int renaming toNat_natCast->E8,le_refl->GP,emod_lt_of_pos->Kx,le_trans->KS,emod_nonneg->Ll,mul_one->MU,sub_zero->Pz
open Pure renaming pure->Ff
open PySem.F renaming slot_dict_valueiterator_next->Fi,slot_dict_keyiterator_next->Fo,slot_tuple_iterator_next->Gy,plain_min_loop->GL,plain_list_iadd->G_,called_set->Hn,plainAttrs_list->Ho,slot_zip_next->HC,excBase_ValueError->Ii,args_tuple_add_2->ID,entry_tuple_add->IJ,slot_tuple_add->IX,slot_tuple_hash->IZ,slot_list_append->Je,attrBase_ValueError->Jf,args_dict_valueiterator_next_1->Js,entry_dict_valueiterator_next->Jz,args_dict_keyiterator_next_1->JI,entry_dict_keyiterator_next->JM,plain_proto_collect->JW,entry_proto_collect->JX,args_tuple_iterator_next_1->JY,entry_tuple_iterator_next->J6,slot_dict_values_iter->KH,entry_list_iadd->K1,type_list_append->Lf,slot_dict_values->Lg,entry_min_loop->Lh,slot_list_count->Ln,plainAttrs_dict->Lo,args_zip_next_1->Lp,slot_tuple_eq->LD,slot_dict_iter->LF,entry_zip_next->LG,slot_dict_get->LL,args_object_init_2->LU,slot_list_extend->Mo,typeOf_object_class->M8,plain_extend_loop->NJ,slot_tuple_lt->O9,slot_set_iter->O_,plain_set_new->Pa,entry_bexc_ga->Pb
open PySem.Str renaming ofString->Fq,empty->N8
open Nat.succ renaming inj->FC
open PySem.SetTable renaming below->FH,grown->G0
open PySem.Builtin.Dict_items renaming ownsTuple->FQ,newIterator->NM,dictOf->NO
open Except.ok renaming inj->Gh
open PySem.Builtin.Dict renaming showsAll->Gj
open List.Perm renaming refl->Gm,swap->KR
open LawfulBEq renaming eq_of_beq->Gn
open List.cons renaming injEq->Gs
open PySem.Builtin.SmallTypes renaming nextOf->GJ,ownedTupleIsFree->NK
open PySem.Calls renaming spliced_cons->GN,call_function_entry->IE,callWith_builtin->Jg,evalArgs_plain->JJ,spliced_nil->Ku,Name_function_global->Li
open PySem.Shared renaming TypeIs->GR,heap->L4
open PySem.Builtin.Slice renaming slicePlaces->GS,sliceAdjust->HV,sliceApplied->Kd,slicePartIndex->Pq,sliceFields->Pr
open PyProof.Rows.F renaming plain_set_update_loop->GU,entry_set_update_loop->IQ
open PySem.Builtin.List renaming listSameRef->G5,listExtendWith->HN,listTooLong->Ic
open PySem.Builtin.Range renaming rangeSize->Ha,small->IY
open True renaming intro->Hu
open Prod.mk renaming injEq->HP
open Prod renaming fst->HX,ext->OB
open PySem.AutoSeq1 renaming wpAny_loadPart'->Iu
open PySem.Paired renaming length->IF
open ForInStep renaming yield->IS
open PySem.SeqAt renaming EqAt->Jd,ne_of_list_tuple->LR,RcNeAt->LS,RcAt->MO
open PySem.EntryCells renaming newEntry->Jm
open List.Pairwise renaming nil->Jx
open PySem.Builtin.Builtins renaming bindParams->JK
open Sum renaming inl->J0,inr->KL
open PySem.Code renaming quiet_builtin->Ke
open PySem.pickOrder renaming go->K6
open PySem.Walks renaming list->K9
open PySem.SetTable.below renaming go->Lb
open PySem.Heap.Ns1 renaming of_empty->Mm
open PyProof.Rows.SortSt renaming mk'->My
open PySem.Within renaming cons->ML
open PySem.W.Looks renaming here->MN
open PyProof.Rows.IntsAre renaming length->M9,int_at->M_
open PyProof.Rows.IsTup renaming new->Ny
open Function renaming comp->ND
open PySem.Builtin.ObjectAttr renaming storeInOwnDict->NL
open ToString renaming toString->NX
open PySem.W.KatTups renaming cons->N6
open PySem.SetTable.probe renaming go->N9
open PySem.Builtin.Frozenset renaming updateFrom->Oa,slot0->Ob,sizeOf->Oc,newClass->Od,addrOf->Oe
open MonadExcept renaming tryCatch->Om
open PySem.Moved renaming eq_with->Oy
open PySem.ItemsOf renaming nil->Oz
open PySem.Challenge renaming pw_wakeorder_k65_too_many_or_none->OP
open PySem.Heap.IsSliceOf renaming new->O8
open PySem.EqMixed renaming ne_str_int->Pl,ne_str_bool->Pm,ne_int_str->Po,ne_bool_str->Pp
abbrev q_:=@if_neg
abbrev s_:=@if_pos
abbrev DD:=@absurd
abbrev DX:=@decide_eq_true_eq
abbrev Eu:=@decide_eq_false
abbrev Fy:=@if_false
abbrev FO:=@or_false
abbrev FU:=@beq_iff_eq
abbrev Gu:=@decide_eq_true
abbrev GB:=@beq_eq_false_iff_ne
abbrev Hd:=@congrArg
abbrev HJ:=@DecidableEq
abbrev Ia:=@if_true
abbrev KY:=@decide_false
abbrev L9:=@not_or
abbrev MD:=@bne_self_eq_false
abbrev Ng:=@beq_self_eq_true
set_option Elab.async false
set_option linter.all false
set_option maxRecDepth 100000
set_option maxHeartbeats 4000000
open PySem.W (plainGet isFn plainOver takerIn makesIn keepIn specialIn takesIn callWith_K fnOf codeIn nsIn mg_of kitOne kia_one kitAny)
abbrev Fg:=N7
abbrev Pn:=List (i_×H9)
abbrev Vp:=h_->k_->Prop
abbrev Mq:=Dy->Option h_
set_option compiler.extract_closed false
noncomputable section
theorem Jq0(_:True:=by rfl):True:=trivial
local macro_rules|`(~~~$t)=>`(autoParam $t Jq0._auto_1)
theorem Jq1(_:True:=by decide):True:=trivial
local macro_rules|`($t⁻¹)=>`(autoParam $t Jq1._auto_1)
theorem Jq2_(_:True:=by k_is):True:=trivial
def Jq2:Lean.Syntax:=Jq2_._auto_1
theorem Jq3_(_:True:=by first|exact .inl rfl|exact .inr rfl|assumption):True:=trivial
def Jq3:Lean.Syntax:=Jq3_._auto_1
theorem Jq4_(_:True:=by first|exact Or.inl rfl|exact Or.inr (Or.inl rfl)|exact Or.inr (Or.inr rfl)):True:=trivial
def Jq4:Lean.Syntax:=Jq4_._auto_1
theorem Jq5_(_:True:=by intro _;rfl):True:=trivial
def Jq5:Lean.Syntax:=Jq5_._auto_1
theorem Jq6_(_:True:=by first|exact Or.inl rfl|exact Or.inr rfl):True:=trivial
def Jq6:Lean.Syntax:=Jq6_._auto_1
theorem Jq7_(_:True:=by first|k_is|kernel_rfl):True:=trivial
def Jq7:Lean.Syntax:=Jq7_._auto_1
theorem Jq8_(_:True:=by with_unfolding_all rfl):True:=trivial
def Jq8:Lean.Syntax:=Jq8_._auto_1
theorem Jq9_(_:True:=by exact⟨rfl,rfl,rfl,by decide +kernel,rfl,by decide +kernel,by decide +kernel⟩):True:=trivial
def Jq9:Lean.Syntax:=Jq9_._auto_1
theorem Jq10_(_:True:=by first|exact BJ _|with_unfolding_all rfl):True:=trivial
def Jq10:Lean.Syntax:=Jq10_._auto_1
theorem Jq11_(_:True:=by exact λ_ _=>rfl):True:=trivial
def Jq11:Lean.Syntax:=Jq11_._auto_1
theorem Jq12_(_:True:=by exact PassesOwn.never):True:=trivial
def Jq12:Lean.Syntax:=Jq12_._auto_1
theorem Jq13_(_:True:=by intro _ _ _ _ _ _ us hl;repeat' (first|(simp at hl;done)|rfl|(cases us<;>try rename_i us))):True:=trivial
def Jq13:Lean.Syntax:=Jq13_._auto_1
theorem dkK{p:Prop}(h:p:=by decide +kernel):p:=h
theorem ac{p:Prop}(h:p:=by omega):p:=h
theorem ad{p:Prop}(h:p:=by simp):p:=h
theorem ag{p:Prop}(h:p:=by decide):p:=h
abbrev PySem.Shared.z(s:PySem.Shared):=s.heap.objs.size
set_option bootstrap.genMatcherCode false
set_option genSizeOf false
set_option genInjectivity false
namespace Lake
open PySem PySem.Spec PyProof.Rows
abbrev aF:=List Nat
abbrev as:=List h_
abbrev aj:=List Int
variable{κ:Type}{a b dx C:i_}{P prog:EC}{w:Fe}{h h':Eg}{x name m qual:Dy}{e c tg:EM}{B4:Pn}{g':Array Le}{ch fp:List i_}{N ps:List Dy}{i j k n:Nat}{A:Fu}{E:Vp}{u:h_}{Q:Unit->k_->Prop}{s':k_}{pos pos' p:Pos}{K:Fg}{es:List EM}{g:Int->Int->Int}{body:List E6}{op op':CmpOp}{us:List h_}{mA mg:Mq}{pl:NI Bool}{kw:List (Dy×h_)}{outer:List LH}{fd:Gi}{scope:Lc}
noncomputable abbrev Key:=Sum Int Dy
noncomputable def keyIs:Key->h_->Bool
 |.inl k,v=>HU k v|.inr x,v=>Value.isStrOf x v
noncomputable def keyH(w:Fe):Key->Int
 |.inl k=>O0 k|.inr x=>hashStr w x
theorem cj:∀{k:Key} {v:h_},keyIs k v=e_->(∃i t,k=J0 i/\v=Hv i t)\/(∃x t,k=KL x/\v=Nq x t)
 |.inl i,v,h=>by obtain⟨t,e⟩:=Kr (k:=i) (v:=v) h;exact .inl ⟨i,t,rfl,e⟩
 |.inr x,v,h=>by obtain⟨t,e⟩:=Value.isStrOf_shape (x:=x) (v:=v) h;exact .inr ⟨x,t,rfl,e⟩
def key_ll(a b:Int):z_ ((J0 a:Key)=J0 b)=(a==b):=by
 by_cases e:a=b
 .subst e;simp
 .have h:¬(J0 a:Key)=J0 b:=λq=>e (Sum.inl.inj q);rw[Eu h];exact(GB.mpr e).symm
def key_rr(a b:Dy):z_ ((KL a:Key)=KL b)=z_ (a=b):=by
 by_cases e:a=b
 .subst e;simp
 .have h:¬(KL a:Key)=KL b:=λq=>e (Sum.inr.inj q);rw[Eu h,Eu e]
def key_lr(a:Int)(b:Dy):z_ ((J0 a:Key)=KL b)=c_:=Eu (λq=>nomatch q)
def key_rl(a:Dy)(b:Int):z_ ((KL a:Key)=J0 b)=c_:=Eu (λq=>nomatch q)
def vL(prog:EC)(w:Fe):PySem.KeyKind prog w Key where
 is:=keyIs
 hash:=keyH w
 inj:=λv a b Y J=>by
  rcases cj Y with⟨i,t,rfl,rfl⟩|⟨x,t,rfl,rfl⟩
  .rcases cj J with⟨j,u,rfl,e⟩|⟨y,u,rfl,e⟩
   .injection e with e1 _;rw[e1]
   .exact nomatch e
  .rcases cj J with⟨j,u,rfl,e⟩|⟨y,u,rfl,e⟩
   .exact nomatch e
   .injection e with e1 _;rw[e1]
 byValue:=λk v h=>by rcases cj h with⟨i,t,rfl,rfl⟩|⟨x,t,rfl,rfl⟩<;>rfl
 pyHash:=λhv h=>by
  rcases cj hv with⟨i,t,rfl,rfl⟩|⟨x,t,rfl,rfl⟩
  .exact wpAny_pyHash_int h
  .exact wpAny_pyHash_str h
 eqBool:=λU hv h=>by
  rcases cj U with⟨i,t,rfl,rfl⟩|⟨x,t,rfl,rfl⟩
  .rcases cj hv with⟨j,u,rfl,rfl⟩|⟨y,u,rfl,rfl⟩
   .rw[key_ll]at h;exact wpAny_eqBool_int h
   .rw[key_lr]at h;exact SeqAt.EqAt.int_str i t y u _ _ _ _ h
  .rcases cj hv with⟨j,u,rfl,rfl⟩|⟨y,u,rfl,rfl⟩
   .rw[key_rl]at h;exact SeqAt.EqAt.str_int x t j u _ _ _ _ h
   .rw[key_rr]at h;exact wpAny_eqBool_str h
 «strs»:=λk x t v h=>by
  rcases cj h with⟨i,u,rfl,e⟩|⟨y,u,rfl,e⟩
  .exact nomatch e
  .injection e with e1 _
   subst e1;cases v<;>rfl
set_option genInjectivity true in
set_option bootstrap.genMatcherCode true in
inductive V where
 |non|bl (b:Bool)|int (i:Int)|str (x:Dy)|byt (b:Array UInt8)|flt (b:UInt64)|ref (a:i_)|ty (n:String)
 deriving DecidableEq
abbrev am:=List V
variable{v y:V}{vs:List V}
def D':V->h_->Prop
 |.non,u=>u=Er|.bl b,u=>u=La b|.int i,u=>∃t,u=Hv i t
 |.str x,u=>∃t,u=Nq x t
 |.byt b,u=>∃t,u=O7 b t
 |.flt b,u=>∃t,u=O6 b t
 |.ref a,u=>u=w_ a|.ty n,u=>u=Gf n
abbrev Ds:am->as->Prop:=HI D'
theorem Ds.length{xs:am}{us:as}(r:Ds xs us):xs.length=us.length:=IF r
theorem Ds.get:∀{xs:am} {us:as} {i:Nat} {x:V},Ds xs us->xs[i]?=a_ x->∃u,us[i]?=a_ u/\D' x u
 |_,_,_,_,.nil,e=>by simp at e|_,_,0,_,.cons r _,e=>by simp at e;subst e;exact⟨_,rfl,r⟩|_,_,i+1,x,.cons _ t,e=>by obtain⟨u,h1,h2⟩:=Ds.get (i:=i) (x:=x) t (by simpa using e);exact⟨u,by simpa using h1,h2⟩
theorem Ds.set{x:V}{u:h_}(r:D' x u):∀{xs:am} {us:as} (i:Nat),Ds xs us->Ds (xs.set i x) (us.set i u)
 |_,_,_,.nil=>.nil|_,_,0,.cons _ t=>.cons r t|_,_,i+1,.cons q t=>.cons q (Ds.set r i t)
theorem Ds.append:∀{xs ys:am} {us J:as},Ds xs us->Ds ys J->Ds (xs++ys) (us++J)
 |_,_,_,_,.nil,s=>s|_,_,_,_,.cons r t,s=>.cons r (Ds.append t s)
theorem Ds.take:∀{xs:am} {us:as} (n:Nat),Ds xs us->Ds (xs.take n) (us.take n)
 |_,_,0,_=>.nil|_,_,_+1,.nil=>.nil|_,_,n+1,.cons r t=>.cons r (Ds.take n t)
theorem Ds.drop:∀{xs:am} {us:as} (n:Nat),Ds xs us->Ds (xs.drop n) (us.drop n)
 |_,_,0,r=>r|_,_,_+1,.nil=>.nil|_,_,n+1,.cons _ t=>Ds.drop n t
def pq:Option V->Option h_->Prop
 |some v,a_ u=>D' v u|none,g_=>True|_,_=>False
def KV:List (κ×V)->List (κ×h_)->Prop:=HI λ(p:κ×V) (q:κ×h_)=>p.1=q.1/\D' p.2 q.2
noncomputable def kV:Key->V
 |.inl i=>.int i|.inr x=>.str x
inductive HO where
  |lst (xs:List V)
  |tup (xs:List V)
  |dK (B':List (Key×V))|dT (B':List (List Key×V))
  |set (S:Int->Bool) (n:Nat)
  |ins (C dx:i_) (fs:List (Dy×V))
  |own (x:i_)
  |xd (fs:List (Dy×V))
  |met (f x:i_)
  |rng (lo hi:Int)
  |frz (o:H9) (u:HO)
  |tbl (ps:Array h_)
  |ext (φ:Eg->Prop)
noncomputable abbrev Hp:=i_->Option HO
variable{H H':Hp}
def upd(H:Hp)(a:i_)(o:HO):Hp:=λb=>if b=a then a_ o else H b
def ak{o:HO}:upd H a o a=a_ o:=by unfold upd;rw[s_ rfl]
def aq{o:HO}(h:b≠a):upd H a o b=H b:=by unfold upd;rw[q_ h]
def az{o:HO}(h:H a=a_ o)(h':H b=g_):a≠b:=by intro e;subst e;rw[h]at h';cases h'
section
variable(P:EC)(w:Fe)
def cz(H:Hp)(h:Eg)(a:i_):HO->Prop
 |.lst xs=>xs.length<=n_/\∃(its:as) (n:Nat),Ds xs its/\h.get? a=a_ {cls:=.type "list",data:=.seq its.toArray n}
 |.tup xs=>xs.length<=n_/\∃its:as,Ds xs its/\Pc h a its.toArray
 |.dK J=>J.length<=n_/\(a==Fm)=c_/\∃vs,KV J vs/\h.DictOf (vL P w) a vs
 |.dT J=>J.length<=n_/\(a==Fm)=c_/\∃xs:List (List Key×i_×h_),
   HI (λ(p:List Key×V) (q:List Key×i_×h_)=>p.1=q.1/\H q.2.1=a_ (.tup (p.1.map kV))/\D' p.2 q.2.2) J xs /\
   ∃o es ep,h.get? a=a_ o/\o.ExactDict/\o.data=.dict es ep/\es.toList=xs.map (entryOfKey (tupleKind (vL P w)))/\(xs.map (·.1)).Nodup
 |.set S n=>h.SetOf (Gb P w) a S n|.ins C dx fs=>H dx=a_ (.own a)/\fs.length<=1000/\dx≠a/\h.get? a=a_ (Gx C dx) /\
   ∃mA,h.Ns1 dx mA/\(∀f,pq (fs.lookup f) (mA f))/\Ih mA (fs.map (·.1))
 |.own _=>∃o,h.get? a=a_ o
 |.xd fs=>∃mA,h.Ns1 a mA/\∀f,pq (fs.lookup f) (mA f)
 |.rng lo hi=>∃t u v,h.get? a=a_ {cls:=.type "range",data:=.fields #[.int lo t,.int hi u,.int 1 v]}
 |.frz o u=>h.get? a=a_ o/\cz H h a u|.tbl ps=>h.get? a=a_ {cls:=.none,data:=.fields ps}|.met f x=>h.get? a=a_ (Kb (.ref f) (.ref x))|.ext U=>U h/\(∃o,h.get? a=a_ o)/\∀h1 h2:Eg,U h1->(∀o,h1.get? a=a_ o->h2.get? a=a_ o)->U h2
def HOk(H:Hp)(h:Eg):Prop:=∀a o,H a=a_ o->cz P w H h a o
end
section
variable{o:HO}
theorem cz.lt(x:cz P w H h a o):a<h.objs.size:=by
 cases o with
 |lst xs=>obtain⟨_,_,_,_,e⟩:=x;exact mf e
 |tup xs=>obtain⟨_,_,_,p⟩:=x;exact p.lt
 |dK J=>obtain⟨_,_,_,_,o,_,_,e,_⟩:=x;exact mf e
 |dT J=>obtain⟨_,_,_,_,o,_,_,e,_⟩:=x;exact mf e
 |set S n=>obtain⟨o,_,_,_,e,_⟩:=x;exact mf e
 |ins C dx fs=>obtain⟨_,_,_,e,_⟩:=x;exact mf e
 |own y=>obtain⟨_,e⟩:=x;exact mf e
 |xd fs=>obtain⟨_,⟨_,_,_,e,_⟩,_⟩:=x;exact mf e
 |rng lo hi=>obtain⟨_,_,_,e⟩:=x;exact mf e
 |frz Y u=>obtain⟨e,_⟩:=x;exact mf e
 |tbl ps=>exact mf (show h.get? a=a_ _ from x)|met f y=>exact mf (show h.get? a=a_ _ from x)|ext U=>obtain⟨_,⟨_,e⟩,_⟩:=x;exact mf e
theorem Paired.mapP{α β:Type}{F G:α->β->Prop}:∀{U:List α} {J:List β},HI F U J->(∀a b,F a b->G a b)->HI G U J
 |_,_,.nil,_=>.nil|_,_,.cons r t,f=>.cons (f _ _ r) (Paired.mapP t f)
def cz.v8(x:cz P w H h a o)(k:∀b u,(b=a\/H b=a_ (.own a))->h.get? b=a_ u->h'.get? b=a_ u)(j:∀b,H b=a_ (.own a)->H' b=a_ (.own a))(i:∀b xs,H b=a_ (.tup xs)->H' b=a_ (.tup xs)):cz P w H' h' a o:=by
 induction o with
 |lst xs=>obtain⟨z,its,n,r,e⟩:=x;exact⟨z,its,n,r,k _ _ (.inl rfl) e⟩
 |tup xs=>obtain⟨z,its,r,J,e,c⟩:=x;exact⟨z,its,r,J,k _ _ (.inl rfl) e,c⟩
 |dK U=>obtain⟨z,y,vs,r,J,es,ep,e,c⟩:=x;exact⟨z,y,vs,r,J,es,ep,k _ _ (.inl rfl) e,c⟩
 |dT U=>obtain⟨z,y,xs,r,J,es,ep,e,c⟩:=x;exact⟨z,y,xs,Paired.mapP r λp q z=>⟨z.1,i _ _ z.2.1,z.2.2⟩,J,es,ep,k _ _ (.inl rfl) e,c⟩
 |set S n=>obtain⟨J,es,ep,t,e,c⟩:=x;exact⟨J,es,ep,t,k _ _ (.inl rfl) e,c⟩
 |ins C dx fs=>obtain⟨d,z,Y,e,mA,⟨od,es,ep,e2,c⟩,r⟩:=x;exact⟨j _ d,z,Y,k _ _ (.inl rfl) e,mA,⟨od,es,ep,k _ _ (.inr d) e2,c⟩,r⟩
 |own y=>obtain⟨J,e⟩:=x;exact⟨J,k _ _ (.inl rfl) e⟩
 |xd fs=>obtain⟨mA,⟨od,es,ep,e,c⟩,r⟩:=x;exact⟨mA,⟨od,es,ep,k _ _ (.inl rfl) e,c⟩,r⟩
 |rng lo hi=>obtain⟨t,u,v,e⟩:=x;exact⟨t,u,v,k _ _ (.inl rfl) e⟩
 |frz J u g=>obtain⟨e,q⟩:=x;exact⟨k _ _ (.inl rfl) e,g q⟩
 |tbl ps=>have e:h.get? a=a_ {cls:=.none,data:=.fields ps}:=x;show h'.get? a=a_ {cls:=.none,data:=.fields ps};exact k a _ (.inl rfl) e|met f y=>have e:h.get? a=a_ (Kb (.ref f) (.ref y)):=x;show h'.get? a=a_ (Kb (.ref f) (.ref y));exact k a _ (.inl rfl) e|ext l=>obtain⟨p,⟨o,e⟩,st⟩:=x;exact⟨st _ _ p λo q=>k _ _ (.inl rfl) q,⟨o,k _ _ (.inl rfl) e⟩,st⟩
theorem HOk.lt(x:HOk P w H h)(e:H a=a_ o):a<h.objs.size:=(x a o e).lt
def HOk.fresh(x:HOk P w H h)(e:h.objs.size<=a):H a=g_:=by
 cases q:H a with
 |none=>rfl|some u=>exact DD (DL (x.lt q) e) (EB _)
def HOk.kept(x:HOk P w H h)(k:∀b u,h.get? b=a_ u->h'.get? b=a_ u):HOk P w H h':=λa o e=>(x a o e).v8 (λb u _ q=>k b u q) (λ_ q=>q) λ_ _ q=>q
def HOk.laid(x:HOk P w H h)(k:∀b u,h.get? b=a_ u->h'.get? b=a_ u)(d:h.objs.size<=a)(J:cz P w (upd H a o) h' a o):HOk P w (upd H a o) h':=λb u e=>by
 have U:=x.fresh d;by_cases Y:b=a
 .subst Y;rw[ak]at e;cases e;exact J
 .rw[aq Y]at e;exact(x b u e).v8 (λc v _ q=>k c v q) (λc q=>by rw[aq (az q U)];exact q) λc xs q=>by rw[aq (az q U)];exact q
end
def Rd(H:Hp)(a:i_)(u:HO):Prop:=H a=a_ u\/∃o,H a=a_ (.frz o u)
def Rd.ok{u:HO}(r:Rd H a u)(x:HOk P w H h):cz P w H h a u:=by
 rcases r with r|⟨o,r⟩
 .exact x a u r
 .obtain⟨_,q⟩:=x a _ r;exact q
def Mut:Option HO->Prop
 |some (.lst _)=>True|some (.dK _)=>True|some (.dT _)=>True|some (.set _ _)=>True|some (.ins _ _ _)=>True|some (.ext _)=>True|_=>False
section
variable{x e:i_}{o':HO}
def HOk.write(m:HOk P w H h)(a:Mut (H x))(l:e=x\/H e=a_ (.own x))(k:∀b u,b≠e->h.get? b=a_ u->h'.get? b=a_ u)(i:∃u,h'.get? e=a_ u)(g:cz P w (upd H x o') h' x o'):HOk P w (upd H x o') h':=λb u q=>by
 have U:∀c y,H c=a_ (.own y)->c≠x:=λc y r z=>by subst z;rw[r]at a;exact a
 have Y:∀c xs,H c=a_ (.tup xs)->c≠x:=λc xs r z=>by subst z;rw[r]at a;exact a
 by_cases f:b=x
 .subst f;rw[ak]at q;cases q;exact g
 .rw[aq f]at q;by_cases J:b=e
  .have j:H b=a_ (.own x):=by
    rcases l with z|z
    .exact DD (J.trans z) f
    .rw[J];exact z
   rw[q]at j;cases j;obtain⟨v,hv⟩:=i;exact⟨v,by rw[J];exact hv⟩
  .refine(m b u q).v8 (λc v d r=>k c v ?_ r) (λc r=>by rw[aq (U c b r)];exact r) λc xs r=>by rw[aq (Y c xs r)];exact r
   rcases d with rfl|d
   .exact J
   .rintro rfl;rcases l with z|z
    .exact U c b d z
    .rw[d]at z;cases z;exact f rfl
end
structure Un(fs ex:List i_)(H H':Hp)(h h':Eg):Prop where
 keep:∀b o,h.get? b=a_ o->H b=g_->b∉fs->b∉ex->h'.get? b=a_ o
 slot:∀b o,h.get? b=a_ o->H b=g_->b∈fs->b∉ex->∃sl,h'.get? b=a_ {o with slots:=sl}
 free:∀b o,h.get? b=a_ o->H b=g_->b∉ex->H' b=g_
 there:∀b o,h.get? b=a_ o->b∉ex->∃o',h'.get? b=a_ o'
 tups:∀b xs,H b=a_ (.tup xs)->H' b=a_ (.tup xs)
 frzs:∀b o u,H b=a_ (.frz o u)->H' b=a_ (.frz o u)
 tbls:∀b ps,H b=a_ (.tbl ps)->∃more,H' b=a_ (.tbl (ps++more))
section
variable{fs ex:List i_}{H1 H2:Hp}{h1 h2:Eg}{x e:i_}{o:HO}
def Un.any(u:Un fs ex H H1 h h1){J:H9}(q:h.get? b=a_ J)(n:H b=g_)(U:b∉ex):∃sl,h1.get? b=a_ {J with slots:=sl}:=by
 by_cases Y:b∈fs
 .exact u.slot b J q n Y U
 .exact⟨J.slots,u.keep b J q n Y U⟩
def Un.trans(a:Un fs ex H H1 h h1)(b:Un fs ex H1 H2 h1 h2):Un fs ex H H2 h h2 where
 keep:=λc J q n Y U=>b.keep c J (a.keep c J q n Y U) (a.free c J q n U) Y U
 slot:=λc J q n Y U=>by obtain⟨sl,e1⟩:=a.slot c J q n Y U;obtain⟨d,e2⟩:=b.slot c _ e1 (a.free c J q n U) Y U;exact⟨d,e2⟩
 free:=λc J q n U=>by obtain⟨o',e1⟩:=a.there c J q U;exact b.free c o' e1 (a.free c J q n U) U
 there:=λc J q U=>by obtain⟨o',e1⟩:=a.there c J q U;exact b.there c o' e1 U
 tups:=λc xs q=>b.tups c xs (a.tups c xs q)
 frzs:=λc J xs q=>b.frzs c J xs (a.frzs c J xs q)
 tbls:=λc ps q=>by obtain⟨f,e1⟩:=a.tbls c ps q;obtain⟨e,e2⟩:=b.tbls c _ e1;exact⟨f++e,by rw[e2,MX]⟩
def Un.kept(k:∀b u,h.get? b=a_ u->h'.get? b=a_ u):Un fs ex H H h h':=
 ⟨λb J q _ _ _=>k b J q,λb J q _ _ _=>⟨J.slots,k b J q⟩,λ_ _ _ n _=>n,λb J q _=>⟨J,k b J q⟩,λ_ _ q=>q,λ_ _ _ q=>q,λ_ ps q=>⟨#[],by rw[q];simp⟩⟩
def Un.refl:Un fs ex H H h h:=Un.kept λ_ _ q=>q
def Un.laid(k:∀b u,h.get? b=a_ u->h'.get? b=a_ u)(U:h.objs.size<=a)(J:H a=g_):Un fs ex H (upd H a o) h h' where
 keep:=λb u q _ _ _=>k b u q
 slot:=λb u q _ _ _=>⟨u.slots,k b u q⟩
 free:=λb u q n _=>by rw[aq (Dx (DL (mf q) U))];exact n
 there:=λb u q _=>⟨u,k b u q⟩
 tups:=λb xs q=>by rw[aq (az q J)];exact q
 frzs:=λb u xs q=>by rw[aq (az q J)];exact q
 tbls:=λb ps q=>⟨#[],by rw[aq (az q J),q];simp⟩
def Un.write(U:Mut (H x))(f:e=x\/H e=a_ (.own x))(k:∀b u,b≠e->h.get? b=a_ u->h'.get? b=a_ u)(a:∃u,h'.get? e=a_ u):Un fs ex H (upd H x o) h h':=by
 have c:∀b,H b=g_->b≠x:=λb n z=>by subst z;rw[n]at U;exact U
 have d:∀b,H b=g_->b≠e:=λb n z=>by
  subst z;rcases f with r|r
  .exact c b n r
  .rw[n]at r;cases r
 have Y:∀b u,H b=a_ u->¬Mut (a_ u)->b≠x:=λb u q nm z=>by subst z;rw[q]at U;exact nm U
 refine⟨λb u q n _ _=>k b u (d b n) q,λb u q n _ _=>⟨u.slots,k b u (d b n) q⟩,λb u q n _=>by rw[aq (c b n)];exact n,λb u q _=>?_,
  λb xs q=>by rw[aq (Y b _ q λz=>z)];exact q,λb u xs q=>by rw[aq (Y b _ q λz=>z)];exact q,λb ps q=>⟨#[],by rw[aq (Y b _ q λz=>z),q];simp⟩⟩
 by_cases J:b=e
 .subst J;exact a
 .exact⟨u,k b u J q⟩
end
noncomputable def trk(h:Eg)(H:Hp):List i_:=(DR h.objs.size).filter λa=>(H a).isSome
def hidT(h:Eg)(H:Hp):Eg:=PySem.W.hideAll h (trk h H)
def Ck(h:Eg)(H:Hp):(hidT h H).objs.size=h.objs.size:=PySem.W.hideAll_size _ _
def hidT_get{o:H9}(e:h.get? b=a_ o)(n:H b=g_):(hidT h H).get? b=a_ o:=
 PySem.W.hideAll_get _ e λJ=>by have q:(H b).isSome=e_:=(EW.mp J).2;rw[n]at q;simp at q
def of_hidT{o:H9}(e:(hidT h H).get? b=a_ o):h.get? b=a_ o/\H b=g_:=by
 have J:h.get? b=a_ o:=PySem.W.of_hideAll (trk h H) e;refine⟨J,?_⟩
 cases q:H b with
 |none=>rfl|some x=>have U:b∈trk h H:=EW.mpr ⟨EV.mpr (mf J),by simp[q]⟩;have z:(hidT h H).get? b=g_:=PySem.W.hideAll_none (trk h H) U;rw[z]at e;cases e
def allNews(g h:Eg)(L:i_):Pn:=(DR h.objs.size).filterMap λa=>if a=L\/(g.get? a).isSome=e_ then g_ else(h.get? a).map λo=>(a,o)
def rest(g h:Eg)(L d:i_):Pn:=(allNews g h L).filter λp=>z_ (p.1≠d)
structure Mod(K:Fg)(mg:Mq)(base:Eg):Prop where
 kin:K.In base
 glob:base.Ns Eo mg
 blt:∃mb,base.Ns ON mb/\∀x:Dy,x≠"__name__"->mb x=FV x
 nolimit:base.NoLimit
structure Cx where
 prog:EC
 w:Fe
 K:Fg
 mg:Mq
 base:Eg
 A:Fu
 N:List Dy
 s₀:k_
 H₀:Hp
 env:LH
 outer:List LH
 stack:List LH
 ex:List i_
 fn:Dy->Bool
 calm:Bool
 pn:Pn
 xe:Vp
variable{X:Cx}
noncomputable def frs(l:List LH):List i_:=l.filterMap (·.frame)
abbrev Cx.fs(X:Cx):List i_:=frs X.outer
def Vis(sc:Lc)(x:Dy):Prop:=sc.names.lookup x=a_ .local\/sc.names.lookup x=a_ .cell\/sc.names.lookup x=a_ .free
def Loc(sc:Lc)(x:Dy):Prop:=sc.names.lookup x=a_ .local\/sc.names.lookup x=a_ .cell
def Look(env:LH)(h:Eg)(m:Mq)(x:Dy)(u:h_):Prop:=
 (env.kindOf x=a_ .local/\m x=a_ u)\/((env.kindOf x=a_ .cell\/env.kindOf x=a_ .free)/\∃c,env.cells.lookup x=a_ c/\h.IsCell c (a_ u))
structure Cx.Ok(X:Cx):Prop where
 mod:Mod X.K X.mg X.base
 kind:X.env.scope.kind=.function
 glob:X.env.globals=Eo
 blt:X.env.builtins=ON
 above:X.s₀.heap.objs.size<=X.env.locals
 inj:∀x y c,X.env.cells.lookup x=a_ c->X.env.cells.lookup y=a_ c->x=y
 has:∀x,(X.env.kindOf x=a_ .cell\/X.env.kindOf x=a_ .free)->∃c,X.env.cells.lookup x=a_ c
 cab:∀x c,X.fn x=e_->X.env.cells.lookup x=a_ c->X.s₀.heap.objs.size<=c
 hd:X.calm=e_->X.A.handled=g_
 frames:X.A.frames=a_ X.stack
 stk:X.stack=X.outer\/(X.stack=X.env::X.outer/\X.env.frame=a_ X.env.locals)
 exf:∀b∈X.ex,b≠X.env.locals/\∀x c,X.env.cells.lookup x=a_ c->c≠b
 bs:∀b o,X.base.get? b=a_ o->X.s₀.heap.get? b=a_ o/\X.H₀ b=g_
 bsz:X.base.objs.size<=X.s₀.heap.objs.size
 noex:∀b o,X.base.get? b=a_ o->b∉X.ex
 exfs:∀b∈X.ex,b∉X.fs
 rO:X.s₀.heap.FunFrames X.base X.outer
 frf:∀b∈X.fs,X.H₀ b=g_
structure B6(X:Cx)(B4:Pn)(σ:List (Option V))(H:Hp)(s:k_):Prop where
 ok:X.Ok
 os:s.os=X.s₀.os
 bare:Jn s.gens
 base:Un X.fs X.ex X.H₀ H X.s₀.heap s.heap
 loc:∃m,s.heap.Ns X.env.locals m/\∀(i:Nat) (x:Dy) (v:V),X.N[i]?=a_ x->σ[i]?=a_ (a_ v)->Vis X.env.scope x->∃u,D' v u/\Look X.env s.heap m x u
 cell:∀x c,X.env.cells.lookup x=a_ c->∃v,s.heap.IsCell c v
 free:H X.env.locals=g_
 freeC:∀x c,X.env.cells.lookup x=a_ c->H c=g_
 pin:∀p∈X.pn++B4,s.heap.get? p.1=a_ p.2/\H p.1=g_/\p.1≠X.env.locals/\p.1∉X.fs/\∀v,p.2.data≠.cell v
 hok:HOk X.prog X.w H s.heap
 len:σ.length=X.N.length
section
variable{σ:List (Option V)}{s:k_}
def Cx.Ok.nofr(J:X.Ok){o:H9}(e:X.base.get? b=a_ o):b∉X.fs:=λU=>by have:=(J.rO.mem U).1;rw[e]at this;cases this
theorem B6.bs(I:B6 X B4 σ H s):∀b o,X.base.get? b=a_ o->s.heap.get? b=a_ o/\H b=g_:=λb o e=>⟨I.base.keep b o (I.ok.bs b o e).1 (I.ok.bs b o e).2 (I.ok.nofr e) (I.ok.noex b o e),I.base.free b o (I.ok.bs b o e).1 (I.ok.bs b o e).2 (I.ok.noex b o e)⟩
def B6.bk(I:B6 X B4 σ H s):∀b o,X.base.get? b=a_ o->s.heap.get? b=a_ o:=λb o e=>(I.bs b o e).1
theorem B6.mod(I:B6 X B4 σ H s):Mod X.K X.mg X.base:=I.ok.mod
def B6.kIn(I:B6 X B4 σ H s):X.K.In s.heap:=I.ok.mod.kin.keeps I.bk
theorem B6.lt(I:B6 X B4 σ H s):X.env.locals<s.heap.objs.size:=let ⟨_,J,_⟩:=I.loc;J.lt
def B6.sz(I:B6 X B4 σ H s):X.s₀.heap.objs.size<=s.heap.objs.size:=Ee I.ok.above (Gr I.lt)
def B6.nofs(I:B6 X B4 σ H s)(h:s.heap.objs.size<=a):a∉X.fs:=λU=>by obtain⟨_,o,J,_⟩:=I.ok.rO.mem U;exact DD (DL (mf J) (Ee I.sz h)) (EB _)
def B6.cne(I:B6 X B4 σ H s):∀x c,X.env.cells.lookup x=a_ c->c≠X.env.locals:=λx c e z=>by obtain⟨v,o,Y,hd⟩:=I.cell x c e;obtain⟨m,⟨o',es,ep,J,U,_⟩,_⟩:=I.loc;rw[z,J]at Y;cases Y;rw[U]at hd;cases hd
theorem B6.rO(I:B6 X B4 σ H s):s.heap.FunFrames X.base X.outer:=by
 have a:∀(l:List LH),(∀b∈frs l,b∈X.fs)->X.s₀.heap.FunFrames X.base l->s.heap.FunFrames X.base l:=by
  intro l
  induction l with
  |nil=>intro _ _;trivial|cons env r d=>intro c i;obtain⟨j,⟨L,o,J,h,g,hd⟩,f⟩:=i;have Y:L∈X.fs:=c L (by unfold frs;rw[GH,J];exact Ea);obtain⟨sl,e⟩:=I.base.slot L o g (I.ok.frf L Y) Y λz=>I.ok.exfs L z Y;exact⟨j,⟨L,_,J,h,e,hd⟩,d (λb U=>c b (by unfold frs;rw[GH,J];exact DQ _ U)) f⟩
 exact a X.outer (λ_ U=>U) I.ok.rO
theorem B6.stack(I:B6 X B4 σ H s):s.heap.FunFrames X.base X.stack:=by
 rcases I.ok.stk with e|⟨e,U⟩
 .rw[e];exact I.rO
 .rw[e];obtain⟨m,J,_⟩:=I.loc;refine .cons (by rw[I.ok.kind];decide) U J ?_ I.rO;exact JL (Ee I.ok.bsz I.ok.above)
def B6.pG(I:B6 X B4 σ H s):∀b∈frs X.stack,b∈X.env.locals::X.fs:=λb J=>by
 rcases I.ok.stk with e|⟨e,U⟩
 .rw[e]at J;exact DQ _ J
 .rw[e]at J;unfold frs at J;rw[GH,U]at J;exact J
def B6.AW(I:B6 X B4 σ H s):∀b∈frs X.stack,H b=g_:=λb J=>by
 rcases p_.mp (I.pG b J)with e|J
 .rw[e];exact I.free
 .obtain⟨_,o,U,_⟩:=I.ok.rO.mem J;exact I.base.free b o U (I.ok.frf b J) λz=>I.ok.exfs b z J
def B6.step{t':Nat}{d':N_}(I:B6 X B4 σ H s)(f:∀b∈ch,(b∈X.ex\/X.s₀.heap.objs.size<=b)/\b≠X.env.locals/\(∀x c,X.env.cells.lookup x=a_ c->c≠b)/\∀p∈X.pn++B4,p.1≠b)(a:∀b o,b≠X.env.locals->b∉X.fs->b∉ch->s.heap.get? b=a_ o->H b=g_->h'.get? b=a_ o)(j:∀b o,b≠X.env.locals->b∈X.fs->b∉ch->s.heap.get? b=a_ o->H b=g_->∃sl,h'.get? b=a_ {o with slots:=sl})(U:∀b o,b∉ch->s.heap.get? b=a_ o->H b=g_->H' b=g_)(t:∀b o,b∉ch->s.heap.get? b=a_ o->∃o',h'.get? b=a_ o')(A:∀b xs,H b=a_ (.tup xs)->H' b=a_ (.tup xs))(E:∀b o u,H b=a_ (.frz o u)->H' b=a_ (.frz o u))(B:∀b ps,H b=a_ (.tbl ps)->∃D,H' b=a_ (.tbl (ps++D)))(ns:∀m,s.heap.Ns X.env.locals m->h'.Ns X.env.locals m)(G:HOk X.prog X.w H' h')(T:Jn g'):
  B6 X B4 σ H' {s with heap:=h',gens:=g',drawn:=d',toks:=t'}:=by
 have C:∀b o,X.s₀.heap.get? b=a_ o->b≠X.env.locals:=λb o e=>Dx (DL (mf e) I.ok.above);have h:∀b o,X.s₀.heap.get? b=a_ o->b∉X.ex->b∉ch:=λb o e J w=>by
  rcases(f b w).1 with z|z
  .exact J z
  .exact DD (DL (mf e) z) (EB _)
 have g:∀x c,X.env.cells.lookup x=a_ c->∀v,s.heap.IsCell c v->h'.IsCell c v:=λx c e v ⟨o,y,hd⟩=>by
  have Y:c∉ch:=λz=>(f c z).2.2.1 x c e rfl;by_cases O:c∈X.fs
  .obtain⟨sl,q⟩:=j c o (I.cne x c e) O Y y (I.freeC x c e);exact⟨_,q,hd⟩
  .exact⟨o,a c o (I.cne x c e) O Y y (I.freeC x c e),hd⟩
 refine⟨I.ok,I.os,T,⟨λb o e n w J=>?_,λb o e n w J=>?_,λb o e n J=>?_,λb o e J=>?_,λb xs e=>A b xs (I.base.tups b xs e),λb o xs e=>E b o xs (I.base.frzs b o xs e),λb ps e=>?_⟩,?_,λx c e=>?_,?_,λx c e=>?_,λp N=>?_,G,I.len⟩
 .exact a b o (C b o e) w (h b o e J) (I.base.keep b o e n w J) (I.base.free b o e n J)
 .obtain⟨sl,e1⟩:=I.base.slot b o e n w J;obtain⟨F,e2⟩:=j b _ (C b o e) w (h b o e J) e1 (I.base.free b o e n J);exact⟨F,e2⟩
 .obtain⟨o',e1⟩:=I.base.there b o e J;exact U b o' (h b o e J) e1 (I.base.free b o e n J)
 .obtain⟨o',e1⟩:=I.base.there b o e J;exact t b o' (h b o e J) e1
 .obtain⟨Q,e1⟩:=I.base.tbls b ps e;obtain⟨P,e2⟩:=B b _ e1;exact⟨Q++P,by rw[e2,MX]⟩
 .obtain⟨m,R,S⟩:=I.loc;refine⟨m,ns m R,λi x v e1 e2 e3=>?_⟩
  obtain⟨u,r,l⟩:=S i x v e1 e2 e3;refine⟨u,r,?_⟩
  rcases l with l|⟨k,c,e,z⟩
  .exact .inl l
  .exact .inr ⟨k,c,e,g x c e _ z⟩
 .obtain⟨v,z⟩:=I.cell x c e;exact⟨v,g x c e v z⟩
 .obtain⟨m,⟨o,_,_,y,_⟩,_⟩:=I.loc;exact U _ o (λz=>(f _ z).2.1 rfl) y I.free
 .obtain⟨v,o,y,hd⟩:=I.cell x c e;exact U c o (λz=>(f c z).2.2.1 x c e rfl) y (I.freeC x c e)
 .obtain⟨e,n,L,K,d⟩:=I.pin p N;have Y:p.1∉ch:=λz=>(f p.1 z).2.2.2 p N rfl;exact⟨a p.1 p.2 L K Y e n,U p.1 p.2 Y e n,L,K,d⟩
def B6.un{t':Nat}(I:B6 X B4 σ H s)(u:Un X.fs [] H H' s.heap h')(U:HOk X.prog X.w H' h'):B6 X B4 σ H' {s with heap:=h',toks:=t'}:=by
 obtain⟨m,⟨o,es,ep,c,r⟩,_⟩:=id I.loc;obtain⟨sl,f⟩:=u.any c I.free ad;exact I.step (g':=s.gens) (d':=s.drawn) (ch:=[]) (λ_ z=>nomatch z) (λb o _ Y _ e n=>u.keep b o e n Y ad) (λb o _ Y _ e n=>u.slot b o e n Y ad) (λb o _ e n=>u.free b o e n ad) (λb o _ e=>u.there b o e ad) u.tups u.frzs u.tbls (λg d=>by obtain⟨o',a,ep',J,r'⟩:=d;rw[c]at J;cases J;exact⟨_,a,ep',f,r'⟩) U I.bare
def B6.call{t':Nat}{d':N_}(I:B6 X B4 σ H s)(u:Un (frs X.stack) ch H H' s.heap h')(a:HOk X.prog X.w H' h')(i:Jn g')(Y:∀b∈ch,(b∈X.ex\/X.s₀.heap.objs.size<=b)/\b≠X.env.locals/\(∀x c,X.env.cells.lookup x=a_ c->c≠b)/\∀p∈X.pn++B4,p.1≠b):
  B6 X B4 σ H' {s with heap:=h',gens:=g',drawn:=d',toks:=t'}:=by
 obtain⟨m,⟨o,es,ep,g,r⟩,_⟩:=id I.loc;obtain⟨sl,d⟩:=u.any g I.free λz=>(Y _ z).2.1 rfl;exact I.step (ch:=ch) Y (λb o d j J e n=>u.keep b o e n (λz=>(p_.mp (I.pG b z)).elim d j) J) (λb o _ _ J e n=>u.any e n J) (λb o J e n=>u.free b o e n J) (λb o J e=>u.there b o e J) u.tups u.frzs u.tbls (λk h=>by obtain⟨o',f,ep',U,r'⟩:=h;rw[g]at U;cases U;exact⟨_,f,ep',d,r'⟩) a i
def B6.turned{t':Nat}{J:i_}(I:B6 X B4 σ H s)(k:∀b o,b≠J->s.heap.get? b=a_ o->h'.get? b=a_ o)(f:H J=g_)(a:J≠X.env.locals)(h1:J∈X.ex\/X.s₀.heap.objs.size<=J)(h2:∀x c,X.env.cells.lookup x=a_ c->c≠J)(i:∀p∈X.pn++B4,p.1≠J):B6 X B4 σ H {s with heap:=h',toks:=t'}:=by
 have Y:∀b u,H b=a_ u->b≠J:=λb u e z=>by rw[z,f]at e;cases e
 refine I.step (g':=s.gens) (d':=s.drawn) (ch:=[J]) (λb h=>?_) (λb o _ _ U e _=>k b o (λz=>U (by simp[z])) e) (λb o _ _ U e _=>⟨o.slots,k b o (λz=>U (by simp[z])) e⟩) (λ_ _ _ _ n=>n)
  (λb o U e=>⟨o,k b o (λz=>U (by simp[z])) e⟩) (λ_ _ e=>e) (λ_ _ _ e=>e) (λb ps e=>⟨#[],by rw[e];simp⟩) (λm g=>?_) (λb u e=>?_) I.bare
 .have e:b=J:=by simpa using h
  subst e;exact⟨h1,a,h2,i⟩
 .obtain⟨o,es,ep,d,r⟩:=g;exact⟨o,es,ep,k _ o (Em a) d,r⟩
 .refine(I.hok b u e).v8 (λc v U q=>k c v ?_ q) (λ_ q=>q) λ_ _ q=>q;rcases U with z|z
  .rw[z];exact Y b u e
  .exact Y c _ z
def B6.tok(I:B6 X B4 σ H s)(t:Nat):B6 X B4 σ H {s with toks:=t}:=I.un (h':=s.heap) (t':=t) Un.refl I.hok
theorem B6.kept{t':Nat}(I:B6 X B4 σ H s)(k:∀b u,s.heap.get? b=a_ u->h'.get? b=a_ u):B6 X B4 σ H {s with heap:=h',toks:=t'}:=I.un (Un.kept k) (I.hok.kept k)
theorem B6.laid{a:i_}{o:HO}{t':Nat}(I:B6 X B4 σ H s)(k:∀b u,s.heap.get? b=a_ u->h'.get? b=a_ u)(U:s.heap.objs.size<=a)(J:cz X.prog X.w (upd H a o) h' a o):
  B6 X B4 σ (upd H a o) {s with heap:=h',toks:=t'}:=I.un (Un.laid k U (I.hok.fresh U)) (I.hok.laid k U J)
theorem B6.write{x e:i_}{o:HO}{t':Nat}(I:B6 X B4 σ H s)(Y:Mut (H x))(a:e=x\/H e=a_ (.own x))(k:∀b u,b≠e->s.heap.get? b=a_ u->h'.get? b=a_ u)(J:∃u,h'.get? e=a_ u)(U:cz X.prog X.w (upd H x o) h' x o):B6 X B4 σ (upd H x o) {s with heap:=h',toks:=t'}:=I.un (Un.write Y a k J) (I.hok.write Y a k J U)
def B6.weak{σ':List (Option V)}(I:B6 X B4 σ H s)(Y:σ'.length=σ.length)(w:∀(i:Nat) v,σ'[i]?=a_ (a_ v)->σ[i]?=a_ (a_ v)):B6 X B4 σ' H s:=
 ⟨I.ok,I.os,I.bare,I.base,let ⟨m,U,J⟩:=I.loc;⟨m,U,λi x v e1 e2 e3=>J i x v e1 (w i v e2) e3⟩,I.cell,I.free,I.freeC,I.pin,I.hok,Y.trans I.len⟩
def B6.rg{pins':Pn}(I:B6 X B4 σ H s)(h:∀p∈pins',s.heap.get? p.1=a_ p.2/\H p.1=g_/\p.1≠X.env.locals/\p.1∉X.fs/\∀v,p.2.data≠.cell v):B6 X pins' σ H s:=
 ⟨I.ok,I.os,I.bare,I.base,I.loc,I.cell,I.free,I.freeC,λp J=>(FR.mp J).elim (λz=>I.pin p (HZ _ z)) (h p),I.hok,I.len⟩
def rC(J:N.Nodup)(a:N[i]?=a_ x)(b:N[j]?=a_ x):i=j:=by obtain⟨h1,e1⟩:=v_.mp a;obtain⟨h2,e2⟩:=v_.mp b;exact(List.getElem_inj J).mp (e1.trans e2.symm)
def t5{M:Ld}(I:B6 X B4 σ H s)(hN:X.N.Nodup)(hi:X.N[i]?=a_ x)(f:Loc X.env.scope x)(r:D' v u)(h:∀s',B6 X B4 (σ.set i (a_ v)) H s'->(∃a,FN a s.heap s'.heap/\(a=X.env.locals\/X.env.cells.lookup x=a_ a))->Q () s')(hf:autoParam (X.fn x=e_\/X.env.scope.names.lookup x=a_ .local) Jq3):o_ M A (storeName X.env x u) Q E s:=by
 obtain⟨m,hn,hl⟩:=id I.loc;have K:(X.env.scope.kind==.class||(X.env.scope.kind==.module&&X.env.locals != X.env.globals))=c_:=by rw[I.ok.kind];rfl
 have t:i<σ.length:=by rw[I.len];exact(v_.mp hi).1
 have D:=I.cne;have U:∀{a:i_} {h':Eg},(∃o,s.heap.get? a=a_ o/\H a=g_)->FN a s.heap h'->HOk X.prog X.w H h':=λ{a h'} ha J b ob e=>by
  obtain⟨_,_,g⟩:=ha;refine(I.hok b ob e).v8 (λc O Y q=>(J.2 c ?_).trans q) (λ_ q=>q) λ_ _ q=>q;rintro rfl;rcases Y with rfl|Y
  .rw[g]at e;cases e
  .rw[g]at Y;cases Y
 rcases f with l|l
 .refine wpAny_storeName_local l hn (λh' hn' J=>?_) K;obtain⟨oL,_,_,hoL,_⟩:=id hn;refine h _ ⟨I.ok,I.os,I.bare,⟨λb o e n C f=>?_,λb o e n C f=>?_,I.base.free,λb o e f=>?_,I.base.tups,I.base.frzs,I.base.tbls⟩,⟨_,hn',λj y S e1 e2 e3=>?_⟩,λy c e=>?_,I.free,I.freeC,λp Z=>?_,U ⟨oL,hoL,I.free⟩ J,by simpa using I.len⟩ ⟨_,J,.inl rfl⟩
  .exact(J.2 b (Dx (DL (mf e) I.ok.above))).trans (I.base.keep b o e n C f)
  .obtain⟨sl,e1⟩:=I.base.slot b o e n C f;exact⟨sl,(J.2 b (Dx (DL (mf e) I.ok.above))).trans e1⟩
  .obtain⟨o',e1⟩:=I.base.there b o e f;exact⟨o',(J.2 b (Dx (DL (mf e) I.ok.above))).trans e1⟩
  .by_cases w:j=i
   .subst w;rw[hi]at e1;cases e1;rw[vw t]at e2;cases e2;exact⟨u,r,.inl ⟨l,ad⟩⟩
   .rw[m_ (Em w)]at e2;obtain⟨T,r',q⟩:=hl j y S e1 e2 e3;refine⟨T,r',?_⟩
    rcases q with⟨k,e⟩|⟨k,c,e,z⟩
    .refine .inl ⟨k,?_⟩;have:y≠x:=λe=>w (rC hN e1 (e▸hi));simp[this,e]
    .exact .inr ⟨k,c,e,z.sameBut J (D y c e)⟩
  .obtain⟨O,z⟩:=I.cell y c e;exact⟨O,z.sameBut J (D y c e)⟩
  .obtain⟨e,n,P,W,d⟩:=I.pin p Z;exact⟨(J.2 p.1 P).trans e,n,P,W,d⟩
 .have B:X.fn x=e_:=by
   rcases hf with z|z
   .exact z
   .rw[z]at l;cases l
  obtain⟨c,Y⟩:=I.ok.has x (.inl l);obtain⟨O,z⟩:=I.cell x c Y;refine wpAny_storeName_cell I.ok.kind l Y z (λh' N J=>?_);obtain⟨oc,G,F⟩:=id z;refine h {s with heap:=h'} ⟨I.ok,I.os,I.bare,⟨λb o e n C f=>?_,λb o e n C f=>?_,I.base.free,λb o e f=>?_,I.base.tups,I.base.frzs,I.base.tbls⟩,⟨m,hn.sameBut J (Em (D x c Y)),λj y S e1 e2 e3=>?_⟩,λy R e=>?_,I.free,I.freeC,λp Z=>?_,U ⟨oc,G,I.freeC x c Y⟩ J,by simpa using I.len⟩ ⟨c,J,.inr Y⟩
  .exact(J.2 b (Dx (DL (mf e) (I.ok.cab x c B Y)))).trans (I.base.keep b o e n C f)
  .obtain⟨sl,e1⟩:=I.base.slot b o e n C f;exact⟨sl,(J.2 b (Dx (DL (mf e) (I.ok.cab x c B Y)))).trans e1⟩
  .obtain⟨o',e1⟩:=I.base.there b o e f;exact⟨o',(J.2 b (Dx (DL (mf e) (I.ok.cab x c B Y)))).trans e1⟩
  .by_cases w:j=i
   .subst w;rw[hi]at e1;cases e1;rw[vw t]at e2;cases e2;exact⟨u,r,.inr ⟨.inl l,c,Y,N⟩⟩
   .rw[m_ (Em w)]at e2;obtain⟨T,r',q⟩:=hl j y S e1 e2 e3;refine⟨T,r',?_⟩
    rcases q with q|⟨k,R,e,z'⟩
    .exact .inl q
    .refine .inr ⟨k,R,e,z'.sameBut J ?_⟩;rintro rfl;exact w (rC hN e1 (I.ok.inj _ _ _ e Y▸hi))
  .by_cases L:R=c
   .subst L;exact⟨_,N⟩
   .obtain⟨w2,z2⟩:=I.cell y R e;exact⟨w2,z2.sameBut J L⟩
  .obtain⟨e,n,P,W,d⟩:=I.pin p Z;refine⟨(J.2 p.1 ?_).trans e,n,P,W,d⟩
   intro q;rw[q,G]at e;have q':oc=p.2:=DV e;exact d O (by rw[<- q'];exact F)
def jI{M:Ld}(I:B6 X B4 σ H s)(Y:X.N.Nodup)(hi:X.N[i]?=a_ x)(J:Loc X.env.scope x)(r:D' v u)(h:∀s',B6 X B4 (σ.set i (a_ v)) H s'->Q () s')(U:autoParam (X.fn x=e_\/X.env.scope.names.lookup x=a_ .local) Jq3):o_ M A (storeName X.env x u) Q E s:=
 t5 I Y hi J r (λs' a _=>h s' a) U
def B6.call'(I:B6 X B4 σ H s)(Y:s'.os=s.os)(u:Un (frs X.stack) ch H H' s.heap s'.heap)(J:HOk X.prog X.w H' s'.heap)(a:Jn s'.gens)(U:∀b∈ch,(b∈X.ex\/X.s₀.heap.objs.size<=b)/\b≠X.env.locals/\(∀x c,X.env.cells.lookup x=a_ c->c≠b)/\∀p∈X.pn++B4,p.1≠b):B6 X B4 σ H' s':=by obtain⟨h',g',d',t',o'⟩:=s';have e:o'=s.os:=Y;subst e;exact I.call (g':=g') (t':=t') (d':=d') u J a U
end
abbrev XK:=h_->Option i_->Hp->Prop
noncomputable abbrev St:=List (Option V)
variable{σ:St}
abbrev VK:=V->Hp->Prop
abbrev TE:=St->Hp->VK->Prop
variable{ta tb te:TE}
abbrev TT:=St->Hp->(Bool->Hp->Prop)->Prop
variable{tc:TT}
abbrev TA:=St->Hp->(am->Hp->Prop)->Prop
variable{t:TA}
structure Ends where
 nx:St->Hp->Prop
 rt:VK
 bk:St->Hp->Prop:=λ_ _=>False
 ct:St->Hp->Prop:=λ_ _=>False
abbrev TS:=Ends->St->Hp->Prop
def EP(X:Cx)(B4:Pn)(σ:St)(Q:VK)(u:h_)(s':k_):Prop:=∃v H',B6 X B4 σ H' s'/\D' v u/\Q v H'
def TP(X:Cx)(B4:Pn)(σ:St)(Q:Bool->Hp->Prop)(b:Bool)(s':k_):Prop:=∃H',B6 X B4 σ H' s'/\Q b H'
def AP(X:Cx)(B4:Pn)(σ:St)(Q:am->Hp->Prop)(us:as)(s':k_):Prop:=∃vs H',B6 X B4 σ H' s'/\Ds vs us/\Q vs H'
def SP(X:Cx)(B4:Pn)(D:Ends)(f:Flow)(s':k_):Prop:=
 match f with
 |.next=>∃σ' H',B6 X B4 σ' H' s'/\D.nx σ' H'
 |.brk=>∃σ' H',B6 X B4 σ' H' s'/\D.bk σ' H'
 |.cont=>∃σ' H',B6 X B4 σ' H' s'/\D.ct σ' H'
 |.ret u=>∃v σ' H',B6 X B4 σ' H' s'/\D' v u/\D.rt v H'
def PE(X:Cx)(e:EM)(t:TE):Prop:=
 ∀(B4:Pn) (s:k_) (σ:St) (H:Hp) (Q:VK),B6 X B4 σ H s->t σ H Q->o_ (u_ X.prog X.w) X.A (DC e X.env) (EP X B4 σ Q) X.xe s
def PT(X:Cx)(e:EM)(t:TT):Prop:=
 ∀(B4:Pn) (s:k_) (σ:St) (H:Hp) (Q:Bool->Hp->Prop),B6 X B4 σ H s->t σ H Q->o_ (u_ X.prog X.w) X.A (Nk e X.env (DC e X.env)) (TP X B4 σ Q) X.xe s
def PW(X:Cx)(e:EM)(t:TT):Prop:=
 ∀(J:NI h_) (B4:Pn) (s:k_) (σ:St) (H:Hp) (Q:Bool->Hp->Prop),B6 X B4 σ H s->t σ H Q->o_ (u_ X.prog X.w) X.A (Nk e X.env J) (TP X B4 σ Q) X.xe s
def PW.pt{t:TT}(h:PW X e t):PT X e t:=h _
def PA(X:Cx)(es:List EM)(t:TA):Prop:=
 ∀(pos:Pos) (B4:Pn) (s:k_) (σ:St) (H:Hp) (Q:am->Hp->Prop),B6 X B4 σ H s->t σ H Q->o_ (u_ X.prog X.w) X.A (spliced (EG pos (j_ es X.env))) (AP X B4 σ Q) X.xe s
def PS(X:Cx)(st:E6)(t:TS):Prop:=
 ∀(B4:Pn) (s:k_) (σ:St) (H:Hp) (D:Ends),B6 X B4 σ H s->t D σ H->o_ (u_ X.prog X.w) X.A (exec st X.env) (SP X B4 D) X.xe s
def PSs(X:Cx)(st:List E6)(t:TS):Prop:=
 ∀(B4:Pn) (s:k_) (σ:St) (H:Hp) (D:Ends),B6 X B4 σ H s->t D σ H->o_ (u_ X.prog X.w) X.A (execs st X.env) (SP X B4 D) X.xe s
def HH{α:Type}{t:NI α}{Q J:α->k_->Prop}{M:Ld}{s:k_}(h:o_ M A t Q E s)(U:∀a s,Q a s->J a s):o_ M A t J E s:=Ew h U λ_ _ x=>x
section
noncomputable def Am(i:Nat):TE:=λσ H Q=>∃v,σ[i]?=a_ (a_ v)/\Q v H
noncomputable def tC(v:V):TE:=λ_ H Q=>Q v H
def pe_var(j:X.N[i]?=a_ x)(hv:Vis X.env.scope x)(hd:((x==("__debug__":Dy))=c_)⁻¹)(a:((x==("__classdict__":Dy))=c_)⁻¹):PE X (.Name x pos) (Am i):=by
 intro B4 s σ H Q I h;obtain⟨v,e,h⟩:=h;obtain⟨m,d,g⟩:=I.loc;obtain⟨u,r,l⟩:=g i x v j e hv;have Y:EP X B4 σ Q u s:=⟨v,H,I,r,h⟩
 rcases l with⟨U,f⟩|⟨U,c,b,J⟩
 .exact OF (wpAny_loadName_local I.ok.kind U d f Y) hd
 .rcases U with U|U
  .exact OF (wpAny_loadName_cell I.ok.kind U b J Y) hd
  .exact OF (wpAny_loadName_free I.ok.kind U b J Y a) hd
def pe_int{i j pos}:PE X (.Constant (.int i) j pos) (tC (.int i)):=λ_ _ _ H _ I h=>wpAny_Constant_int ⟨.int i,H,I.tok _,⟨_,rfl⟩,h⟩
def pe_bl{b j pos}:PE X (.Constant (.bool b) j pos) (tC (.bl b)):=λ_ _ _ H _ I h=>Constant_bool ⟨.bl b,H,I,rfl,h⟩
def pe_non{j pos}:PE X (.Constant .none j pos) (tC .non):=λ_ _ _ H _ I h=>Constant_none ⟨.non,H,I,rfl,h⟩
def pe_str{x j pos}:PE X (.Constant (.str x) j pos) (tC (.str x)):=λ_ _ _ H _ I h=>Calls.Constant_str ⟨.str x,H,I.tok _,⟨_,rfl⟩,h⟩
def Gl(X:Cx)(x:Dy):Prop:=X.env.kindOf x=a_ .globalImplicit
def fH{s:k_}{Q:Vp}(I:B6 X B4 σ H s)(U:Gl X x)(J:X.mg x=a_ u)(h:Q u s)(hd:((x==("__debug__":Dy))=c_)⁻¹):o_ (u_ X.prog X.w) X.A (DC (.Name x pos) X.env) Q E s:=
 Li I.ok.kind U (Calls.loadGlobal_global (by rw[I.ok.glob];exact I.mod.glob.keeps I.bk) J h) hd
def fJ{s:k_}{Q:Vp}(I:B6 X B4 σ H s)(Y:Gl X x)(U:X.mg x=g_)(hv:FV x=a_ u)(h:Q u s)(J:(x≠"__name__")⁻¹)(hd:((x==("__debug__":Dy))=c_)⁻¹):o_ (u_ X.prog X.w) X.A (DC (.Name x pos) X.env) Q E s:=by obtain⟨a,h1,h2⟩:=I.mod.blt;exact Li I.ok.kind Y (Calls.loadGlobal_builtin (by rw[I.ok.glob];exact I.mod.glob.keeps I.bk) U (by rw[I.ok.blt];exact h1.keeps I.bk) ((h2 x J).trans hv) h) hd
def Bx(U:Gl X x)(J:X.mg x=a_ u)(r:D' v u)(hd:((x==("__debug__":Dy))=c_)⁻¹):PE X (.Name x pos) (tC v):=
 λ_ _ _ H _ I h=>fH I U J ⟨v,H,I,r,h⟩ hd
def pe_bltn(Y:Gl X x)(U:X.mg x=g_)(hv:FV x=a_ u)(r:D' v u)(J:(x≠"__name__")⁻¹)(hd:((x==("__debug__":Dy))=c_)⁻¹):PE X (.Name x pos) (tC v):=
 λ_ _ _ H _ I h=>fJ I Y U hv ⟨v,H,I,r,h⟩ J hd
variable{a b:EM}
variable{tA tB':TT}{rest:List EM}
noncomputable def tAnd(t u:TT):TT:=λσ H Q=>t σ H λc H1=>if c=e_ then u σ H1 Q else Q c_ H1
noncomputable def tOr(t u:TT):TT:=λσ H Q=>t σ H λc H1=>if c=e_ then Q e_ H1 else u σ H1 Q
noncomputable def tNot(t:TT):TT:=λσ H Q=>t σ H λc H1=>Q (!c) H1
def pw_and1(J:PT X a tA):PW X (.BoolOp .And [a] pos) tA:=by
 intro U B4 s σ H Q I h;refine isTrue_and (HH (J B4 s σ H Q I h) λc Y e=>?_);cases c with
 |true=>exact isTrue_and_nil e|false=>exact e
def pw_or1(J:PT X a tA):PW X (.BoolOp .Or [a] pos) tA:=by
 intro U B4 s σ H Q I h;refine isTrue_or (HH (J B4 s σ H Q I h) λc Y e=>?_);cases c with
 |false=>exact isTrue_or_nil e|true=>exact e
def pw_and(f:PT X a tA)(e:PW X (.BoolOp .And (b::rest) pos) tB'):PW X (.BoolOp .And (a::b::rest) pos) (tAnd tA tB'):=by
 intro U B4 s σ H Q I h;refine isTrue_and (HH (f B4 s σ H _ I h) λc Y d=>?_);obtain⟨H1,J,q1⟩:=d;cases c with
 |true=>exact e U B4 Y σ H1 Q J q1|false=>exact⟨H1,J,q1⟩
def pw_or(f:PT X a tA)(e:PW X (.BoolOp .Or (b::rest) pos) tB'):PW X (.BoolOp .Or (a::b::rest) pos) (tOr tA tB'):=by
 intro U B4 s σ H Q I h;refine isTrue_or (HH (f B4 s σ H _ I h) λc Y d=>?_);obtain⟨H1,J,q1⟩:=d;cases c with
 |true=>exact⟨H1,J,q1⟩|false=>exact e U B4 Y σ H1 Q J q1
def pt_not(J:PT X a tA):PT X (.UnaryOp .Not a pos) (tNot tA):=by intro B4 s σ H Q I h;exact isTrue_not (J B4 s σ H (λc H1=>Q (!c) H1) I h)
noncomputable def tAndV(ta tb:TE):TE:=λσ H Q=>ta σ H λx H1=>∃c,x=.bl c/\if c=e_ then tb σ H1 Q else Q (.bl c_) H1
def pe_one{op}{t:TE}(h:PE X a t):PE X (.BoolOp op [a] pos) t:=λB4 s σ H Q I hw=>BoolOp_one (h B4 s σ H Q I hw)
def pe_and(f:PE X a ta)(e:PE X (.BoolOp .And (b::rest) pos) tb):PE X (.BoolOp .And (a::b::rest) pos) (tAndV ta tb):=by
 intro B4 s σ H Q I h;refine BoolOp_and (HH (f B4 s σ H _ I h) λv U d=>?_);obtain⟨x,H1,J,Y,q1⟩:=d;obtain⟨c,rfl,q1⟩:=q1;cases Y;refine Fp ?_;cases c with
 |true=>exact e B4 U σ H1 Q J q1|false=>exact⟨.bl c_,H1,J,rfl,q1⟩
noncomputable def tIf(t:TT)(ta tb:TE):TE:=λσ H Q=>t σ H λc H1=>if c=e_ then ta σ H1 Q else tb σ H1 Q
def pe_ifExp(e:PT X c tA)(g:PE X a ta)(f:PE X b tb):PE X (.IfExp c a b pos) (tIf tA ta tb):=by
 intro B4 s σ H Q I h;refine wpAny_IfExp (HH (e B4 s σ H _ I h) λd J Y=>?_);obtain⟨H1,U,q1⟩:=Y;cases d with
 |true=>exact g B4 J σ H1 Q U q1|false=>exact f B4 J σ H1 Q U q1
end
def SqL(K:Fg)(H:Hp)(a:i_)(xs:am):Prop:=
 Rd H a (.lst xs) \/
  ∃(o:H9) (its:Array h_) (n:Nat),K.lookup a=a_ o/\o.cls=.type "list"/\o.dict=g_/\o.data=.seq its n/\its.size<=n_/\Ds xs its.toList
def SqT(K:Fg)(H:Hp)(a:i_)(xs:am):Prop:=
 Rd H a (.tup xs) \/
  ∃(o:H9) (its:Array h_) (n:Nat),K.lookup a=a_ o/\o.cls=.type "tuple"/\o.data=.seq its n/\its.size<=n_/\Ds xs its.toList
def absV:h_->Option V
 |.none=>a_ .non|.bool b=>a_ (.bl b)|.int i _=>a_ (.int i)|.str x _=>a_ (.str x)|.bytes b _=>a_ (.byt b)|.float b _=>a_ (.flt b)|.ref a=>a_ (.ref a)|.type n=>a_ (.ty n)|_=>g_
def D'.abs{x:V}(r:D' x u):absV u=a_ x:=by
 cases x with
 |non=>cases r;rfl|bl _=>cases r;rfl|int _=>obtain⟨t,rfl⟩:=r;rfl
 |str _=>obtain⟨t,rfl⟩:=r;rfl
 |byt _=>obtain⟨t,rfl⟩:=r;rfl
 |flt _=>obtain⟨t,rfl⟩:=r;rfl
 |ref _=>cases r;rfl|ty _=>cases r;rfl
def D'.inj{x y:V}{u:h_}(r:D' x u)(q:D' y u):x=y:=DV (r.abs.symm.trans q.abs)
theorem Ds.inj:∀{xs ys:am} {us:as},Ds xs us->Ds ys us->xs=ys
 |_,_,_,.nil,.nil=>rfl|_,_,_,.cons r t,.cons r' t'=>by rw[r.inj r',Ds.inj t t']
section
variable{s:k_}{xs ys:List V}
def SqL.of(h:H a=a_ (.lst xs)):SqL K H a xs:=.inl (.inl h)
def SqT.of(h:H a=a_ (.tup xs)):SqT K H a xs:=.inl (.inl h)
def B6.list(I:B6 X B4 σ H s)(h:SqL X.K H a xs):∃its:as,Ds xs its/\PlainL s.heap a its.toArray/\xs.length<=n_:=by
 rcases h with h|⟨o,its,n,U,Y,hd,J,b,r⟩
 .obtain⟨z,its,n,r,e⟩:=h.ok I.hok;exact⟨its,r,⟨_,n,e,rfl,rfl,rfl⟩,z⟩
 .refine⟨its.toList,r,⟨o,n,I.kIn a o U,Y,hd,by simpa using J⟩,?_⟩
  have e:=r.length;simp only[DO]at e;omega
def B6.tuple(I:B6 X B4 σ H s)(h:SqT X.K H a xs):∃its:as,Ds xs its/\Pc s.heap a its.toArray/\xs.length<=n_:=by
 rcases h with h|⟨o,its,n,U,Y,J,b,r⟩
 .obtain⟨z,its,r,p⟩:=h.ok I.hok;exact⟨its,r,p,z⟩
 .refine⟨its.toList,r,⟨o,I.kIn a o U,Y,n,by simpa using J⟩,?_⟩
  have e:=r.length;simp only[DO]at e;omega
def B6.my(I:B6 X B4 σ H s)(h:SqL X.K H a xs)(h':SqL X.K H a ys):xs=ys:=by
 obtain⟨its,r,⟨o,n,e,_,_,d⟩,_⟩:=I.list h;obtain⟨its',r',⟨o',U,J,_,_,d'⟩,_⟩:=I.list h';rw[e]at J;cases J;rw[d]at d';injection d' with d1 _
 have:its=its':=by simpa using Hd Kz d1
 subst this;exact r.inj r'
def B6.jG(I:B6 X B4 σ H s)(h:SqT X.K H a xs)(h':SqT X.K H a ys):xs=ys:=by
 obtain⟨its,r,⟨o,e,_,n,d⟩,_⟩:=I.tuple h;obtain⟨its',r',⟨o',J,_,U,d'⟩,_⟩:=I.tuple h';rw[e]at J;cases J;rw[d]at d';injection d' with d1 _
 have:its=its':=by simpa using Hd Kz d1
 subst this;exact r.inj r'
end
noncomputable abbrev Cx.lO(X:Cx)(E:Vp):Cx:={X with xe:=E}
abbrev Cx.nox(X:Cx):Cx:=X.lO λ_ _=>False
theorem Cx.Ok.lO{X:Cx}(J:X.Ok)(E:Vp):(X.lO E).Ok:=
 ⟨J.mod,J.kind,J.glob,J.blt,J.above,J.inj,J.has,J.cab,J.hd,J.frames,J.stk,J.exf,J.bs,J.bsz,J.noex,J.exfs,J.rO,J.frf⟩
def Cx.Ok.fD(J:(X.lO E).Ok):X.Ok:=
 ⟨J.mod,J.kind,J.glob,J.blt,J.above,J.inj,J.has,J.cab,J.hd,J.frames,J.stk,J.exf,J.bs,J.bsz,J.noex,J.exfs,J.rO,J.frf⟩
section
variable{s:k_}
theorem B6.lO(I:B6 X B4 σ H s)(E:Vp):B6 (X.lO E) B4 σ H s:=⟨I.ok.lO E,I.os,I.bare,I.base,I.loc,I.cell,I.free,I.freeC,I.pin,I.hok,I.len⟩
theorem B6.fD(I:B6 (X.lO E) B4 σ H s):B6 X B4 σ H s:=⟨I.ok.fD,I.os,I.bare,I.base,I.loc,I.cell,I.free,I.freeC,I.pin,I.hok,I.len⟩
theorem SP.fD{D:Ends}{f:Flow}{s':k_}(h:SP (X.lO E) B4 D f s'):SP X B4 D f s':=by
 cases f with
 |next=>obtain⟨σ',H',I,q⟩:=h;exact⟨σ',H',I.fD,q⟩
 |brk=>obtain⟨σ',H',I,q⟩:=h;exact⟨σ',H',I.fD,q⟩
 |cont=>obtain⟨σ',H',I,q⟩:=h;exact⟨σ',H',I.fD,q⟩
 |ret u=>obtain⟨v,σ',H',I,r,q⟩:=h;exact⟨v,σ',H',I.fD,r,q⟩
theorem PE.nox{e:EM}{t:TE}(h:PE X.nox e t):PE X e t:=λB4 s σ H Q I hw=>Ew (h B4 s σ H Q (I.lO _) hw) (λ_ _ ⟨v,H',J,r,q⟩=>⟨v,H',J.fD,r,q⟩) λ_ _ z=>Ej z
theorem PT.nox{e:EM}{t:TT}(h:PT X.nox e t):PT X e t:=λB4 s σ H Q I hw=>Ew (h B4 s σ H Q (I.lO _) hw) (λ_ _ ⟨H',J,q⟩=>⟨H',J.fD,q⟩) λ_ _ z=>Ej z
theorem PSs.nox{st:List E6}{t:TS}(h:PSs X.nox st t):PSs X st t:=λB4 s σ H D I hw=>Ew (h B4 s σ H D (I.lO _) hw) (λ_ _ q=>q.fD) λ_ _ z=>Ej z
end
section
variable{st:E6}{rest:List E6}{t u:TS}
def tNext:TS:=λD σ H=>D.nx σ H
def tSeq(t u:TS):TS:=λD σ H=>t {D with nx:=u D} σ H
def Bo:PSs X [] tNext:=λ_ _ σ H _ I h=>G7 ⟨σ,H,I,h⟩
def iT(h1:PS X st t)(h2:PSs X rest u):PSs X (st::rest) (tSeq t u):=by
 intro B4 s σ H D I h;refine Lr (HH (h1 B4 s σ H {D with nx:=u D} I h) λf J q=>?_);cases f with
 |next=>obtain⟨σ',H',U,q⟩:=q;exact h2 B4 J σ' H' D U q
 |ret v=>exact q|brk=>exact q|cont=>exact q
def ky(h1:PS X st t):PSs X [st] t:=by
 intro B4 s σ H D I h;refine Lr (HH (h1 B4 s σ H D I h) λf J q=>?_);cases f with
 |next=>exact G7 q|ret v=>exact q|brk=>exact q|cont=>exact q
def B6.quiet{s:k_}(I:B6 X B4 σ H s):interactive X.env=c_:=by simp[interactive,I.ok.kind]
def yK(te:TE):TS:=λD σ H=>te σ H λ_ H1=>D.nx σ H1
def mZ(Y:PE X e te)(J: ~~~(Fd e g_ pos.line X.env=Ff c_)):PS X (.Expr e pos) (yK te):=by intro B4 s σ H D I h;refine wpAny_Expr_any (HH (Y B4 s σ H _ I h) λv b U=>?_) I.quiet J;obtain⟨x,H1,a,c,q1⟩:=U;exact⟨σ,H1,a,q1⟩
noncomputable def tRet(te:TE):TS:=λD σ H=>te σ H D.rt
def ps_ret(Y:PE X e te):PS X (.Return (a_ e) pos) (tRet te):=by intro B4 s σ H D I h;refine wpAny_Return_some (HH (Y B4 s σ H _ I h) λv b U=>?_);obtain⟨x,H1,a,J,q1⟩:=U;exact⟨x,σ,H1,a,J,q1⟩
noncomputable def tIfS(c:TT)(t u:TS):TS:=λD σ H=>c σ H λb H1=>if b=e_ then t D σ H1 else u D σ H1
def ps_if{a b:List E6}(e:PT X c tc)(g:PSs X a t)(f:PSs X b u):PS X (.If c a b pos) (tIfS tc t u):=by
 intro B4 s σ H D I h;refine wpAny_If (HH (e B4 s σ H _ I h) λd J Y=>?_);obtain⟨H1,U,q1⟩:=Y;cases d with
 |true=>exact g B4 J σ H1 D U q1|false=>exact f B4 J σ H1 D U q1
noncomputable def tNever:TS:=λ_ _ _=>False
def tQ{sts:List E6}:PSs X sts tNever:=λ_ _ _ _ _ _ h=>h.elim
end
abbrev TG:=V->St->Hp->(St->Hp->Prop)->Prop
abbrev TGs:=am->St->Hp->(St->Hp->Prop)->Prop
def PG(X:Cx)(J:EM)(t:TG):Prop:=
 ∀(B4:Pn) (s:k_) (σ:St) (H:Hp) (v:V) (u:h_) (Q:St->Hp->Prop),B6 X B4 σ H s->D' v u->t v σ H Q ->
  o_ (u_ X.prog X.w) X.A (Iz J X.env u) (λ_ s'=>∃σ' H',B6 X B4 σ' H' s'/\Q σ' H') X.xe s
def PGs(X:Cx)(ts:List EM)(t:TGs):Prop:=
 ∀(B4:Pn) (s:k_) (σ:St) (H:Hp) (vs:am) (us:as) (Q:St->Hp->Prop),B6 X B4 σ H s->Ds vs us->t vs σ H Q ->
  o_ (u_ X.prog X.w) X.A (assignInOrder ((Gq ts X.env).map (·.2)) us) (λ_ s'=>∃σ' H',B6 X B4 σ' H' s'/\Q σ' H') X.xe s
abbrev TSet:=V->V->V->Hp->(Hp->Prop)->Prop
def PSet(X:Cx)(t:TSet):Prop:=
 ∀(B4:Pn) (s:k_) (σ:St) (H:Hp) (o i v:V) (J U u:h_) (Q:Hp->Prop),B6 X B4 σ H s->D' o J->D' i U->D' v u->t o i v H Q ->
  o_ (u_ X.prog X.w) X.A (OX J U u) (λ_ s'=>∃H',B6 X B4 σ H' s'/\Q H') X.xe s
noncomputable def m6(i:Nat):TG:=λv σ H Q=>Q (σ.set i (a_ v)) H
def vz(Y:X.N.Nodup)(hi:X.N[i]?=a_ x)(J:Loc X.env.scope x)(U:autoParam (X.fn x=e_\/X.env.scope.names.lookup x=a_ .local) Jq3):PG X (.Name x pos) (m6 i):=by intro B4 s σ H v u Q I r h;exact OT (jI I Y hi J r (λs' a=>⟨_,H,a,h⟩) U)
noncomputable def gNil:TGs:=λvs σ H Q=>vs=[]/\Q σ H
noncomputable def gCons(t:TG)(u:TGs):TGs:=λvs σ H Q=>∃v r,vs=v::r/\t v σ H λσ' H'=>u r σ' H' Q
def pgs_nil:PGs X [] gNil:=by intro B4 s σ H vs us Q I r h;obtain⟨e,h⟩:=h;subst e;cases r;exact assignInOrder_nil ⟨σ,H,I,h⟩
def xq{t:TG}{u:TGs}(h1:PG X e t)(h2:PGs X es u)(a: ~~~((Gq (e::es) X.env).map (·.2)=Iz e X.env::(Gq es X.env).map (·.2))):PGs X (e::es) (gCons t u):=by
 intro B4 s σ H vs us Q I r h;obtain⟨v,d,e1,h⟩:=h;subst e1;cases r with
 |cons r Y=>rw[a];refine assignInOrder_cons (HH (h1 B4 s σ H _ _ _ I r h) λ_ U b=>?_);obtain⟨J,H1,c,q1⟩:=b;exact h2 B4 U J H1 _ _ Q c Y q1
def gTup(K:Fg)(n:Nat)(t:TGs):TG:=λv σ H Q=>∃a xs,v=.ref a/\SqT K H a xs/\xs.length=n/\t xs σ H Q
def pg_tup{t:TGs}(i:X.calm=e_)(h:PGs X es t)(f: ~~~((Gq es X.env).length=n))(J: ~~~((Gq es X.env).findIdx? (·.1)=g_)):PG X (.Tuple es k pos) (gTup X.K n t):=by intro B4 s σ H v u Q I r hw;obtain⟨a,xs,e1,d,g,hw⟩:=hw;subst e1;cases r;obtain⟨its,U,c,l⟩:=I.tuple d;refine assign_Tuple_tuple (I.ok.hd i) c (by simp[f,<- g,U.length]) J λh' Y=>?_;have j:B6 X B4 σ H {s with heap:=h'}:=I.kept (t':=s.toks) λb o e=>Y b o (Dx (mf e)) e;exact h B4 _ σ H xs _ Q j (by simpa using U) hw
def gSub(to J:TE)(t:TSet):TG:=λv σ H Q=>to σ H λo H1=>J σ H1 λi H2=>t o i v H2 λU=>Q σ U
def pg_sub{o i:EM}{to a:TE}{t:TSet}(j:PE X o to)(hi:PE X i a)(g:PSet X t)(k:autoParam (∀v,Iz (.Subscript o i pos) X.env v=(do
   let J <- Hh [v] (DC o X.env)
   let U <- Hh [v,J] (DC i X.env)
   JT pos
   Hh [v,J,U] (OX J U v)
   release [v,J,U] [])) Jq5):PG X (.Subscript o i pos) (gSub to a t):=by
 intro B4 s σ H v u Q I r h;rw[k];refine b_ (Ex (HH (j B4 s σ H _ I h) λJ c Y=>?_));obtain⟨x,H1,n,e,q1⟩:=Y;refine b_ (Ex (HH (hi B4 c σ H1 _ n q1) λU b Y=>?_));obtain⟨y,H2,m,d,q2⟩:=Y;refine b_ (Jq (b_ (Ex (HH (g B4 b σ H2 x y v J U u _ m e d r q2) λ_ q Y=>?_))));obtain⟨p,l,f⟩:=Y;exact wpAny_release ⟨σ,p,l,f⟩
def tAsg(te:TE)(g:TG):TS:=λD σ H=>te σ H λx H1=>g x σ H1 D.nx
def ps_asg{g:TG}(c:PE X e te)(b:PG X tg g)(Y: ~~~(MF [tg] e pos.line X.env=Ff c_))(hw: ~~~(MG [tg] e X.env=Ff g_))(h1: ~~~((Gq [tg] X.env).map (·.2)=[Iz tg X.env])):PS X (.Assign [tg] e pos) (tAsg te g):=by intro B4 s σ H D I h;refine wpAny_Assign_stores (HH (c B4 s σ H _ I h) λv J a=>?_) Y hw;obtain⟨x,H1,d,U,q1⟩:=a;rw[h1];exact HH (b B4 J σ H1 x v _ d U q1) λ_ f q=>q
def xp(d:X.N.Nodup)(hi:X.N[i]?=a_ x)(U:Loc X.env.scope x)(c:PE X e te)(Y: ~~~(Fd e (a_ (.Name x pos')) pos.line X.env=Ff c_))(b:autoParam (X.fn x=e_\/X.env.scope.names.lookup x=a_ .local) Jq3):
  PS X (.Assign [.Name x pos'] e pos) (tAsg te (m6 i)):=by
 intro B4 s σ H D I h;refine wpAny_Assign_Name (HH (c B4 s σ H _ I h) λv k a=>?_) Y;obtain⟨y,H1,g,J,q1⟩:=a;exact jI g d hi U J (λj f=>⟨_,H1,f,q1⟩) b
def tWhile(c:TT)(tb:TS):TS:=λD σ H=>∃W:Nat->St->Hp->Prop,(∃m,W m σ H)/\∀m σ H,W m σ H ->
 c σ H λb H1=>if b=e_ then ∃N:St->Hp->Prop,(∀σ' H',N σ' H'->∃J,J<m/\W J σ' H')/\tb {D with nx:=N,ct:=N,bk:=D.nx} σ H1 else D.nx σ H1
def ps_while{tb:TS}(e:M7 (u_ X.prog X.w) X.A X.env X.xe)(w:PT X c tc)(x:PSs X body tb):PS X (.While c body [] pos) (tWhile tc tb):=by
 intro B4 s σ H D I h;obtain⟨W,⟨u,q⟩,Y⟩:=h;refine wpAny_While (codeAny_whileLoop (λn s'=>∃σ' H',B6 X B4 σ' H' s'/\W n σ' H') ?_ u ⟨σ,H,I,q⟩);rintro n t ⟨U,H1,y,p⟩;refine G6 e (HH (w B4 t U H1 _ y (Y n U H1 p)) λb r e=>?_);obtain⟨H2,o,q2⟩:=e;cases b with
 |true=>
  obtain⟨N,m,q2⟩:=q2;rw[s_ rfl];refine G6 e (HH (x B4 r U H2 _ o q2) λf z d=>?_);cases f with
  |next=>obtain⟨J,a,l,i⟩:=d;obtain⟨j,k,g⟩:=m J a i;exact⟨j,k,J,a,l,g⟩
  |cont=>obtain⟨J,a,l,i⟩:=d;obtain⟨j,k,g⟩:=m J a i;exact⟨j,k,J,a,l,g⟩
  |brk=>exact d|ret v=>exact d
 |false=>rw[q_ Dz];exact G7 ⟨U,H2,o,q2⟩
structure It where
 go:Nat->Hp->Prop
 yld:Nat->Hp->V->Hp->Prop
 stop:Nat->Hp->Prop
def Ak(X:Cx)(B4:Pn)(H:Hp)(b:i_):Prop:=
 H b=g_/\b≠X.env.locals/\b∉X.fs/\(b∈X.ex\/X.s₀.heap.objs.size<=b)/\(∀x c,X.env.cells.lookup x=a_ c->c≠b)/\∀p∈X.pn++B4,p.1≠b
def B6.fpOk{s:k_}(I:B6 X B4 σ H s)(J:s.heap.objs.size<=b)(Y:H' b=g_):Ak X B4 H' b:=by
 refine⟨Y,E7 (DL I.lt J),I.nofs J,.inr (Ee I.sz J),λx c e z=>?_,λp U z=>?_⟩
 .obtain⟨v,q⟩:=I.cell x c e;exact DD (DL q.lt (by rw[z];exact J)) (EB _)
 .exact DD (DL (mf (I.pin p U).1) (by rw[z];exact J)) (EB _)
structure Turn(P:EC)(w:Fe)(K:Fg)(tg:EM)(J:It)(fp:List i_)(it:i_)(tn:Nat->Eg->Prop):Prop where
 mem:it∈fp
 obj:∀i h,tn i h->∀b∈fp,∃o,h.get? b=a_ o/\∀v,o.data≠.cell v
 keep:∀i h h',tn i h->(∀b∈fp,∀o,h.get? b=a_ o->h'.get? b=a_ o)->tn i h'
 item:∀(X:Cx),X.prog=P->X.w=w->X.K=K->X.calm=e_->∀(i:Nat) (B4:Pn) (s:k_) (σ:St) (H:Hp) (E:Vp),B6 X B4 σ H s->(∀b∈fp,Ak X B4 H b)->tn i s.heap->J.go i H ->
  o_ (u_ P w) X.A (Gv (.ref it)) (λr s1=>∃u,r=a_ u /\
   o_ (u_ P w) X.A (J5 tg (.ref it) u) (λ_ s2=>∃x H',B6 X B4 σ H' s2/\D' x u/\J.yld i H x H'/\tn (i+1) s2.heap/\∀b∈fp,H' b=g_) E s1) E s
 done:∀(X:Cx),X.prog=P->X.w=w->X.K=K->X.calm=e_->∀(i:Nat) (B4:Pn) (s:k_) (σ:St) (H:Hp) (E:Vp),B6 X B4 σ H s->(∀b∈fp,Ak X B4 H b)->tn i s.heap->J.stop i H ->
  o_ (u_ P w) X.A (Gv (.ref it)) (λr s1=>r=g_/\B6 X B4 σ H s1) E s
 self:∀(A:Fu) (i:Nat) (s:k_) (Q:Vp) (E:Vp),tn i s.heap->Q (.ref it) s->o_ (u_ P w) A (Lw (.ref it)) Q E s
abbrev TI:=St->Hp->(It->Hp->Prop)->Prop
def PIE(X:Cx)(B4:Pn)(σ:St)(tg:EM)(R:It->Hp->Prop)(U:h_)(a:k_):Prop:=
 ∃(c:i_) (fp:List i_) (Y:Nat->Eg->Prop) (J:It) (H':Hp),U=.ref c/\B6 X B4 σ H' a/\Turn X.prog X.w X.K tg J fp c Y/\Y 0 a.heap/\(∀b∈fp,Ak X B4 H' b)/\R J H'
def PI(X:Cx)(tg iter:EM)(wi:TI):Prop:=
 ∀(B4:Pn) (s:k_) (σ:St) (H:Hp) (R:It->Hp->Prop),B6 X B4 σ H s->wi σ H R ->
  o_ (u_ X.prog X.w) X.A (DC iter X.env) (λv J=>o_ (u_ X.prog X.w) X.A (Lw v) (PIE X B4 σ tg R) X.xe J) X.xe s
def go_of{M : Ld}{A : Fu}{E : h_ -> k_ -> Prop}{s : k_}{tg : EM}{U : i_}{u : h_}{o : H9}{n : String}{vs : Array h_}{Q : Unit -> k_ -> Prop}(Y : s.heap.get? U = a_ o)(b : o.cls = .type n)(hd : o.data = .fields vs)(a : ["enumerate", "zip", "dict_itemiterator", "dict_reverseitemiterator", "odict_iterator", "itertools.zip_longest", "itertools.pairwise"].contains n = c_)(J : Q () s): o_ M A (J5 tg (.ref U) u) Q E s := by
  unfold J5;cases tg <;> first
    | exact f_ J
    | (cases u <;> first
        | exact f_ J
        | (refine b_ (JR Y ?_)
           rw[b,hd];show o_ M A (if (["enumerate", "zip", "dict_itemiterator", "dict_reverseitemiterator", "odict_iterator", "itertools.zip_longest", "itertools.pairwise"].contains n && vs[0]?== a_ (EL _)) = e_ then _ else _) Q E s;rw[q_ (by intro h; rw[a,Iy]at h; cases h)];exact f_ J))
def Itl(K:Fg)(a:i_):It:=
 ⟨λi H=>∃xs x,SqL K H a xs/\xs[i]?=a_ x,λi H x H'=>H'=H/\∀xs,SqL K H a xs->xs[i]?=a_ x,λi H=>∃xs,SqL K H a xs/\xs.length<=i⟩
def Itt(K:Fg)(a:i_):It:=
 ⟨λi H=>∃xs x,SqT K H a xs/\xs[i]?=a_ x,λi H x H'=>H'=H/\∀xs,SqT K H a xs->xs[i]?=a_ x,λi H=>∃xs,SqT K H a xs/\xs.length<=i⟩
noncomputable def Itr(lo:Int)(n:Nat):It:=⟨λi _=>i<n,λi H x H'=>H'=H/\x=.int (lo+i),λi _=>n<=i⟩
def AJ(a J:i_):Turn P w K tg (Itl K a) [J] J (λi h=>h.IsListIter J a i) where
 mem:=by simp
 obj:=λi h st b U=>by
  have e:b=J:=by simpa using U
  subst e;obtain⟨o,e,c,d⟩:=st;exact⟨o,e,λv z=>by rw[d]at z;cases z⟩
 keep:=λi h h' st k=>st.at λo e=>k J ad o e
 item:=by intro X n hw q t i B4 s σ H E I g st m;subst n hw q;obtain⟨xs,x,f,l⟩:=m;obtain⟨its,j,p,B⟩:=I.list f;obtain⟨u,D,A⟩:=j.get l;obtain⟨r,f1,F,f3,f4,f5⟩:=g J ad;refine wpAny_pyNext_list_item st p.isList (x:=u) (by simpa using D) λh' Y y=>?_;have G:B6 X B4 σ H {s with heap:=h'}:=I.turned (t':=s.toks) (λb o U e=>(y.2 b U).trans e) r f1 f3 f4 f5;obtain⟨o,e,c,d⟩:=id Y;exact⟨u,rfl,go_of (s:={s with heap:=h'}) e c d ag ⟨x,H,G,A,⟨rfl,λys C=>by rw[I.my C f];exact l⟩,Y,λb U=>(g b U).1⟩⟩
 done:=by intro X n hw q t i B4 s σ H E I g st m;subst n hw q;obtain⟨xs,f,l⟩:=m;obtain⟨its,j,p,B⟩:=I.list f;obtain⟨r,f1,F,f3,f4,f5⟩:=g J ad;have L:=j.length;exact wpAny_pyNext_list_end (I.ok.hd t) st p.isList (by simp;omega) λh' eb=>⟨rfl,I.turned (t':=s.toks) (λb o U e=>eb b o U e) r f1 f3 f4 f5⟩
 self:=λ_ _ _ _ _ st h=>wpAny_pyIter_listiter st h
def yH(a J:i_):Turn P w K tg (Itt K a) [J] J (λi h=>h.IsTupleIter J a i) where
 mem:=by simp
 obj:=λi h st b U=>by
  have e:b=J:=by simpa using U
  subst e;obtain⟨o,e,c,d⟩:=st;exact⟨o,e,λv z=>by rw[d]at z;cases z⟩
 keep:=λi h h' st k=>st.at λo e=>k J ad o e
 item:=by intro X n hw q t i B4 s σ H E I g st m;subst n hw q;obtain⟨xs,x,f,l⟩:=m;obtain⟨its,j,p,B⟩:=I.tuple f;obtain⟨u,D,A⟩:=j.get l;obtain⟨r,f1,F,f3,f4,f5⟩:=g J ad;refine wpAny_pyNext_tuple_item st (show s.heap.IsTuple a its.toArray from p) (x:=u) (by simpa using D) λh' Y y=>?_;have G:B6 X B4 σ H {s with heap:=h'}:=I.turned (t':=s.toks) (λb o U e=>(y.2 b U).trans e) r f1 f3 f4 f5;obtain⟨o,e,c,d⟩:=id Y;exact⟨u,rfl,go_of (s:={s with heap:=h'}) e c d ag ⟨x,H,G,A,⟨rfl,λys C=>by rw[I.jG C f];exact l⟩,Y,λb U=>(g b U).1⟩⟩
 done:=by intro X n hw q t i B4 s σ H E I g st m;subst n hw q;obtain⟨xs,f,l⟩:=m;obtain⟨its,j,p,B⟩:=I.tuple f;obtain⟨r,f1,F,f3,f4,f5⟩:=g J ad;have L:=j.length;exact wpAny_pyNext_tuple_end (I.ok.hd t) st (show s.heap.IsTuple a its.toArray from p) (by simp;omega) λh' eb=>⟨rfl,I.turned (t':=s.toks) (λb o U e=>eb b o U e) r f1 f3 f4 f5⟩
 self:=λ_ _ _ _ _ st h=>wpAny_pyIter_tupleiter st h
def yI(J:i_)(lo:Int)(n:Nat):Turn P w K tg (Itr lo n) [J] J (λi h=>IsRangeIter h J (lo+(i:Nat)*1) ((n:Int)-(i:Nat)) 1) where
 mem:=by simp
 obj:=λi h st b U=>by
  have e:b=J:=by simpa using U
  subst e;exact⟨_,st,λv z=>by have l:Data.fields _=Data.cell v:=z;cases l⟩
 keep:=λi h h' st k=>k J ad _ st
 item:=by
  intro X f hw g d i B4 s σ H E I a st c;subst f hw g;obtain⟨j,f1,p,f3,f4,f5⟩:=a J ad;have W:=Walks.range (prog:=X.prog) (w:=X.w) (I.ok.hd d) J lo 1 n;refine W.item i s _ _ c st λv h' tk hv Y m=>?_;obtain⟨t,rfl⟩:=hv;have q:B6 X B4 σ H {s with heap:=h',toks:=tk}:=I.turned (λb o U e=>m b o (by simpa using U) e) j f1 f3 f4 f5;refine⟨_,rfl,go_of (s:={s with heap:=h',toks:=tk}) (n:="range_iterator") Y rfl rfl ag ⟨.int (lo+i),H,q,⟨t,?_⟩,⟨rfl,rfl⟩,Y,λb U=>(a b U).1⟩⟩
  rw[MU]
 done:=by intro X f hw g d i B4 s σ H E I a st c;subst f hw g;obtain⟨j,f1,p,f3,f4,f5⟩:=a J ad;exact wpAny_pyNext_range_end (I.ok.hd d) st (by have:n<=i:=c;omega) λh' eb=>⟨rfl,I.turned (t':=s.toks) (λb o U e=>eb b o U e) j f1 f3 f4 f5⟩
 self:=λ_ _ _ _ _ st h=>wpAny_pyIter_rangeiter st h
def xo{s:k_}{R:It->Hp->Prop}{lo hi:Int}{t u v:Tok}{tk:Nat}(I:B6 X B4 σ H s)(h1: -(2^62)<=lo)(h2:lo<2^62)(a: -(2^62)<=hi)(Y:hi<2^62)(q:R (Itr lo (hi-lo).toNat) H):o_ (u_ X.prog X.w) X.A (Lw (.ref s.heap.objs.size)) (PIE X B4 σ tg R) E {s with heap:=s.heap.push {cls:=.type "range",data:=.fields #[.int lo t,.int hi u,.int 1 v]},toks:=tk}:=by
 refine wpAny_pyIter_range (IsRange.new ..) (Pg h1 h2 a Y) ?_;have J:B6 X B4 σ H {s with heap:=s.heap.push {cls:=.type "range",data:=.fields #[.int lo t,.int hi u,.int 1 v]},toks:=tk}:=I.kept λb o e=>d_ _ e;refine⟨(s.heap.push {cls:=.type "range",data:=.fields #[.int lo t,.int hi u,.int 1 v]}).objs.size,[(s.heap.push {cls:=.type "range",data:=.fields #[.int lo t,.int hi u,.int 1 v]}).objs.size],_,_,H,rfl,
  J.kept (t':=tk) λb o e=>d_ _ e,yI _ lo (hi-lo).toNat,?_,λb U=>?_,q⟩
 .have e1:lo+((0:Nat):Int)*1=lo:=by simp
  have e2:(((hi-lo).toNat:Nat):Int)-((0:Nat):Int)=Ha lo hi 1:=by rw[MJ];split<;>omega
  show IsRangeIter _ _ (lo+((0:Nat):Int)*1) ((((hi-lo).toNat:Nat):Int)-((0:Nat):Int)) 1;rw[e1,e2];exact l_ _ rfl
 .have e:b=(s.heap.push {cls:=.type "range",data:=.fields #[.int lo t,.int hi u,.int 1 v]}).objs.size:=by simpa using U
  subst e;exact J.fpOk (t_ _) (J.hok.fresh (t_ _))
def iRng1(ta:TA):TI:=λσ H R=>ta σ H λvs H1=>∃j:Int,vs=[.int j]/\ -(2^62)<=j/\j<2^62/\R (Itr 0 j.toNat) H1
def iRng2(ta:TA):TI:=λσ H R=>ta σ H λvs H1=>∃i j:Int,vs=[.int i,.int j]/\(-(2^62)<=i/\i<2^62/\ -(2^62)<=j/\j<2^62)/\R (Itr i (j-i).toNat) H1
def Bt{a:EM}{ta:TA}(d:Gl X "range")(c:X.mg "range"=g_)(f:PA X [a] ta)(Y: ~~~(j_ [a] X.env=[(c_,DC a X.env)])):PI X tg (.Call (.Name "range" p) [a] [] pos) (iRng1 ta):=by
 intro B4 s σ H R I h;refine LM (fJ I d c Ms (DY (HH (f pos B4 s σ H _ I h) λus i b=>?_) Y rfl));obtain⟨vs,H1,g,U,q1⟩:=b;obtain⟨j,e,q1,q2,q⟩:=q1;subst e;cases U with
 |cons r J=>cases J;obtain⟨t,rfl⟩:=r;exact call_range_1 (xo g ac ac q1 q2 (by simpa using q))
def Bs{a b:EM}{ta:TA}(l:Gl X "range")(k:X.mg "range"=g_)(m:PA X [a,b] ta)(f: ~~~(j_ [a,b] X.env=[(c_,DC a X.env),(c_,DC b X.env)]))(J: ~~~(j_ [b] X.env=[(c_,DC b X.env)])):
  PI X tg (.Call (.Name "range" p) [a,b] [] pos) (iRng2 ta):=by
 intro B4 s σ H R I h;refine LM (fJ I l k Ms (DY (HH (m pos B4 s σ H _ I h) λus o g=>?_) (by rw[f,J]) (by rw[J];rfl)));obtain⟨vs,H1,n,Y,q1⟩:=g;obtain⟨i,j,e,⟨q1,q2,d,c⟩,q⟩:=q1;subst e;cases Y with
 |cons r U=>
  cases U with
  |cons r' U=>cases U;obtain⟨t,rfl⟩:=r;obtain⟨t',rfl⟩:=r';exact call_range_2 (xo n q1 q2 d c q)
def tFor(wi:TI)(g:TG)(tb:TS):TS:=λD σ H=>wi σ H λJ H1=>∃W:Nat->Nat->St->Hp->Prop,(∃m,W 0 m σ H1)/\∀i m σ H,W i m σ H ->
 (J.stop i H/\D.nx σ H)\/(J.go i H/\∃N:St->Hp->Prop,(∀σ' H',N σ' H'->∃Y,Y<m/\W (i+1) Y σ' H')/\∀x H',J.yld i H x H'->g x σ H' λU H2=>tb {D with nx:=N,ct:=N,bk:=D.nx} U H2)
def tR(fp:List i_)(h:Eg):Pn:=fp.filterMap λb=>(h.get? b).map λo=>(b,o)
def iW{o:H9}(J:b∈fp)(e:h.get? b=a_ o):(b,o)∈tR fp h:=GO.mpr ⟨b,J,by rw[e];rfl⟩
def BG{p:i_×H9}(J:p∈tR fp h):p.1∈fp/\h.get? p.1=a_ p.2:=by
 obtain⟨b,U,e⟩:=GO.mp J;cases q:h.get? b with
 |none=>rw[q]at e;cases e|some o=>rw[q]at e;have Y:(b,o)=p:=DV e;subst Y;exact⟨U,q⟩
def B6.pinned{s:k_}(I:B6 X B4 σ H s)(c:∀b∈fp,Ak X B4 H b)(a:∀b∈fp,∃o,s.heap.get? b=a_ o/\∀v,o.data≠.cell v):B6 X (B4++tR fp s.heap) σ H s:=
 I.rg λp Y=>(FR.mp Y).elim (λz=>I.pin p (EA _ z)) λz=>by obtain⟨J,e⟩:=BG z;obtain⟨g,f1,f,_⟩:=c p.1 J;obtain⟨o,U,d⟩:=a p.1 J;rw[e]at U;cases U;exact⟨e,g,f1,f,d⟩
def B6.qG{pl:Pn}{s:k_}(I:B6 X (B4++pl) σ H s):B6 X B4 σ H s:=I.rg λp J=>I.pin p (EA _ (HZ _ J))
def ps_for{iter:EM}{wi:TI}{g:TG}{tb:TS}(Y:M7 (u_ X.prog X.w) X.A X.env X.xe)(Z:X.calm=e_)(hi:PI X tg iter wi)(hg:PG X tg g)(j:PSs X body tb)(hs:autoParam (∀x,GG iter X.env x=Ff x) Jq5):PS X (.For tg iter body [] pos) (tFor wi g tb):=by
 intro B4 s σ H D I h;refine wpAny_For (HH (hi B4 s σ H _ I h) λv s1 h1=>HH h1 λitv s2 h2=>?_) hs;obtain⟨it,fp,Q,J,H2,e,I2,T,G,f2,W,⟨m0,w0⟩,w⟩:=h2;subst e;have c:∀{H':Hp},(∀b∈fp,H' b=g_)->∀b∈fp,Ak X B4 H' b:=λhn b j=>⟨hn b j,(f2 b j).2⟩
 refine codeAny_forLoop_any (λn s'=>∃i σ' H',B6 X B4 σ' H' s'/\Q i s'.heap/\(∀b∈fp,H' b=g_)/\W i n σ' H') ?_ m0 ⟨0,σ,H2,I2,G,λb j=>(f2 b j).1,w0⟩;rintro n S ⟨i,a,E,I3,A,C,w3⟩;rcases w i n a E w3 with⟨y,qn⟩|⟨go,N,hN,z⟩
 .refine G6 Y (HH (T.done X rfl rfl rfl Z i B4 S a E X.xe I3 (c C) A y) λr s4 Y=>?_);obtain⟨L,I4⟩:=Y;subst L;exact G7 ⟨a,E,I4,qn⟩
 .refine G6 Y (HH (T.item X rfl rfl rfl Z i B4 S a E X.xe I3 (c C) A go) λr s4 Y=>?_);obtain⟨u,L,h4⟩:=Y;subst L;refine G6 Y (HH h4 λ_ R Y=>?_);obtain⟨x,H5,I5,r5,y5,t,O⟩:=Y;have P:=I5.pinned (c O) (T.obj _ _ t);refine G6 Y (HH (hg _ R a H5 x u _ P r5 (z x H5 y5)) λ_ s6 Y=>?_);obtain⟨F,H6,I6,q6⟩:=Y;refine G6 Y (HH (j _ s6 F H6 _ I6 q6) λf K q=>?_);have k:∀{U:St} {p:Hp},B6 X (B4++tR fp R.heap) U p K->N U p->∃m,m<n/\∃i σ' H',B6 X B4 σ' H' K/\Q i K.heap/\(∀b∈fp,H' b=g_)/\W i m σ' H':=λ{U p} l B=>by
   obtain⟨m',hm,w7⟩:=hN U p B;refine⟨m',hm,i+1,U,p,l.qG,T.keep _ _ _ t λb j o e=>(l.pin (b,o) (EA _ (EA _ (iW j e)))).1,λb j=>?_,w7⟩
   obtain⟨o,e,d⟩:=T.obj _ _ t b j;exact(l.pin (b,o) (EA _ (EA _ (iW j e)))).2.1
  cases f with
  |next=>obtain⟨U,p,l,B⟩:=q;exact k l B
  |cont=>obtain⟨U,p,l,B⟩:=q;exact k l B
  |brk=>obtain⟨U,p,l,q⟩:=q;exact⟨U,p,l.qG,q⟩
  |ret v=>obtain⟨x7,U,p,l,r7,q⟩:=q;exact⟨x7,U,p,l.qG,r7,q⟩
abbrev R2:=V->V->Hp->VK->Prop
variable{r r':R2}
def OpR(X:Cx)(f:h_->h_->NI h_)(r:R2):Prop:=
 ∀(B4:Pn) (s:k_) (σ:St) (H:Hp) (x y:V) (v u:h_) (Q:VK),B6 X B4 σ H s->D' x v->D' y u->r x y H Q ->
  o_ (u_ X.prog X.w) X.A (f v u) (EP X B4 σ Q) X.xe s
def UnR(X:Cx)(f:h_->NI h_)(r:V->Hp->VK->Prop):Prop:=
 ∀(B4:Pn) (s:k_) (σ:St) (H:Hp) (x:V) (v:h_) (Q:VK),B6 X B4 σ H s->D' x v->r x H Q ->
  o_ (u_ X.prog X.w) X.A (f v) (EP X B4 σ Q) X.xe s
def cK(X:Cx)(f:h_)(r:am->Hp->VK->Prop):Prop:=
 ∀(B4:Pn) (s:k_) (σ:St) (H:Hp) (xs:am) (us:as) (Q:VK),B6 X B4 σ H s->Ds xs us->r xs H Q ->
  o_ (u_ X.prog X.w) X.A (HG f us) (EP X B4 σ Q) X.xe s
def TruR(X:Cx)(r:V->Hp->(Bool->Hp->Prop)->Prop):Prop:=
 ∀(B4:Pn) (s:k_) (σ:St) (H:Hp) (x:V) (v:h_) (Q:Bool->Hp->Prop),B6 X B4 σ H s->D' x v->r x H Q ->
  o_ (u_ X.prog X.w) X.A (OI v) (TP X B4 σ Q) X.xe s
noncomputable def tOp(r:R2)(ta tb:TE):TE:=λσ H Q=>ta σ H λx H1=>tb σ H1 λy H2=>r x y H2 Q
noncomputable def tUn(r:V->Hp->VK->Prop)(ta:TE):TE:=λσ H Q=>ta σ H λx H1=>r x H1 Q
noncomputable def rI(C:Int->Int->Prop)(g:Int->Int->V):R2:=λx y H Q=>∃i j,x=.int i/\y=.int j/\C i j/\Q (g i j) H
noncomputable def rI0(g:Int->Int->V):R2:=λx y H Q=>∃i j,x=.int i/\y=.int j/\Q (g i j) H
def rU(g:Int->V):V->Hp->VK->Prop:=λx H Q=>∃i,x=.int i/\Q (g i) H
section
variable{a b:EM}
def binT(k:PE X a ta)(j:PE X b tb){s:k_}{R:V->V->Hp->Prop}(I:B6 X B4 σ H s)(h:ta σ H λx H1=>tb σ H1 λy H2=>R x y H2){Q:Vp}{f:h_->h_->NI h_}(i:∀v u Y x y H2,B6 X B4 σ H2 Y->D' x v->D' y u->R x y H2->o_ (u_ X.prog X.w) X.A (f v u) Q X.xe Y):
  o_ (u_ X.prog X.w) X.A (DC a X.env) (λv U=>o_ (u_ X.prog X.w) X.A (DC b X.env) (λu J=>o_ (u_ X.prog X.w) X.A (f v u) Q X.xe J) X.xe U) X.xe s:=by
 refine HH (k B4 s σ H _ I h) λv d c=>?_;obtain⟨x,H1,m,g,q1⟩:=c;refine HH (j B4 d σ H1 _ m q1) λu Y c=>?_;obtain⟨y,H2,l,e,q2⟩:=c;exact i v u Y x y H2 l g e q2
def pe_op{op:Operator}(c:OpR X (FX op) r)(e:PE X a ta)(d:PE X b tb):PE X (.BinOp a op b pos) (tOp r ta tb):=by intro B4 s σ H Q I h;exact wpAny_BinOp (binT e d I h λv u J x y H2 f Y U q=>c B4 J σ H2 x y v u Q f Y U q)
def pe_un{op:UnaryOp}{r:V->Hp->VK->Prop}(b:UnR X (OU op) r)(c:PE X a ta):PE X (.UnaryOp op a pos) (tUn r ta):=by intro B4 s σ H Q I h;refine UnaryOp_ (HH (c B4 s σ H _ I h) λv J Y=>?_);obtain⟨x,H1,d,U,q1⟩:=Y;exact b B4 J σ H1 x v Q d U q1
def opI{f:h_->h_->NI h_}{C:Int->Int->Prop}(J:∀(i j:Int) (t u:Tok) (s:k_) (Q:Vp) (E:Vp),C i j->Q (.int (g i j) s.toks) {s with toks:=s.toks+1}->o_ (u_ X.prog X.w) X.A (f (.int i t) (.int j u)) Q E s):
  OpR X f (rI C λi j=>.int (g i j)):=by
 intro B4 s σ H x y v u Q I Y U h;obtain⟨i,j,rfl,rfl,a,q⟩:=h;obtain⟨t,rfl⟩:=Y;obtain⟨t',rfl⟩:=U;exact J i j t t' s _ _ a ⟨.int (g i j),H,I.tok _,⟨_,rfl⟩,q⟩
def opI0{f:h_->h_->NI h_}(J:∀(i j:Int) (t u:Tok) (s:k_) (Q:Vp) (E:Vp),Q (.int (g i j) s.toks) {s with toks:=s.toks+1}->o_ (u_ X.prog X.w) X.A (f (.int i t) (.int j u)) Q E s):
  OpR X f (rI0 λi j=>.int (g i j)):=by
 intro B4 s σ H x y v u Q I Y U h;obtain⟨i,j,rfl,rfl,q⟩:=h;obtain⟨t,rfl⟩:=Y;obtain⟨t',rfl⟩:=U;exact J i j t t' s _ _ ⟨.int (g i j),H,I.tok _,⟨_,rfl⟩,q⟩
def opB0{f:h_->h_->NI h_}{g:Int->Int->Bool}(J:∀(i j:Int) (t u:Tok) (s:k_) (Q:Vp) (E:Vp),Q (.bool (g i j)) s->o_ (u_ X.prog X.w) X.A (f (.int i t) (.int j u)) Q E s):
  OpR X f (rI0 λi j=>.bl (g i j)):=by
 intro B4 s σ H x y v u Q I Y U h;obtain⟨i,j,rfl,rfl,q⟩:=h;obtain⟨t,rfl⟩:=Y;obtain⟨t',rfl⟩:=U;exact J i j t t' s _ _ ⟨.bl (g i j),H,I,rfl,q⟩
def CPow(i j:Int):Prop:=0<=j/\j<=1000000/\i.natAbs<2^64
def CMul(i j:Int):Prop:=(-(2^64)<i/\i<2^64)\/(-(2^64)<j/\j<2^64)
def CMul.ok{i j:Int}(h:CMul i j):IntMulOk i j:=by
 rcases h with⟨h1,h2⟩|⟨h1,h2⟩
 .exact .of_left (intBits_le_64 h1 h2)
 .exact .of_right (intBits_le_64 h1 h2)
def op_add:OpR X (FX .Add) (rI0 λi j=>.int (i+j)):=opI0 λ_ _ _ _ _ _ _ q=>add_int q
def op_sub:OpR X (FX .Sub) (rI0 λi j=>.int (i-j)):=opI0 λ_ _ _ _ _ _ _ q=>sub_int q
def op_mul:OpR X (FX .Mult) (rI CMul λi j=>.int (i*j)):=opI λ_ _ _ _ _ _ _ J q=>mul_int q J.ok
def op_mod:OpR X (FX .Mod) (rI (λ_ j=>0<j) λi j=>.int (i%j)):=opI λi j _ _ _ _ _ J q=>by have h1:(0:Int)<j:=J;exact mod_int' ac (by rw[Int.fmod_eq_emod_of_nonneg i ac];exact q)
def op_pow:OpR X (FX .Pow) (rI CPow λi j=>.int (i^j.toNat)):=opI λ_ _ _ _ _ _ _ J q=>pow_int_small J.1 J.2.1 J.2.2 q
def unI{f:h_->NI h_}{g:Int->Int}(J:∀(i:Int) (t:Tok) (s:k_) (Q:Vp) (E:Vp),Q (.int (g i) s.toks) {s with toks:=s.toks+1}->o_ (u_ X.prog X.w) X.A (f (.int i t)) Q E s):
  UnR X f (rU λi=>.int (g i)):=by
 intro B4 s σ H x v Q I U h;obtain⟨i,rfl,q⟩:=h;obtain⟨t,rfl⟩:=U;exact J i t s _ _ ⟨.int (g i),H,I.tok _,⟨_,rfl⟩,q⟩
def un_neg:UnR X (OU .USub) (rU λi=>.int (-i)):=unI λ_ _ _ _ _ q=>neg_int q
end
noncomputable def scal:V->V->Bool
 |.non,.non=>e_|.non,.int _=>e_|.int _,.non=>e_|.non,.bl _=>e_|.bl _,.non=>e_|.non,.str _=>e_|.str _,.non=>e_|.int _,.int _=>e_|.bl _,.bl _=>e_|.str _,.str _=>e_|.byt _,.byt _=>e_|.int _,.str _=>e_|.str _,.int _=>e_|.bl _,.str _=>e_|.str _,.bl _=>e_|_,_=>c_
def rNe:R2:=λx y H Q=>scal x y=e_/\Q (.bl (!decide (x=y))) H
def dec_int{i j:Int}:z_ (V.int i=V.int j)=(i==j):=by rw[Ht];simp
def dec_bl{i j:Bool}:z_ (V.bl i=V.bl j)=(i==j):=by rw[Ht];simp
def dec_str{i j:Dy}:z_ (V.str i=V.str j)=(i==j):=by rw[Ht];simp
def dec_byt{i j:Array UInt8}:z_ (V.byt i=V.byt j)=(i.toList==j.toList):=by rw[Ht];cases i;cases j;simp
section
variable{a b:EM}{tc:TE}
def eT{s:k_}{Q:VK}{k k':Bool}(I:B6 X B4 σ H s)(q:Q (.bl k) H)(e:k=k'):EP X B4 σ Q (.bool k') s:=by subst e;exact⟨.bl k,H,I,rfl,q⟩
def op_ne:OpR X (EU .NotEq) rNe:=by
 intro B4 s σ H x y v u Q I Y J h;obtain⟨U,q⟩:=h;cases x with
 |non=>
  cases Y;cases y with
  |non=>cases J;exact PySem.EqNone.ne_none_none (eT I q ad)|bl j=>cases J;exact PySem.EqNone.ne_none_bool (eT I q ad)|int j=>obtain⟨t',rfl⟩:=J;exact PySem.EqNone.ne_none_int (eT I q ad)
  |str j=>obtain⟨t',rfl⟩:=J;exact PySem.EqNone.ne_none_str (eT I q ad)
  |_=>exact DD (show c_=e_ from U) Dz
 |bl i=>
  cases Y;cases y with
  |non=>cases J;exact PySem.EqNone.ne_bool_none (eT I q ad)|bl j=>cases J;exact ne_bool (eT I q (Hd not dec_bl))|str j=>obtain⟨t',rfl⟩:=J;exact Pp (eT I q ad)
  |_=>exact DD (show c_=e_ from U) Dz
 |int i=>
  obtain⟨t,rfl⟩:=Y;cases y with
  |non=>cases J;exact PySem.EqNone.ne_int_none (eT I q ad)|int j=>obtain⟨t',rfl⟩:=J;exact ne_int (eT I q (Hd not dec_int))
  |str j=>obtain⟨t',rfl⟩:=J;exact Po (eT I q ad)
  |_=>exact DD (show c_=e_ from U) Dz
 |str i=>
  obtain⟨t,rfl⟩:=Y;cases y with
  |non=>cases J;exact PySem.EqNone.ne_str_none (eT I q ad)|bl j=>cases J;exact Pm (eT I q ad)|int j=>obtain⟨t',rfl⟩:=J;exact Pl (eT I q ad)
  |str j=>obtain⟨t',rfl⟩:=J;exact ne_str (eT I q (Hd not dec_str))
  |_=>exact DD (show c_=e_ from U) Dz
 |byt i=>
  obtain⟨t,rfl⟩:=Y;cases y with
  |byt j=>obtain⟨t',rfl⟩:=J;exact PySem.W.ne_bytes (eT I q (Hd not dec_byt))
  |_=>exact DD (show c_=e_ from U) Dz
 |_=>cases y<;>exact DD (show c_=e_ from U) Dz
def op_lt:OpR X (EU .Lt) (rI0 λi j=>.bl (z_ (i<j))):=opB0 λ_ _ _ _ _ _ _ q=>OA q
def op_le:OpR X (EU .LtE) (rI0 λi j=>.bl (z_ (i<=j))):=opB0 λ_ _ _ _ _ _ _ q=>le_int q
def op_gt:OpR X (EU .Gt) (rI0 λi j=>.bl (z_ (j<i))):=opB0 λ_ _ _ _ _ _ _ q=>gt_int q
def op_notN:OpR X (EU .IsNot) (λx y H Q=>y=.non/\Q (.bl (!decide (x=.non))) H):=by
 intro B4 s σ H x y v u Q I J U h;obtain⟨rfl,q⟩:=h;cases U;refine isnot_none_gen (eT I q ?_);cases x<;>first
  |(cases J;rfl)
  |(obtain⟨t,rfl⟩:=J;rfl)
def OpR.or{f:h_->h_->NI h_}(h:OpR X f r)(h':OpR X f r'):OpR X f (λx y H Q=>r x y H Q\/r' x y H Q):=by
 intro B4 s σ H x y v u Q I U J q;rcases q with q|q
 .exact h B4 s σ H x y v u Q I U J q
 .exact h' B4 s σ H x y v u Q I U J q
def BJ(b:EM)(h:(op≠.In)⁻¹)(h2:(op≠.NotIn)⁻¹):Il op b=c_:=by
 have e1:(op==CmpOp.In)=c_:=by cases op<;>first|rfl|exact DD rfl h
 have e2:(op==CmpOp.NotIn)=c_:=by cases op<;>first|rfl|exact DD rfl h2
 cases b<;>simp[Il,e1,e2]
def pe_cmpR(c:OpR X (EU op) r)(f:PE X a ta)(e:PE X b tb)(d:Il op b=c_):PE X (.Compare a [op] [b] pos) (tOp r ta tb):=by intro B4 s σ H Q I h;exact wpAny_Compare1 (binT f e I h λv u J x y H2 g Y U q=>c B4 J σ H2 x y v u Q g Y U q) d
noncomputable def tTest(t:TE):TT:=λσ H Q=>t σ H λx H'=>∃k,x=.bl k/\Q k H'
def Bn(i:OpR X (EU op) r)(m:PE X a ta)(l:PE X b tb)(j:Il op b=c_):PT X (.Compare a [op] [b] pos) (tTest (tOp r ta tb)):=by
 intro B4 s σ H Q I h;refine wpAny_isTrue_Compare1 (HH (m B4 s σ H _ I h) λv U ⟨x,H1,p,f,q1⟩=>HH (l B4 U σ H1 _ p q1) λu J ⟨y,H2,o,d,q2⟩=>HH (i B4 J σ H2 x y v u _ o f d q2) λc t ⟨z,q,n,Y,k,e,g⟩=>?_) j
 subst e;cases Y;exact Fp ⟨q,n,g⟩
noncomputable def AS(r r':R2)(ta tb tc:TE):TE:=λσ H Q=>ta σ H λx H1=>tb σ H1 λy H2=>r x y H2 λz J=>∃k,z=.bl k /\
 (if k=e_ then tc σ J λU Y=>r' y U Y Q else Q (.bl c_) J)
def pe_chain(A:OpR X (EU op) r)(J:OpR X (EU op') r')(E:PE X a ta)(D:PE X b tb)(C:PE X c tc)(B:autoParam (MY [op,op'] [b,c]=c_) Jq8):PE X (.Compare a [op,op'] [b,c] pos) (AS r r' ta tb tc):=by
 intro B4 s σ H Q I h;refine Compare_chain (HH (E B4 s σ H _ I h) λv o ⟨x,H1,K,t,q1⟩=>chain_link (HH (D B4 o σ H1 _ K q1) λu n ⟨y,H2,G,U,q2⟩=>HH (A B4 n σ H2 x y v u _ G t U q2) λd m ⟨z,g,f,q,k,e,Y⟩=>?_)) B
 subst e;cases q;refine Fp ?_;cases k with
 |false=>exact ite_ff ⟨.bl c_,g,f,rfl,Y⟩|true=>exact ite_tt (chain_last (HH (C B4 m σ g _ f Y) λj l ⟨i,L,F,p,w⟩=>J B4 l σ L y i u j Q F U p w))
def pt_chain(E:OpR X (EU op) r)(U:OpR X (EU op') r')(L:PE X a ta)(K:PE X b tb)(G:PE X c tc)(F:autoParam (MY [op,op'] [b,c]=c_) Jq8):PT X (.Compare a [op,op'] [b,c] pos) (tTest (AS r r' ta tb tc)):=by
 intro B4 s σ H Q I h;refine isTrue_chain (HH (L B4 s σ H _ I h) λv p ⟨x,H1,S,A,q1⟩=>test_link (HH (K B4 p σ H1 _ S q1) λu o ⟨y,H2,R,Y,q2⟩=>HH (E B4 o σ H2 x y v u _ R A Y q2) λd n ⟨z,i,g,w,k,e,f⟩=>?_)) F
 subst e;cases w;refine Fp ?_;cases k with
 |false=>obtain⟨k',N,D⟩:=f;cases N;exact ite_ff ⟨i,g,D⟩
 |true=>refine ite_tt (test_last (HH (G B4 n σ i _ g f) λl m J=>?_));obtain⟨j,W,P,t,C⟩:=J;refine HH (U B4 m σ W y j u l _ P Y t C) λd' s5 J=>?_;obtain⟨Z,T,O,q,k2,e2,B⟩:=J;subst e2;cases q;exact Fp ⟨T,O,B⟩
def TruV(K:Fg)(x:V)(H:Hp)(k:Bool):Prop:=
 match x with
 |.non=>k=c_|.bl b=>k=b|.int i=>k=(i != 0)|.str y=>y.length<=n_/\k=((y.length:Int) != 0)|.byt y=>y.size<=n_/\k=((y.size:Int) != 0)|.ref p=>(∃xs,SqL K H p xs/\k= !xs.isEmpty)\/(∃xs,SqT K H p xs/\k= !xs.isEmpty)\/∃J,H p=a_ (.dK J)/\k= !J.isEmpty
 |_=>False
def zQ{J:List (κ×V)}{vs:List (κ×h_)}(r:KV J vs):(!vs.isEmpty)= !J.isEmpty:=by cases r<;>rfl
def pY{xs:am}{its:as}(r:Ds xs its):(!its.toArray.isEmpty)= !xs.isEmpty:=by cases r<;>simp
def pQ:(n_:Nat)<2^63:=by rw[Ey];decide
def tru_ok:TruR X (λx H Q=>∃k,TruV X.K x H k/\Q k H):=by
 intro B4 s σ H x v Q I a h;obtain⟨k,e,q⟩:=h;have l:=pQ;have j:n_=16777216:=Ey;cases x with
 |non=>cases a;have J:k=c_:=e;subst J;exact truthy_none ⟨H,I,q⟩|bl b=>cases a;have J:k=b:=e;subst J;exact Fp ⟨H,I,q⟩|int i=>obtain⟨t,rfl⟩:=a;have J:k=(i != 0):=e;subst J;exact PySem.P.truthy_int ⟨H,I,q⟩
 |str y=>obtain⟨t,rfl⟩:=a;obtain⟨f,J⟩:y.length<=n_/\k=((y.length:Int) != 0):=e;subst J;exact PySem.P.truthy_str ac ⟨H,I.tok _,q⟩
 |byt y=>obtain⟨t,rfl⟩:=a;obtain⟨f,J⟩:y.size<=n_/\k=((y.size:Int) != 0):=e;subst J;exact PySem.W.truthy_bytes ac ⟨H,I.tok _,q⟩
 |ref p=>
  cases a;have J:(∃xs,SqL X.K H p xs/\k= !xs.isEmpty)\/(∃xs,SqT X.K H p xs/\k= !xs.isEmpty)\/∃U,H p=a_ (.dK U)/\k= !U.isEmpty:=e;rcases J with⟨xs,c,J⟩|⟨xs,c,J⟩|⟨U,c,J⟩
  .subst J;obtain⟨its,r,pl,d⟩:=I.list c;have Y:=r.length;exact wpAny_truthy_list pl.isList (by simp only[Dv];omega) ⟨H,I.tok _,by rw[pY r];exact q⟩
  .subst J;obtain⟨its,r,pl,d⟩:=I.tuple c;have Y:=r.length;exact truthy_tuple pl (by simp only[Dv];omega) ⟨H,I.tok _,by rw[pY r];exact q⟩
  .subst J;obtain⟨d,g,vs,r,m⟩:U.length<=n_/\(p==Fm)=c_/\∃vs,KV U vs/\s.heap.DictOf (vL X.prog X.w) p vs:=I.hok p _ c;have Y:U.length=vs.length:=IF r;exact wpAny_truthy_dict g m ac ⟨H,I.tok _,by rw[zQ r];exact q⟩
 |_=>exact(show False from e).elim
def pt_truth(d:PE X a ta)(c:∀J,Nk a X.env J=(do let v <- J;JT a.pos;Hh [v] (OI v))):
  PT X a (λσ H Q=>ta σ H λx H'=>∃k,TruV X.K x H' k/\Q k H'):=by
 intro B4 s σ H Q I h;refine isTrue_plain (HH (d B4 s σ H _ I h) λv U b=>?_) (c _);obtain⟨x,H1,e,Y,q1⟩:=b;exact tru_ok B4 U σ H1 x v Q e Y q1
def zg:OpR X (FX .Add) (λx y H Q=>∃i j,x=.str i/\y=.str j/\i.length+j.length<=n_/\Q (.str (i++j)) H):=by intro B4 s σ H x y v u Q I U J h;obtain⟨i,j,rfl,rfl,Y,q⟩:=h;obtain⟨t,rfl⟩:=U;obtain⟨t',rfl⟩:=J;exact add_str (λt' tk=>⟨.str (i++j),H,I.tok _,⟨_,rfl⟩,q⟩) Y
def vals1{x:V}(r:Ds [x] us):∃u,us=[u]/\D' x u:=by
 cases r with
 |cons U J=>cases J;exact⟨_,rfl,U⟩
def vals2{x:V}(r:Ds [x,y] us):∃u J,us=[u,J]/\D' x u/\D' y J:=by
 cases r with
 |cons b a=>
  cases a with
  |cons Y U=>cases U;exact⟨_,_,rfl,b,Y⟩
def De(U:X.calm=e_):cK X (.builtin "max") (λxs H Q=>∃i j,xs=[.int i,.int j]/\Q (.int (if j>i then j else i)) H):=by
 intro B4 s σ H xs us Q I r h;obtain⟨i,j,rfl,q⟩:=h;obtain⟨u,Y,rfl,⟨t,rfl⟩,⟨t',rfl⟩⟩:=vals2 r;refine max_two_ints (I.ok.hd U) λh' tk k=>⟨_,H,I.kept k,?_,q⟩
 by_cases J:j>i
 .rw[s_ J,s_ J];exact⟨_,rfl⟩
 .rw[q_ J,q_ J];exact⟨_,rfl⟩
def Dc(U:X.calm=e_):cK X (.builtin "min") (λxs H Q=>∃i j,xs=[.int i,.int j]/\Q (.int (if j<i then j else i)) H):=by
 intro B4 s σ H xs us Q I r h;obtain⟨i,j,rfl,q⟩:=h;obtain⟨u,Y,rfl,⟨t,rfl⟩,⟨t',rfl⟩⟩:=vals2 r;refine min_two_ints (I.ok.hd U) λh' tk k=>⟨_,H,I.kept k,?_,q⟩
 by_cases J:j<i
 .rw[s_ J,s_ J];exact⟨_,rfl⟩
 .rw[q_ J,q_ J];exact⟨_,rfl⟩
end
structure ObjM(h:Eg)(x dx C:i_)(mA:Mq):Prop where
 obj:h.get? x=a_ (Gx C dx)
 ns:h.Ns1 dx mA
 ne:dx≠x
def nk(n:h.Ns1 dx mA):∃od,h.get? dx=a_ od/\∀name,IB name od=a_ (mA name):=by
 obtain⟨o,es,ep,Y,hd,c,_,b⟩:=n;refine⟨o,Y,λname=>?_⟩
 have e:=b name;unfold nsFind findBy at e;rw[<- MW]at e;unfold IB;rw[hd];dsimp only;split
 .rename_i y q;rw[q]at e;exact Hd a_ e
 .rename_i q;rw[q]at e;have a:es.toList.any (·.refKey)=c_:=by
   rw[List.any_eq_false];intro y U;obtain⟨z,t,J⟩:=c y (Array.mem_toList_iff.mp U);simp[DictEntry.refKey,J]
  have a':¬es.toList.any (·.refKey)=e_:=by rw[a];exact Dz
  rw[q_ a'];exact Hd a_ e
def ObjM.look{x:i_}(I:ObjM h x dx C mA):∃od,Ge h x (Gx C dx) C (a_ od)/\∀name,IB name od=a_ (mA name):=
 let ⟨od,J,U⟩:=nk I.ns
 ⟨od,⟨I.obj,rfl,rfl,J⟩,U⟩
section
variable{s:k_}{x f:i_}{v:h_}
def get_map{U:Bool}{Q:Vp}(X:K.In s.heap)(I:ObjM s.heap x dx C mA)(b:K_ K C name=e_)(hh:GW K C=e_)(c:DB K (.ref C) name=a_ g_)(hv:mA name=a_ v)(Y:LA v=e_)(h:Q v {s with toks:=s.toks+1}):
  o_ (u_ prog w) A (Nm (.ref x) name U) Q E s:=by
 obtain⟨od,J,a⟩:=I.look;exact PySem.W.get_value X J (JG b).1 (Ox hh c rfl (by rw[a,hv])) Y h
def get_meth{Q:h_×as->k_->Prop}(X:K.In s.heap)(I:ObjM s.heap x dx C mA)(U:K_ K C name=e_)(b:DB K (.ref C) name=a_ (a_ (.ref f)))(Y:isFn K (.ref f)=e_)(hv:mA name=g_)(h:Q (.ref f,[.ref x]) s):
  o_ (u_ prog w) A (KC (.ref x) name pl) Q E s:=by
 obtain⟨od,J,a⟩:=I.look;exact PySem.W.method_fn X J (JG U).1 (JG U).2 b (FU.mp Y) (by show(IB name od).map (·.isSome)=a_ c_;rw[a,hv];rfl) h
def set_map{ns:List Dy}(X:K.In s.heap)(I:ObjM s.heap x dx C mA)(j:DB K (.ref C) "__setattr__"=a_ (a_ (.builtin "object.__setattr__")))(k:M4 K C=e_)(i:takerIn K C name=a_ g_)(hh:GW K C=e_)(hw:Ih mA ns)(hsz:ns.length<=n_)(h:∀h',ObjM h' x dx C (λy=>if y=name then a_ v else mA y)->FN dx s.heap h'->Q () {s with heap:=h',toks:=s.toks+2}):
  o_ (u_ prog w) A (OY (.ref x) name v) Q E s:=by
 obtain⟨od,J,p⟩:=I.look;refine O5 X J j (PySem.W.osa_open (s:={s with toks:=s.toks+1}) (r:=g_) X J k i λb=>?_);obtain⟨cd,l,e⟩:=LQ hh;have g:s.heap.get? x=a_ ⟨.ref C,a_ dx,.plain,#[]⟩:=I.obj;refine b_ (f_ (b_ (b_ (Ma g (b_ (MN (s:={s with toks:=s.toks+1}) (LP X l) ?_))))));rw[e];refine f_ (a:=a_ dx) (b_ (f_ (b_ ?_)));refine wpAny_nsSet1 (s:={s with toks:=s.toks+1}) I.ns λh' Y U=>?_;obtain⟨o,m,n,c,d,f⟩:=Y.count (ML name v hw);refine b_ (Pd c (by rw[d];exact Ph (Ee f (by rw[B_];omega))) ?_);exact f_ (h _ ⟨(U.2 _ (Em I.ne)).trans I.obj,Y,I.ne⟩ U)
def make_map{R:K0->k_->Prop}{vs:as}(X:K.In s.heap)(U:Np K C=e_)(hi:DB K (.ref C) "__init__"=a_ (a_ (.ref f)))(Y:FP K (.ref f)=a_ (.type "function"))(h:Hi (u_ prog w) (A.under (.builtin "type.__call__" ⟨.ref C::vs,kw⟩)) (.call (.ref f) ⟨.ref (s.heap.objs.size+1)::vs,kw⟩) (PySem.W.InitBack (s.heap.objs.size+1) R)
   {s with heap:=(s.heap.push ET).push (Gx C s.heap.objs.size)}):
  Hi (u_ prog w) A (.call (.ref C) ⟨vs,kw⟩) R s:=by
 obtain⟨hh,g,d,t,os⟩:=s;exact PySem.W.make_core (PySem.W.makes_of X U) (Hx X hi) (λJ=>PySem.W.bind_fn X J Y) (.inl rfl) h
end
def sM(f:Dy)(v:V):List (Dy×V)->List (Dy×V)
 |[]=>[(f,v)]|(g,x)::r=>if g=f then(g,v)::r else(g,x)::sM f v r
theorem nj(f g:Dy)(v:V):∀fs:List (Dy×V),(sM f v fs).lookup g=if g=f then a_ v else fs.lookup g
 |[]=>by
  show DF g [(f,v)]=_;by_cases h:g=f
  .have J:(g==f)=e_:=FU.mpr h;simp only[DF,J,s_ h]
  .have J:(g==f)=c_:=GB.mpr h;simp only[DF,J,q_ h]
 |(k,x)::r=>by
  have Y:=nj f g v r;rw[show sM f v ((k,x)::r)=(if k=f then(k,v)::r else(k,x)::sM f v r)from rfl];by_cases U:k=f
  .rw[s_ U];by_cases h:g=k
   .have J:(g==k)=e_:=FU.mpr h;simp only[DF,J,s_ (h.trans U)]
   .have J:(g==k)=c_:=GB.mpr h;simp only[DF,J,q_ (λe:g=f=>h (e.trans U.symm))]
  .rw[q_ U];by_cases h:g=k
   .have J:(g==k)=e_:=FU.mpr h;simp only[DF,J,q_ (λe:g=f=>U (h.symm.trans e))]
   .have J:(g==k)=c_:=GB.mpr h;simp only[DF,J];exact Y
theorem nA(f:Dy)(v:V):∀fs:List (Dy×V),f∈(sM f v fs).map (·.1)/\∀g,g∈fs.map (·.1)->g∈(sM f v fs).map (·.1)
 |[]=>⟨by simp[sM],λg h=>by simp at h⟩|(k,x)::r=>by
  obtain⟨Y,U⟩:=nA f v r;rw[show sM f v ((k,x)::r)=(if k=f then(k,v)::r else(k,x)::sM f v r)from rfl];by_cases J:k=f
  .rw[s_ J];subst J;exact⟨ad,λg h=>by simpa using h⟩
  .rw[q_ J];refine⟨?_,λg h=>?_⟩
   .rw[x_];exact DQ _ Y
   .rw[x_]at h ⊢;rcases p_.mp h with e|e
    .exact p_.mpr (.inl e)
    .exact DQ _ (U g e)
theorem nv(f:Dy)(v:V):∀fs:List (Dy×V),(sM f v fs).length<=fs.length+1
 |[]=>by simp[sM]|(k,x)::r=>by
  have U:=nv f v r;rw[show sM f v ((k,x)::r)=(if k=f then(k,v)::r else(k,x)::sM f v r)from rfl];by_cases J:k=f
  .rw[s_ J,B_,B_];omega
  .rw[q_ J,B_,B_];omega
def pq.some_of{o:Option h_}(r:pq (a_ v) o):∃u,o=a_ u/\D' v u:=by
 cases o with
 |none=>exact(show False from r).elim|some u=>exact⟨u,rfl,r⟩
def pq.none_of{o:Option h_}(r:pq g_ o):o=g_:=by
 cases o with
 |none=>rfl|some u=>exact(show False from r).elim
def nE(r:D' v u):LA u=e_:=by
 cases v with
 |non=>cases(show u=Er from r);rfl|bl b=>cases(show u=La b from r);rfl|int i=>obtain⟨t,e⟩:=(show ∃t,u=Hv i t from r);cases e;rfl
 |str x=>obtain⟨t,e⟩:=(show ∃t,u=Nq x t from r);cases e;rfl
 |byt b=>obtain⟨t,e⟩:=(show ∃t,u=O7 b t from r);cases e;rfl
 |flt b=>obtain⟨t,e⟩:=(show ∃t,u=O6 b t from r);cases e;rfl
 |ref a=>cases(show u=w_ a from r);rfl|ty n=>cases(show u=Gf n from r);rfl
section
variable{fs:List (Dy×V)}
def vU(J:HOk P w H h)(e:H a=a_ (.ins C dx fs)):∃mA,ObjM h a dx C mA/\(∀f,pq (fs.lookup f) (mA f))/\Ih mA (fs.map (·.1))/\fs.length<=1000/\H dx=a_ (.own a):=by
 obtain⟨d,z,Y,U,mA,n,r,q⟩:=(show cz P w H h a (.ins C dx fs)from J a _ e)
 exact⟨mA,⟨U,n,Y⟩,r,q,z,d⟩
end
structure Cls(K:Fg)(C:i_):Prop where
 pg:K_ K C N8=e_
 hd:GW K C=e_
 po:M4 K C=e_
 sa:DB K (.ref C) "__setattr__"=a_ (a_ (.builtin "object.__setattr__"))
def Cls.get(c:Cls K C)(f:Dy):K_ K C f=e_:=c.pg
def ic(K:Fg)(C:i_)(f:Dy):Prop:=DB K (.ref C) f=a_ g_
def ic.taker{f:Dy}(n:ic K C f):takerIn K C f=a_ g_:=by unfold takerIn;rw[show DB K (.ref C) f=a_ g_ from n];rfl
structure Meth(K:Fg)(C:i_)(m:Dy)(f:i_):Prop where
 at_:DB K (.ref C) m=a_ (a_ (.ref f))
 fn:isFn K (.ref f)=e_
 kp:Gw K (.ref f)=e_
section
variable{s:k_}{fs:List (Dy×V)}{f:Dy}
def zR{b:Bool}{Q:Vp}(I:B6 X B4 σ H s)(e:H a=a_ (.ins C dx fs))(c:Cls X.K C)(n:ic X.K C f)(l:fs.lookup f=a_ v)(h:∀u s',B6 X B4 σ H s'->D' v u->Q u s'):o_ (u_ X.prog X.w) A (Nm (.ref a) f b) Q E s:=by obtain⟨mA,O,r,_,_,_⟩:=vU I.hok e;obtain⟨u,U,J⟩:=pq.some_of (v:=v) (o:=mA f) (by rw[<- l];exact r f);exact get_map I.kIn O (c.get f) c.hd n U (nE J) (h u _ (I.tok _) J)
def pZ{g:i_}{Q:h_×as->k_->Prop}(I:B6 X B4 σ H s)(e:H a=a_ (.ins C dx fs))(c:Cls X.K C)(k:Meth X.K C m g)(l:fs.lookup m=g_)(h:Q (.ref g,[.ref a]) s):o_ (u_ X.prog X.w) A (KC (.ref a) m pl) Q E s:=by obtain⟨mA,O,r,_,_,_⟩:=vU I.hok e;have J:mA m=g_:=pq.none_of (by rw[<- l];exact r m);exact get_meth I.kIn O (c.get m) k.at_ k.fn J h
def yM(I:B6 X B4 σ H s)(e:H a=a_ (.ins C dx fs))(c:Cls X.K C)(n:ic X.K C f)(l:fs.length<1000)(Y:D' y u)(h:∀s',B6 X B4 σ (upd H a (.ins C dx (sM f y fs))) s'->Q () s'):o_ (u_ X.prog X.w) A (OY (.ref a) f u) Q E s:=by
 obtain⟨mA,O,r,wi,_,J⟩:=vU I.hok e;have d:(fs.map (·.1)).length<=n_:=by rw[y_,Ey];omega
 refine set_map I.kIn O c.sa c.po n.taker c.hd wi d λh' O' U=>h _ ?_;have hd:∃o,h'.get? dx=a_ o:=let ⟨o,_,_,k,_⟩:=O'.ns;⟨o,k⟩;refine I.write (x:=a) (e:=dx) (by rw[e];exact Hu) (.inr J) (λb q j z=>(U.2 b j).trans z) hd ?_;refine⟨by rw[aq O.ne];exact J,?_,O.ne,O'.obj,_,O'.ns,λg=>?_,λg i=>?_⟩
 .have:=nv f y fs;omega
 .show pq ((sM f y fs).lookup g) (if g=f then a_ u else mA g);rw[nj];by_cases q:g=f
  .rw[s_ q,s_ q];exact Y
  .rw[q_ q,q_ q];exact r g
 .by_cases q:g=f
  .rw[q];exact(nA f y fs).1
  .refine(nA f y fs).2 g (wi g λz=>i ?_);show(if g=f then a_ u else mA g)=g_;rw[q_ q];exact z
def B6.made(I:B6 X B4 σ H s):B6 X B4 σ (upd (upd H s.heap.objs.size (.own (s.heap.objs.size+1))) (s.heap.objs.size+1) (.ins C s.heap.objs.size []))
  {s with heap:=(s.heap.push ET).push (Gx C s.heap.objs.size)}:=by
 have e1:(s.heap.push ET).get? s.z=a_ ET:=l_ s.heap rfl;have e2:((s.heap.push ET).push (Gx C s.z)).get? (s.z+1)=a_ (Gx C s.z):=by
  have:=l_ (s.heap.push ET) (o:=Gx C s.z) rfl
  rwa [DZ]at this
 have e3:(s.heap.push ET).Ns s.z (λ_=>g_):=⟨ET,#[],_,e1,rfl,(λe Y=>DD Y ad),λ_=>rfl⟩
 have c:=I.laid (a:=s.z) (o:=.own (s.z+1)) (h':=s.heap.push ET) (t':=s.toks) (λb u q=>d_ _ q) (t_ _) ⟨_,e1⟩;refine c.laid (a:=s.z+1) (o:=.ins C s.z []) (t':=s.toks) (λb u q=>d_ _ q) (KQ (DZ _ _)) ?_;have J:s.z≠s.z+1:=Dx (Fz _);refine⟨by rw[aq J,ak],E1 _,J,e2,λ_=>g_,(Mm e3).at λo q=>d_ _ q,λ_=>Hu,λy U=>DD rfl U⟩
def wF{env:LH}{f:Dy}{s:k_}{Q:Vp}(U:E5 e f env (DC e env)=DC e env)(h:o_ (u_ prog w) A (DC e env) (λo J=>o_ (u_ prog w) A (Nm o f e_) Q E J) E s):o_ (u_ prog w) A (DC (.Attribute e f pos) env) Q E s:=
 Attribute_any_ h (by rw[arm_eval_Attribute,U])
end
def tFld(K:Fg)(ta:TE)(f:Dy):TE:=λσ H Q=>ta σ H λx H1=>∃a C dx fs v,x=.ref a/\H1 a=a_ (.ins C dx fs)/\Cls K C/\ic K C f/\fs.lookup f=a_ v/\Q v H1
def sFld(K:Fg)(ta tv:TE)(f:Dy):TS:=λD σ H=>tv σ H λy H1=>ta σ H1 λx H2=>∃a C dx fs,x=.ref a/\H2 a=a_ (.ins C dx fs)/\Cls K C/\ic K C f/\fs.length<1000 /\
 D.nx σ (upd H2 a (.ins C dx (sM f y fs)))
section
variable{o value:EM}{f:Dy}{tv:TE}
def By(b:PE X e ta)(d:E5 e f X.env (DC e X.env)=DC e X.env):PE X (.Attribute e f pos) (tFld X.K ta f):=by intro B4 s σ H Q I h;refine wF d (HH (b B4 s σ H _ I h) λu m Y=>?_);obtain⟨x,H1,i,J,a,C,dx,fs,v,ex,ea,c,n,l,q⟩:=Y;subst ex;obtain rfl:u=w_ a:=J;exact zR i ea c n l λj k g U=>⟨v,H1,g,U,q⟩
def ps_fld(g:PE X o ta)(hv:PE X value tv)(e:Fd value (a_ (.Attribute o f pos')) pos.line X.env=Ff c_):PS X (.Assign [.Attribute o f pos'] value pos) (sFld X.K ta tv f):=by intro B4 s σ H D I h;refine Lm (HH (hv B4 s σ H _ I h) λu U J=>?_) e;obtain⟨y,H1,k,Y,q⟩:=J;refine HH (g B4 U σ H1 _ k q) λd p J=>?_;obtain⟨x,H2,j,b,a,C,dx,fs,ex,ea,c,n,l,q2⟩:=J;subst ex;obtain rfl:d=w_ a:=b;exact yM j ea c n l Y λm i=>⟨σ,_,i,q2⟩
end
inductive Au(K:Fg)(H:Hp):V->h_->Prop where
 |non:Au K H .non (.type "NoneType")
 |bl (x:Bool):Au K H (.bl x) (.type "bool")
 |int (i:Int):Au K H (.int i) (.type "int")
 |str (x:Dy):Au K H (.str x) (.type "str")
 |flt (x:UInt64):Au K H (.flt x) (.type "float")
 |lst {a:i_} {xs:List V} (e:H a=a_ (.lst xs)):Au K H (.ref a) (.type "list")
 |frz {a:i_} {o:H9} {xs:List V} (e:H a=a_ (.frz o (.lst xs))):Au K H (.ref a) (.type "list")
 |tup {a:i_} {xs:List V} (e:H a=a_ (.tup xs)):Au K H (.ref a) (.type "tuple")
 |dK {a:i_} {B':List (Key×V)} (e:H a=a_ (.dK B')):Au K H (.ref a) (.type "dict")
 |dT {a:i_} {B':List (List Key×V)} (e:H a=a_ (.dT B')):Au K H (.ref a) (.type "dict")
 |ins {a C dx:i_} {fs:List (Dy×V)} (e:H a=a_ (.ins C dx fs)) (cl:Cls K C) (ha:DB K (.ref C) "__class__"=a_ (a_ (.builtin "object.__class__")))
   (hn:KD K (.builtin "object.__class__") "__get__"=a_ (a_ (.builtin "getset_descriptor.__get__"))) (htk:O4 K (.builtin "object.__class__")=a_ e_)
   (hm:Fl K C (.type "object")=a_ e_):Au K H (.ref a) (.ref C)
structure eW(k:Nat)(A:Fu):Prop where
 hd:A.handled=g_
 dp:A.depth+3*k+5<recursionLimit
 un:A.units+16*k+200<Ez
def eW.mono(r:eW k A)(h:j<=k):eW j A:=⟨r.hd,by have:=r.dp;omega,by have:=r.un;omega⟩
theorem eW.deeper{k:Nat}{A:Fu}(r:eW (k+1) A)(env:LH):eW k (A.deeper env):=
 ⟨r.hd,by have:=r.dp;show A.depth+1+3*k+5<_;omega,by have:=r.un;show A.units+3+16*k+200<_;omega⟩
def zy:(A.under (.builtin "type.__call__" ⟨.ref C::us,kw⟩)).depth=A.depth+1:=by first|rfl|simp[Around.under,Code.weight,Code.isCreation,Code.isGuard,Code.isCaller,Code.frames,Code.isFrame,guardIds]
def zx:(A.under (.builtin "type.__call__" ⟨.ref C::us,kw⟩)).units=A.units+1:=by first|rfl|simp[Around.under,Code.cUnits,Code.frames,Code.isFrame]
def eW.make(r:eW (k+1) A)(C:i_)(us:as)(kw:List (Dy×h_)):eW k (A.under (.builtin "type.__call__" ⟨.ref C::us,kw⟩)):=
 ⟨r.hd,by have:=r.dp;rw[zy];omega,by have:=r.un;rw[zx];omega⟩
theorem eW.depth{k:Nat}{A:Fu}(r:eW k A):A.depth<recursionLimit:=by have:=r.dp;omega
theorem eW.units{k:Nat}{A:Fu}(r:eW k A):A.units+64<Ez:=by have:=r.un;omega
noncomputable def wX:TA:=λ_ H Q=>Q [] H
def gT(ta:TE)(J:TA):TA:=λσ H Q=>ta σ H λx H1=>J σ H1 λxs H2=>Q (x::xs) H2
def bR:PA X [] wX:=λ_ _ _ _ H Q I h=>Ku ⟨[],H,I,.nil,h⟩
def aN(d:PE X e te)(c:PA X es t)(b: ~~~(j_ (e::es) X.env=(c_,DC e X.env)::j_ es X.env)):PA X (e::es) (gT te t):=by intro pos B4 s σ H Q I h;rw[b];show o_ _ _ (spliced ((c_,DC e X.env)::EG pos (j_ es X.env))) _ _ s;refine GN (HH (d B4 s σ H _ I h) λu U J=>?_);obtain⟨x,H1,g,a,q1⟩:=J;refine HH (c pos B4 U σ H1 _ g q1) λus i J=>?_;obtain⟨xs,H2,f,Y,q2⟩:=J;exact⟨x::xs,H2,f,.cons a Y,q2⟩
def tTup(t:TA):TE:=λσ H Q=>t σ H λxs H1=>xs.length<=n_/\∀p,H1 p=g_->Q (.ref p) (upd H1 p (.tup xs))
def tLst(t:TA):TE:=λσ H Q=>t σ H λxs H1=>xs.length<=n_/\∀p,H1 p=g_->Q (.ref p) (upd H1 p (.lst xs))
def pe_tup{Y}(h:PA X es t):PE X (.Tuple es Y pos) (tTup t):=by
 intro B4 s σ H Q I a;refine wpAny_Tuple_spliced (HH (h pos B4 s σ H _ I a) λus J c=>?_);obtain⟨xs,H1,U,r,z,q⟩:=c;refine⟨by rw[<- r.length];exact z,?_⟩
 have d:H1 J.z=g_:=U.hok.fresh (t_ _);refine⟨.ref J.z,upd H1 J.z (.tup xs),U.laid (t':=J.toks) (λb u e=>d_ _ e) (t_ _) ?_,rfl,q _ d⟩
 exact⟨z,us,r,⟨_,l_ _ rfl,rfl,_,rfl⟩⟩
def pe_lst(h:PA X es t):PE X (.List es pos) (tLst t):=by
 intro B4 s σ H Q I Y;refine wpAny_List_spliced (HH (h pos B4 s σ H _ I Y) λus J a=>?_);obtain⟨xs,H1,U,r,z,q⟩:=a;refine⟨by rw[<- r.length];exact z,?_⟩
 have c:H1 J.z=g_:=U.hok.fresh (t_ _);refine⟨.ref J.z,upd H1 J.z (.lst xs),U.laid (t':=J.toks) (λb u e=>d_ _ e) (t_ _) ?_,rfl,q _ c⟩
 exact⟨z,us,0,r,l_ _ rfl⟩
abbrev Sp:=am->Hp->VK->XK->Prop
variable{sp:Sp}
abbrev CXT:=List LH->Hp->k_->XK->Vp
variable{CX:CXT}
structure Env0(P:EC)(w:Fe)(K:Fg)(mg:Mq)(base:Eg)(A:Fu)(outer:List LH)(s:k_)(H:Hp):Prop where
 frames:A.frames=a_ outer
 mod:Mod K mg base
 bs:∀b o,base.get? b=a_ o->s.heap.get? b=a_ o/\H b=g_
 bsz:base.objs.size<=s.heap.objs.size
 rO:s.heap.FunFrames base outer
 frf:∀b∈frs outer,H b=g_
 hok:HOk P w H s.heap
 bare:Jn s.gens
def CE(outer:List LH)(P:EC)(w:Fe)(H:Hp)(s:k_)(Q:VK)(u:h_)(s':k_):Prop:=
 ∃v H',s'.os=s.os/\Jn s'.gens/\Un (frs outer) [] H H' s.heap s'.heap/\HOk P w H' s'.heap/\D' v u/\Q v H'
def CR(CX:CXT)(outer:List LH)(P:EC)(w:Fe)(H:Hp)(s:k_)(Q:VK)(E:XK)(r:K0)(s':k_):Prop:=
 match r with
 |.ok (.ret u)=>CE outer P w H s Q u s'|.ok _=>False|.error e=>CX outer H s E e s'
structure eJ(P:EC)(w:Fe)(K:Fg)(mg:Mq)(base:Eg)(CX:CXT)(k:Nat)(f:i_)(fd:Gi)(ps:List Dy)(sp:Sp):Prop where
 len:∀vs H Q E,sp vs H Q E->vs.length=ps.length
 run:∀(A:Fu) (outer:List LH) (s:k_) (H:Hp) (args:Args) (us:as) (vs:am) (Q:VK) (E:XK),eW k A->Env0 P w K mg base A outer s H->KI s fd args (ps.zip us)->Ds vs us->sp vs H Q E ->
  Hi (u_ P w) A (.call (.ref f) args) (CR CX outer P w H s Q E) s
def Env0.make{base:Eg}{s:k_}(e:Env0 P w K mg base A outer s H)(C:i_)(us:as)(kw:List (Dy×h_)):
  Env0 P w K mg base (A.under (.builtin "type.__call__" ⟨.ref C::us,kw⟩)) outer s H:=⟨by first|exact e.frames|(simpa[Around.under,Code.envs,Code.isFrame,pushEnvs] using e.frames),e.mod,e.bs,e.bsz,e.rO,e.frf,e.hok,e.bare⟩
section
variable{s:k_}
def B6.env0(I:B6 X B4 σ H s):Env0 X.prog X.w X.K X.mg X.base X.A X.stack s H:=
 ⟨I.ok.frames,I.ok.mod,I.bs,Ee I.ok.bsz I.sz,I.stack,I.AW,I.hok,I.bare⟩
def B6.after{Q:VK}(I:B6 X B4 σ H s)(h:CE X.stack X.prog X.w H s Q u s'):EP X B4 σ Q u s':=by obtain⟨v,H',os,J,a,Y,r,q⟩:=h;obtain⟨hh,g,d,t,U⟩:=s';obtain rfl:U=s.os:=os;exact⟨v,H',I.call (h':=hh) (g':=g) (d':=d) (t':=t) (ch:=[]) a Y J (λb z=>DD z ad),r,q⟩
end
noncomputable def tCall(sp:Sp)(dvs:am)(E:XK)(t:TA):TE:=λσ H Q=>t σ H λvs H1=>sp (vs++dvs) H1 Q E
def tMeth(C:i_)(m:Dy)(sp:Sp)(dvs:am)(E:XK)(ta:TE)(t:TA):TE:=λσ H Q=>ta σ H λx H1=>∃a dx fs,x=.ref a/\H1 a=a_ (.ins C dx fs)/\fs.lookup m=g_ /\
 t σ H1 λvs H2=>sp (x::(vs++dvs)) H2 Q E
def tMake(C:i_)(sp:Sp)(dvs:am)(E:XK)(t:TA):TE:=λσ H Q=>t σ H λvs H1=>∀x dx,H1 x=g_->H1 dx=g_->dx≠x ->
 sp (.ref x::(vs++dvs)) (upd (upd H1 dx (.own x)) x (.ins C dx [])) (λv H2=>v=.non/\Q (.ref x) H2) E
def Binds(K:Fg)(fd:Gi)(ps:List Dy)(ds:as):Prop:=
 ∀(s:k_) (us:as),K.In s.heap->(us++ds).length=ps.length->KI s fd ⟨us,[]⟩ (ps.zip (us++ds))
def Binds.all(h:∀us:as,us.length=ps.length->Kp fd ⟨us,[]⟩=Ff (ps.zip us)):Binds K fd ps []:=λs us _ J=>by rw[Fc]at J ⊢;exact .of_eq (h us J)
def Passes(CX:CXT)(X:Cx)(E:XK):Prop:=∀(B4:Pn) (σ:St) (H:Hp) (s:k_) (e:h_) (s':k_),B6 X B4 σ H s->CX X.stack H s E e s'->X.xe e s'
section
variable{f:i_}{dvs:List V}{ds:List h_}{E:XK}{apos:Pos}{o:EM}
theorem xa{s:k_}{Q:VK}(F:eJ X.prog X.w X.K X.mg X.base CX k f fd ps sp)(a:eW k X.A)(c:Binds X.K fd ps ds)(hd:Ds dvs ds)(Y:Passes CX X E)(I:B6 X B4 σ H s)(r:Ds vs us)(h:sp (vs++dvs) H Q E):o_ (u_ X.prog X.w) X.A (HG (.ref f) us) (EP X B4 σ Q) X.xe s:=by
 have U:Ds (vs++dvs) (us++ds):=r.append hd;have b:(us++ds).length=ps.length:=by rw[<- U.length];exact F.len _ _ _ _ h
 refine JS (Gd (F.run X.A X.stack s H ⟨us,[]⟩ (us++ds) (vs++dvs) Q E a I.env0 (c s us I.kIn b) U h) λr s' J=>?_);cases r with
 |error e=>exact Y B4 σ H s e s' I J|ok fl=>
  cases fl with
  |ret u=>exact I.after J|next=>exact Ej J|brk=>exact Ej J|cont=>exact Ej J
def n5(F:eJ X.prog X.w X.K X.mg X.base CX k f fd ps sp)(b:eW k X.A)(i:Gl X x)(d:X.mg x=a_ (.ref f))(g:Gw X.K (.ref f)=e_)(l:Binds X.K fd ps ds)(hd:Ds dvs ds)(a:Passes CX X E)(m:PA X (e::es) t)(U:((x==("__debug__":Dy))=c_)⁻¹)(j: ~~~(j_ (e::es) X.env=(c_,DC e X.env)::j_ es X.env))(J: ~~~((EG pos (j_ es X.env)).any (·.1)=c_)):
  PE X (.Call (.Name x p) (e::es) [] pos) (tCall sp dvs E t):=by
 intro B4 s σ H Q I h;refine FD (fH I i d ?_ U);refine IW (h₀:=X.base) I.ok.mod.kin g (HH (m pos B4 s σ H _ I h) λus n c=>?_) j J;obtain⟨vs,H1,Y,r,q⟩:=c;refine⟨Y.kIn,?_⟩
 exact xa F b l hd a Y r q
def pe_meth(y:PE X o ta)(c:Cls X.K C)(d:Meth X.K C m f)(F:eJ X.prog X.w X.K X.mg X.base CX k f fd ps sp)(w:eW k X.A)(z:Binds X.K fd ps ds)(hd:Ds dvs ds)(p:Passes CX X E)(A:PA X (e::es) t)(J: ~~~(j_ (e::es) X.env=(c_,DC e X.env)::j_ es X.env))(U: ~~~((EG pos (j_ es X.env)).any (·.1)=c_))(v: ~~~(DC (.Call (.Attribute o m apos) (e::es) [] pos) X.env=(do
   let b <- DC o X.env
   JT apos.atName
   let (f,first) <- Hh [b] (KC b m pl)
   N4 pos f first (EG pos (j_ (e::es) X.env)) (Ir pos (GZ [] X.env))))):
  PE X (.Call (.Attribute o m apos) (e::es) [] pos) (tMeth C m sp dvs E ta t):=by
 intro B4 s σ H Q I h;refine Jc (pl:=pl) (HH (y B4 s σ H _ I h) λu j Y=>?_) v;obtain⟨x,H1,i,n,a,dx,fs,ex,ea,l,q⟩:=Y;subst ex;obtain rfl:u=w_ a:=n;refine pZ i ea c d l ?_;refine IW (first:=[.ref a]) (h₀:=X.base) I.ok.mod.kin d.kp (HH (A pos B4 j σ H1 _ i q) λus B Y=>?_) J U;obtain⟨vs,H2,g,r,q2⟩:=Y;refine⟨g.kIn,?_⟩
 exact xa (us:=.ref a::us) (vs:=.ref a::vs) F w z hd p g (.cons rfl r) q2
def pe_meth0(j:PE X o ta)(c:Cls X.K C)(Y:Meth X.K C m f)(F:eJ X.prog X.w X.K X.mg X.base CX k f fd ps sp)(g:eW k X.A)(n:Binds X.K fd ps ds)(hd:Ds dvs ds)(d:Passes CX X E)(e: ~~~(DC (.Call (.Attribute o m apos) [] [] pos) X.env=(do
   let U <- DC o X.env
   JT apos.atName
   let (f,first) <- Hh [U] (KC U m pl)
   N4 pos f first (EG pos (j_ [] X.env)) (Ir pos (GZ [] X.env))))):
  PE X (.Call (.Attribute o m apos) [] [] pos) (tMeth C m sp dvs E ta wX):=by
 intro B4 s σ H Q I h;refine Jc (pl:=pl) (HH (j B4 s σ H _ I h) λu p i=>?_) e;obtain⟨x,H1,J,b,a,dx,fs,ex,ea,l,q⟩:=i;subst ex;obtain rfl:u=w_ a:=b;refine pZ J ea c Y l ?_;exact PySem.W.callWith_K0 (first:=[.ref a]) J.kIn Y.kp (xa (us:=[.ref a]) (vs:=[.ref a]) F g n hd d J (.cons rfl .nil) q)
structure Mk(K:Fg)(C f:i_):Prop where
 makes:Np K C=e_
 init:DB K (.ref C) "__init__"=a_ (a_ (.ref f))
 fn:isFn K (.ref f)=e_
 kp:Gw K (.ref C)=e_
theorem run_make{s:k_}{Q:VK}(M:Mk X.K C f)(F:eJ X.prog X.w X.K X.mg X.base CX k f fd ps sp)(g:eW (k+1) X.A)(j:Binds X.K fd ps ds)(hd:Ds dvs ds)(d:Passes CX X E)(I:B6 X B4 σ H s)(r:Ds vs us)(h:∀x dx,H x=g_->H dx=g_->dx≠x->sp (.ref x::(vs++dvs)) (upd (upd H dx (.own x)) x (.ins C dx [])) (λv H2=>v=.non/\Q (.ref x) H2) E):
  o_ (u_ X.prog X.w) X.A (HG (.ref C) us) (EP X B4 σ Q) X.xe s:=by
 have a:=h (s.z+1) s.z (I.hok.fresh (FT _)) (I.hok.fresh (t_ _)) (Dx (Fz _));have U:=B6.made (C:=C) I;have Y:Ds (V.ref (s.z+1)::(vs++dvs)) (w_ (s.z+1)::(us++ds)):=.cons rfl (r.append hd);have i:(w_ (s.z+1)::us++ds).length=ps.length:=by have e:=Y.length;rw[F.len _ _ _ _ a]at e;exact e.symm
 refine JS (make_map (f:=f) I.kIn M.makes M.init (FU.mp M.fn) (Gd (F.run _ X.stack _ _ ⟨w_ (s.z+1)::us,[]⟩ (w_ (s.z+1)::(us++ds)) _ _ E (g.make C us [])
  (U.env0.make C us []) (j _ (w_ (s.z+1)::us) U.kIn i) Y a) λr s' J=>?_))
 cases r with
 |error e=>exact d B4 σ _ _ e s' U J|ok fl=>
  cases fl with
  |ret u=>obtain⟨v,H',l,b,ev,c⟩:=U.after J;subst ev;exact⟨b,⟨V.ref (s.z+1),H',l,rfl,c⟩⟩
  |next=>exact Ej J|brk=>exact Ej J|cont=>exact Ej J
def Bw(M:Mk X.K C f)(F:eJ X.prog X.w X.K X.mg X.base CX k f fd ps sp)(b:eW (k+1) X.A)(g:Gl X x)(d:X.mg x=a_ (.ref C))(j:Binds X.K fd ps ds)(hd:Ds dvs ds)(a:Passes CX X E)(l:PA X (e::es) t)(U:((x==("__debug__":Dy))=c_)⁻¹)(i: ~~~(j_ (e::es) X.env=(c_,DC e X.env)::j_ es X.env))(J: ~~~((EG pos (j_ es X.env)).any (·.1)=c_)):
  PE X (.Call (.Name x p) (e::es) [] pos) (tMake C sp dvs E t):=by
 intro B4 s σ H Q I h;refine FD (fH I g d ?_ U);refine IW (h₀:=X.base) I.ok.mod.kin M.kp (HH (l pos B4 s σ H _ I h) λus m c=>?_) i J;obtain⟨vs,H1,Y,r,q⟩:=c;refine⟨Y.kIn,?_⟩
 exact run_make M F b j hd a Y r q
end
structure eR(N P:List Dy)(sc:Lc):Prop where
 kind:sc.kind=.function
 co:sc.isCoroutine=c_
 gen:sc.isGenerator=c_
 nd:N.Nodup
 pre:N.take P.length=P
 par:∀x∈P,sc.names.lookup x=a_ .local\/sc.names.lookup x=a_ .cell
 nofree:∀y∈sc.names,y.2≠.free
theorem uN{U:Dy->Option G8}{x:Dy}:∀{J:List (Dy×h_)} {m:Mq},(∀v,(x,v)∉J)->M0 U J m x=m x
 |[],_,_=>rfl|(n,v)::r,m,h=>by
  unfold M0;rw[uN λw hw=>h w (DQ _ hw)];split
  .have:x≠n:=by rintro rfl;exact h v Ea
   simp[this]
  .rfl
theorem uP{U:Dy->Option G8}{x:Dy}:∀{J:List (Dy×h_)} {m:Mq},(∀v,(x,v)∉J)->M1 U J m x=m x
 |[],_,_=>rfl|(n,v)::r,m,h=>by
  unfold M1;rw[uP λw hw=>h w (DQ _ hw)];split
  .rfl
  .have:x≠n:=by rintro rfl;exact h v Ea
   simp[this]
theorem uO{J:Dy->Option G8}{x:Dy}{v:h_}:∀{P:List Dy} {vs:as} {i:Nat} {m:Mq},P.Nodup->P[i]?=a_ x->vs[i]?=a_ v->J x=a_ .local ->
  M0 J (P.zip vs) m x=a_ v
 |[],_,_,_,_,h,_,_=>by simp at h|_::_,[],_,_,_,_,h,_=>by simp at h|p::P,w::vs,0,m,U,h1,h2,Y=>by simp at h1 h2;subst h1;subst h2;show M0 J ((p,w)::P.zip vs) m p=_;unfold M0;rw[uN λv hv=>(Ju.mp U).1 (K3 hv).1,s_ Y];simp|p::P,w::vs,i+1,m,U,h1,h2,Y=>by show M0 J ((p,w)::P.zip vs) m x=_;unfold M0;exact uO (i:=i) (Ju.mp U).2 (by simpa using h1) (by simpa using h2) Y
theorem uQ{J:Dy->Option G8}{x:Dy}{v:h_}:∀{P:List Dy} {vs:as} {i:Nat} {m:Mq},P.Nodup->P[i]?=a_ x->vs[i]?=a_ v->J x≠a_ .local ->
  M1 J (P.zip vs) m x=a_ v
 |[],_,_,_,_,h,_,_=>by simp at h|_::_,[],_,_,_,_,h,_=>by simp at h|p::P,w::vs,0,m,U,h1,h2,Y=>by simp at h1 h2;subst h1;subst h2;show M1 J ((p,w)::P.zip vs) m p=_;unfold M1;rw[uP λv hv=>(Ju.mp U).1 (K3 hv).1,q_ Y];simp|p::P,w::vs,i+1,m,U,h1,h2,Y=>by show M1 J ((p,w)::P.zip vs) m x=_;unfold M1;exact uQ (i:=i) (Ju.mp U).2 (by simpa using h1) (by simpa using h2) Y
noncomputable def start(N:List Dy)(vs:am):St:=vs.map a_++Eh (N.length-vs.length) g_
def uY(CX:CXT)(P:EC)(w:Fe)(K:Fg)(mg:Mq)(base:Eg)(N:List Dy)(qual:Dy)(scope:Lc)(f:i_)(cd:h_)(A:Fu)(outer:List LH)(s:k_)(H:Hp)(E:XK):Cx where
 prog:=P
 w:=w
 K:=K
 mg:=mg
 base:=base
 A:=A.deeper (He qual scope s.heap.objs.size f cd)
 N:=N
 s₀:=s
 H₀:=H
 env:=He qual scope s.heap.objs.size f cd
 outer:=outer
 stack:=He qual scope s.heap.objs.size f cd::outer
 ex:=[]
 calm:=e_
 fn:=λ_=>e_
 pn:=[]
 xe:=λe s'=>o_ (u_ P w) (A.deeper (He qual scope s.heap.objs.size f cd)) (OZ (He qual scope s.heap.objs.size f cd) e) (λ_ J=>CX outer H s E e J) (λU J=>CX outer H s E U J) s'
def yp{sc:Lc}(h:sc.names.lookup x=a_ .cell):∃c,(FG n sc.names []).lookup x=a_ c:=by have q:=GI sc.names n [] (.inl h);exact F9.mp q
def Cj{base:Eg}{f:i_}{cd:h_}{s j:k_}{E:XK}(S:eR N ps scope)(hd:A.handled=g_)(J:Env0 P w K mg base A outer s H)(C:vs.length=ps.length)(r:Ds vs us)(x:InCallC s s.heap.objs.size (M0 (He qual scope s.heap.objs.size f cd).kindOf (ps.zip us) λ_=>g_) (FG (s.heap.objs.size+1) scope.names []) (M1 (He qual scope s.heap.objs.size f cd).kindOf (ps.zip us) λ_=>g_) j):
  B6 (uY CX P w K mg base N qual scope f cd A outer s H E) [] (start N vs) H j:=by
 have t:ps.length<=N.length:=by have:=Hd JP S.pre;rw[I9]at this;omega
 obtain⟨h1,tk,rfl,m⟩:=x.done;have U:∀b:i_,b∉(uY CX P w K mg base N qual scope f cd A outer s H E).ex:=λb z=>DD (show b∈([]:List i_)from z) ad;refine⟨⟨J.mod,S.kind,rfl,rfl,t_ _,λy z c h1 h2=>?_,λy Y=>?_,λy c _ h=>?_,λ_=>hd,Around.frames_deeper J.frames,.inr ⟨rfl,rfl⟩,λb z=>DD z (U b),J.bs,J.bsz,λb _ _=>U b,λb z=>DD z (U b),J.rO,J.frf⟩,
  rfl,J.bare,Un.kept m,⟨_,x.toInCall.ns,λi y v h1 h2 D=>?_⟩,λy c h=>⟨_,x.cell y c h⟩,J.hok.fresh (t_ _),λy c h=>?_,λp g=>DD (show p∈([]:Pn)from g) ad,J.hok.kept m,?_⟩
 .exact name_of_addr x.apart (Fj h1) (Fj h2)
 .have Y:scope.names.lookup y=a_ .cell\/scope.names.lookup y=a_ .free:=Y;rcases Y with Y|Y
  .exact yp Y
  .exact DD rfl (S.nofree _ (Fj Y))
 .exact Gr (x.above y c (Fj h))
 .have hi:i<vs.length:=by
   unfold start at h2;by_cases hi:i<vs.length
   .exact hi
   .rw[Hc (by simpa using hi)]at h2;rw[I_]at h2;split at h2<;>cases h2
  have B:vs[i]?=a_ v:=by
   unfold start at h2;rw[EO (by simpa using hi),El]at h2;cases e:vs[i]? with
   |none=>rw[e]at h2;cases h2|some a=>rw[e]at h2;cases h2;rfl
  obtain⟨u,l,o⟩:=r.get B;have g:ps[i]?=a_ y:=by rw[<- S.pre,List.getElem?_take_of_lt ac];exact h1
  have d:ps.Nodup:=by rw[<- S.pre];exact S.nd.sublist (Nz _ _)
  refine⟨u,o,?_⟩
  rcases S.par y (MC g)with k|k
  .exact .inl ⟨k,uO d g l k⟩
  .obtain⟨c,e⟩:=yp (n:=s.z+1) k;refine .inr ⟨.inl k,c,e,?_⟩;have q:=x.cell y c e;rw[uQ d g l (by show scope.names.lookup y≠_;rw[k];decide)]at q;exact q
 .exact J.hok.fresh (Gr (x.above y c (Fj h)))
 .unfold start;show _=N.length;rw[Eb,y_,FZ];omega
def fn_of{base:Eg}{f:i_}{U:Arguments}{B kV doc pm cdv ct oc:h_}{an od:Option i_}{osl:Array (Option h_)}(F:K.lookup f=a_ ⟨oc,od,.func (KN name qual U body scope B kV doc pm an cdv ct),osl⟩)(p:LB K cdv qual=e_)(S:eR N ps scope)(d:∀vs H Q E,sp vs H Q E->vs.length=ps.length)(a:∀(A:Fu) (outer:List LH) (s:k_) (H:Hp) (vs:am) (Q:VK) (E:XK),eW k (A.deeper (He qual scope s.heap.objs.size f cdv))->sp vs H Q E ->
   ∃t,PSs (uY CX P w K mg base N qual scope f cdv A outer s H E) body t/\t {nx:=λ_ H'=>Q .non H',rt:=Q} (start N vs) H):
  eJ P w K mg base CX (k+1) f (KN name qual U body scope B kV doc pm an cdv ct) ps sp:=by
 refine⟨d,λA outer s H C us vs Q E m i W r g=>?_⟩
 have R:=d _ _ _ _ g;have D:K.In s.heap:=i.mod.kin.keeps λb o e=>(i.bs b o e).1;have l:s.heap.NoLimit:=i.mod.nolimit.keeps λb o e=>(i.bs b o e).1;have Y:∀y∈ps.zip us,scope.names.lookup y.1=a_ .local\/(scope.names.lookup y.1=a_ .cell/\((FG (s.z+1) scope.names []).lookup y.1).isSome=e_):=λ⟨n,v⟩ G=>by
  rcases S.par n (K3 G).1 with q|q
  .exact .inl q
  .exact .inr ⟨q,GI _ _ _ (.inl q)⟩
 refine codeAny_call_function m.depth (D _ _ F) rfl S.co S.gen rfl (PySem.W.codeRec_of D p) (W _ _ _ _ ?_);refine wpAny_newFunctionEnv_cells S.kind Y λenv T z x=>?_;subst T;refine⟨l.keeps x.toInCall.keep,codeAny_func ?_⟩
 obtain⟨t,L,O⟩:=a A outer s H vs Q E (m.deeper _) g;have I:B6 (uY CX P w K mg base N qual scope f cdv A outer s H E) [] (start N vs) H z:=Cj S m.hd i R r x;refine Ew (L [] z (start N vs) H _ I O) (λfl s' c=>?_) λe s' c=>c;have h:∀{σ':St} {H':Hp} {v:V} {u:h_},B6 (uY CX P w K mg base N qual scope f cdv A outer s H E) [] σ' H' s'->D' v u->Q v H'->CE outer P w H s Q u s':=
  λ{σ' H' v u} J j q=>⟨v,H',J.os,J.bare,J.base,J.hok,j,q⟩
 cases fl with
 |ret u=>obtain⟨v,σ',H',J,j,q⟩:=c;exact h J j q
 |next=>obtain⟨σ',H',J,q⟩:=c;exact h (v:=V.non) (u:=Er) J rfl q
 |brk=>obtain⟨_,_,_,q⟩:=c;exact Ej q
 |cont=>obtain⟨_,_,_,q⟩:=c;exact Ej q
section
variable{id T:String}{r:List V->Hp->VK->Prop}
noncomputable def tCB(r:am->Hp->VK->Prop)(t:TA):TE:=λσ H Q=>t σ H λvs H1=>r vs H1 Q
def gd(i:cK X (.builtin id) r)(f:Gl X x)(d:X.mg x=g_)(hv:FV x=a_ (.builtin id))(j:PA X (e::es) t)(c:(x≠"__name__")⁻¹)(U:((x==("__debug__":Dy))=c_)⁻¹)(g: ~~~(j_ (e::es) X.env=(c_,DC e X.env)::j_ es X.env))(J: ~~~((EG pos (j_ es X.env)).any (·.1)=c_)):PE X (.Call (.Name x p) (e::es) [] pos) (tCB r t):=by intro B4 s σ H Q I h;refine FD (fJ I f d hv ?_ c U);refine JN (HH (j pos B4 s σ H _ I h) λus Y b=>?_) g J;obtain⟨vs,H1,k,a,q1⟩:=b;exact i B4 Y σ H1 vs us Q k a q1
def iw(i:cK X (.type T) r)(f:Gl X x)(d:X.mg x=g_)(hv:FV x=a_ (.type T))(j:PA X (e::es) t)(c:(x≠"__name__")⁻¹)(U:((x==("__debug__":Dy))=c_)⁻¹)(g: ~~~(j_ (e::es) X.env=(c_,DC e X.env)::j_ es X.env))(J: ~~~((EG pos (j_ es X.env)).any (·.1)=c_)):PE X (.Call (.Name x p) (e::es) [] pos) (tCB r t):=by intro B4 s σ H Q I h;refine FD (fJ I f d hv ?_ c U);refine DY (HH (j pos B4 s σ H _ I h) λus Y b=>?_) g J;obtain⟨vs,H1,k,a,q1⟩:=b;exact i B4 Y σ H1 vs us Q k a q1
end
end Lake
namespace Lake.HT
open PySem PyProof.Rows
section
open PySem.SeqAt
open PySem.AutoSeq1 (wpAny_loadPart')
open PySem.MeetsSeq PySem.MeetsSeq2 PySem.MeetsSeq3
end
section
variable{prog:EC}{w:Fe}{A:Fu}{E:Vp}{s:k_}
def cat_tup{t b:i_}{vs J:as}{Q:Vp}(j:Pc s.heap t vs.toArray)(k:Pc s.heap b J.toArray)(hv:vs≠[])(h1:J=[]->Q (.ref t) s)(h2:J≠[]->Q (.ref s.heap.objs.size) {s with heap:=s.heap.push {cls:=.type "tuple",data:=.seq (vs++J).toArray}})(hsz:vs.length+J.length<=n_):o_ (u_ prog w) A (FX .Add (.ref t) (.ref b)) Q E s:=by
 obtain⟨⟨cls,dd,data,sl⟩,f,h,n,hd⟩:=id j;obtain⟨⟨i,d,g,Y⟩,U,c,n2,a⟩:=id k;simp only at h hd c a;subst h hd c a;have e:vs.toArray++J.toArray=(vs++J).toArray:=by simp
 by_cases hw:J=[]
 .exact K7 ⟨_,f,rfl⟩ ⟨_,U,rfl⟩ Ly MH IX IJ (ID _ _)
   (tuple_addW1 t b vs.toArray J.toArray n n2 dd d sl Y (by simpa using hv) (by simp[hw])) ⟨f,U,h1 hw⟩
 .refine K7 ⟨_,f,rfl⟩ ⟨_,U,rfl⟩ Ly MH IX IJ (ID _ _)
   (tuple_addW2 t b vs.toArray J.toArray n n2 dd d sl Y (by simpa using hv) (by simpa using hw) (by rw[Dv,Dv];exact hsz)) ⟨f,U,?_⟩
  rw[e];exact h2 hw
noncomputable def sIx(n d:Nat):Option Int->Nat
 |none=>d|some v=>if v<0 then(v+(n:Int)).toNat else min v.toNat n
def sIx_le(n d:Nat)(hd:d<=n)(o:Option Int):sIx n d o<=n:=by
 cases o with
 |none=>exact hd|some v=>
  show(if v<0 then(v+(n:Int)).toNat else min v.toNat n)<=n;by_cases hv:v<0
  .rw[s_ hv];omega
  .rw[q_ hv];exact Nat.min_le_right _ _
def D5(v:Int)(n d:Nat):(if v<0 then max (v+(n:Int)) 0 else min v (n:Int))=((sIx n d (a_ v):Nat):Int):=by
 show(if v<0 then max (v+(n:Int)) 0 else min v (n:Int))=(((if v<0 then(v+(n:Int)).toNat else min v.toNat n):Nat):Int)
 by_cases hv:v<0
 .simp only[s_ hv];omega
 .simp only[q_ hv];omega
def Ai(lo hi:Option Int)(n:Nat):HV lo hi 1 (n:Int)=(((sIx n 0 lo:Nat):Int),((sIx n n hi:Nat):Int)):=by
 have h1:¬((1:Int)<0):=ac
 unfold HV;simp only[h1,Fy];refine OB ?_ ?_
 .cases lo with
  |none=>rfl|some v=>exact D5 v n 0
 .cases hi with
  |none=>rfl|some v=>exact D5 v n n
def zf(i j:Nat):GS (i:Int) (j:Int) 1=j-i:=by
 unfold GS;have h1:(1:Int)>0:=ac
 simp only[h1,Ia,Int.ediv_one];split<;>omega
def pJ{v:h_}{o:Option Int}{Q:Option Int->k_->Prop}(p:LC v o)(h:Q o s):o_ (u_ prog w) A (Pq v) Q E s:=by
 cases p with
 |none=>exact slicePart_none h|int i t=>exact slicePart_int h
def lP{sl:i_}{a Y:h_}{lo hi:Option Int}{n:Nat}{Q:Int×Int×Nat->k_->Prop}(c:s.heap.IsSliceOf sl a Y .none)(pl:LC a lo)(b:LC Y hi)(h:Q (((sIx n 0 lo:Nat):Int),1,sIx n n hi-sIx n 0 lo) s):o_ (u_ prog w) A (Kd (.ref sl) (Ff (n:Int))) Q E s:=by obtain⟨os,J,d,U⟩:=id c;unfold Kd Pr;refine b_ (b_ (E9 J U (x:=a) rfl (b_ (E9 J U (x:=Y) rfl (b_ (E9 J U (x:=.none) rfl (f_ ?_)))))));refine b_ (slicePart_none ?_);show o_ _ _ (if ((1:Int)==0)=e_ then _ else _) _ _ s;rw[q_ ag];refine b_ (pJ pl (b_ (pJ b (b_ (f_ ?_)))));show o_ _ _ (match HV lo hi 1 (n:Int)with|(lo,hi)=>Ff (lo,(1:Int),GS lo hi 1)) _ _ s;rw[Ai lo hi n];show o_ _ _ (Ff (((sIx n 0 lo:Nat):Int),(1:Int),GS ((sIx n 0 lo:Nat):Int) ((sIx n n hi:Nat):Int) 1)) _ _ s;rw[zf];exact f_ h
def pick_gen(xs:Array h_)(i k:Nat):((DR k).filterMap λ(m:Nat)=>xs[((i:Int)+(m:Int)*1).toNat]?).toArray=((xs.toList.drop i).take k).toArray:=by
 have e:(λ(m:Nat)=>xs[((i:Int)+(m:Int)*1).toNat]?)=λm=>xs[i+m]?:=by
  funext m
  have:((i:Int)+(m:Int)*1).toNat=i+m:=ac
  rw[this]
 rw[e];have:=pick_run xs i k;rw[List.filterMap_map]at this;have e2:((λx=>xs[x]?)∘λx=>i+x)=λm=>xs[i+m]?:=rfl;rw[e2]at this;rw[this]
def kK{t sl:i_}{items:Array h_}{d c:h_}{lo hi:Option Int}{Q:Vp}(J:Pc s.heap t items)(e:s.heap.IsSliceOf sl d c .none)(pl:LC d lo)(f:LC c hi)(hw:¬(sIx items.size 0 lo=0/\sIx items.size items.size hi=items.size))(h:Q (.ref s.heap.objs.size) {s with heap:=s.heap.push {cls:=.type "tuple",data:=.seq ((items.toList.drop (sIx items.size 0 lo)).take (sIx items.size items.size hi-sIx items.size 0 lo)).toArray}})(hsz:items.size<=n_):o_ (u_ prog w) A (Nl (.ref t) (.ref sl)) Q E s:=by
 have htake:sizeOk (.seq ((items.toList.drop (sIx items.size 0 lo)).take (sIx items.size items.size hi-sIx items.size 0 lo)).toArray):=by show((items.toList.drop (sIx items.size 0 lo)).take (sIx items.size items.size hi-sIx items.size 0 lo)).toArray.size<=n_;rw[Dv,I9,NU,DO];omega
 have i:sIx items.size items.size hi<=items.size:=sIx_le _ _ (t_ _) hi;obtain⟨os,U,a,g⟩:=id e;have b:s.TypeIs (.ref sl) "slice":=⟨os,U,a⟩
 unfold Nl
 try with_reducible refine Ex ?_
 first|refine b_ (f_ ?_)|skip
 refine b_ (wpAny_sequenceKey J.typeIs ag ?_);refine b_ (Ek (name:=Fq "__getitem__") J.typeIs GK
  (DU GK J.typeIs entry_tuple_getitem ?_ (args_tuple_getitem _ _)))
 show o_ _ _ (Kc (.ref t) >>= _) _ _ s;refine b_ (tupleItemsOf_ J ?_);refine b_ (II b ?_);rw[s_ ag];refine b_ (lP e pl f ?_);have Y:¬((((sIx items.size 0 lo:Nat):Int)==0&&(1:Int)==1&&(sIx items.size items.size hi-sIx items.size 0 lo)==items.size)=e_):=by intro q;rw[r_,r_]at q;have q1:((sIx items.size 0 lo:Nat):Int)=0:=Gn q.1.1;have q2:sIx items.size items.size hi-sIx items.size 0 lo=items.size:=Gn q.2;exact hw ⟨ac,ac⟩
 show o_ _ _ (if (((sIx items.size 0 lo:Nat):Int)==0&&(1:Int)==1&&(sIx items.size items.size hi-sIx items.size 0 lo)==items.size)=e_ then _ else _) _ _ s;rw[q_ Y,pick_gen]
 first
  |exact b_ (m:=H_ _) (DH (f_ ⟨_,rfl,f_ h⟩) htake)
  |exact wpAny_bind (m:=Builtin.Tuple.tupleExact _) (wpAny_newObj_type (wpAny_bind (wpAny_pure (wpAny_pure ⟨_,rfl,wpAny_pure h⟩))) htake)
  |exact wpAny_bind (wpAny_bind (m:=Builtin.Tuple.tupleExact _) (wpAny_newObj_type (wpAny_pure (wpAny_pure ⟨_,rfl,wpAny_pure h⟩)) htake))
  |exact wpAny_bind (wpAny_bind (m:=Builtin.Tuple.tupleExact _) (wpAny_newObj_type (wpAny_pure ⟨_,rfl,wpAny_pure h⟩) htake))
end
end Lake.HT
namespace Lake
open PySem PySem.Spec PyProof.Rows
variable{X:Cx}{e:EM}{pos:Pos}{r:V->Option Int->Option Int->Hp->VK->Prop}{us its its':List h_}{α:Type}{n:Nat}{i:Int}{B4:Pn}{σ:St}{H:Hp}{T:String}{x:V}
abbrev TO:=St->Hp->(Option Int->Hp->Prop)->Prop
def PO(X:Cx)(e:Option EM)(t:TO):Prop:=
 ∀(B4:Pn) (s:k_) (σ:St) (H:Hp) (Q:Option Int->Hp->Prop),B6 X B4 σ H s->t σ H Q ->
  o_ (u_ X.prog X.w) X.A (evalPart e X.env) (λu s'=>∃o H',B6 X B4 σ H' s'/\LC u o/\Q o H') X.xe s
noncomputable def tNoPart:TO:=λ_ H Q=>Q g_ H
noncomputable def tPart(t:TE):TO:=λσ H Q=>t σ H λx H1=>∃i,x=.int i/\Q (a_ i) H1
def intsAre_of{ns:aj}:∀{us:as},Ds (ns.map V.int) us->G9 us ns:=by
 induction ns with
 |nil=>intro us r;rw[GA]at r;cases r;exact .nil|cons n ns Y=>
  intro us r;rw[x_]at r;cases r with
  |cons U J=>obtain⟨t,e⟩:=U;subst e;exact .cons n t (Y J)
section
variable{te:TE}{lo hi:Option EM}{tl th:TO}{p2:Pos}
def po_none:PO X g_ tNoPart:=by intro B4 s σ H Q I h;rw[evalPart_none];exact f_ ⟨g_,H,I,.none,h⟩
def po_some(h:PE X e te):PO X (a_ e) (tPart te):=by intro B4 s σ H Q I hw;rw[evalPart_some];refine HH (h B4 s σ H _ I hw) λu a U=>?_;obtain⟨x,H1,Y,J,q1⟩:=U;obtain⟨i,rfl,q⟩:=q1;obtain⟨t,rfl⟩:=J;exact⟨a_ i,H1,Y,.int i t,q⟩
def SlR(X:Cx)(r:V->Option Int->Option Int->Hp->VK->Prop):Prop:=
 ∀(B4:Pn) (s:k_) (σ:St) (H:Hp) (x:V) (v U J:h_) (lo hi:Option Int) (sl:i_) (Q:VK),B6 X B4 σ H s->D' x v->s.heap.IsSliceOf sl U J .none->LC U lo->LC J hi->r x lo hi H Q ->
  ∃T id,OG (.type T) "__getitem__"=Ff (a_ (.builtin id))/\s.TypeIs v T/\o_ (u_ X.prog X.w) X.A (Nl v (.ref sl)) (EP X B4 σ Q) X.xe s
def SlR.or{r':V->Option Int->Option Int->Hp->VK->Prop}(h:SlR X r)(h':SlR X r'):SlR X (λx lo hi H Q=>r x lo hi H Q\/r' x lo hi H Q):=by
 intro B4 s σ H x v U J lo hi sl Q I Y b pl a q;rcases q with q|q
 .exact h B4 s σ H x v U J lo hi sl Q I Y b pl a q
 .exact h' B4 s σ H x v U J lo hi sl Q I Y b pl a q
noncomputable def tSl(r:V->Option Int->Option Int->Hp->VK->Prop)(te:TE)(tl th:TO):TE:=λσ H Q=>te σ H λx H1=>tl σ H1 λl H2=>th σ H2 λu J=>r x l u J Q
def pe_slice(n:SlR X r)(t:PE X e te)(o:PO X lo tl)(k:PO X hi th):PE X (.Subscript e (.Slice lo hi g_ p2) pos) (tSl r te tl th):=by intro B4 s σ H Q I h;refine Subscript_ (HH (t B4 s σ H _ I h) λv f U=>?_);obtain⟨x,H1,B,g,q1⟩:=U;refine wpAny_Slice (HH (o B4 f σ H1 _ B q1) λa d U=>?_);obtain⟨l,H2,A,pl,q2⟩:=U;refine HH (k B4 d σ H2 _ A q2) λY J U=>?_;obtain⟨u,c,z,j,i⟩:=U;rw[evalPart_none];refine f_ ?_;have y:B6 X B4 σ c {J with heap:=J.heap.push {cls:=.type "slice",data:=.fields #[a,Y,.none]}}:=z.kept (t':=J.toks) λb C q=>d_ _ q;obtain⟨T,id,w,m,p⟩:=n B4 {J with heap:=J.heap.push {cls:=.type "slice",data:=.fields #[a,Y,.none]}} σ c x v a Y l u J.z Q y g (O8 ..) pl j i;show o_ (u_ X.prog X.w) X.A (subscriptTail e (.Slice lo hi g_ p2) v (.ref J.z)) (EP X B4 σ Q) X.xe {J with heap:=J.heap.push {cls:=.type "slice",data:=.fields #[a,Y,.none]}};exact tail_any (ops:=[.ref J.z,v]) m w p (by with_unfolding_all rfl)
def cutV(xs:am)(lo hi:Option Int):am:=(xs.drop (HT.sIx xs.length 0 lo)).take (HT.sIx xs.length xs.length hi-HT.sIx xs.length 0 lo)
def nV(xs:am)(lo hi:Option Int):(cutV xs lo hi).length<=xs.length:=by unfold cutV;rw[I9,NU];omega
def rSlT(K:Fg):V->Option Int->Option Int->Hp->VK->Prop:=λx lo hi H Q=>∃a xs,x=.ref a/\SqT K H a xs /\
 ¬(HT.sIx xs.length 0 lo=0/\HT.sIx xs.length xs.length hi=xs.length)/\∀p,H p=g_->Q (.ref p) (upd H p (.tup (cutV xs lo hi)))
def sl_tup:SlR X (rSlT X.K):=by
 intro B4 s σ H x v i g lo hi sl Q I c f pl d h;obtain⟨a,xs,rfl,e,hw,q⟩:=h;cases c;obtain⟨its,r,Y,U⟩:=I.tuple e;have J:its.toArray.size=xs.length:=by rw[Dv];exact r.length.symm
 refine⟨"tuple",_,GK.lookup,Y.typeIs,?_⟩
 refine HT.kK Y f pl d (by rw[J];exact hw) ?_ (by rw[J];exact U);rw[J];refine⟨.ref s.z,_,I.laid (t':=s.toks) (o:=.tup (cutV xs lo hi)) (λb j q=>d_ _ q) (t_ _) ?_,rfl,q _ (I.hok.fresh (t_ _))⟩
 exact⟨Ee (nV xs lo hi) U,_,(r.drop (HT.sIx xs.length 0 lo)).take (HT.sIx xs.length xs.length hi-HT.sIx xs.length 0 lo),Ny _ _⟩
def rCatT(K:Fg):R2:=λx y H Q=>∃a b xs ys,x=.ref a/\y=.ref b/\SqT K H a xs/\SqT K H b ys/\xs≠[]/\xs.length+ys.length<=n_ /\
 (ys=[]->Q (.ref a) H)/\(ys≠[]->∀p,H p=g_->Q (.ref p) (upd H p (.tup (xs++ys))))
def Ds.vI{xs:am}(r:Ds xs us):us=[]↔xs=[]:=by
 cases r with
 |nil=>simp|cons _ _=>simp
def op_catT:OpR X (FX .Add) (rCatT X.K):=by
 intro B4 s σ H x y v u Q I e d h;obtain⟨a,b,xs,ys,rfl,rfl,i,g,f,c,q1,q2⟩:=h;cases e;cases d;obtain⟨its,U,p1,_⟩:=I.tuple i;obtain⟨Y,J,p2,_⟩:=I.tuple g;refine HT.cat_tup p1 p2 (λz=>f (U.vI.mp z)) (λz=>⟨.ref a,H,I,rfl,q1 (J.vI.mp z)⟩) (λz=>?_) (by rw[<- U.length,<- J.length];exact c);refine⟨.ref s.z,_,I.laid (t':=s.toks) (o:=.tup (xs++ys)) (λb j q=>d_ _ q) (t_ _) ?_,rfl,q2 (λw=>z (J.vI.mpr w)) _ (I.hok.fresh (t_ _))⟩
 exact⟨by rw[Eb];exact c,_,U.append J,Ny _ _⟩
end
noncomputable def ixN(n:Nat)(i:Int):Option Nat:=if 0<=i then(if i<n then a_ i.toNat else g_)else if -(n:Int)<=i then a_ (i+n).toNat else g_
def atI(xs:List α)(i:Int):Option α:=(ixN xs.length i).bind λj=>xs[j]?
def vO{j:Nat}(h:ixN n i=a_ j):seqIndex? i n=a_ j/\j<n/\ -(n:Int)<=i/\i<n:=by
 unfold ixN at h;by_cases J:0<=i
 .rw[s_ J]at h;by_cases h1:i<n
  .rw[s_ h1]at h;have e:i.toNat=j:=DV h;exact⟨by rw[NZ J h1,e],ac,ac,h1⟩
  .rw[q_ h1]at h;cases h
 .rw[q_ J]at h;by_cases h1: -(n:Int)<=i
  .rw[s_ h1]at h;have e:(i+n).toNat=j:=DV h;exact⟨by rw[Ni ac h1,e],ac,h1,ac⟩
  .rw[q_ h1]at h;cases h
def wH{xs:List α}{v:α}(h:atI xs i=a_ v):∃j,seqIndex? i xs.length=a_ j/\xs[j]?=a_ v/\j<xs.length/\ -(xs.length:Int)<=i/\i<xs.length:=by
 unfold atI at h;cases e:ixN xs.length i with
 |none=>rw[e]at h;cases h|some j=>rw[e]at h;obtain⟨h1,h2,U,J⟩:=vO e;exact⟨j,h1,h,h2,U,J⟩
def wM(b:EM):Prop:=∀o i,subscripted b c_ o i=operate [o,i] (Nl o i)
def IxR(X:Cx)(r:R2):Prop:=
 ∀(value J:EM) (B4:Pn) (s:k_) (σ:St) (H:Hp) (x y:V) (v u:h_) (Q:VK),B6 X B4 σ H s->D' x v->D' y u->r x y H Q ->
  subscripted J c_ v u=operate [v,u] (Nl v u)->o_ (u_ X.prog X.w) X.A (subscriptTail value J v u) (EP X B4 σ Q) X.xe s
def MtR(X:Cx)(id:String)(r:V->am->Hp->VK->Prop):Prop:=
 ∀(B4:Pn) (s:k_) (σ:St) (H:Hp) (x:V) (xs:am) (v:h_) (us:as) (Q:VK),B6 X B4 σ H s->D' x v->Ds xs us->r x xs H Q ->
  o_ (u_ X.prog X.w) X.A (HG (.builtin id) (v::us)) (EP X B4 σ Q) X.xe s
section
variable{a b:EM}{ta tb:TE}
def IxR.or{r r':R2}(h:IxR X r)(h':IxR X r'):IxR X (λx y H Q=>r x y H Q\/r' x y H Q):=by
 intro value J B4 s σ H x y v u Q I Y U q a;rcases q with q|q
 .exact h value J B4 s σ H x y v u Q I Y U q a
 .exact h' value J B4 s σ H x y v u Q I Y U q a
def pe_ix{r:R2}(d:IxR X r)(f:PE X a ta)(e:PE X b tb)(c:wM b):PE X (.Subscript a b pos) (tOp r ta tb):=by intro B4 s σ H Q I h;exact Subscript_ (binT f e I h λv u J x y H2 g Y U q=>d a b B4 J σ H2 x y v u Q g Y U q (c _ _))
def rIxL(K:Fg):R2:=λx y H Q=>∃p xs i v,x=.ref p/\y=.int i/\SqL K H p xs/\atI xs i=a_ v/\Q v H
def rIxT(K:Fg):R2:=λx y H Q=>∃p xs i v,x=.ref p/\y=.int i/\SqT K H p xs/\atI xs i=a_ v/\Q v H
def rIxS:R2:=λx y H Q=>∃z i c,x=.str z/\y=.int i/\z.length<=n_/\atI z.cps.toList i=a_ c/\Q (.str ⟨#[c]⟩) H
def ix_list:IxR X (rIxL X.K):=by
 intro value U B4 s σ H x y v u Q I f e h b;obtain⟨p,xs,i,z,rfl,rfl,g,l,q⟩:=h;cases f;obtain⟨t,rfl⟩:=e;obtain⟨its,r,pl,o⟩:=I.list g;obtain⟨j,h1,h2,B,n,m⟩:=wH l;obtain⟨w,d,Y⟩:=r.get h2;have k:=r.length;have A:=pQ;have J:EP X B4 σ Q w s:=⟨z,H,I,Y,q⟩
 by_cases c:0<=i
 .have a:i.toNat=j:=by
   rw[NZ c m]at h1;exact DV h1
  exact item_listR pl.isList c ac (by rw[a];simpa using d) J b
 .have a:(i+(its.toArray.size:Int)).toNat=j:=by
   rw[Ni ac n]at h1;rw[Dv,<- k];exact DV h1
  exact Nu (x:=w) pl.isList.typeIs OW.lookup
   (wpAny_getItem_list_neg (Q:=λr s'=>r=w/\EP X B4 σ Q r s') pl.isList ac (by rw[Dv]<;>omega) ac (by rw[a];simpa using d) ⟨rfl,J⟩) b
def ix_tup:IxR X (rIxT X.K):=by
 intro value J B4 s σ H x y v u Q I b a h c;obtain⟨p,xs,i,z,rfl,rfl,d,f,q⟩:=h;cases b;obtain⟨t,rfl⟩:=a;obtain⟨its,r,pl,k⟩:=I.tuple d;obtain⟨j,h1,h2,o,n,m⟩:=wH f;obtain⟨w,g,U⟩:=r.get h2;have e:=r.length;have l:=pQ;have Y:EP X B4 σ Q w s:=⟨z,H,I,U,q⟩
 exact Nu (x:=w) pl.typeIs GK.lookup
  (getItem_tuple (j:=j) (Q:=λr s'=>r=w/\EP X B4 σ Q r s') pl ac ac (by rw[Dv,<- e];exact h1) (by simpa using g) ⟨rfl,Y⟩) c
def ix_str:IxR X rIxS:=by
 intro value J B4 s σ H x y v u Q I Y U h a;obtain⟨z,i,c,rfl,rfl,g,d,q⟩:=h;obtain⟨t,rfl⟩:=Y;obtain⟨t',rfl⟩:=U;obtain⟨j,h1,h2,l,f,e⟩:=wH d;have b:z.cps.toList.length=z.length:=by simp[Str.length]
 rw[b]at h1 f e;have k:=pQ;exact tail_any (typeIs_str s z t) slot_str_getitem.lookup (getItem_str (c:=c) (by have e1:z_ (i< -(2^63:Int))=c_:=Eu ac;have e2:z_ (i>=2^63)=c_:=Eu ac;rw[e1,e2,OR]) (by rw[h1];simpa using h2) ⟨.str ⟨#[c]⟩,H,I.tok _,⟨_,rfl⟩,q⟩) a
def rIx(K:Fg):R2:=λx y H Q=>rIxL K x y H Q\/rIxT K x y H Q\/rIxS x y H Q
def ix_seq:IxR X (rIx X.K):=ix_list.or (ix_tup.or ix_str)
def zw(its:as)(n j:Nat)(u:h_):ES (·.setIfInBounds j u) {cls:=.type "list",data:=.seq its.toArray n}={cls:=.type "list",data:=.seq (its.set j u).toArray n}:=by simp[ES]
theorem B6.lst{B4:Pn}{σ:St}{H:Hp}{s:k_}{p:i_}{xs:am}(I:B6 X B4 σ H s)(h:H p=a_ (.lst xs)):
  ∃(its:as) (n:Nat),Ds xs its/\s.heap.get? p=a_ {cls:=.type "list",data:=.seq its.toArray n}/\xs.length<=n_:=by
 obtain⟨z,its,n,r,e⟩:=I.hok p _ h;exact⟨its,n,r,e,z⟩
def B6.lstUpd{s:k_}{p:i_}{xs ys:am}{J:Nat}{f:H9->H9}(I:B6 X B4 σ H s)(h:H p=a_ (.lst xs))(a:s.heap.get? p=a_ {cls:=.type "list",data:=.seq its.toArray n})(U:f {cls:=.type "list",data:=.seq its.toArray n}={cls:=.type "list",data:=.seq its'.toArray J})(r:Ds ys its')(Y:ys.length<=n_)(t:Nat):
  B6 X B4 σ (upd H p (.lst ys)) {s with heap:=s.heap.update p f,toks:=t}:=by
 have e:(s.heap.update p f).get? p=a_ {cls:=.type "list",data:=.seq its'.toArray J}:=by rw[Ef f a (by rw[U]<;>rfl),U]
 refine I.write (x:=p) (e:=p) (by rw[h];trivial) (.inl rfl) (λb u c q=>(Dw _ _ (Em c)).trans q) ⟨_,e⟩ ?_;exact⟨Y,its',J,r,e⟩
def rSetL:V->V->V->Hp->(Hp->Prop)->Prop:=λo i v H Q=>∃p xs k j,o=.ref p/\i=.int k/\H p=a_ (.lst xs)/\ixN xs.length k=a_ j/\Q (upd H p (.lst (xs.set j v)))
def set_list:PSet X rSetL:=by
 intro B4 s σ H o i v w x u Q I ro g f h;obtain⟨p,xs,k,j,rfl,rfl,a,m,q⟩:=h;cases ro;obtain⟨t,rfl⟩:=g;obtain⟨its,n,r,J,l⟩:=I.lst a;obtain⟨h1,h2,c,b⟩:=vO m;have U:=r.length;have y:=pQ;have e:B6 X B4 σ (upd H p (.lst (xs.set j v))) {s with heap:=s.heap.update p (ES (·.setIfInBounds j u))}:=
  I.lstUpd a J (zw its n j u) (r.set f j) (by rw[DM];exact l) s.toks
 by_cases d:0<=k
 .have Y:k.toNat=j:=by
   rw[NZ d b]at h1;exact DV h1
  exact PySem.W.ki_setAt J d ac (by rw[Dv,<- U];exact b) (by rw[Y];exact⟨_,e,q⟩)
 .have Y:(k+(its.toArray.size:Int)).toNat=j:=by
   rw[Ni ac c]at h1;rw[Dv,<- U];exact DV h1
  exact PySem.W.ki_setBack J ac (by rw[Dv,<- U];exact c) ac (by rw[Y];exact⟨_,e,q⟩)
def tf(lo hi:Option Int)(n:Nat):(Ip lo hi g_ n).1=((HT.sIx n 0 lo:Nat):Int)/\(Ip lo hi g_ n).2.1=((HT.sIx n n hi:Nat):Int)/\(Ip lo hi g_ n).2.2=1:=by
 refine⟨?_,?_,rfl⟩
 .cases lo with
  |none=>simp[Ip,HT.sIx]|some i=>
   simp only[Ip,HT.sIx,Na,show(1:Int)>0 by decide,Ia];by_cases h:i<0
   .simp only[h,Ia]<;>omega
   .simp only[h,Fy]<;>omega
 .cases hi with
  |none=>simp[Ip,HT.sIx]|some i=>
   simp only[Ip,HT.sIx,Na,show(1:Int)>0 by decide,Ia];by_cases h:i<0
   .simp only[h,Ia]<;>omega
   .simp only[h,Fy]<;>omega
def qN(its:as)(lo hi:Option Int):slicePick its.toArray lo hi g_=((its.drop (HT.sIx its.length 0 lo)).take (HT.sIx its.length its.length hi-HT.sIx its.length 0 lo)).toArray:=by obtain⟨h1,h2,J⟩:=tf lo hi its.toArray.size;unfold slicePick;rw[h1,h2,J];simp only[sliceRange_one,pick_run,Dv]<;>rfl
def rSlL(K:Fg):V->Option Int->Option Int->Hp->VK->Prop:=λx lo hi H Q=>∃a xs,x=.ref a/\SqL K H a xs/\∀p,H p=g_->Q (.ref p) (upd H p (.lst (cutV xs lo hi)))
def sl_list:SlR X (rSlL X.K):=by
 intro B4 s σ H x v i g lo hi sl Q I Y f pl c h;obtain⟨a,xs,rfl,e,q⟩:=h;cases Y;obtain⟨its,r,U,d⟩:=I.list e;have J:=r.length;refine⟨"list",_,OW.lookup,U.isList.typeIs,?_⟩
 refine wpAny_getItem_list_slice U.isList f pl c .none ad ?_ (by rw[Dv]<;>omega);rw[qN,<- J];refine⟨.ref s.z,_,I.laid (t':=s.toks) (o:=.lst (cutV xs lo hi)) (λb j q=>d_ _ q) (t_ _) ?_,rfl,q _ (I.hok.fresh (t_ _))⟩
 exact⟨Ee (nV xs lo hi) d,_,0,(r.drop (HT.sIx xs.length 0 lo)).take (HT.sIx xs.length xs.length hi-HT.sIx xs.length 0 lo),l_ _ rfl⟩
noncomputable def flatV:V->Bool
 |.non=>e_|.bl _=>e_|.int _=>e_|.str _=>e_|_=>c_
def iO:cK X (.builtin "len") (λxs H Q=>∃p ys,xs=[.ref p]/\(SqL X.K H p ys\/SqT X.K H p ys)/\Q (.int ys.length) H):=by
 intro B4 s σ H xs us Q I r h;obtain⟨p,ys,rfl,U,q⟩:=h;obtain⟨u,rfl,Y⟩:=vals1 r;cases Y;have b:=pQ;rcases U with U|U
 .obtain⟨its,r',pl,a⟩:=I.list U;have J:=r'.length;exact Calls.call_len_list pl.isList (by simp only[Dv]<;>omega) ⟨.int ys.length,H,I.tok _,⟨s.toks+1,by rw[Dv,J]⟩,q⟩
 .obtain⟨its,r',pl,a⟩:=I.tuple U;have J:=r'.length;exact len_tuple pl (by simp only[Dv]<;>omega) ⟨.int ys.length,H,I.tok _,⟨s.toks+1,by rw[Dv,J]⟩,q⟩
def cK.or{f:h_}{r r':am->Hp->VK->Prop}(h:cK X f r)(h':cK X f r'):cK X f (λxs H Q=>r xs H Q\/r' xs H Q):=by
 intro B4 s σ H xs us Q I rs q;rcases q with q|q
 .exact h B4 s σ H xs us Q I rs q
 .exact h' B4 s σ H xs us Q I rs q
def lE:cK X (.type "list") (λxs H Q=>∃p ys,xs=[.ref p]/\(SqL X.K H p ys\/SqT X.K H p ys)/\∀l,H l=g_->Q (.ref l) (upd H l (.lst ys))):=by
 intro B4 s σ H xs us Q I r h;obtain⟨p,ys,rfl,a,q⟩:=h;obtain⟨u,rfl,i⟩:=vals1 r;cases i;have d:∀(its:as),Ds ys its->ys.length<=n_->∀(h':Eg) (J:Nat),(∀b o',s.heap.get? b=a_ o'->h'.get? b=a_ o') ->
   h'.get? s.z=a_ {cls:=.type "list",dict:=g_,data:=.seq its.toArray J,slots:=#[]}->EP X B4 σ Q (.ref s.z) {s with heap:=h'}:=λits r' Y h' J U e=>
  ⟨.ref s.z,_,I.laid (t':=s.toks) U (t_ _) (show cz X.prog X.w _ h' _ (.lst ys)from⟨Y,its,J,r',e⟩),rfl,q _ (I.hok.fresh (t_ _))⟩
 rcases a with a|a
 .obtain⟨its,r',pl,Y⟩:=I.list a;have c:=r'.length;obtain⟨o,f,g,n,hd⟩:=pl.isList;exact call_list_seq p (.inl rfl) f g hd (λh' J U e=>d its r' Y h' J U e) (by simp only[Dv]<;>omega)
 .obtain⟨its,r',pl,Y⟩:=I.tuple a;have c:=r'.length;obtain⟨o,f,g,n,hd⟩:=pl;exact call_list_seq p (.inr rfl) f g hd (λh' J U e=>d its r' Y h' J U e) (by simp only[Dv]<;>omega)
def sr:cK X (.type "tuple") (λxs H Q=>∃p ys,xs=[.ref p]/\((SqL X.K H p ys/\∀l,H l=g_->Q (.ref l) (upd H l (.tup ys)))\/(SqT X.K H p ys/\Q (.ref p) H))):=by
 intro B4 s σ H xs us Q I r h;obtain⟨p,ys,rfl,h⟩:=h;obtain⟨u,rfl,c⟩:=vals1 r;cases c;rcases h with⟨J,q⟩|⟨J,q⟩
 .obtain⟨its,r',pl,U⟩:=I.list J;have Y:=r'.length;refine call_tuple_list pl.isList (λh' d=>?_) (by simp only[Dv]<;>omega);have a:B6 X B4 σ H {s with heap:=h'}:=I.kept (t':=s.toks) d;have f:B6 X B4 σ (upd H h'.objs.size (.tup ys)) {s with heap:=h'.push {cls:=.type "tuple",data:=.seq its.toArray}}:=
   a.laid (t':=s.toks) (λb o e=>d_ _ e) (t_ _) (show cz X.prog X.w _ _ _ (.tup ys)from⟨U,its,r',Ny _ _⟩)
  exact⟨.ref h'.objs.size,_,f,rfl,q _ (a.hok.fresh (t_ _))⟩
 .obtain⟨its,r',pl,U⟩:=I.tuple J;exact call_tuple_same pl ⟨.ref p,H,I,rfl,q⟩
def tyV(K:Fg)(T:String)(x:V)(H:Hp):Prop:=match x with
 |.str _=>T="str"|.int _=>T="int"|.ref p=>(T="list"/\∃xs,SqL K H p xs)\/(T="tuple"/\∃o,K.lookup p=a_ o/\o.cls=.type "tuple"/\o.dict=g_) \/
   (T="dict"/\((∃J,H p=a_ (.dK J))\/∃J,H p=a_ (.dT J)))\/(T="set"/\∃S n,H p=a_ (.set S n))
 |_=>False
def tyV_is{s:k_}{v:h_}(I:B6 X B4 σ H s)(r:D' x v)(ty:tyV X.K T x H):
  s.TypeIs v T/\∀a,v=.ref a->∃Y,s.heap.get? a=a_ Y/\Y.dict=g_:=by
 cases x with
 |str z=>obtain⟨t,rfl⟩:=r;cases(show T="str" from ty);exact⟨typeIs_str s z t,λ_ e=>nomatch e⟩
 |int i=>obtain⟨t,rfl⟩:=r;cases(show T="int" from ty);exact⟨typeIs_int s i t,λ_ e=>nomatch e⟩
 |ref p=>
  cases r;rcases ty with⟨rfl,xs,b⟩|⟨rfl,o,J,d,hd⟩|⟨rfl,J⟩|⟨rfl,S,n,J⟩
  .obtain⟨its,_,pl,_⟩:=I.list b;refine⟨pl.isList.typeIs,λa e=>?_⟩
   cases e;obtain⟨o,n,e,c,hd,_⟩:=pl;exact⟨o,e,hd⟩
  .refine⟨⟨o,I.kIn p o J,d⟩,λa e=>?_⟩
   cases e;exact⟨o,I.kIn _ o J,hd⟩
  .have z:∃o,s.heap.get? p=a_ o/\o.ExactDict:=by
    rcases J with⟨U,J⟩|⟨U,J⟩
    .obtain⟨_,_,_,_,o,_,_,e,ex,_⟩:=I.hok p _ J;exact⟨o,e,ex⟩
    .obtain⟨_,_,_,_,o,_,_,e,ex,_⟩:=I.hok p _ J;exact⟨o,e,ex⟩
   obtain⟨o,e,ex⟩:=z;refine⟨⟨o,e,ex.1⟩,λa e2=>?_⟩
   cases e2;exact⟨o,e,ex.2.1⟩
  .obtain⟨o,_,_,_,e,ex,_⟩:=I.hok p _ J;refine⟨⟨o,e,ex.1⟩,λa e2=>?_⟩
   cases e2;exact⟨o,e,ex.2.1⟩
 |_=>exact Ej ty
def tBM(K:Fg)(T:String)(r:V->am->Hp->VK->Prop)(to:TE)(t:TA):TE:=λσ H Q=>to σ H λx H1=>tyV K T x H1/\t σ H1 λxs H2=>r x xs H2 Q
variable{o:EM}{es:List EM}{to:TE}{t:TA}{name:Dy}{apos cpos:Pos}{id:String}{r:V->List V->Hp->VK->Prop}
def pe_bm(m:PlainAttrs T)(a:Slot T name id)(c:typeOf (.builtin id)=Ff (.type "method_descriptor"))(q:MtR X id r)(p:PE X o to)(u:PA X (e::es) t)(Y: ~~~(E5 o name X.env (DC o X.env)=DC o X.env))(b: ~~~(((EG cpos (j_ (e::es) X.env)).all (λx=> !x.1)&&(Ir cpos (GZ [] X.env)).all (λx=>x.1.isSome)
   &&z_ ((e::es).length+([]:List Io).length+(if ([]:List Io).isEmpty then 0 else 1)<30))=e_))(U: ~~~((apos.endLine==cpos.line)=e_))(n: ~~~(j_ (e::es) X.env=(c_,DC e X.env)::j_ es X.env))(J: ~~~((EG cpos (j_ es X.env)).any (·.1)=c_)):
  PE X (.Call (.Attribute o name apos) (e::es) [] cpos) (tBM X.K T r to t):=by
 intro B4 s σ H Q I h;refine wpAny_Call_method_late Y b U rfl (HH (p B4 s σ H _ I h) λv k d=>?_);obtain⟨x,H1,i,f,ty,q1⟩:=d;obtain⟨h1,h2⟩:=tyV_is i f ty;refine⟨T,id,m,a,c,h1,h2,?_⟩
 have g:=u cpos B4 k σ H1 _ i q1;rw[n]at g ⊢;refine Jg (by show(c_||(EG cpos (j_ es X.env)).any (·.1))=c_;rw[J]<;>rfl) (JJ ?_);refine HH g λus j d=>?_;obtain⟨vs,H2,w,l,q2⟩:=d;exact q B4 j σ H2 x vs v us Q w f l q2
/- xs.append(e),list.index on a module's tuple .. are MtR facts of 06m -/
end
def MtM(X:Cx)(id:String)(r:V->am->Hp->VK->Prop):Prop:=
 ∀(B4:Pn) (s:k_) (σ:St) (H:Hp) (x:V) (xs:am) (v:h_) (us:as) (Q:VK),B6 X B4 σ H s->D' x v->Ds xs us->r x xs H Q ->
  o_ (u_ X.prog X.w) X.A (HG (.builtin id) (v::us)) (EP X B4 σ Q) X.xe s
def Ds.one(h:Ds [x] us):∃u,us=[u]/\D' x u:=by
 cases h with
 |cons r t=>cases t;exact⟨_,rfl,r⟩
def Ds.two{y:V}(h:Ds [x,y] us):∃u v,us=[u,v]/\D' x u/\D' y v:=by
 cases h with
 |cons r t=>obtain⟨v,rfl,q⟩:=Ds.one t;exact⟨_,_,rfl,r,q⟩
theorem Ds.zero:∀{us:as},Ds [] us->us=[]
 |_,.nil=>rfl
theorem Ds.eraseIdx:∀{xs:am} {us:as} (i:Nat),Ds xs us->Ds (xs.eraseIdx i) (us.eraseIdx i)
 |_,_,_,.nil=>.nil|_,_,0,.cons _ t=>t|_,_,i+1,.cons r t=>.cons r (Ds.eraseIdx i t)
section
variable{s:k_}{l:i_}{xs ys:List V}
def B6.lset{f:Array h_->Array h_}{t':Nat}(I:B6 X B4 σ H s)(b:H l=a_ (.lst xs))(e:s.heap.get? l=a_ {cls:=.type "list",data:=.seq its.toArray n})(Y:f its.toArray=its'.toArray)(hv:Ds ys its')(J:ys.length<=n_):
  B6 X B4 σ (upd H l (.lst ys)) {s with heap:=s.heap.update l (ES f),toks:=t'}:=by
 have q:=PySem.IsL.update e f;rw[Y]at q;refine I.write (x:=l) (e:=l) (by rw[b];exact trivial) (.inl rfl) (λb' u a U=>(Dw s.heap (ES f) (Em a)).trans U) ⟨_,q⟩ ?_;exact⟨J,its',_,hv,q⟩
def B6.lnew{t':Nat}(I:B6 X B4 σ H s)(hv:Ds ys its)(J:ys.length<=n_):
  B6 X B4 σ (upd H s.heap.objs.size (.lst ys)) {s with heap:=s.heap.push {cls:=.type "list",data:=.seq its.toArray},toks:=t'}:=
 I.laid (λ_ _ q=>d_ _ q) (t_ _) ⟨J,its,0,hv,l_ _ rfl⟩
theorem B6.fresh(I:B6 X B4 σ H s):H s.heap.objs.size=g_:=I.hok.fresh (t_ _)
def B6.lstM(I:B6 X B4 σ H s)(J:H l=a_ (.lst xs)):xs.length<=n_/\∃(its:as) (n:Nat),Ds xs its/\xs.length=its.length/\s.heap.get? l=a_ {cls:=.type "list",data:=.seq its.toArray n}:=by obtain⟨z,its,n,r,e⟩:=I.hok l _ J;exact⟨z,its,n,r,r.length,e⟩
def notLongL(h:n<=n_):Ic n=c_:=by unfold Ic;exact Eu ac
end
def qZ:V->am->Hp->VK->Prop:=λx vs H Q=>∃l xs y,x=.ref l/\vs=[y]/\H l=a_ (.lst xs)/\xs.length<n_/\Q .non (upd H l (.lst (xs++[y])))
theorem u4:MtM X "list.append" qZ:=by
 intro B4 s σ H x vs v us Q I U Y h;obtain⟨l,xs,y,rfl,rfl,J,b,q⟩:=h;cases U;obtain⟨u,rfl,a⟩:=Y.one;obtain⟨z,its,n,r,c,e⟩:=I.lstM J;refine OM Je ⟨_,e,rfl⟩ F.entry_list_append (F.args_list_append_2 _ _) (PySem.list_append l its.toArray n u (by rw[Dv];omega)) ⟨e,?_⟩;refine⟨.non,_,I.lset (its':=its++[u]) J e ad (r.append (.cons a .nil)) ?_,rfl,q⟩
 rw[Eb,JB];omega
def Bi:V->am->Hp->VK->Prop:=λx vs H Q=>∃l b xs J,x=.ref l/\vs=[.ref b]/\H l=a_ (.lst xs)/\H b=a_ (.lst J)/\xs.length+J.length<=n_/\Q .non (upd H l (.lst (xs++J)))
theorem BP:MtM X "list.extend" Bi:=by
 intro B4 s σ H x vs v us Q I a c h;obtain⟨l,b,xs,j,rfl,rfl,Y,i,m,q⟩:=h;cases a;obtain⟨u,rfl,d⟩:=c.one;cases d;obtain⟨z,its,n,r,o,e⟩:=I.lstM Y;obtain⟨k,J,n2,f,g,e2⟩:=I.lstM i;have hsz:its.toArray.size+J.toArray.size<=n_:=by rw[Dv,Dv];omega
 have U:¬(!its.toArray.isEmpty&&Ic (its.toArray.size+J.toArray.size))=e_:=by rw[notLongL hsz,JQ];exact Dz
 refine OM Mo ⟨_,e,rfl⟩ F.entry_list_extend (F.args_list_extend_2 _ _)
  (AutoSeq1.list_extend_list_list_0 l its.toArray n b J.toArray n2 U (by rw[Dv];omega) ac) ⟨e,e2,?_⟩
 refine⟨.non,_,I.lset (its':=its++J) Y e ad (r.append f) ?_,rfl,q⟩
 rw[Eb];omega
end Lake
namespace Lake.Att
open PySem PySem.W PySem.Calls PyProof.Rows
def nC{P:Params}{h:Eg}:∀(ns:aj) (vs:as),WellAll P h vs (ns.map WData.int)->G9 vs ns:=by
 intro ns
 induction ns with
 |nil=>intro vs w;rw[GA]at w;cases w;exact .nil|cons n ns J=>
  intro vs w;rw[x_]at w;cases w with
  |cons a b=>cases a;exact .cons _ _ (J _ b)
def B0{l:Kq}{n:Nat}(o:l.most=a_ n){P:Params}{h:Eg}{args:List WData}{J:as}(U:l.row.toRowW.claim.pre args=e_)(e:WellAll P h J args):
  ∃a vs ns,J=[w_ a]/\args=[WData.list (ns.map WData.int)]/\h.get? a=a_ {cls:=.type "list",data:=.seq vs.toArray}/\G9 vs ns/\ns.length<=n:=by
 have f:WShape.hasAll [] args [.list .int]=e_:=(pre_splitW U).1;have g:l.pre.holds [] {args:=args}=e_:=(pre_splitW U).2;obtain⟨d,r,rfl,h1,h2⟩:=hasAllW_cons f;obtain rfl:=hasAllW_nil h2;obtain⟨xs,rfl,p⟩:=hasW_list h1;obtain⟨ns,rfl⟩:=items_int p;have Y:ns.length<=n:=by
  unfold OpenLaw.pre at g;have c:(WTm.not (.lt (.lit (.int (n:Int))) (.len (.arg 0)))).holds [] {args:=[.list (ns.map .int)]}=e_:=by have c:=(holds_andW g).1;rw[o]at c;exact c
  have h5:=condW_of c (w_not (w_lt w_lit (w_len_list (w_arg rfl))));rw[y_]at h5;refine Nat.le_of_not_lt λq=>?_;have k:(n:Int)<((ns.length:Nat):Int):=ac
  first
   |(rw[Gu k]at h5;exact DD h5 ag)
   |(simp at h5;omega)
 cases e with
 |cons j i=>
  cases i;cases j with
  |list m b=>exact⟨_,_,ns,rfl,rfl,m,nC ns _ b,Y⟩
def Bq(l:Kq)(args:List WData):l.row.toRowW.claim.post args (.bool e_) args=e_:=
 postW_of (r:=l.row.toRowW) (X:=(e_==e_))
  (show WShape.has [] (.bool e_) .bool=e_ by first|rfl|decide|simp[WShape.has,WShape.arms,WShape.armsAll])
  (show(WTm.eq .res (.lit (.bool e_))).value [] {args:=args,res:=a_ (.bool e_),after:=args}=a_ (.bool (e_==e_))from w_eq_bool (w_res rfl) w_lit) rfl
def wG{l:Kq}{n:Nat}{q:EC}{b:List Dy}{z:(Mq)->Eg->Prop}{y:Fe->Eg->Prop}{d:DefRec}(D:l.most=a_ n)(p:d.params.defaults=[])(i:∀(w:Fe) (U J:k_) (mg j:Mq) (fa:i_) (o:H9) (pm cd doc:h_) (a:i_) (vs:as) (ns:aj),
   Ground q b [] z w U mg j J.heap->y w J.heap ->
   J.heap.get? fa=a_ o->o.data=.func (docDef d.name d.params d.body d.scope pm cd doc)->J.heap.CodeRec cd d.name->mg d.name=a_ (.ref fa) ->
   J.heap.get? a=a_ {cls:=.type "list",data:=.seq vs.toArray}->G9 vs ns->ns.length<=n->J.gens=#[] ->
   Hi (u_ l.prog w) K8 (.call (.ref fa) ⟨[.ref a],[]⟩) (λr s'=>r=.ok (.ret (.bool e_))/\OldK J.heap s'.heap/\s'.os=J.os/\Jn s'.gens) J):
  MM q b z y l.row.toRowW d [] (λf vs=>HG f vs):=by
 intro w U J mg j G Y fa o pm cd doc L kV C hd s v m H x t N e u A k F;obtain rfl:L=.none:=Dflts.none v p;obtain rfl:kV=.none:=Dflts.noKw v;obtain⟨a,vs,ns,rfl,rfl,g,c,h⟩:=B0 D e k;refine enter_call (Gd (i w U J mg j fa o pm cd doc a vs ns G Y C (fd_plain hd) s m g c h H) λr s' B=>?_);obtain⟨rfl,h2,K,I⟩:=B;exact⟨.inl ⟨.bool e_,.bool e_,[],rfl,λ_=>rfl,.bool e_,Bq l _,λ_=>⟨Jx,λ_ E=>(nomatch E)⟩⟩,h2,K,I⟩
end Lake.Att
namespace Lake
open PySem PySem.Spec PyProof.Rows
variable{P prog:EC}{w:Fe}{K:Fg}{mg:Mq}{CX:CXT}{k n j i m nN nN2 n2 ep sl ep':Nat}{a l b c L C r fad C2 fI z Cb I C1 A1 A2:i_}{fd fdI:Gi}{x qual nm to:Dy}{sp:Sp}{vs us tl its bmB sub:List h_}{ns ks:List Int}{X:Cx}{st b₀:E6}{ps N' N ps2 sn:List Dy}{oc doc pm cdv ct mc v u r' k' a' b' hv cd first:h_}{od an dx dd:Option i_}{osl:Array (Option h_)}{pos spos py p apos pos' q p2 q1 q2 p1 p3 p4 np cpos hpos pos1:Pos}{A:Fu}{B T newId initId:String}{H H1 H2 H' F F' H0 F1 F0 FB G G':Hp}{scope sc:Lc}{env:LH}{E:Vp}{B4:Pn}{σ σ':St}{ix:List (Option Nat)}{fp ch wr:List i_}{t:Ks}{R:Bool->Hp->Prop}{elt tg iter e value ek ev e1 e2 e3 e4 e5:EM}{ifs es elts:List EM}{tt:TT}{te ta tv td:TE}{y:V}{h h':Eg}{cs:List (Dy×i_)}{dvs:List V}{pl:NI Bool}{Q:Option h_->k_->Prop}{lo:Int}{O O2 OL O':List Nat}{ro bn hdct ab:Bool}{D:Ends}{α κ β:Type}{op op':CmpOp}{sts body suite:List E6}{k2 k0 k1 k3 k5:Option h_}{tb:List (i_×List Bool)}{outer:List LH}{oe:H9}{ts:i_->Option i_->TS}{os:OsState}{tk:Tok}{col:Option Bool}{items acc:Array h_}{ord:List (Int×h_)}{l1:List Bool}
theorem sT:∀{vs:as} {ns:aj},G9 vs ns->Ds (ns.map V.int) vs
 |_,_,.nil=>.nil|_,_,.cons n t h=>.cons ⟨t,rfl⟩ (sT h)
def Only(H:Hp):Prop:=∀b,H b=g_\/∃o xs,H b=a_ (.frz o (.lst xs))
def law_call{E:Mq}{fa:i_}{J:k_}(X:K.In J.heap)(t:J.heap.Ns Eo mg)(Y:J.heap.Ns ON E)(L:∀x:Dy,x≠"__name__"->E x=FV x)(y:J.heap.NoLimit)(hg:J.gens=#[])(C:J.heap.get? a=a_ {cls:=.type "list",data:=.seq vs.toArray})(hi:G9 vs ns)(S:ns.length<=n_)(hr:eW k K8)(F:∀base:Eg,K.In base->base.Ns Eo mg->eJ P w K mg base CX k fa fd [x] sp)(g:∀(s:k_) (u:h_),KI s fd ⟨[u],[]⟩ [(x,u)])(G:∀H:Hp,Only H->SqL K H a (ns.map V.int)->sp [.ref a] H (λv _=>v=.bl e_) λ_ _ _=>False)(N:∀H e s',CX [] H J (λ_ _ _=>False) e s'->False):
  Hi (u_ P w) K8 (.call (.ref fa) ⟨[.ref a],[]⟩) (λr s'=>r=.ok (.ret (.bool e_))/\OldK J.heap s'.heap/\s'.os=J.os/\Jn s'.gens) J:=by
 have R:=sT hi;have j:=hi.length;have f:∀H:Hp,Only H->SqL K H a (ns.map V.int)->HOk P w H J.heap->(∀b,H b≠g_->b=a)->(H a≠g_->K.lookup a=g_) ->
   Hi (u_ P w) K8 (.call (.ref fa) ⟨[.ref a],[]⟩) (λr s'=>r=.ok (.ret (.bool e_))/\OldK J.heap s'.heap/\s'.os=J.os/\Jn s'.gens) J:=by
  intro H T hS p W hK;have U:∀{b:i_} {o:H9},J.heap.get? b=a_ o->H b=g_->(hidT J.heap H).get? b=a_ o:=λe n=>hidT_get e n;have D:∀{b:i_} {o:H9} {es:Array FJ} {ep:Nat},J.heap.get? b=a_ o->o.data=.dict es ep->H b=g_:=λ{b o es ep} e d=>by
   cases q:H b with
   |none=>rfl|some u=>have O:b=a:=W b (by rw[q];simp);subst O;rw[C]at e;cases e;have d':Data.seq vs.toArray _=Data.dict es ep:=d;cases d'
  have c:∀{b:i_} {m:Mq},J.heap.Ns b m->(hidT J.heap H).Ns b m:=λ{b m} ⟨o,es,ep,e,d,r⟩=>⟨o,es,ep,U e (D e d),d,r⟩
  have A:K.In (hidT J.heap H):=λb o e=>U (X b o e) (by
   cases q:H b with
   |none=>rfl|some u=>have O:b=a:=W b (by rw[q];simp);subst O;rw[hK (by rw[q];simp)]at e;cases e)
  have hM:Mod K mg (hidT J.heap H):=⟨A,c t,⟨E,c Y,L⟩,let ⟨mc,h1,h2⟩:=y;⟨mc,c h1,h2⟩⟩
  have e0:Env0 P w K mg (hidT J.heap H) K8 [] J H:=⟨rfl,hM,λb o e=>of_hidT e,KQ (Ck _ _),trivial,λb Y=>DD (show b∈([]:List i_)from Y) ad,p,.of_eq hg⟩
  refine Gd ((F _ A (c t)).run K8 [] J H ⟨[.ref a],[]⟩ [.ref a] [.ref a] _ _ hr e0 (g J (.ref a)) (.cons rfl .nil) (G H T hS)) λr s' h=>?_;cases r with
  |error e=>exact(N H e s' h).elim|ok fl=>
   cases fl with
   |next=>exact Ej h|brk=>exact Ej h|cont=>exact Ej h|ret u=>
    obtain⟨v,H',os,B,Q,l,r',q⟩:=h;have q':v=.bl e_:=q;subst q';obtain rfl:u=La e_:=r';refine⟨rfl,OldK.of_keep λb o e=>?_,os,B⟩
    cases q:H b with
    |none=>exact Q.keep b o e q (by intro z;exact DD (show b∈([]:List i_)from z) ad) ad|some u=>
     rcases T b with z|⟨ob,xs,z⟩
     .rw[q]at z;cases z
     .have Z:=Q.frzs b ob _ z;obtain⟨e1,_⟩:=p b _ z;obtain⟨e2,_⟩:=l b _ Z;rw[e]at e1;cases e1;exact e2
 cases I:K.lookup a with
 |some o=>have e:=X a o I;rw[C]at e;cases e;refine f (λ_=>g_) (λ_=>.inl rfl) (.inr ⟨_,vs.toArray,_,I,rfl,rfl,rfl,by rw[Dv,j];exact S,by simpa using R⟩) (λb u z=>by have i:(g_:Option HO)=a_ u:=z;cases i) (λb z=>DD rfl z) λz=>DD rfl z|none=>
  refine f (λb=>if b=a then a_ (.frz {cls:=.type "list",data:=.seq vs.toArray} (.lst (ns.map V.int)))else g_) (λb=>?_) (.inl (.inr ⟨{cls:=.type "list",data:=.seq vs.toArray},s_ rfl⟩)) (λb u z=>?_) (λb z=>?_) λ_=>I
  .by_cases Y:b=a
   .exact .inr ⟨_,_,s_ Y⟩
   .exact .inl (q_ Y)
  .by_cases Y:b=a
   .have i:=(s_ Y).symm.trans z;cases i;subst Y;exact⟨C,by rw[y_];exact S,vs,_,R,C⟩
   .have i:=(q_ Y).symm.trans z;cases i
  .by_cases Y:b=a
   .exact Y
   .exact DD (q_ Y) z
def walk_of{l:Kq}{q:EC}{U:List Dy}{P:(Mq)->Eg->Prop}{y:Fe->Eg->Prop}{d:DefRec}{K:Params->Fg}{CX:Fe->CXT}{sp:Fe->Sp}(B:l.most=a_ n)(j:n<=n_)(p:d.params.defaults=[])(A:eW k K8)(I:∀(w:Fe) (h:Eg),y w h->(K w.params).In h)(F:∀(w:Fe) (mg:Mq) (fa:i_) (h:Eg),(K w.params).In h->h.Ns Eo mg->mg d.name=a_ (.ref fa) ->
   ∃fd:Gi,(∀(s:k_) (u:h_),KI s fd ⟨[u],[]⟩ [(x,u)]) /\
    ∀base:Eg,(K w.params).In base->base.Ns Eo mg->eJ l.prog w (K w.params) mg base (CX w) k fa fd [x] (sp w))(i:∀(w:Fe) (H:Hp) (a:i_) (ns:aj),ns.length<=n->Only H->SqL (K w.params) H a (ns.map V.int)->sp w [.ref a] H (λv _=>v=.bl e_) λ_ _ _=>False)(r:∀(w:Fe) (H:Hp) (s:k_) (e:h_) (s':k_),CX w [] H s (λ_ _ _=>False) e s'->False):
  MM q U P y l.row.toRowW d [] (λf vs=>HG f vs):=by
 refine Att.wG B p λw t c mg Q fa o pm cd doc a vs ns G Y R hd D m g b J C=>?_;have z:=I w _ Y;obtain⟨fd,E,O⟩:=F w mg fa _ z G.T.g m;exact law_call z G.T.g G.T.b G.T.builtins G.T.nolimit C g b (Ee J j) A O E (λH N L=>i w H a ns J N L) λH e s'=>r w H c e s'
def inClass(s:E6)(j:Nat):E6:=match s with
 |.ClassDef _ _ _ body _ _ _ _ _ _ _=>body.getD j (.Pass ⟨0,0,0,0⟩)|_=>.Pass ⟨0,0,0,0⟩
def cJ(s:E6):Arguments:=match s with
 |.FunctionDef _ a _ _ _ _ _ _ _ _=>a|_=>{posonlyargs:=[],args:=[],vararg:=g_,kwonlyargs:=[],kw_defaults:=[],kwarg:=g_,defaults:=[]}
def bF(s:E6):List E6:=match s with
 |.FunctionDef _ _ b _ _ _ _ _ _ _=>b|_=>[]
def aB(s:E6):Lc:=match s with
 |.FunctionDef _ _ _ _ _ _ sc _ _ _=>sc|_=>{kind:=.function,names:=[],isGenerator:=c_,isCoroutine:=c_}
noncomputable abbrev CX0:CXT:=λ_ _ _ _ _ _=>False
noncomputable abbrev E0:XK:=λ_ _ _=>False
def tV:Passes CX0 X E0:=λ_ _ _ _ _ _ _ h=>h.elim
structure Fun(K:Fg)(x qual:Dy)(st:E6)(f:i_)(fd:Gi):Prop where
 ex:∃(oc:h_) (od:Option i_) (kV doc pm:h_) (an:Option i_) (cdv ct:h_) (osl:Array (Option h_)),
  fd=KN x qual (cJ st) (bF st) (aB st) .none kV doc pm an cdv ct/\K.lookup f=a_ ⟨oc,od,.func fd,osl⟩/\LB K cdv qual=e_
 kp:Gw K (.ref f)=e_
theorem Fun.binds{f:i_}(F:Fun K x qual st f fd)(h:∀(kV doc pm:h_) (an:Option i_) (cdv ct:h_) (us:as),us.length=ps.length->Kp (KN x qual (cJ st) (bF st) (aB st) .none kV doc pm an cdv ct) ⟨us,[]⟩=Ff (ps.zip us)):Binds K fd ps []:=by obtain⟨oc,od,kV,doc,pm,an,cdv,ct,osl,rfl,U,J⟩:=F.ex;exact .all (h kV doc pm an cdv ct)
def xR{f:i_}{kV:h_}(l:K.lookup f=a_ ⟨oc,od,.func (KN x qual (cJ st) (bF st) (aB st) .none kV doc pm an cdv ct),osl⟩)(c:LB K cdv qual=e_)(k:Gw K (.ref f)=e_):Fun K x qual st f (KN x qual (cJ st) (bF st) (aB st) .none kV doc pm an cdv ct):=⟨⟨oc,od,kV,doc,pm,an,cdv,ct,osl,rfl,l,c⟩,k⟩
def pv(i:Nat)(U: ~~~(X.N[i]?=a_ x))(hv:autoParam (Vis X.env.scope x) Jq4)(hd:((x==("__debug__":Dy))=c_)⁻¹)(J:((x==("__classdict__":Dy))=c_)⁻¹):PE X (.Name x pos) (Am i):=pe_var U hv hd J
def iteF{A B:Prop}(h:B):if c_=e_ then A else B:=by rw[q_ Dz];exact h
def iteNS{c A B:Prop}[Decidable c](J:c)(h:B):if (!decide c)=e_ then A else B:=by rw[Gu J];exact iteF h
def aO(H H':Hp):Prop:=∀b o,H b=a_ o->H' b=a_ o
def aO.refl(H:Hp):aO H H:=λ_ _ h=>h
def aO.trans(a:aO H H1)(b:aO H1 H2):aO H H2:=λc o h=>b c o (a c o h)
def aO.free(e:aO H H')(h:H' l=g_):H l=g_:=by
 cases q:H l with
 |none=>rfl|some o=>rw[e l o q]at h;cases h
noncomputable def qt(cells:List (Dy×i_)):List (Dy×G8)->List (Dy×i_)->List (Dy×i_)
 |[],acc=>acc|(x,k)::r,acc=>qt cells r (if (k==DJ)=e_ then(x,(cells.lookup x).getD 0)::acc else acc)
def gt_ne(h1:b<a)(h2:a<c):c≠b:=by rintro rfl;exact DD (Jt h1 h2) (EB _)
def zK(h1:a<n)(h2:n<=b):a≠b:=by rintro rfl;exact DD (DL h1 h2) (EB _)
theorem qr{cells:List (Dy×i_)}{x:Dy}{c:i_}:∀(ns:List (Dy×G8)) (acc:List (Dy×i_)),(qt cells ns acc).lookup x=a_ c ->
  ((x,DJ)∈ns/\c=(cells.lookup x).getD 0)\/acc.lookup x=a_ c
 |[],_,h=>.inr h|(y,k)::r,acc,h=>by
  unfold qt at h;rcases qr r _ h with⟨m,e⟩|q
  .exact .inl ⟨DQ _ m,e⟩
  .by_cases U:(k==DJ)=e_
   .rw[s_ U,A_]at q;cases J:x==y with
    |true=>rw[J]at q;have e1:=Gn J;have e2:=Gn U;subst e1 e2;exact .inl ⟨Ea,(DV q).symm⟩|false=>rw[J]at q;exact .inr q
   .rw[q_ U]at q;exact .inr q
theorem nY{cells:List (Dy×i_)}{x:Dy}:∀(ns:List (Dy×G8)) (acc:List (Dy×i_)),((x,DJ)∈ns\/(acc.lookup x).isSome=e_)->((qt cells ns acc).lookup x).isSome=e_
 |[],_,h=>h.elim (λz=>nomatch z) id
 |(y,k)::r,acc,h=>by
  unfold qt;refine nY r _ ?_;rcases h with h|h
  .rcases p_.mp h with e|h
   .cases e;refine .inr ?_;rw[s_ ag,A_];simp
   .exact .inl h
  .refine .inr ?_;by_cases J:(k==DJ)=e_
   .rw[s_ J,A_];cases U:x==y with
    |true=>rfl|false=>exact h
   .rw[q_ J];exact h
theorem jB{x:Dy}{c:i_}:∀(ns:List (Dy×G8)) (n:Nat) (acc:List (Dy×i_)),(FG n ns acc).lookup x=a_ c->(n<=c/\(x,FY)∈ns)\/acc.lookup x=a_ c
 |[],_,_,h=>.inr h|(y,k)::r,n,acc,h=>by
  unfold FG at h;by_cases U:(k==FY)=e_
  .rw[s_ U]at h;rcases jB r (n+1) _ h with⟨a,m⟩|q
   .exact .inl ⟨ac,DQ _ m⟩
   .rw[A_]at q;cases J:x==y with
    |true=>rw[J]at q;have e1:=Gn J;have e2:=Gn U;have e3:=DV q;subst e1 e2 e3;exact .inl ⟨t_ _,Ea⟩|false=>rw[J]at q;exact .inr q
  .rw[q_ U]at h;rcases jB r n acc h with⟨a,m⟩|q
   .exact .inl ⟨a,DQ _ m⟩
   .exact .inr q
theorem nZ:∀(ns:List (Dy×G8)) (n:Nat) (acc:List (Dy×i_)),(∀x y c,acc.lookup x=a_ c->acc.lookup y=a_ c->x=y)->(∀x c,acc.lookup x=a_ c->c<n) ->
  ∀x y c,(FG n ns acc).lookup x=a_ c->(FG n ns acc).lookup y=a_ c->x=y
 |[],_,_,hi,_=>hi|(z,k)::r,n,acc,hi,a=>by
  unfold FG;by_cases b:(k==FY)=e_
  .rw[s_ b];refine nZ r (n+1) _ (λx y c h1 h2=>?_) (λx c h1=>?_)
   .rw[A_]at h1 h2;cases J:x==z with
    |true=>
     rw[J]at h1;have e1:=DV h1;cases U:y==z with
     |true=>rw[Gn J,Gn U]|false=>rw[U]at h2;have Y:=a y c h2;rw[<- e1]at Y;exact DD Y (EB _)
    |false=>
     rw[J]at h1;cases U:y==z with
     |true=>rw[U]at h2;have e2:=DV h2;have Y:=a x c h1;rw[<- e2]at Y;exact DD Y (EB _)|false=>rw[U]at h2;exact hi x y c h1 h2
   .rw[A_]at h1;cases J:x==z with
    |true=>rw[J]at h1;have e1:=DV h1;rw[<- e1];exact Fz _|false=>rw[J]at h1;exact Gg (a x c h1)
  .rw[q_ b];exact nZ r n acc hi a
theorem kx{x:Dy}{c:i_}:∀(ns:List (Dy×G8)) (h:Eg) (acc:List (Dy×i_)),(FG h.objs.size ns acc).lookup x=a_ c ->
  acc.lookup x=a_ c\/(h.objs.size<=c/\(pushCells h ns).IsCell c g_)
 |[],_,_,e=>.inl e|(y,k)::r,h,acc,e=>by
  unfold FG at e;unfold pushCells;by_cases U:(k==FY)=e_
  .rw[s_ U]at e ⊢;have q:=kx (x:=x) (c:=c) r (h.push {cls:=.type "cell",data:=.cell g_}) ((y,h.objs.size)::acc) (by rw[DZ];exact e);rcases q with q|⟨q1,q2⟩
   .rw[A_]at q;cases J:x==y with
    |true=>rw[J]at q;have e1:=DV q;subst e1;exact .inr ⟨t_ _,Heap.IsCell.keeps ⟨_,l_ _ rfl,rfl⟩ (LN r _)⟩|false=>rw[J]at q;exact .inl q
   .rw[DZ]at q1;exact .inr ⟨ac,q2⟩
  .rw[q_ U]at e ⊢;exact kx r h acc e
theorem kN{env:LH}(f:Dy×G8->List (Dy×i_)->NI (ForInStep (List (Dy×i_))))(U:∀n k cs,f (n,k) cs=if (k==DJ)=e_ then(do let a <- cellOf env n;Ff (.yield ((n,a)::cs)))else Ff (.yield cs)):
  ∀(ns:List (Dy×G8)) (acc:List (Dy×i_)),(∀x∈ns,x.2=DJ->∃c,env.cells.lookup x.1=a_ c)->forIn ns acc f=(Ff (qt env.cells ns acc):NI _)
 |[],acc,_=>by rw[Iv];rfl|(y,k)::r,acc,b=>by
  have Y:∀x∈r,x.2=DJ->∃c,env.cells.lookup x.1=a_ c:=λx g=>b x (DQ _ g);rw[Jw,U];unfold qt;by_cases J:(k==DJ)=e_
  .rw[s_ J,s_ J];obtain⟨c,e⟩:=b (y,k) Ea (Gn J);have d:env.cells.lookup y=a_ c:=e;have e2:cellOf env y=Ff c:=by unfold cellOf;rw[d]
   rw[e2,d];exact kN f U r _ Y
  .rw[q_ J,q_ J];exact kN f U r _ Y
def qq(J:∀x∈scope.names,x.2=DJ->∃c,env.cells.lookup x.1=a_ c):closureFor scope env=Ff (qt env.cells scope.names []):=by simp only[closureFor];rw[kN (env:=env) _ (λn k cs=>by cases h:(k==DJ)<;>simp[h]) scope.names [] J];rfl
def BM{M:Ld}{s:k_}{f:i_}{Y:List (Dy×i_)}{J:LH}{Q:LH->k_->Prop}(h:∀h1:Eg,(∀b o,s.heap.get? b=a_ o->h1.get? b=a_ o)->h1.Ns s.heap.objs.size (λ_=>g_) ->
   (∀x c,(FG (s.heap.objs.size+1) scope.names Y).lookup x=a_ c->Y.lookup x=a_ c\/(s.heap.objs.size<c/\h1.IsCell c g_)) ->
   Q {scope:=scope,locals:=s.heap.objs.size,globals:=f,cells:=FG (s.heap.objs.size+1) scope.names Y,qual:=qual,func:=g_,code:=J.code,frame:=J.frame,builtins:=J.builtins} {s with heap:=h1}):
  o_ M A (Mf scope f Y [] qual g_ .none (a_ J)) Q E s:=by
 simp only[Mf,Option.isSome_some,Ia];refine b_ (wpAny_alloc ?_);refine b_ (wpAny_layCells _ (λname U cells=>by cases d:U==FY<;>simp[d]) _ _ _ _ ?_);rw[show({s with heap:=s.heap.push {cls:=.type "dict",data:=.dict #[]}}:k_).heap.objs.size=s.z+1 from DZ ..];rw[Iv];refine b_ (f_ (f_ ?_));refine h _ (λb o e=>LN _ _ b o (d_ _ e)) ((Heap.Ns.new s.heap (.type "dict")).keeps (LN _ _)) λx c e=>?_;have q:=kx (x:=x) (c:=c) scope.names (s.heap.push {cls:=.type "dict",data:=.dict #[]}) Y (by rw[DZ];exact e);rw[DZ]at q;refine q.imp id λg=>?_;obtain⟨a,b⟩:=g;exact⟨ac,b⟩
theorem pL{env:LH}{x:Dy}:∀{ns:List (Dy×G8)},ns.lookup x=a_ .free ->
  (ns.map λ(n,k)=>if (k==DJ&&env.scope.kind==.function&&env.kindOf n==a_ .cell)then(n,FY)else(n,k)).lookup x=a_ .cell \/
  (ns.map λ(n,k)=>if (k==DJ&&env.scope.kind==.function&&env.kindOf n==a_ .cell)then(n,FY)else(n,k)).lookup x=a_ .free
 |[],h=>by simp at h|(n,k)::r,h=>by
  have U:=@pL env x r;rw[x_];dsimp only;by_cases Y:(k==DJ&&env.scope.kind==.function&&env.kindOf n==a_ .cell)=e_
  .rw[s_ Y,A_];cases J:x==n with
   |true=>exact .inl rfl|false=>rw[A_,J]at h;exact U h
  .rw[q_ Y,A_];cases J:x==n with
   |true=>rw[A_,J]at h;have e:=DV h;subst e;exact .inr rfl|false=>rw[A_,J]at h;exact U h
theorem pM{env:LH}{x:Dy}:∀{ns:List (Dy×G8)},
  ((ns.map λ(n,k)=>if (k==DJ&&env.scope.kind==.function&&env.kindOf n==a_ .cell)then(n,FY)else(n,k)).lookup x=a_ .cell \/
  (ns.map λ(n,k)=>if (k==DJ&&env.scope.kind==.function&&env.kindOf n==a_ .cell)then(n,FY)else(n,k)).lookup x=a_ .free) ->
  ns.lookup x=a_ .cell\/ns.lookup x=a_ .free
 |[],h=>by simp at h|(n,k)::r,h=>by
  have Y:=@pM env x r;rw[x_]at h;dsimp only at h;by_cases U:(k==DJ&&env.scope.kind==.function&&env.kindOf n==a_ .cell)=e_
  .rw[s_ U,A_]at h;rw[A_];cases J:x==n with
   |true=>
    have:k=DJ:=by rw[r_,r_]at U;exact Gn U.1.1
    subst this;exact .inr rfl
   |false=>rw[J]at h;exact Y h
  .rw[q_ U,A_]at h;rw[A_];cases J:x==n with
   |true=>rw[J]at h;exact h|false=>rw[J]at h;exact Y h
def b7(X:Cx)(N':List Dy)(sc:Lc)(L:i_)(cs:List (Dy×i_))(s:k_)(H:Hp)(fp:List i_):Cx:=
 {X with
  N:=N',s₀:=s,H₀:=H,outer:=X.stack,ex:=fp,pn:=[],xe:=λ_ _=>False
  fn:=λx=> !(sc.names.any λp=>p.1==x&&p.2==DJ)
  env:={scope:=relabel sc X.env,locals:=L,globals:=X.env.globals,cells:=cs,qual:=X.env.qual,func:=g_,code:=X.env.code,frame:=X.env.frame,builtins:=X.env.builtins}}
def inS(ix:List (Option Nat))(σ:St):St:=ix.map λo=>match o with
 |none=>g_|some j=>(σ[j]?).join
def bB(N:List Dy)(J:Lc)(N':List Dy)(sc:Lc)(ix:List (Option Nat)):Bool:=
 z_ (ix.length=N'.length) &&
 ((DR ix.length).all λi=>match ix[i]? with
  |some (a_ j)=>(match N'[i]?,N[j]? with
   |some x,a_ y=>x==y&&sc.names.lookup x==a_ DJ|_,_=>c_)
  |_=>e_) &&
 (sc.names.all λp=>(p.2 != DJ||(J.names.lookup p.1==a_ FY||J.names.lookup p.1==a_ DJ))&&(p.2 != NameKind.local||sc.names.lookup p.1==a_ NameKind.local)) &&
 (sc.names.all λp=>sc.names.all λq=> !(p.1==q.1)||p.2==q.2)
section
variable{s:k_}
def bB.len(J:bB X.N X.env.scope N' sc ix=e_):ix.length=N'.length:=by unfold bB at J;rw[r_,r_,r_]at J;exact of_decide_eq_true J.1.1.1
theorem bB.at(J:bB X.N X.env.scope N' sc ix=e_){i j:Nat}{x:Dy}(h:ix[i]?=a_ (a_ j))(U:N'[i]?=a_ x):X.N[j]?=a_ x/\sc.names.lookup x=a_ .free:=by
 unfold bB at J;rw[r_,r_,r_]at J;have q:=Hk.mp J.1.1.2 i (EV.mpr (v_.mp h).1);rw[h,U]at q;dsimp only at q;cases e:X.N[j]? with
 |none=>rw[e]at q;cases q|some y=>rw[e]at q;dsimp only at q;rw[r_]at q;exact⟨by rw[Gn q.1],Gn q.2⟩
def bB.fr(J:bB X.N X.env.scope N' sc ix=e_)(h:(x,DJ)∈sc.names):X.env.kindOf x=a_ .cell\/X.env.kindOf x=a_ .free:=by
 unfold bB at J;rw[r_,r_]at J;have q:=Hk.mp J.1.2 _ h;rw[r_]at q;have q1:=q.1;rw[Jy]at q1;rcases q1 with z|z
 .exact DD z ad
 .rw[Jy]at z;exact z.imp (λe=>Gn e) λe=>Gn e
def bB.loc(J:bB X.N X.env.scope N' sc ix=e_):∀x∈sc.names,x.2=NameKind.local->sc.names.lookup x.1=a_ .local:=λx U e=>by
 unfold bB at J;rw[r_,r_]at J;have q:=Hk.mp J.1.2 _ U;rw[r_]at q;have q1:=q.2;rw[Jy]at q1;rcases q1 with z|z
 .rw[e]at z;exact DD z ag
 .exact Gn z
def bB.apart(J:bB X.N X.env.scope N' sc ix=e_)(h1:(x,FY)∈sc.names)(h2:(x,DJ)∈sc.names):False:=by unfold bB at J;rw[r_]at J;have q:=Hk.mp (Hk.mp J.2 _ h1) _ h2;simp at q
def nX(I:B6 X B4 σ H s)(J:bB X.N X.env.scope N' sc ix=e_):∀x∈sc.names,x.2=DJ->∃c,X.env.cells.lookup x.1=a_ c:=λx U e=>by obtain⟨n,k⟩:=x;have Y:k=DJ:=e;subst Y;exact I.ok.has n (bB.fr J U)
def D4(I:B6 X B4 σ H s)(U:bB X.N X.env.scope N' sc ix=e_)(h:(qt X.env.cells sc.names []).lookup x=a_ c):(x,DJ)∈sc.names/\X.env.cells.lookup x=a_ c:=by
 rcases qr _ _ h with⟨m,e⟩|z
 .obtain⟨d,hd⟩:=nX I U _ m rfl;have J:X.env.cells.lookup x=a_ d:=hd;rw[J]at e;have e2:c=d:=e;subst e2;exact⟨m,J⟩
 .simp at z
def comp_inv{h1:Eg}(I:B6 X B4 σ H s)(C:∀b∈fp,Ak X B4 H b)(hb:∀b∈fp,∃o,s.heap.get? b=a_ o)(f:bB X.N X.env.scope N' sc ix=e_)(hk:sc.kind=.function)(a:s.heap.objs.size<=L)(B:∀b o,s.heap.get? b=a_ o->h1.get? b=a_ o)(ns:h1.Ns L λ_=>g_)(h:∀x c,(FG (L+1) sc.names (qt X.env.cells sc.names [])).lookup x=a_ c->(qt X.env.cells sc.names []).lookup x=a_ c\/(L<c/\h1.IsCell c g_)):
  B6 (b7 X N' sc L (FG (L+1) sc.names (qt X.env.cells sc.names [])) s H fp) [] (inS ix σ) H {s with heap:=h1}:=by
 have U:∀x c,(qt X.env.cells sc.names []).lookup x=a_ c->(x,DJ)∈sc.names/\X.env.cells.lookup x=a_ c/\(∃v,s.heap.IsCell c v)/\c<s.z:=λx c e=>by obtain⟨m,R⟩:=D4 I f e;obtain⟨v,z⟩:=I.cell x c R;exact⟨m,R,⟨v,z⟩,z.lt⟩
 have t:∀b∈fp,b<s.z:=λb z=>let ⟨o,e⟩:=hb b z;mf e;have O:∀b∈fp,∀x c,(FG (L+1) sc.names (qt X.env.cells sc.names [])).lookup x=a_ c->c≠b:=λb z x c e=>by
  have d:=t b z;rcases h x c e with q|⟨q,_⟩
  .exact(C b z).2.2.2.2.1 x c (U x c q).2.1
  .exact gt_ne (DL d a) q
 have E:(b7 X N' sc L (FG (L+1) sc.names (qt X.env.cells sc.names [])) s H fp).Ok:=by
  refine⟨I.ok.mod,hk,I.ok.glob,I.ok.blt,a,?_,?_,?_,I.ok.hd,I.ok.frames,.inl rfl,?_,I.bs,Ee I.ok.bsz I.sz,?_,?_,I.stack,I.AW⟩
  .refine nZ sc.names (L+1) _ (λx y c e1 e2=>I.ok.inj x y c (U x c e1).2.1 (U y c e2).2.1) λx c e=>?_;exact Gg (DL (U x c e).2.2.2 a)
  .intro x W;have F:=pM (env:=X.env) (x:=x) (ns:=sc.names) W;have q:((FG (L+1) sc.names (qt X.env.cells sc.names [])).lookup x).isSome=e_:=by
    rcases F with z|z
    .exact GI _ _ _ (.inl z)
    .exact GI _ _ _ (.inr (nY _ _ (.inl (Fj z))))
   exact F9.mp q
  .intro x c K e;show s.z<=c;rcases h x c e with q|⟨q,_⟩
   .have m:=(U x c q).1;have Y:(!(sc.names.any λp=>p.1==x&&p.2==DJ))=e_:=K;have z:(sc.names.any λp=>p.1==x&&p.2==DJ)=e_:=NW.mpr ⟨_,m,ad⟩;rw[z]at Y;cases Y
   .exact Ee a (Gr q)
  .intro b z;have d:=t b z;exact⟨Dx (DL d a),O b z⟩
  .intro b o e z;rcases(C b z).2.2.2.1 with q|q
   .exact I.ok.noex b o e q
   .exact DD (DL (mf e) (Ee I.ok.bsz q)) (EB _)
  .intro b z Z;rcases p_.mp (I.pG b Z)with q|q
   .exact(C b z).2.1 q
   .exact(C b z).2.2.1 q
 refine⟨E,rfl,I.bare,Un.kept B,⟨_,ns,λi x v N h2 h3=>?_⟩,λx c e=>?_,I.hok.fresh a,λx c e=>?_,λp hp=>DD hp (by simp[b7]),I.hok.kept B,?_⟩
 .have G:∃j,ix[i]?=a_ (a_ j)/\σ[j]?=a_ (a_ v):=by
   unfold inS at h2;rw[El]at h2;cases e:ix[i]? with
   |none=>rw[e]at h2;cases h2|some o=>
    rw[e]at h2;cases o with
    |none=>cases h2|some j=>
     have J:(σ[j]?).join=a_ v:=DV h2;refine⟨j,rfl,?_⟩
     cases e2:σ[j]? with
     |none=>rw[e2]at J;cases J|some w=>rw[e2]at J;have n:w=a_ v:=J;rw[n]
  obtain⟨j,e1,e2⟩:=G;obtain⟨e3,e4⟩:=bB.at f e1 N;have g:=bB.fr f (Fj e4);obtain⟨m,hn,hl⟩:=I.loc;obtain⟨u,r,l⟩:=hl j x v e3 e2 (g.elim (λz=>.inr (.inl z)) λz=>.inr (.inr z));refine⟨u,r,.inr ⟨pL (env:=X.env) (x:=x) (ns:=sc.names) e4,?_⟩⟩
  rcases l with⟨k,_⟩|⟨k,c,e,z⟩
  .rcases g with q|q<;>rw[q]at k<;>cases k
  .have q1:=nY (cells:=X.env.cells) sc.names [] (.inl (Fj e4));obtain⟨c2,q2⟩:=F9.mp q1;have Q:=(U x c2 q2).2.1;rw[e]at Q;cases Q;have S:=GI (x:=x) sc.names (L+1) (qt X.env.cells sc.names []) (.inr q1);obtain⟨c3,D⟩:=F9.mp S;rcases h x c3 D with A|⟨A,q7⟩
   .rw[q2]at A;cases A;exact⟨c,D,z.keeps B⟩
   .exfalso;rcases jB _ _ _ D with⟨_,T⟩|P
    .exact bB.apart f T (Fj e4)
    .rw[q2]at P;cases P;exact DD (Jt (DL (U x c q2).2.2.2 a) A) (EB _)
 .rcases h x c e with q|⟨_,q⟩
  .obtain⟨v,z⟩:=(U x c q).2.2.1;exact⟨v,z.keeps B⟩
  .exact⟨_,q⟩
 .rcases h x c e with q|⟨q,_⟩
  .exact I.freeC x c (U x c q).2.1
  .exact I.hok.fresh (Ee a (Gr q))
 .show(inS ix σ).length=N'.length;unfold inS;rw[y_];exact bB.len f
end
def PTs(X:Cx)(ifs:List EM)(t:TT):Prop:=
 ∀(B4:Pn) (s:k_) (σ:St) (H:Hp) (Q:Bool->Hp->Prop),B6 X B4 σ H s->t σ H Q ->
  o_ (u_ X.prog X.w) X.A (forIn ifs e_ λc r=>if r=e_ then do let J <- Nk c X.env (DC c X.env);Ff (IS J)else Ff (IS r)) (TP X B4 σ Q) X.xe s
noncomputable def tYes:TT:=λ_ H Q=>Q e_ H
def pts_nil:PTs X [] tYes:=λ_ _ _ H _ I h=>wpAny_tests_nil ⟨H,I,h⟩
def pts_one{c:EM}{t:TT}(h:PT X c t):PTs X [c] t:=λB4 s σ H Q I q=>wpAny_tests_one (h B4 s σ H Q I q)
def uL{R:K0->k_->Prop}{s:k_}{b acc:h_}(J:Nat->k_->Prop)(U:∀n s,J n s->o_ (u_ prog w) A (Gv b) (λr e=>match r with
   |none=>R (.ok .next) e|some v=>o_ (u_ prog w) A (J5 tg b v) (λ_ Y=>o_ (u_ prog w) A (Iz tg env v) (λ_ j=>
     o_ (u_ prog w) A (forIn ifs e_ λc r=>if r=e_ then do let a <- Nk c env (DC c env);Ff (IS a)else Ff (IS r)) (λa d=>
      if a=e_ then o_ (u_ prog w) A (DC elt env) (λx i=>o_ (u_ prog w) A (HG (.builtin "list.append") [acc,x]) (λ_ g=>∃m,m<n/\J m g) (λ_ _=>False) i) (λ_ _=>False) d
      else ∃m,m<n/\J m d) (λ_ _=>False) j) (λ_ _=>False) Y) (λ_ _=>False) e) (λ_ _=>False) s)(n:Nat)(h:J n s):Hi (u_ prog w) A (.compLoop (.ListComp elt [⟨tg,iter,ifs,0⟩] scope pos) 0 b acc env) R s:=by
 refine codeAny_loop rfl J (λn s l=>?_) n h;show o_ _ A ((compTurn (.ListComp elt [⟨tg,iter,ifs,0⟩] scope pos) 0 b acc env).onRaise (λx=>do Lx x env;theTreesLotGoes x)) _ _ s;refine wpAny_noted ?_;rw[compTurn_list];refine b_ (Jq (b_ (Ew (U n s l) (λr e h1=>?_) λ_ _ z=>z.elim)));cases r with
 |none=>exact f_ h1|some v=>
  refine b_ (Ew h1 (λ_ Y f=>?_) λ_ _ z=>z.elim);refine b_ (Ew f (λ_ j h2=>b_ (Ew h2 (λa d k=>?_) λ_ _ z=>z.elim)) λ_ _ z=>z.elim);cases a with
  |false=>exact f_ ⟨rfl,k⟩|true=>exact b_ (b_ (Ew k (λx i p=>b_ (Ew p (λ_ g o=>f_ (f_ ⟨rfl,o⟩)) λ_ _ z=>z.elim)) λ_ _ z=>z.elim))
def ki(J:It)(ix:List (Option Nat))(g:TG)(tt:TT)(te:TE)(σ:St)(F:am->Hp->Prop)(H:Hp):Prop:=
 ∃W:Nat->Nat->am->Hp->Prop,(∃m,W 0 m [] H)/\∀i m ys H,W i m ys H ->
  (J.stop i H/\ys.length<=n_/\F ys H)\/(J.go i H/\ys.length<=n_/\∃N:am->Hp->Prop,(∀Y H',N Y H'->∃a,a<m/\W (i+1) a Y H') /\
   ∀x H',J.yld i H x H'->g x (inS ix σ) H' λU H2=>tt U H2 λb c=>if b=e_ then te U c λy d=>N (ys++[y]) d else N ys c)
section
variable{s:k_}
def B6.slots0(I:B6 X B4 σ' H s)(h:∀(i:Nat) v,(inS ix σ)[i]?=a_ (a_ v)->σ'[i]?=a_ (a_ v))(J:(inS ix σ).length=X.N.length):B6 X B4 (inS ix σ) H s:=
 I.weak (by rw[J,I.len]) h
def uK{g:TG}{J:It}{it:i_}{tn:Nat->Eg->Prop}{F:am->Hp->Prop}{E:Vp}(hc:X.calm=e_)(I:B6 X B4 σ H s)(T:Turn X.prog X.w X.K tg J fp it tn)(st:tn 0 s.heap)(hf:∀b∈fp,Ak X B4 H b)(ok:bB X.N X.env.scope N' sc ix=e_)(hk:sc.kind=.function)(hg:∀L cs s H fp,PG (b7 X N' sc L cs s H fp) tg g)(hkeep:∀x σ' H' (Q:St->Hp->Prop),g x σ' H' Q->g x σ' H' λσ2 H2=>Q σ2 H2/\∀(i:Nat) v,σ'[i]?=a_ (a_ v)->(∃j,ix[i]?=a_ (a_ j))->σ2[i]?=a_ (a_ v))(ht:∀L cs s H fp,PTs (b7 X N' sc L cs s H fp) ifs tt)(he:∀L cs s H fp,PE (b7 X N' sc L cs s H fp) elt te)(tr:ki J ix g tt te σ F H):
  o_ (u_ X.prog X.w) X.A (Nj []) (λacc s3=>o_ (u_ X.prog X.w) X.A (Mf sc X.env.globals (qt X.env.cells sc.names []) [] X.env.qual g_ .none (a_ X.env)) (λa s4=>
   Hi (u_ X.prog X.w) X.A (.compStart (.ListComp elt [⟨tg,iter,ifs,0⟩] sc pos) 0 (.ref it) acc {a with scope:=relabel sc X.env}) (λr s'=>(∃fl,r=.ok fl) /\
    ∃(p:i_) (ys:am) (H2:Hp),acc=.ref p/\B6 X B4 σ (upd H2 p (.lst ys)) s'/\H2 p=g_/\F ys H2/\(∃m,s'.heap.Ns a.locals m)/\(upd H2 p (.lst ys)) a.locals=g_/\a.locals≠X.env.locals /\
     X.s₀.heap.objs.size<=a.locals/\(∀x c,X.env.cells.lookup x=a_ c->c≠a.locals)/\∀q∈X.pn++B4,q.1≠a.locals) s4) E s3) E s:=by
 obtain⟨W,⟨m0,w0⟩,turn⟩:=tr;refine DH (BM λh1 kp ns hcl=>?_);dsimp only at kp ns hcl ⊢;generalize hH2:s.heap.push {cls:=.type "list",dict:=g_,data:=.seq ([]:as).toArray}=t at kp ns hcl ⊢;have eL:t.objs.size=s.z+1:=by rw[<- hH2,DZ]
 have kp0:∀b o,s.heap.get? b=a_ o->h1.get? b=a_ o:=λb o e=>kp b o (hH2▸d_ _ e);have hD0:h1.PlainList s.z #[]:=⟨_,kp _ _ (hH2▸l_ _ rfl)⟩
 have fpo:∀b∈fp,∃o,s.heap.get? b=a_ o:=λb z=>let ⟨o,e,_⟩:=T.obj 0 _ st b z;⟨o,e⟩;have fpl:∀b∈fp,b<s.z:=λb z=>let ⟨o,e⟩:=fpo b z;mf e;have sL:s.z<=t.objs.size:=by rw[eL];exact FT _
 have S:s.z<t.objs.size:=by rw[eL];exact Fz _
 have I0:=comp_inv (h1:=h1) I hf fpo ok hk sL kp0 ns hcl;generalize U:b7 X N' sc t.objs.size (FG (t.objs.size+1) sc.names (qt X.env.cells sc.names [])) s H fp=Y at I0;have A:Y.prog=X.prog:=by subst U;rfl
 have w:Y.w=X.w:=by subst U;rfl
 have eY3:Y.K=X.K:=by subst U;rfl
 have eY4:Y.calm=e_:=by subst U;exact hc
 have G:Y.A=X.A:=by subst U;rfl
 have h:Y.env={scope:=relabel sc X.env,locals:=t.objs.size,globals:=X.env.globals,cells:=FG (t.objs.size+1) sc.names (qt X.env.cells sc.names []),qual:=X.env.qual,func:=g_,code:=X.env.code,frame:=X.env.frame,builtins:=X.env.builtins}:=by subst U;rfl
 have eY7:Y.xe=λ_ _=>False:=by subst U;rfl
 have eY8:Y.pn=[]:=by subst U;rfl
 have eY9:Y.fs=frs X.stack:=by subst U;rfl
 have K:Y.s₀=s:=by subst U;rfl
 have eY11:Y.H₀=H:=by subst U;rfl
 have eY12:Y.ex=fp:=by subst U;rfl
 have eY13:Y.N=N':=by subst U;rfl
 have hgY:PG Y tg g:=by subst U;exact hg _ _ _ _ _
 have htY:PTs Y ifs tt:=by subst U;exact ht _ _ _ _ _
 have heY:PE Y elt te:=by subst U;exact he _ _ _ _ _
 have lenI:(inS ix σ).length=Y.N.length:=by rw[eY13];unfold inS;rw[y_];exact bB.len ok
 have N:∀(b:i_),b<=t.objs.size->(∀x c,X.env.cells.lookup x=a_ c->c≠b)->∀x c,Y.env.cells.lookup x=a_ c->c≠b:=λb f hx x c e=>by
  rw[h]at e;rcases hcl x c e with q|⟨q,_⟩
  .exact hx x c (D4 I ok q).2
  .exact(zK (Nat.lt_of_le_of_lt f (Fz _)) q).symm
 have oldc:∀x c,X.env.cells.lookup x=a_ c->c<s.z:=λx c e=>let ⟨v,z⟩:=I.cell x c e;z.lt;have nfs:∀b,s.z<=b->b∉frs X.stack:=λb f z=>by
  rcases p_.mp (I.pG b z)with q|q
  .exact zK I.lt f q.symm
  .exact I.nofs f q
 have fpY:∀(pp:Pn) (H':Hp),(∀b∈fp,H' b=g_)->(∀q∈pp,q.1∉fp)->∀b∈fp,Ak Y pp H' b:=λpp H' hn hq b z=>by
  have hlt:=fpl b z;refine⟨hn b z,?_,?_,.inl (by rw[eY12];exact z),N b (Gr (Jt hlt S)) ((hf b z).2.2.2.2.1),λq C e=>?_⟩
  .rw[h];exact zK hlt sL
  .rw[eY9];intro hs;rcases p_.mp (I.pG b hs)with q|q
   .exact(hf b z).2.1 q
   .exact(hf b z).2.2.1 q
  .rw[eY8]at C;exact hq q (by simpa using C) (by rw[e];exact z)
 have Dfp:s.z∉fp:=λz=>DD (fpl _ z) (EB _);have Dok:∀(pp:Pn) (H':Hp),H' s.z=g_->(∀q∈pp,q.1≠s.z)->Ak Y pp H' s.z:=λpp H' hn hq=>by
  refine⟨hn,?_,by rw[eY9];exact nfs _ (t_ _),.inr (by rw[K];exact t_ _),N _ sL (λx c e=>Dx (oldc x c e)),λq C=>?_⟩
  .rw[h];exact Dx S
  .rw[eY8]at C;exact hq q (by simpa using C)
 have B:Hi (u_ X.prog X.w) X.A (.compLoop (.ListComp elt [⟨tg,iter,ifs,0⟩] sc pos) 0 (.ref it) (.ref s.z) Y.env) (λr s'=>(∃fl,r=.ok fl) /\
    ∃(p:i_) (ys:am) (H2:Hp),w_ s.z=.ref p/\B6 X B4 σ (upd H2 p (.lst ys)) s'/\H2 p=g_/\F ys H2/\(∃m,s'.heap.Ns t.objs.size m)/\(upd H2 p (.lst ys)) t.objs.size=g_/\t.objs.size≠X.env.locals /\
     X.s₀.heap.objs.size<=t.objs.size/\(∀x c,X.env.cells.lookup x=a_ c->c≠t.objs.size)/\∀q∈X.pn++B4,q.1≠t.objs.size) {s with heap:=h1}:=by
  refine uL (λn s'=>∃i ys its H',B6 Y [] (inS ix σ) H' s'/\tn i s'.heap/\(∀b∈fp,H' b=g_)/\H' s.z=g_/\s'.heap.PlainList s.z its/\Ds ys its.toList/\W i n ys H') ?_ m0
   ⟨0,[],#[],H,I0,T.keep _ _ _ st λb _ o e=>kp0 b o e,λb z=>(hf b z).1,I.hok.fresh (t_ _),hD0,.nil,w0⟩
  rintro n s3 ⟨i,ys,its,O,I3,st3,fr3,l,pl3,P,w3⟩;obtain⟨Z,oD⟩:=pl3;have hpD:∀q∈[((s.z:i_),({cls:=.type "list",data:=.seq its Z}:H9))],q.1∉fp:=λq hq=>by have:q=_:=ER.mp hq;rw[this];exact Dfp
  have I3':B6 Y [((s.z:i_),({cls:=.type "list",data:=.seq its Z}:H9))] (inS ix σ) O s3:=I3.rg λq hq=>by have e:q=_:=ER.mp hq;obtain⟨d0,d1,d2,_⟩:=Dok [] O l (λ_ z=>nomatch z);rw[e];exact⟨oD,d0,d1,d2,λv z=>by cases z⟩
  rcases turn i n ys O w3 with⟨stop,ln,qn⟩|⟨go,ln,NN,hNN,step⟩
  .have h1:=T.done Y A w eY3 eY4 i _ s3 _ O (λ_ _=>False) I3' (fpY _ O fr3 hpD) st3 stop;rw[G]at h1;refine Ew h1 (λr s4 D=>?_) λ_ _ z=>z;obtain⟨hr,I4⟩:=D;subst hr;obtain⟨oD4,hD4,_⟩:=I4.pin ((s.z:i_),({cls:=.type "list",data:=.seq its Z}:H9)) (by rw[eY8];simp);refine⟨⟨_,rfl⟩,s.z,ys,O,rfl,?_,l,qn,?_,?_,?_,?_,?_,?_⟩
   .have R:Un (frs X.stack) fp H O s.heap s4.heap:=by
     have:=I4.base;rw[eY9,K,eY11,eY12]at this;exact this
    have hok4:HOk X.prog X.w O s4.heap:=by have:=I4.hok;rw[A,w]at this;exact this
    refine I.call' (ch:=fp) (by have:=I4.os;rw[K]at this;exact this) ⟨R.keep,R.slot,λb o e nn hx=>?_,R.there,λb xs q=>?_,λb o u q=>?_,λb ps q=>?_⟩ (λb u e=>?_) I4.bare (λb f=>?_)
    .rw[aq (Dx (mf e))];exact R.free b o e nn hx
    .rw[aq (az (R.tups b xs q) l)];exact R.tups b xs q
    .rw[aq (az (R.frzs b o u q) l)];exact R.frzs b o u q
    .obtain⟨more,z⟩:=R.tbls b ps q;exact⟨more,by rw[aq (az z l)];exact z⟩
    .by_cases f:b=s.z
     .subst f;rw[ak]at e;cases e;exact⟨ln,its.toList,Z,P,by simpa using oD4⟩
     .rw[aq f]at e;exact(hok4 b u e).v8 (λ_ _ _ q=>q) (λc q=>by rw[aq (az q l)];exact q) λc xs q=>by rw[aq (az q l)];exact q
    .obtain⟨f0,f1,f2,f3,f4,f5⟩:=hf b f;exact⟨f3,f1,f4,f5⟩
   .obtain⟨m,hn,_⟩:=I4.loc;rw[h]at hn;exact⟨m,hn⟩
   .rw[aq (E7 S)];have:=I4.free;rw[h]at this;exact this
   .exact E7 (Jt I.lt S)
   .exact Ee I.sz sL
   .exact λx c e=>zK (oldc x c e) sL
   .exact λq hq=>zK (mf (I.pin q hq).1) sL
  .have h1:=T.item Y A w eY3 eY4 i _ s3 _ O (λ_ _=>False) I3' (fpY _ O fr3 hpD) st3 go;rw[G]at h1;refine Ew h1 (λr s4 D=>?_) λ_ _ z=>z;obtain⟨u,hr,h4⟩:=D;subst hr;refine Ew h4 (λ_ s5 D=>?_) λ_ _ z=>z;obtain⟨x,H5,I5,r5,y5,st5,fr5⟩:=D;have I5':=I5.pinned (fpY _ H5 fr5 hpD) (T.obj _ _ st5);have h5:=hgY _ s5 _ H5 x u _ I5' r5 (hkeep x _ H5 _ (step x H5 y5));rw[A,w,G,eY7]at h5;refine Ew h5 (λ_ s6 D=>?_) λ_ _ z=>z;obtain⟨σ6,H6,I6,q6,k6⟩:=D;have h6:=htY _ s6 σ6 H6 _ I6 q6;rw[A,w,G,eY7]at h6;refine Ew h6 (λb s7 D=>?_) λ_ _ z=>z;obtain⟨H7,I7,q7⟩:=D;have back:∀{s8:k_} {H8:Hp},B6 Y ([((s.z:i_),({cls:=.type "list",data:=.seq its Z}:H9))]++tR fp s5.heap) σ6 H8 s8->B6 Y [] (inS ix σ) H8 s8/\tn (i+1) s8.heap/\(∀b∈fp,H8 b=g_)/\H8 s.z=g_/\s8.heap.get? s.z=a_ {cls:=.type "list",data:=.seq its Z}:=λ{s8 H8} I8=>by
    obtain⟨a1,a2,_⟩:=I8.pin ((s.z:i_),({cls:=.type "list",data:=.seq its Z}:H9)) (by rw[eY8];simp);refine⟨(I8.rg (pins':=[]) λ_ z=>nomatch z).slots0 (λk v e=>?_) lenI,T.keep _ _ _ st5 λb f o e=>(I8.pin (b,o) (EA _ (EA _ (iW f e)))).1,λb f=>?_,a2,a1⟩
    .refine k6 k v e ?_;unfold inS at e;rw[El]at e;cases e2:ix[k]? with
     |none=>rw[e2]at e;cases e|some o=>
      cases o with
      |none=>rw[e2]at e;cases e|some j=>exact⟨j,rfl⟩
    .obtain⟨o,e,d⟩:=T.obj _ _ st5 b f;exact(I8.pin (b,o) (EA _ (EA _ (iW f e)))).2.1
   cases b with
   |false=>rw[q_ Dz]at q7 ⊢;obtain⟨m',hm,w7⟩:=hNN _ _ q7;obtain⟨b1,b2,b3,b4,b5⟩:=back I7;exact⟨m',hm,i+1,ys,its,H7,b1,b2,b3,b4,⟨Z,b5⟩,P,w7⟩
   |true=>
    rw[s_ rfl]at q7 ⊢;have h7:=heY _ s7 σ6 H7 _ I7 q7;rw[A,w,G,eY7,h]at h7;rw[h];refine Ew h7 (λuu s8 D=>?_) λ_ _ z=>z;obtain⟨y,H8,I8,r8,q8⟩:=D;obtain⟨m',hm,w8⟩:=hNN _ _ q8;obtain⟨b1,b2,b3,b4,b5⟩:=back I8;have ez:its.size<=n_:=by
     have h1:=P.length;have h2:its.toList.length=its.size:=by simp
     omega
    refine wpAny_list_append_plain (hsz:=ez) ⟨Z,b5⟩ λh9 pl9 sb9=>?_;obtain⟨d0,d1,d2,d3,d4,d5⟩:=Dok [] H8 b4 (λ_ z=>nomatch z);refine⟨m',hm,i+1,ys++[y],its.push uu,H8,b1.turned (t':=s8.toks) (λb o f e=>(sb9.2 b f).trans e) d0 d1 d3 d4 d5,T.keep _ _ _ b2 λb f o e=>(sb9.2 b ?_).trans e,b3,b4,pl9,?_,w8⟩
    .exact zK (fpl b f) (t_ _)
    .rw[Ky];exact P.append (.cons r8 .nil)
 rw[h]at B;exact codeAny_compStart_list B (T.self X.A 0 _ _ _ (T.keep _ _ _ st λb _ o e=>kp0 b o e) B)
end
def tComp(wi:TI)(ix:List (Option Nat))(g:TG)(tt:TT)(te:TE):TE:=λσ H Q=>wi σ H λJ H1=>ki J ix g tt te σ (λys H2=>∀p,H2 p=g_->Q (.ref p) (upd H2 p (.lst ys))) H1
def om(ix:List (Option Nat))(g:TG):Prop:=∀x σ' H' (Q:St->Hp->Prop),g x σ' H' Q->g x σ' H' λJ H2=>Q J H2/\∀(i:Nat) v,σ'[i]?=a_ (a_ v)->(∃j,ix[i]?=a_ (a_ j))->J[i]?=a_ (a_ v)
def aX(h:ix[k]?=a_ g_):om ix (m6 k):=λx σ' H' Q q=>⟨q,λi v e ⟨j,J⟩=>by
 have:k≠i:=by rintro rfl;rw[h]at J;cases J
 rw[m_ this];exact e⟩
section
variable{wi:TI}{g:TG}
def pe_comp(N':List Dy)(ix:List (Option Nat))(A:X.calm=e_)(hi:PI X tg iter wi)(y:∀L cs s H fp,PG (b7 X N' sc L cs s H fp) tg g)(w:om ix g)(k:∀L cs s H fp,PTs (b7 X N' sc L cs s H fp) ifs tt)(z:∀L cs s H fp,PE (b7 X N' sc L cs s H fp) elt te)(Y: ~~~(bB X.N X.env.scope N' sc ix=e_))(a: ~~~(sc.kind=.function))(l:autoParam (∀x,GG iter X.env x=Ff x) Jq5):
  PE X (.ListComp elt [⟨tg,iter,ifs,0⟩] sc pos) (tComp wi ix g tt te):=by
 intro B4 s σ H Q I h;rw[eval_ListComp];refine ME (use:=g_) rfl l (qq (nX I Y)) a (bB.loc Y) (HH (hi B4 s σ H _ I h) λv s1 h1=>HH h1 λj s2 h2=>?_);obtain⟨it,fp,S,J,H2,e,R,T,U,E,d⟩:=h2;subst e;refine HH (uK A R T U E Y a y w k z d) λacc Z D=>HH D λc W C=>Gd C λr i n=>?_;obtain⟨⟨fl,e1⟩,p,ys,H5,e2,P,t,q,⟨m,u⟩,O,N,K,G,F⟩:=n;subst e1;subst e2;exact⟨m,u,λh' f=>⟨.ref p,_,P.turned (t':=i.toks) (λb o B e=>(f.2 b B).trans e) O N (.inr K) G F,rfl,q p t⟩⟩
def wW(j:Nat)(wi:TI)(ix:List (Option Nat))(g:TG)(tt:TT)(te:TE):TS:=λD σ H=>wi σ H λJ H1=>ki J ix g tt te σ (λys H2=>∀p,H2 p=g_->D.nx (σ.set j (a_ (.ref p))) (upd H2 p (.lst ys))) H1
def pN(N':List Dy)(ix:List (Option Nat)){y:Dy}(hN:X.N.Nodup)(P:X.N[j]?=a_ y)(k:X.env.scope.names.lookup y=a_ .local)(W:X.calm=e_)(hi:PI X tg iter wi)(R:∀L cs s H fp,PG (b7 X N' sc L cs s H fp) tg g)(O:om ix g)(E:∀L cs s H fp,PTs (b7 X N' sc L cs s H fp) ifs tt)(S:∀L cs s H fp,PE (b7 X N' sc L cs s H fp) elt te)(f: ~~~(Fd (.ListComp elt [⟨tg,iter,ifs,0⟩] sc pos) (a_ (.Name y py)) spos.line X.env=Ff e_))(d: ~~~(bB X.N X.env.scope N' sc ix=e_))(l: ~~~(sc.kind=.function))(F:autoParam (∀x,GG iter X.env x=Ff x) Jq5):
  PS X (.Assign [.Name y py] (.ListComp elt [⟨tg,iter,ifs,0⟩] sc pos) spos) (wW j wi ix g tt te):=by
 intro B4 s σ H D I h;rw[exec_Assign_Name_used _ _ _ _ f];refine b_ (Jq (b_ ?_));show o_ _ X.A (do let _ <- comprehension (.ListComp elt [⟨tg,iter,ifs,0⟩] sc pos) sc X.env _ (Nj []) c_ (DC iter X.env) (a_ (Iz (.Name y py) X.env))) _ _ s;refine b_ (Ew (ME (use:=a_ (Iz (.Name y py) X.env)) (Q:=λ_ s'=>SP X B4 D .next s') rfl F (qq (nX I d)) l (bB.loc d) (HH (hi B4 s σ H _ I h) λv s1 h1=>HH h1 λC s2 h2=>?_)) (λ_ s' K=>f_ (f_ K)) λ_ _ z=>z);obtain⟨it,fp,tn,J,H2,e,I2,T,Y,f2,u⟩:=h2;subst e;refine HH (uK W I2 T Y f2 d l R O E S u) λacc s3 h3=>HH h3 λU s4 h4=>Gd h4 λr B G=>?_;obtain⟨⟨fl,e1⟩,p,ys,H5,e2,I5,i,q,⟨m,N⟩,c0,t,c2,n,c4⟩:=G;subst e1;subst e2;show o_ _ X.A (Iz (.Name y py) X.env (.ref p)) _ _ B;refine OT (t5 (v:=.ref p) I5 hN P (.inl k) rfl (λA I6 i=>?_) (.inr k));obtain⟨a,w,ha⟩:=i;have ea:U.locals≠a:=by
  rcases ha with z|z
  .rw[z];exact t
  .exact λe=>n y a z e.symm
 refine⟨m,N.sameBut w ea,λh' c=>?_⟩
 exact⟨_,_,I6.turned (t':=A.toks) (λb o Z e=>(c.2 b Z).trans e) c0 t (.inr c2) n c4,q p i⟩
end
theorem yr:∀{bs:List Bool} {us:as},Ds (bs.map V.bl) us->LSm.BoolsAre us bs
 |[],_,.nil=>.nil|b::r,_,.cons e t=>by cases e;exact .cons b (yr t)
def call_all(k:X.calm=e_):cK X (.builtin "all") (λxs H Q=>∃(a:i_) (bs:List Bool),xs=[.ref a]/\SqL X.K H a (bs.map V.bl)/\Q (.bl (bs.all id)) H):=by
 intro B4 s σ H xs us Q I r h;obtain⟨a,bs,rfl,g,q⟩:=h;obtain⟨u,rfl,f⟩:=r.one;cases f;obtain⟨its,d,p,m⟩:=I.list g;have Y:=yr d;have U:=p.isList;have J:a<s.z:=by obtain⟨_,e,_⟩:=U;exact mf e
 refine call_all_walk (Jk U ?_);refine⟨s.z,[s.z,a],[s.z],its.toArray.size,_,_,λi=>(bs[i]?).getD e_,rfl,K9 (A:=X.A.in1) (I.ok.hd k) _ a (Dx J) its.toArray,
  ⟨⟨_,l_ _ rfl,rfl,rfl⟩,U.push _⟩,λi v s' n o l c=>?_,λh' tk j=>?_⟩
 .obtain⟨b,e,rfl⟩:=Y.get i v (by simpa using l);simp only[e,Option.getD_some]at c;exact Fp c
 .have e:((DR its.toArray.size).all λi=>(bs[i]?).getD e_)=bs.all id:=by
   rw[Dv,Y.length];exact LSm.range_all bs
  rw[e];exact⟨.bl (bs.all id),H,I.kept (LSm.kept_iter j),rfl,q⟩
def Ds.atA{xs:am}(r:Ds xs us)(h:j<us.toArray.size):∃x,xs[j]?=a_ x/\D' x us.toArray[j]:=by
 have U:=r.length;have J:j<xs.length:=by rw[U];simpa using h
 obtain⟨u,e1,e2⟩:=r.get (i:=j) (x:=xs[j]) (by simp[J]);refine⟨xs[j],by simp[J],?_⟩
 have:us.toArray[j]=u:=by
  have h':j<us.length:=by simpa using h
  rw[C_ h']at e1;simpa using DV e1
 rw[this];exact e2
def pe_tyN(Y:Gl X x)(U:X.mg x=g_)(hv:FV x=a_ (.type T))(J:(x≠"__name__")⁻¹)(hd:((x==("__debug__":Dy))=c_)⁻¹):PE X (.Name x pos) (tC (.ty T)):=pe_bltn (v:=.ty T) Y U hv rfl J hd
def pe_gint{n:Int}(U:Gl X x)(J:∃t,X.mg x=a_ (.int n t))(hd:((x==("__debug__":Dy))=c_)⁻¹):PE X (.Name x pos) (tC (.int n)):=by obtain⟨t,e⟩:=J;exact Bx (v:=.int n) U e ⟨t,rfl⟩ hd
section
variable{base:Eg}
theorem Fun.okX{f:i_}(F:Fun K x qual st f fd)(S:eR N ps (aB st))(U:∀vs H Q E,sp vs H Q E->vs.length=ps.length)(J:∀(cdv:h_) (A:Fu) (outer:List LH) (s:k_) (H:Hp) (vs:am) (Q:VK) (E:XK),eW k (A.deeper (He qual (aB st) s.heap.objs.size f cdv))->sp vs H Q E ->
   ∃t,PSs (uY CX P w K mg base N qual (aB st) f cdv A outer s H E).nox (bF st) t/\t {nx:=λ_ H'=>Q .non H',rt:=Q} (start N vs) H):eJ P w K mg base CX (k+1) f fd ps sp:=by
 obtain⟨oc,od,kV,doc,pm,an,cdv,ct,osl,rfl,b,a⟩:=F.ex;refine fn_of b a S U λA outer s H vs Q E c Y=>?_;obtain⟨t,h,q⟩:=J cdv A outer s H vs Q E c Y;exact⟨t,h.nox,q⟩
structure Def(K:Fg)(mg:Mq)(x:Dy)(st:E6)(ps:List Dy)(f:i_)(fd:Gi):Prop where
 fn:Fun K x x st f fd
 mg:mg x=a_ (.ref f)
 bd:Binds K fd ps []
def def_of(U:K.In h)(G:h.Ns Eo mg){f:i_}{kV:h_}(a:Nn K Eo x=a_ (a_ (.ref f)))(l:K.lookup f=a_ ⟨oc,od,.func (KN x x (cJ st) (bF st) (aB st) .none kV doc pm an cdv ct),osl⟩)(c:LB K cdv x=e_)(k:Gw K (.ref f)=e_)(J:∀(kV doc pm:h_) (an:Option i_) (cdv ct:h_) (us:as),us.length=ps.length->Kp (KN x x (cJ st) (bF st) (aB st) .none kV doc pm an cdv ct) ⟨us,[]⟩=Ff (ps.zip us)):
  Def K mg x st ps f (KN x x (cJ st) (bF st) (aB st) .none kV doc pm an cdv ct):=
 ⟨xR l c k,mg_of U G a,(xR l c k).binds J⟩
structure Mth(K:Fg)(C:i_)(x qual:Dy)(st:E6)(ps:List Dy)(f:i_)(fd:Gi):Prop where
 fn:Fun K x qual st f fd
 mt:Meth K C x f
 bd:Binds K fd ps []
def mth_of{f:i_}{kV:h_}(a:DB K (.ref C) x=a_ (a_ (.ref f)))(i:isFn K (.ref f)=e_)(l:K.lookup f=a_ ⟨oc,od,.func (KN x qual (cJ st) (bF st) (aB st) .none kV doc pm an cdv ct),osl⟩)(c:LB K cdv qual=e_)(k:Gw K (.ref f)=e_)(J:∀(kV doc pm:h_) (an:Option i_) (cdv ct:h_) (us:as),us.length=ps.length->Kp (KN x qual (cJ st) (bF st) (aB st) .none kV doc pm an cdv ct) ⟨us,[]⟩=Ff (ps.zip us)):
  Mth K C x qual st ps f (KN x qual (cJ st) (bF st) (aB st) .none kV doc pm an cdv ct):=
 ⟨xR l c k,⟨a,i,k⟩,(xR l c k).binds J⟩
structure Kls(K:Fg)(mg:Mq)(x:Dy)(C:i_):Prop where
 cl:Cls K C
 mg:mg x=a_ (.ref C)
 mks:Np K C=e_
 kp:Gw K (.ref C)=e_
 c1:DB K (.ref C) "__class__"=a_ (a_ (.builtin "object.__class__"))
 c2:KD K (.builtin "object.__class__") "__get__"=a_ (a_ (.builtin "getset_descriptor.__get__"))
 c3:O4 K (.builtin "object.__class__")=a_ e_
 c4:Fl K C (.type "object")=a_ e_
def Kls.ty{dx:i_}{fs:List (Dy×V)}(k:Kls K mg x C)(e:H a=a_ (.ins C dx fs)):Au K H (.ref a) (.ref C):=.ins e k.cl k.c1 k.c2 k.c3 k.c4
def kls_of(i:K.In h)(G:h.Ns Eo mg)(a:Nn K Eo x=a_ (a_ (.ref C)))(Y:K_ K C N8=e_)(hd:GW K C=e_)(U:M4 K C=e_)(J:DB K (.ref C) "__setattr__"=a_ (a_ (.builtin "object.__setattr__")))(b:Np K C=e_)(c:Gw K (.ref C)=e_)(g:DB K (.ref C) "__class__"=a_ (a_ (.builtin "object.__class__")))(f:KD K (.builtin "object.__class__") "__get__"=a_ (a_ (.builtin "getset_descriptor.__get__")))(e:O4 K (.builtin "object.__class__")=a_ e_)(d:Fl K C (.type "object")=a_ e_):Kls K mg x C:=
 ⟨⟨Y,hd,U,J⟩,mg_of i G a,b,c,g,f,e,d⟩
end
def pg_c{s:k_}(Y:N'.Nodup)(hi:N'[i]?=a_ x)(J:Loc (b7 X N' sc L cs s H fp).env.scope x)(U:autoParam ((b7 X N' sc L cs s H fp).fn x=e_\/(b7 X N' sc L cs s H fp).env.scope.names.lookup x=a_ .local) Jq3):PG (b7 X N' sc L cs s H fp) (.Name x pos) (m6 i):=vz Y hi J U
theorem aO.upd{H:Hp}{a:i_}{o:HO}(h:H a=g_):aO H (upd H a o):=λb u e=>by rw[aq (az e h)];exact e
section
variable{f:i_}{ds:List h_}{E:XK}{m:Dy}{t:TA}
structure Stat(K:Fg)(C:i_)(mc:h_)(m:Dy)(f:i_):Prop where
 s1:KD K (.ref C) "__getattribute__"=a_ (a_ (.builtin "type.__getattribute__"))
 s2:M3 K C mc=e_
 s3:M6 K (.ref C) mc m=a_ (.val (.ref f))
 s4:Gw K (.ref f)=e_
def pe_cmeth(S:Stat X.K C mc m f)(l:Gl X x)(j:X.mg x=a_ (.ref C))(F:eJ X.prog X.w X.K X.mg X.base CX k f fd ps sp)(g:eW k X.A)(n:Binds X.K fd ps ds)(hd:Ds dvs ds)(c:Passes CX X E)(o:PA X (e::es) t)(Y:((x==("__debug__":Dy))=c_)⁻¹)(J: ~~~(j_ (e::es) X.env=(c_,DC e X.env)::j_ es X.env))(U: ~~~((EG pos (j_ es X.env)).any (·.1)=c_))(d: ~~~(DC (.Call (.Attribute (.Name x p) m apos) (e::es) [] pos) X.env=(do
   let a <- DC (.Name x p) X.env
   JT apos.atName
   let (f,first) <- Hh [a] (KC a m pl)
   N4 pos f first (EG pos (j_ (e::es) X.env)) (Ir pos (GZ [] X.env))))):
  PE X (.Call (.Attribute (.Name x p) m apos) (e::es) [] pos) (tCall sp dvs E t):=by
 intro B4 s σ H Q I h;refine Jc (pl:=pl) (fH I l j ?_ Y) d;refine PySem.W.method_cls I.kIn S.s1 (PySem.W.cls_value I.kIn S.s2 S.s3 rfl ?_);refine IW (first:=[]) (h₀:=X.base) I.ok.mod.kin S.s4 (HH (o pos B4 _ σ H _ (I.tok (s.toks+1)) h) λus q i=>?_) J U;obtain⟨vs,H2,b,r,q2⟩:=i;refine⟨b.kIn,?_⟩
 exact xa (us:=us) (vs:=vs) F g n hd c b r q2
end
section
variable{a:EM}
def aO.tup{a:i_}{xs:am}(e:aO H H')(h:SqT K H a xs):SqT K H' a xs:=by
 rcases h with(h|⟨o,h⟩)|h
 .exact .inl (.inl (e _ _ h))
 .exact .inl (.inr ⟨o,e _ _ h⟩)
 .exact .inr h
end
def qH{xs:am}(h:H a=a_ (.lst xs)):tyV K "list" (.ref a) H:=.inl ⟨rfl,_,SqL.of h⟩
set_option genSizeOf true in
set_option genInjectivity true in
inductive A' where
 |non|bl (b:Bool)|int (i:Int)|str (x:Dy)|tup (ds:List A')|lst (ds:List A')|ins (C:i_) (fs:List (Dy×A'))|dic (ks:List (List Int×A'))|dil (ks:List (Int×List (List Int)))
variable{d S:A'}{rs:List A'}
noncomputable abbrev jd:=aj×i_×V
noncomputable def tHash(ks:aj):Int:=IT (Ei (ks.map O0))
def rowE(x:aj×i_×h_):FJ:=⟨tHash x.1,.ref x.2.1,x.2.2⟩
def iQ(p:jd)(q:aj×i_×h_):Prop:=p.1=q.1/\p.2.1=q.2.1/\D' p.2.2 q.2.2
def pA(h:Eg)(a:i_)(xs:List jd)(ep:Nat):Prop:=∃vs:List (aj×i_×h_),HI iQ xs vs/\(a==Fm)=c_/\xs.length<=n_/\(vs.map (·.1)).Nodup/\∃o es,h.get? a=a_ o/\o.ExactDict/\o.data=.dict es ep/\es.toList=vs.map rowE
def oz(a:i_)(xs:List jd)(ep:Nat):HO:=.ext λh=>pA h a xs ep
noncomputable abbrev LK:=Int×List aj
abbrev aG:=List LK
def lHash(k:LK):Int:=IT (Ei [O0 k.1,IT (Ei (k.2.map tHash))])
def rowL(x:LK×i_):FJ:=⟨lHash x.1,.ref x.2,.bool e_⟩
def wO(h:Eg)(a:i_)(xs:List (LK×i_))(ep:Nat):Prop:=(a==Fm)=c_/\xs.length<=n_/\(xs.map (·.1)).Nodup/\∃o es,h.get? a=a_ o/\o.ExactDict/\o.data=.dict es ep/\es.toList=xs.map rowL
def Du(a:i_)(xs:List (LK×i_))(ep:Nat):HO:=.ext λh=>wO h a xs ep
def l9(K:Fg)(F:Hp)(b:i_)(k:LK):Prop:=∃(r:i_) (bs:List i_),SqT K F b [V.int k.1,V.ref r]/\SqT K F r (bs.map V.ref)/\bs.length=k.2.length/\∀(j:Nat) (J:aj) (c:i_),k.2[j]?=a_ J->bs[j]?=a_ c->SqT K F c (J.map V.int)
def Al(K:Fg)(F:Hp)(ks:aG)(xs:List (LK×i_)):Prop:=xs.map (·.1)=ks/\∀x∈xs,l9 K F x.2 x.1
mutual
noncomputable def aU(K:Fg)(F:Hp):A'->V->Prop
 |.non,v=>v=.non|.bl b,v=>v=.bl b|.int i,v=>v=.int i|.str x,v=>v=.str x|.tup ds,v=>∃a xs,v=.ref a/\SqT K F a xs/\ax K F ds xs
 |.lst ds,v=>∃a xs,v=.ref a/\SqL K F a xs/\ax K F ds xs
 |.ins C gs,v=>∃a dx fs,v=.ref a/\F a=a_ (.ins C dx fs)/\i3 K F gs fs
 |.dic ks,v=>∃a xs,v=.ref a/\(∃ep,F a=a_ (oz a xs ep))/\bO K F ks xs
 |.dil ks,v=>∃a xs,v=.ref a/\(∃ep,F a=a_ (Du a xs ep))/\Al K F ks xs
noncomputable def ax(K:Fg)(F:Hp):List A'->am->Prop
 |[],xs=>xs=[]|d::ds,xs=>∃v vs,xs=v::vs/\aU K F d v/\ax K F ds vs
noncomputable def i3(K:Fg)(F:Hp):List (Dy×A')->List (Dy×V)->Prop
 |[],fs=>fs=[]|(f,d)::gs,fs=>∃v r,fs=(f,v)::r/\aU K F d v/\i3 K F gs r
noncomputable def bO(K:Fg)(F:Hp):List (aj×A')->List jd->Prop
 |[],xs=>xs=[]|(k,d)::ks,xs=>∃b v r,xs=(k,b,v)::r/\SqT K F b (k.map .int)/\aU K F d v/\bO K F ks r
end
mutual
noncomputable def fN:A'->Bool
 |.tup ds=>uo ds|.lst _=>c_|.ins _ _=>c_|.dic _=>c_|.dil _=>c_|_=>e_
noncomputable def uo:List A'->Bool
 |[]=>e_|d::ds=>fN d&&uo ds
end
def aO.lst{xs:am}(e:aO H H')(h:SqL K H a xs):SqL K H' a xs:=by
 rcases h with(h|⟨o,h⟩)|h
 .exact .inl (.inl (e _ _ h))
 .exact .inl (.inr ⟨o,e _ _ h⟩)
 .exact .inr h
def l9.mono(s:aO F F'){k:LK}(h:l9 K F b k):l9 K F' b k:=
 let ⟨r,bs,a,Y,l,U⟩:=h;⟨r,bs,s.tup a,s.tup Y,l,λj J c e1 e2=>s.tup (U j J c e1 e2)⟩
theorem Al.mono{K:Fg}{F F':Hp}(s:aO F F'){ks:aG}{xs:List (LK×i_)}(h:Al K F ks xs):Al K F' ks xs:=⟨h.1,λx J=>(h.2 x J).mono s⟩
mutual
theorem aU.mono{K:Fg}{F F':Hp}(s:aO F F'):∀{d:A'} {v:V},aU K F d v->aU K F' d v
 |.non,_,h=>h|.bl _,_,h=>h|.int _,_,h=>h|.str _,_,h=>h|.tup _,_,⟨a,xs,e,q,r⟩=>⟨a,xs,e,s.tup q,ax.mono s r⟩|.lst _,_,⟨a,xs,e,q,r⟩=>⟨a,xs,e,s.lst q,ax.mono s r⟩|.ins _ _,_,⟨a,dx,fs,e,q,r⟩=>⟨a,dx,fs,e,s _ _ q,i3.mono s r⟩|.dic _,_,⟨a,xs,e,⟨ep,q⟩,r⟩=>⟨a,xs,e,⟨ep,s _ _ q⟩,bO.mono s r⟩|.dil _,_,⟨a,xs,e,⟨ep,q⟩,r⟩=>⟨a,xs,e,⟨ep,s _ _ q⟩,Al.mono s r⟩
theorem ax.mono{K:Fg}{F F':Hp}(s:aO F F'):∀{ds:List A'} {xs:am},ax K F ds xs->ax K F' ds xs
 |[],_,h=>h|_::_,_,⟨v,vs,e,q,r⟩=>⟨v,vs,e,aU.mono s q,ax.mono s r⟩
theorem i3.mono{K:Fg}{F F':Hp}(s:aO F F'):∀{gs:List (Dy×A')} {fs:List (Dy×V)},i3 K F gs fs->i3 K F' gs fs
 |[],_,h=>h|(_,_)::_,_,⟨v,r,e,q,t⟩=>⟨v,r,e,aU.mono s q,i3.mono s t⟩
theorem bO.mono{K:Fg}{F F':Hp}(s:aO F F'):∀{ks:List (aj×A')} {xs:List jd},bO K F ks xs->bO K F' ks xs
 |[],_,h=>h|(_,_)::_,_,⟨b,v,r,e,t,q,z⟩=>⟨b,v,r,e,s.tup t,aU.mono s q,bO.mono s z⟩
end
mutual
theorem aU.flat{K:Fg}{F F':Hp}(s:∀a xs,SqT K F a xs->SqT K F' a xs):∀{d:A'} {v:V},fN d=e_->aU K F d v->aU K F' d v
 |.non,_,_,h=>h|.bl _,_,_,h=>h|.int _,_,_,h=>h|.str _,_,_,h=>h|.tup ds,_,f,⟨a,xs,e,q,r⟩=>⟨a,xs,e,s _ _ q,ax.flat s (by simpa[fN] using f) r⟩|.lst _,_,f,_=>by simp[fN]at f|.ins _ _,_,f,_=>by simp[fN]at f|.dic _,_,f,_=>by simp[fN]at f|.dil _,_,f,_=>by simp[fN]at f
theorem ax.flat{K:Fg}{F F':Hp}(s:∀a xs,SqT K F a xs->SqT K F' a xs):∀{ds:List A'} {xs:am},uo ds=e_->ax K F ds xs->ax K F' ds xs
 |[],_,_,h=>h|d::ds,_,f,⟨v,vs,e,q,r⟩=>by simp only[uo,r_]at f;exact⟨v,vs,e,aU.flat s f.1 q,ax.flat s f.2 r⟩
end
theorem ax.length{K:Fg}{F:Hp}:∀{ds:List A'} {xs:am},ax K F ds xs->xs.length=ds.length
 |[],_,h=>by rw[show _=[]from h];rfl|_::_,_,⟨_,_,e,_,r⟩=>by rw[e,B_,B_,ax.length r]
theorem ax.get{K:Fg}{F:Hp}:∀{ds:List A'} {xs:am} {i:Nat} {d:A'},ax K F ds xs->ds[i]?=a_ d->∃v,xs[i]?=a_ v/\aU K F d v
 |[],_,_,_,_,e=>by simp at e|_::_,_,0,_,⟨v,vs,e,q,_⟩,h=>by simp only[LW,F8]at h;subst h e;exact⟨v,rfl,q⟩|_::_,_,i+1,_,⟨v,vs,e,_,r⟩,h=>by subst e;simp only[Fw]at h ⊢;exact ax.get r h
theorem ax.at{K:Fg}{F:Hp}{ds:List A'}{xs:am}{i:Nat}{v:V}(r:ax K F ds xs)(h:xs[i]?=a_ v):∃d,ds[i]?=a_ d/\aU K F d v:=by
 have hi:i<ds.length:=by rw[<- r.length];exact(v_.mp h).1
 obtain⟨w,e,q⟩:=r.get (i:=i) (d:=ds[i]) (by simp[hi]);rw[h]at e;have J:=DV e;subst J;exact⟨ds[i],by simp[hi],q⟩
def ax.cons{v:V}{ds:List A'}{xs:am}(q:aU K F d v)(r:ax K F ds xs):ax K F (d::ds) (v::xs):=⟨v,xs,rfl,q,r⟩
theorem ax.append{K:Fg}{F:Hp}:∀{ds es:List A'} {xs ys:am},ax K F ds xs->ax K F es ys->ax K F (ds++es) (xs++ys)
 |[],_,_,_,h,r=>by rw[show _=[]from h];exact r|_::_,_,_,_,⟨v,vs,e,q,t⟩,r=>by subst e;exact⟨v,_,rfl,q,ax.append t r⟩
theorem ax.take{K:Fg}{F:Hp}:∀{ds:List A'} {xs:am} (n:Nat),ax K F ds xs->ax K F (ds.take n) (xs.take n)
 |_,_,0,_=>rfl|[],_,_+1,h=>by rw[show _=[]from h];rfl|_::_,_,n+1,⟨v,vs,e,q,r⟩=>by subst e;exact⟨v,_,rfl,q,ax.take n r⟩
theorem ax.drop{K:Fg}{F:Hp}:∀{ds:List A'} {xs:am} (n:Nat),ax K F ds xs->ax K F (ds.drop n) (xs.drop n)
 |_,_,0,h=>h|[],_,_+1,h=>by rw[show _=[]from h];rfl|_::_,_,n+1,⟨v,vs,e,q,r⟩=>by subst e;exact ax.drop n r
theorem ax.set{K:Fg}{F:Hp}{d:A'}{v:V}(q:aU K F d v):∀{ds:List A'} {xs:am} (n:Nat),ax K F ds xs->ax K F (ds.set n d) (xs.set n v)
 |[],_,_,h=>by rw[show _=[]from h];rfl|_::_,_,0,⟨w,vs,e,_,r⟩=>by subst e;exact⟨v,_,rfl,q,r⟩|_::_,_,n+1,⟨w,vs,e,p,r⟩=>by subst e;exact⟨w,_,rfl,p,ax.set q n r⟩
theorem ax.eraseIdx{K:Fg}{F:Hp}:∀{ds:List A'} {xs:am} (n:Nat),ax K F ds xs->ax K F (ds.eraseIdx n) (xs.eraseIdx n)
 |[],_,_,h=>by rw[show _=[]from h];rfl|_::_,_,0,⟨w,vs,e,_,r⟩=>by subst e;exact r|_::_,_,n+1,⟨w,vs,e,p,r⟩=>by subst e;exact⟨w,_,rfl,p,ax.eraseIdx n r⟩
theorem ax.reverse{K:Fg}{F:Hp}:∀{ds:List A'} {xs:am},ax K F ds xs->ax K F ds.reverse xs.reverse
 |[],_,h=>by rw[show _=[]from h];rfl|_::_,_,⟨w,vs,e,p,r⟩=>by subst e;rw[IL,IL];exact ax.append (ax.reverse r) ⟨w,[],rfl,p,rfl⟩
theorem ax.of_get{K:Fg}{F:Hp}:∀{ds:List A'} {xs:am},xs.length=ds.length->(∀(i:Nat) d v,ds[i]?=a_ d->xs[i]?=a_ v->aU K F d v)->ax K F ds xs
 |[],[],_,_=>rfl|[],_::_,h,_=>by simp at h|_::_,[],h,_=>by simp at h|d::ds,v::vs,h,q=>⟨v,vs,rfl,q 0 d v rfl rfl,ax.of_get (by simpa using h) λi e w h1 h2=>q (i+1) e w (by simpa using h1) (by simpa using h2)⟩
structure B5(F H F' H':Hp):Prop where
 ff:aO F F'
 hh:aO H H'
 fh:aO F' H'
 nw:∀b o,F' b=a_ o->F b=a_ o\/H b=g_
theorem B5.refl{F H:Hp}(s:aO F H):B5 F H F H:=⟨aO.refl _,aO.refl _,s,λ_ _ h=>.inl h⟩
theorem B5.trans{F H F1 H1 F2 H2:Hp}(a:B5 F H F1 H1)(b:B5 F1 H1 F2 H2):B5 F H F2 H2:=
 ⟨a.ff.trans b.ff,a.hh.trans b.hh,b.fh,λx o h=>(b.nw x o h).elim (λz=>a.nw x o z) λz=>.inr (a.hh.free z)⟩
def B5.lay{p:i_}{o:HO}(s:aO F H)(J:H p=g_):B5 F H (upd F p o) (upd H p o):=
 ⟨aO.upd (s.free J),aO.upd J,λb u h=>by
  by_cases e:b=p
  .subst e;rw[ak]at h ⊢;exact h
  .rw[aq e]at h ⊢;exact s b u h,λb u h=>by
  by_cases e:b=p
  .subst e;exact .inr J
  .rw[aq e]at h;exact .inl h⟩
def B5.grow{p:i_}{o:HO}(s:aO F H)(J:H p=g_):B5 F H F (upd H p o):=
 ⟨aO.refl _,aO.upd J,s.trans (aO.upd J),λ_ _ h=>.inl h⟩
def kn(K:Fg)(F H0 H:Hp):A'->V->Prop
 |.lst ds,v=>∃a xs,v=.ref a/\H a=a_ (.lst xs)/\F a=g_/\H0 a=g_/\ax K F ds xs
 |.dic ks,v=>∃a xs,v=.ref a/\(∃ep,H a=a_ (oz a xs ep))/\F a=g_/\H0 a=g_/\bO K F ks xs
 |.dil ks,v=>∃a xs,v=.ref a/\(∃ep,H a=a_ (Du a xs ep))/\F a=g_/\H0 a=g_/\Al K F ks xs
 |d,v=>aU K F d v
noncomputable def isO:A'->Bool
 |.lst _=>e_|.dic _=>e_|.dil _=>e_|_=>c_
noncomputable def isMu:HO->Bool
 |.lst _=>e_|.ext _=>e_|_=>c_
def kn.non{v:V}(hd:isO d=c_):kn K F H0 H d v=aU K F d v:=by cases d<;>first|rfl|cases hd
def kn.top{v:V}(hd:isO d=e_)(q:kn K F H0 H d v):∃a o,v=.ref a/\H a=a_ o/\isMu o=e_/\F a=g_/\H0 a=g_:=by
 cases d with
 |lst ds=>obtain⟨a,xs,e,p,f,z,_⟩:=q;exact⟨a,_,e,p,rfl,f,z⟩
 |dic ks=>obtain⟨a,xs,e,⟨ep,p⟩,f,z,_⟩:=q;exact⟨a,_,e,p,rfl,f,z⟩
 |dil ks=>obtain⟨a,xs,e,⟨ep,p⟩,f,z,_⟩:=q;exact⟨a,_,e,p,rfl,f,z⟩
 |_=>cases hd
def kn.re(hd:isO d=e_)(q:kn K F H0 H d (.ref a))(J:aO F F')(fa:F' a=g_)(hh:∀o,H a=a_ o->H' a=a_ o):kn K F' H0 H' d (.ref a):=by
 cases d with
 |lst ds=>obtain⟨b,xs,e,p,f,z,r⟩:=q;cases e;exact⟨a,xs,rfl,hh _ p,fa,z,r.mono J⟩
 |dic ks=>obtain⟨b,xs,e,⟨ep,p⟩,f,z,r⟩:=q;cases e;exact⟨a,xs,rfl,⟨ep,hh _ p⟩,fa,z,r.mono J⟩
 |dil ks=>obtain⟨b,xs,e,⟨ep,p⟩,f,z,r⟩:=q;cases e;exact⟨a,xs,rfl,⟨ep,hh _ p⟩,fa,z,r.mono J⟩
 |_=>cases hd
def kn.give(hd:isO d=e_)(q:kn K F H0 H d (.ref a))(J:aO F F')(fa:F' a=H a):aU K F' d (.ref a):=by
 cases d with
 |lst ds=>obtain⟨b,xs,e,p,f,z,r⟩:=q;cases e;exact⟨a,xs,rfl,SqL.of (fa.trans p),r.mono J⟩
 |dic ks=>obtain⟨b,xs,e,⟨ep,p⟩,f,z,r⟩:=q;cases e;exact⟨a,xs,rfl,⟨ep,fa.trans p⟩,r.mono J⟩
 |dil ks=>obtain⟨b,xs,e,⟨ep,p⟩,f,z,r⟩:=q;cases e;exact⟨a,xs,rfl,⟨ep,fa.trans p⟩,r.mono J⟩
 |_=>cases hd
def Val(K:Fg)(own:Bool)(F H0 H:Hp)(d:A')(v:V):Prop:=if own=e_ then kn K F H0 H d v else aU K F d v
def kn.back{v:V}(s:aO H0 H1)(h:kn K F H1 H d v):kn K F H0 H d v:=by
 cases d with
 |lst ds=>obtain⟨a,xs,e,p,q,z,r⟩:=h;exact⟨a,xs,e,p,q,s.free z,r⟩
 |dic ks=>obtain⟨a,xs,e,p,q,z,r⟩:=h;exact⟨a,xs,e,p,q,s.free z,r⟩
 |dil ks=>obtain⟨a,xs,e,p,q,z,r⟩:=h;exact⟨a,xs,e,p,q,s.free z,r⟩
 |_=>exact h
theorem Val.back{K:Fg}{own:Bool}{F H0 H1 H:Hp}{d:A'}{v:V}(s:aO H0 H1)(h:Val K own F H1 H d v):Val K own F H0 H d v:=by
 cases own with
 |true=>exact kn.back s h|false=>exact h
def kn.freeze{v:V}(s:aO F H)(h:kn K F H0 H d v):∃F',aO F F'/\aO F' H/\(∀b o,F' b=a_ o->F b=a_ o\/H0 b=g_)/\aU K F' d v:=by
 cases hd:isO d with
 |true=>
  obtain⟨a,u,e,p,_,q,z⟩:=h.top hd;subst e;refine⟨upd F a u,aO.upd q,λb o h=>?_,λb o h=>?_,h.give hd (aO.upd q) (by rw[ak,p])⟩
  .by_cases e:b=a
   .subst e;rw[ak]at h;rw[p,<- h]
   .rw[aq e]at h;exact s b o h
  .by_cases e:b=a
   .subst e;exact .inr z
   .rw[aq e]at h;exact .inl h
 |false=>rw[kn.non hd]at h;exact⟨F,aO.refl _,s,λ_ _ z=>.inl z,h⟩
inductive Err where
 |stuck|exc (C:i_) (fs:List (Dy×A'))
noncomputable abbrev M:=Except Err
variable{g':A'->A'->M A'}
noncomputable abbrev aa:=List (Option A')
variable{ρ ρ':aa}{fa fb fc fe fk fo fA fv f3 f4 f5:aa->M A'}{ft fu:aa->M Bool}{fi:aa->M (List A')}{fl:aa->M (Option Int)}{fx:List (Dy×A')->aa->M aa}
structure cn where
 p:Err->Hp->Hp->Prop
 mono:∀{e:Err} {F H F' H':Hp},p e F H->B5 F H F' H'->p e F' H'
 ns:∀{F H:Hp},p .stuck F H->False
noncomputable def J3:cn:=⟨λ_ _ _=>False,λh _=>h,λh=>h⟩
def aH(K:Fg)(W:cn)(own:Bool)(F H:Hp)(r:M A')(Q:VK):Prop:=match r with
 |.ok d=>∀v F' H',B5 F H F' H'->Val K own F' H H' d v->Q v H'|.error e=>W.p e F H
def aH.step{W:cn}{own:Bool}{r:M A'}{Q:VK}(p:aH K W own F H r Q)(s:B5 F H F1 H1):aH K W own F1 H1 r Q:=by
 cases r with
 |ok d=>exact λv F' H' t q=>p v F' H' (s.trans t) (q.back s.hh)|error e=>exact W.mono p s
def aH.frz{W:cn}{r:M A'}{Q:VK}(p:aH K W c_ F H r Q):aH K W e_ F H r Q:=by
 cases r with
 |ok d=>intro v F' H' t q;obtain⟨F2,U,J,n,z⟩:=kn.freeze t.fh q;exact p v F2 H' ⟨t.ff.trans U,t.hh,J,λb o h=>(n b o h).elim (λz=>t.nw b o z) .inr⟩ z
 |error e=>exact p
structure jc(K:Fg)(F:Hp)(σ:St)(ρ:aa):Prop where
 len:ρ.length=σ.length
 sl:∀(i:Nat) (d:A'),ρ[i]?=a_ (a_ d)->∃v,σ[i]?=a_ (a_ v)/\aU K F d v
theorem jc.mono{K:Fg}{F F':Hp}{σ:St}{ρ:aa}(r:jc K F σ ρ)(s:aO F F'):jc K F' σ ρ:=
 ⟨r.len,λi d e=>let ⟨v,h,q⟩:=r.sl i d e;⟨v,h,q.mono s⟩⟩
theorem jc.set{K:Fg}{F:Hp}{σ:St}{ρ:aa}{d:A'}{v:V}(r:jc K F σ ρ)(q:aU K F d v)(i:Nat):jc K F (σ.set i (a_ v)) (ρ.set i (a_ d)):=
 ⟨by rw[DM,DM,r.len],λj e h=>by
  by_cases J:i=j
  .subst J;have hi:i<ρ.length:=by
    have:=(v_.mp h).1;simpa using this
   rw[vw hi]at h;cases h;exact⟨v,by rw[vw (by rw[<- r.len];exact hi)],q⟩
  .rw[m_ J]at h;obtain⟨w,h1,h2⟩:=r.sl j e h;exact⟨w,by rw[m_ J];exact h1,h2⟩⟩
def tD(K:Fg)(W:cn)(own:Bool)(f:aa->M A'):TE:=λσ H Q=>∃F ρ,jc K F σ ρ/\aO F H/\aH K W own F H (f ρ) Q
def aK{W:cn}{own:Bool}{f:aa->M A'}{R:VK}(r:jc K F σ ρ)(s:aO F H)(U:∀e,f ρ=.error e->W.p e F H)(J:∀d,f ρ=.ok d->∀v F1 H1,B5 F H F1 H1->Val K own F1 H H1 d v->R v H1):tD K W own f σ H R:=by
 refine⟨F,ρ,r,s,?_⟩
 cases e:f ρ with
 |ok d=>exact J d e|error x=>exact U x e
def tDT(K:Fg)(W:cn)(f:aa->M Bool):TT:=λσ H Q=>∃F ρ,jc K F σ ρ/\aO F H/\(match f ρ with
 |.ok b=>∀F' H',B5 F H F' H'->Q b H'|.error e=>W.p e F H)
def iq{W:cn}{f:aa->M Bool}(r:jc K F σ ρ)(s:aO F H)(U:∀e,f ρ=.error e->W.p e F H)(J:∀b,f ρ=.ok b->∀F1 H1,B5 F H F1 H1->R b H1):tDT K W f σ H R:=by
 refine⟨F,ρ,r,s,?_⟩
 cases e:f ρ with
 |ok d=>exact J d e|error x=>exact U x e
def tDA(K:Fg)(W:cn)(f:aa->M (List A')):TA:=λσ H Q=>∃F ρ,jc K F σ ρ/\aO F H/\(match f ρ with
 |.ok ds=>∀vs F' H',B5 F H F' H'->ax K F' ds vs->Q vs H'|.error e=>W.p e F H)
def gS{W:cn}{f:aa->M (List A')}{R:am->Hp->Prop}(r:jc K F σ ρ)(s:aO F H)(U:∀e,f ρ=.error e->W.p e F H)(J:∀ds,f ρ=.ok ds->∀vs F1 H1,B5 F H F1 H1->ax K F1 ds vs->R vs H1):tDA K W f σ H R:=by
 refine⟨F,ρ,r,s,?_⟩
 cases e:f ρ with
 |ok d=>exact J d e|error x=>exact U x e
noncomputable def ae(i:Nat):aa->M A':=λρ=>match ρ[i]? with
 |some (a_ d)=>.ok d|_=>.error .stuck
noncomputable def fC(d:A'):aa->M A':=λ_=>.ok d
noncomputable def f1(g:A'->M A')(fa:aa->M A'):aa->M A':=λρ=>(fa ρ).bind g
noncomputable def f2(g:A'->A'->M A')(fa fb:aa->M A'):aa->M A':=λρ=>(fa ρ).bind λa=>(fb ρ).bind λb=>g a b
noncomputable def ay:aa->M (List A'):=λ_=>.ok []
noncomputable def a9(fa:aa->M A')(fr:aa->M (List A')):aa->M (List A'):=λρ=>(fa ρ).bind λa=>(fr ρ).bind λr=>.ok (a::r)
noncomputable def fL(g:List A'->M A')(fr:aa->M (List A')):aa->M A':=λρ=>(fr ρ).bind g
def bG(ds:List A'):M A':=if ds.length<=n_ then .ok (.tup ds)else .error .stuck
def bc(ds:List A'):M A':=if ds.length<=n_ then .ok (.lst ds)else .error .stuck
noncomputable def fIte(ft:aa->M Bool)(fa fb:aa->M A'):aa->M A':=λρ=>(ft ρ).bind λb=>if b=e_ then fa ρ else fb ρ
noncomputable def Aq(ft fu:aa->M Bool):aa->M Bool:=λρ=>(ft ρ).bind λb=>if b=e_ then fu ρ else .ok c_
noncomputable def fOr(ft fu:aa->M Bool):aa->M Bool:=λρ=>(ft ρ).bind λb=>if b=e_ then .ok e_ else fu ρ
noncomputable def Ap(ft:aa->M Bool):aa->M Bool:=λρ=>(ft ρ).bind λb=>.ok (!b)
noncomputable def asB:A'->M Bool
 |.bl b=>.ok b|_=>.error .stuck
def fB(fa:aa->M A'):aa->M Bool:=λρ=>(fa ρ).bind asB
def oW(fa fb:aa->M A'):aa->M A':=λρ=>(fa ρ).bind λa=>(asB a).bind λb=>if b=e_ then fb ρ else .ok (.bl c_)
def truD:A'->M Bool
 |.non=>.ok c_|.bl b=>.ok b|.int i=>.ok (i != 0)|.str x=>if x.length<=n_ then .ok ((x.length:Int) != 0)else .error .stuck
 |.tup ds=>.ok (!ds.isEmpty)|.lst ds=>.ok (!ds.isEmpty)|_=>.error .stuck
def vZ(fa:aa->M A'):aa->M Bool:=λρ=>(fa ρ).bind truD
def iM(g g':A'->A'->M A')(fa fb fc:aa->M A'):aa->M A':=λρ=>(fa ρ).bind λa=>(fb ρ).bind λb=>(g a b).bind λx=>(asB x).bind λk=>if k=e_ then(fc ρ).bind λc=>g' b c else .ok (.bl c_)
def rD2(K:Fg)(W:cn)(own:Bool)(g:A'->A'->M A'):R2:=λx y H Q=>∃F a b,aO F H/\aU K F a x/\aU K F b y/\aH K W own F H (g a b) Q
def rD1(K:Fg)(W:cn)(own:Bool)(g:A'->M A'):V->Hp->VK->Prop:=λx H Q=>∃F a,aO F H/\aU K F a x/\aH K W own F H (g a) Q
def rDL(K:Fg)(W:cn)(own:Bool)(g:List A'->M A'):am->Hp->VK->Prop:=λxs H Q=>∃F ds,aO F H/\ax K F ds xs/\aH K W own F H (g ds) Q
section
variable{W:cn}{own:Bool}{Q:VK}
def rd_var(h:tD K W c_ (ae i) σ H Q):Am i σ H Q:=by
 obtain⟨F,ρ,r,s,p⟩:=h;unfold ae at p
 match e:ρ[i]? with
 |some (a_ d)=>rw[e]at p;obtain⟨v,e1,q⟩:=r.sl i d e;exact⟨v,e1,p v F H (B5.refl s) q⟩
 |some g_=>rw[e]at p;exact(W.ns p).elim|none=>rw[e]at p;exact(W.ns p).elim
def rd_c{v:V}(hd:∀F,aU K F d v)(h:tD K W c_ (fC d) σ H Q):tC v σ H Q:=by obtain⟨F,ρ,r,s,p⟩:=h;exact p v F H (B5.refl s) (hd F)
def aH.err{x:M A'}{e:Err}(p:aH K W own F H x Q)(h:x=.error e):W.p e F H:=by rw[h]at p;exact p
def rd_1{g:A'->M A'}(h:tD K W own (f1 g fa) σ H Q):tUn (rD1 K W own g) (tD K W c_ fa) σ H Q:=by
 obtain⟨F,ρ,r,s,p⟩:=h;refine aK r s (λe U=>p.err (by unfold f1;rw[U];rfl)) λa Y x F1 H1 J q1=>?_;refine⟨F1,a,J.fh,q1,?_⟩
 have e:f1 g fa ρ=g a:=by unfold f1;rw[Y];rfl
 rw[e]at p;exact p.step J
def rd_2{g:A'->A'->M A'}(h:tD K W own (f2 g fa fb) σ H Q):tOp (rD2 K W own g) (tD K W c_ fa) (tD K W c_ fb) σ H Q:=by
 obtain⟨F,ρ,r,s,p⟩:=h;refine aK r s (λe Y=>p.err (by unfold f2;rw[Y];rfl)) λa c x F1 H1 J q1=>?_;refine aK (r.mono J.ff) J.fh (λe Y=>(p.step J).err (by unfold f2;rw[c];show(fb ρ).bind _=_;rw[Y];rfl)) λb d y F2 H2 U q2=>?_;refine⟨F2,a,b,U.fh,aU.mono U.ff q1,q2,?_⟩
 have e:f2 g fa fb ρ=g a b:=by unfold f2;rw[c];show(fb ρ).bind _=_;rw[d];rfl
 rw[e]at p;exact p.step (J.trans U)
def rd_nil{R:am->Hp->Prop}(h:tDA K W ay σ H R):wX σ H R:=by obtain⟨F,ρ,r,s,p⟩:=h;exact p [] F H (B5.refl s) rfl
def rd_cons{fr:aa->M (List A')}{R:am->Hp->Prop}(h:tDA K W (a9 fa fr) σ H R):gT (tD K W c_ fa) (tDA K W fr) σ H R:=by
 obtain⟨F,ρ,r,s,p⟩:=h;refine aK r s (λe U=>?_) λa b x F1 H1 J q1=>gS (r.mono J.ff) J.fh (λe U=>?_) λds hd xs F2 H2 Y q2=>?_
 .have z:a9 fa fr ρ=.error e:=by unfold a9;rw[U];rfl
  rw[z]at p;exact p
 .have z:a9 fa fr ρ=.error e:=by unfold a9;rw[b];show(fr ρ).bind _=_;rw[U];rfl
  rw[z]at p;exact W.mono p J
 .have z:a9 fa fr ρ=.ok (a::ds):=by unfold a9;rw[b];show(fr ρ).bind _=_;rw[hd];rfl
  rw[z]at p;exact p (x::xs) F2 H2 (J.trans Y) ⟨x,xs,rfl,aU.mono Y.ff q1,q2⟩
def rd_L{g:List A'->M A'}{fr:aa->M (List A')}(h:tD K W own (fL g fr) σ H Q):tDA K W fr σ H λxs H1=>rDL K W own g xs H1 Q:=by
 obtain⟨F,ρ,r,s,p⟩:=h;refine gS r s (λe U=>p.err (by unfold fL;rw[U];rfl)) λds hd xs F1 H1 J q1=>⟨F1,ds,J.fh,q1,?_⟩
 have e:fL g fr ρ=g ds:=by unfold fL;rw[hd];rfl
 rw[e]at p;exact p.step J
def rd_tup{fr:aa->M (List A')}(h:tD K W own (fL bG fr) σ H Q):tTup (tDA K W fr) σ H Q:=by
 obtain⟨F,ρ,r,s,p⟩:=rd_L h;refine⟨F,ρ,r,s,?_⟩
 cases e:fr ρ with
 |error x=>rw[e]at p;exact p|ok ds=>
  rw[e]at p;intro vs F' H' t q;obtain⟨F1,es,U,q1,z⟩:=p vs F' H' t q;unfold bG at z;by_cases J:es.length<=n_
  .rw[s_ J]at z;refine⟨by rw[q1.length];exact J,λa Y=>z (.ref a) _ _ (B5.lay U Y) ?_⟩
   have:aU K (upd F1 a (.tup vs)) (.tup es) (.ref a):=⟨a,vs,rfl,SqT.of ak,q1.mono (aO.upd (U.free Y))⟩
   cases own with
   |true=>exact this|false=>exact this
  .rw[q_ J]at z;exact(W.ns z).elim
def rd_lst{fr:aa->M (List A')}(h:tD K W e_ (fL bc fr) σ H Q):tLst (tDA K W fr) σ H Q:=by
 obtain⟨F,ρ,r,s,p⟩:=rd_L h;refine⟨F,ρ,r,s,?_⟩
 cases e:fr ρ with
 |error x=>rw[e]at p;exact p|ok ds=>
  rw[e]at p;intro vs F' H' t q;obtain⟨F1,es,Y,q1,z⟩:=p vs F' H' t q;unfold bc at z;by_cases J:es.length<=n_
  .rw[s_ J]at z;exact⟨by rw[q1.length];exact J,λa U=>z (.ref a) F1 _ (B5.grow Y U) ⟨a,vs,rfl,ak,Y.free U,U,q1⟩⟩
  .rw[q_ J]at z;exact(W.ns z).elim
def rd_ite(h:tD K W own (fIte ft fa fb) σ H Q):tIf (tDT K W ft) (tD K W own fa) (tD K W own fb) σ H Q:=by
 obtain⟨F,ρ,r,s,p⟩:=h;refine iq r s (λe U=>p.err (by unfold fIte;rw[U];rfl)) λb Y F1 H1 J=>?_;have e:fIte ft fa fb ρ=if b=e_ then fa ρ else fb ρ:=by unfold fIte;rw[Y];rfl
 rw[e]at p;cases b with
 |true=>exact⟨F1,ρ,r.mono J.ff,J.fh,p.step J⟩|false=>exact⟨F1,ρ,r.mono J.ff,J.fh,p.step J⟩
theorem wY{f:aa->M Bool}(r:jc K F σ ρ)(J:B5 F H F1 H1)(p:match f ρ with
 |.ok b=>∀F' H',B5 F H F' H'->R b H'|.error e=>W.p e F H):tDT K W f σ H1 R:=by
 refine⟨F1,ρ,r.mono J.ff,J.fh,?_⟩
 cases e:f ρ with
 |ok b=>rw[e]at p;exact λF' H' t=>p F' H' (J.trans t)|error x=>rw[e]at p;exact W.mono p J
def rd_and(h:tDT K W (Aq ft fu) σ H R):tAnd (tDT K W ft) (tDT K W fu) σ H R:=by
 obtain⟨F,ρ,r,s,p⟩:=h;refine iq r s (λe U=>?_) λb Y F1 H1 J=>?_
 .have z:Aq ft fu ρ=.error e:=by unfold Aq;rw[U];rfl
  rw[z]at p;exact p
 .have z:Aq ft fu ρ=if b=e_ then fu ρ else .ok c_:=by unfold Aq;rw[Y];rfl
  rw[z]at p;cases b with
  |true=>exact wY r J p|false=>exact p F1 H1 J
def rd_or(h:tDT K W (fOr ft fu) σ H R):tOr (tDT K W ft) (tDT K W fu) σ H R:=by
 obtain⟨F,ρ,r,s,p⟩:=h;refine iq r s (λe U=>?_) λb Y F1 H1 J=>?_
 .have z:fOr ft fu ρ=.error e:=by unfold fOr;rw[U];rfl
  rw[z]at p;exact p
 .have z:fOr ft fu ρ=if b=e_ then .ok e_ else fu ρ:=by unfold fOr;rw[Y];rfl
  rw[z]at p;cases b with
  |false=>exact wY r J p|true=>exact p F1 H1 J
def rd_not(h:tDT K W (Ap ft) σ H R):tNot (tDT K W ft) σ H R:=by
 obtain⟨F,ρ,r,s,p⟩:=h;refine iq r s (λe U=>?_) λb Y F1 H1 J=>?_
 .have z:Ap ft ρ=.error e:=by unfold Ap;rw[U];rfl
  rw[z]at p;exact p
 .have z:Ap ft ρ=.ok (!b):=by unfold Ap;rw[Y];rfl
  rw[z]at p;exact p F1 H1 J
def rd_B(h:tDT K W (fB fa) σ H R):tTest (tD K W c_ fa) σ H R:=by
 obtain⟨F,ρ,r,s,p⟩:=h;refine aK r s (λe U=>?_) λa Y x F1 H1 J q1=>?_
 .have z:fB fa ρ=.error e:=by unfold fB;rw[U];rfl
  rw[z]at p;exact p
 .have z:fB fa ρ=asB a:=by unfold fB;rw[Y];rfl
  rw[z]at p;cases a with
  |bl b=>exact⟨b,q1,p F1 H1 J⟩|_=>exact(W.ns p).elim
def tru_of{a:A'}{x:V}{b:Bool}(s:aO F H1)(q:aU K F a x)(h:truD a=.ok b):TruV K x H1 b:=by
 cases a with
 |non=>rw[show x=.non from q];exact(Gh h).symm|bl c=>rw[show x=.bl c from q];exact(Gh h).symm|int i=>rw[show x=.int i from q];exact(Gh h).symm|str y=>
  rw[show x=.str y from q];have h':(if y.length<=n_ then EI ((y.length:Int) != 0)else FE Err.stuck)=EI b:=h;by_cases J:y.length<=n_
  .rw[s_ J]at h';exact⟨J,(Gh h').symm⟩
  .rw[q_ J]at h';cases h'
 |tup ds=>
  obtain⟨p,xs,e,t,r⟩:=q;subst e;refine .inr (.inl ⟨xs,s.tup t,?_⟩);rw[<- Gh h];cases ds with
  |nil=>rw[show xs=[]from r];rfl|cons d ds=>obtain⟨v,vs,e,_⟩:=r;rw[e];rfl
 |lst ds=>
  obtain⟨p,xs,e,t,r⟩:=q;subst e;refine .inl ⟨xs,s.lst t,?_⟩;rw[<- Gh h];cases ds with
  |nil=>rw[show xs=[]from r];rfl|cons d ds=>obtain⟨v,vs,e,_⟩:=r;rw[e];rfl
 |ins C fs=>cases h|dic ks=>cases h|dil ks=>cases h
def rd_tru(h:tDT K W (vZ fa) σ H R):tD K W c_ fa σ H λx H1=>∃k,TruV K x H1 k/\R k H1:=by
 obtain⟨F,ρ,r,s,p⟩:=h;refine aK r s (λe c=>?_) λa d x F1 H1 U q1=>?_
 .have z:vZ fa ρ=.error e:=by unfold vZ;rw[c];rfl
  rw[z]at p;exact p
 .have z:vZ fa ρ=truD a:=by unfold vZ;rw[d];rfl
  rw[z]at p;cases e:truD a with
  |ok b=>rw[e]at p;exact⟨b,tru_of U.fh q1 e,p F1 H1 U⟩|error x=>
   rw[e]at p;have:x=.stuck:=by
    cases a with
    |str y=>
     have J:(if y.length<=n_ then EI ((y.length:Int) != 0)else FE Err.stuck)=FE x:=e;by_cases Y:y.length<=n_
     .rw[s_ Y]at J;cases J
     .rw[q_ Y]at J;cases J;rfl
    |ins C fs=>cases e;rfl|dic ks=>cases e;rfl|dil ks=>cases e;rfl|_=>cases e
   subst this;exact(W.ns p).elim
def rd_andV(h:tD K W c_ (oW fa fb) σ H Q):tAndV (tD K W c_ fa) (tD K W c_ fb) σ H Q:=by
 obtain⟨F,ρ,r,s,p⟩:=h;refine aK r s (λe U=>p.err (by unfold oW;rw[U];rfl)) λa Y x F1 H1 J q1=>?_;have z:oW fa fb ρ=(asB a).bind λb=>if b=e_ then fb ρ else .ok (.bl c_):=by unfold oW;rw[Y];rfl
 rw[z]at p;cases a with
 |bl b=>
  refine⟨b,q1,?_⟩
  cases b with
  |true=>exact⟨F1,ρ,r.mono J.ff,J.fh,aH.step (own:=c_) (r:=fb ρ) p J⟩|false=>exact p (.bl c_) F1 H1 J rfl
 |_=>exact(W.ns p).elim
def xn{g:A'->A'->M A'}(h:tD K W c_ (iM g g' fa fb fc) σ H Q):AS (rD2 K W c_ g) (rD2 K W c_ g') (tD K W c_ fa) (tD K W c_ fb) (tD K W c_ fc) σ H Q:=by
 obtain⟨F,ρ,r,s,p⟩:=h;refine aK r s (λe Y=>p.err (by unfold iM;rw[Y];rfl)) λa m x F1 H1 U q1=>?_;refine aK (r.mono U.ff) U.fh (λe Y=>(p.step U).err (by unfold iM;rw[m];show(fb ρ).bind _=_;rw[Y];rfl)) λb t y F2 H2 f q2=>?_;have z:iM g g' fa fb fc ρ=(g a b).bind λx=>(asB x).bind λk=>if k=e_ then(fc ρ).bind λc=>g' b c else .ok (.bl c_):=by unfold iM;rw[m];show(fb ρ).bind _=_;rw[t];rfl
 rw[z]at p;refine⟨F2,a,b,f.fh,aU.mono f.ff q1,q2,?_⟩
 have p2:=p.step (U.trans f);cases e:g a b with
 |error x=>rw[e]at p2;exact p2|ok d=>
  rw[e]at p2;intro v l j J o;have p3:aH K W c_ l j ((asB d).bind λk=>if k=e_ then(fc ρ).bind λc=>g' b c else .ok (.bl c_)) Q:=aH.step p2 J;cases d with
  |bl k=>
   refine⟨k,o,?_⟩
   cases k with
   |false=>exact p3 (.bl c_) l j (B5.refl J.fh) rfl|true=>
    have p4:aH K W c_ l j ((fc ρ).bind λc=>g' b c) Q:=p3;refine aK (r.mono (U.trans (f.trans J)).ff) J.fh (λe Y=>p4.err (by rw[Y];rfl)) λc q w u A i n=>⟨u,b,c,i.fh,aU.mono (J.trans i).ff q2,n,?_⟩
    rw[q]at p4;exact p4.step i
  |_=>exact(W.ns p3).elim
end
inductive Pat where
 |nm (i:Nat)|tp (is:List Nat)
def ir:aF->List A'->aa->aa
 |i::is,d::ds,ρ=>ir is ds (ρ.set i (a_ d))|_,_,ρ=>ρ
def g9:Pat->A'->aa->M aa
 |.nm i,d,ρ=>.ok (ρ.set i (a_ d))|.tp is,.tup ds,ρ=>if ds.length=is.length then .ok (ir is ds ρ)else .error .stuck
 |.tp _,_,_=>.error .stuck
def gk:aF->TGs
 |[]=>gNil|i::is=>gCons (m6 i) (gk is)
def gP(K:Fg):Pat->TG
 |.nm i=>m6 i|.tp is=>gTup K is.length (gk is)
theorem qh{K:Fg}{F H:Hp}{R:St->Hp->Prop}:∀{is:aF} {ds:List A'} {vs:am} {σ:St} {ρ:aa},jc K F σ ρ->ax K F ds vs->ds.length=is.length->(∀σ',jc K F σ' (ir is ds ρ)->R σ' H)->gk is vs σ H R
 |[],[],_,σ,ρ,r,q,_,h=>⟨q,h σ r⟩|[],_::_,_,_,_,_,_,e,_=>by simp at e|_::_,[],_,_,_,_,_,e,_=>by simp at e|i::is,d::ds,_,σ,ρ,r,⟨v,vs,e,q,t⟩,l,h=>⟨v,vs,e,qh (r.set q i) t (by simpa using l) h⟩
def gP_run{R:St->Hp->Prop}{p:Pat}{v:V}(r:jc K F σ ρ)(s:aO F H)(q:aU K F d v)(e:g9 p d ρ=.ok ρ')(h:∀σ',jc K F σ' ρ'->R σ' H):gP K p v σ H R:=by
 cases p with
 |nm i=>have:=Gh e;subst this;exact h _ (r.set q i)|tp is=>
  cases d with
  |tup ds=>
   have U:(if ds.length=is.length then EI (ir is ds ρ)else FE Err.stuck)=EI ρ':=e;by_cases J:ds.length=is.length
   .rw[s_ J]at U;have:=Gh U;subst this;obtain⟨a,xs,ev,t,z⟩:=q;exact⟨a,xs,ev,s.tup t,by rw[z.length,J],qh r z J h⟩
   .rw[q_ J]at U;cases U
  |_=>cases e
def o6{p:Pat}{e:Err}(h:g9 p d ρ=.error e):e=.stuck:=by
 cases p with
 |nm i=>cases h|tp is=>
  cases d with
  |tup ds=>
   have J:(if ds.length=is.length then EI (ir is ds ρ)else FE Err.stuck)=FE e:=h;by_cases U:ds.length=is.length
   .rw[s_ U]at J;cases J
   .rw[q_ U]at J;cases J;rfl
  |_=>cases h;rfl
structure pz(K:Fg)(F1:Hp)(J:It)(ds:List A'):Prop where
 go:∀(i:Nat) (F H:Hp),aO F1 F->aO F H->i<ds.length->J.go i H
 yl:∀(i:Nat) (F H:Hp) (x:V) (H':Hp) (d:A'),aO F1 F->aO F H->ds[i]?=a_ d->J.yld i H x H'->∃F',B5 F H F' H'/\aU K F' d x
 st:∀(F H:Hp),aO F1 F->aO F H->J.stop ds.length H
def iD(K:Fg)(W:cn)(f:aa->M (List A')):TI:=λσ H R=>∃F ρ,jc K F σ ρ/\aO F H/\(match f ρ with
 |.ok ds=>∀J F1 H1,B5 F H F1 H1->pz K F1 J ds->R J H1|.error e=>W.p e F H)
def jj:A'->M (List A')
 |.lst ds=>.ok ds|.tup ds=>.ok ds|_=>.error .stuck
def fIt(fa:aa->M A'):aa->M (List A'):=λρ=>(fa ρ).bind jj
def iSeq(K:Fg)(tl:TE):TI:=λσ H R=>tl σ H λx H1=>∃a,x=.ref a/\((∃xs,SqL K H1 a xs)/\R (Itl K a) H1\/(∃xs,SqT K H1 a xs)/\R (Itt K a) H1)
def Ca{xs:am}{ds:List A'}(t:SqL K F a xs)(z:ax K F ds xs):pz K F (Itl K a) ds where
 go:=λi F' H' U J hi=>⟨xs,xs[i]'(by rw[z.length];exact hi),J.lst (U.lst t),by simp[z.length,hi]⟩
 yl:=λi F' H' x H2 d U J hd Y=>by obtain⟨e,Y⟩:=Y;subst e;obtain⟨v,e1,q⟩:=z.get hd;have e2:=Y xs (J.lst (U.lst t));rw[e1]at e2;cases e2;exact⟨F',B5.refl J,q.mono U⟩
 st:=λF' H' U J=>⟨xs,J.lst (U.lst t),by rw[z.length];exact t_ _⟩
def iter_tup{xs:am}{ds:List A'}(t:SqT K F a xs)(z:ax K F ds xs):pz K F (Itt K a) ds where
 go:=λi F' H' U J hi=>⟨xs,xs[i]'(by rw[z.length];exact hi),J.tup (U.tup t),by simp[z.length,hi]⟩
 yl:=λi F' H' x H2 d U J hd Y=>by obtain⟨e,Y⟩:=Y;subst e;obtain⟨v,e1,q⟩:=z.get hd;have e2:=Y xs (J.tup (U.tup t));rw[e1]at e2;cases e2;exact⟨F',B5.refl J,q.mono U⟩
 st:=λF' H' U J=>⟨xs,J.tup (U.tup t),by rw[z.length];exact t_ _⟩
noncomputable def aJ(lo:Int)(n:Nat):List A':=(DR n).map λk:Nat=>A'.int (lo+k)
def pV:pz K F (Itr lo n) (aJ lo n) where
 go:=λi F' H' Y J hi=>by show i<n;simpa[aJ] using hi
 yl:=λi F' H' x H2 d Y J hd U=>by
  obtain⟨e,U⟩:=U;subst e U;unfold aJ at hd;rw[El]at hd;have hi:i<n:=by have:=(v_.mp (show((DR n).map λk:Nat=>A'.int (lo+k))[i]?=a_ d by rw[El];exact hd)).1;simpa using this
  rw[J9 hi]at hd;cases hd;exact⟨F',B5.refl J,rfl⟩
 st:=λF' H' Y J=>by show n<=_;simp[aJ]
noncomputable def bh(i:Int):Bool:=z_ (-(2^62)<=i)&&z_ (i<2^62)
def iS:List A'->M (List A')
 |[.int j]=>if bh j=e_ then .ok (aJ 0 j.toNat)else .error .stuck
 |_=>.error .stuck
def xk:List A'->M (List A')
 |[.int i,.int j]=>if (bh i&&bh j)=e_ then .ok (aJ i (j-i).toNat)else .error .stuck
 |_=>.error .stuck
noncomputable def gL(g:List A'->M (List A'))(fr:aa->M (List A')):aa->M (List A'):=λρ=>(fr ρ).bind g
section
variable{W:cn}{Q:VK}
def ri_seq{R:It->Hp->Prop}(h:iD K W (fIt fa) σ H R):iSeq K (tD K W c_ fa) σ H R:=by
 obtain⟨F,ρ,r,s,p⟩:=h;refine aK r s (λe U=>?_) λa Y x F1 H1 J q1=>?_
 .have z:fIt fa ρ=.error e:=by unfold fIt;rw[U];rfl
  rw[z]at p;exact p
 .have z:fIt fa ρ=jj a:=by unfold fIt;rw[Y];rfl
  rw[z]at p;cases a with
  |lst ds=>obtain⟨b,xs,e,t,z⟩:=q1;exact⟨b,e,.inl ⟨⟨xs,J.fh.lst t⟩,p _ F1 H1 J (Ca t z)⟩⟩
  |tup ds=>obtain⟨b,xs,e,t,z⟩:=q1;exact⟨b,e,.inr ⟨⟨xs,J.fh.tup t⟩,p _ F1 H1 J (iter_tup t z)⟩⟩
  |_=>exact(W.ns p).elim
def ri_rng1{fr:aa->M (List A')}{R:It->Hp->Prop}(h:iD K W (gL iS fr) σ H R):iRng1 (tDA K W fr) σ H R:=by
 obtain⟨F,ρ,r,s,p⟩:=h;refine gS r s (λe b=>?_) λds hd xs F1 H1 a q1=>?_
 .have z:gL iS fr ρ=.error e:=by unfold gL;rw[b];rfl
  rw[z]at p;exact p
 .have z:gL iS fr ρ=iS ds:=by unfold gL;rw[hd];rfl
  rw[z]at p;cases ds with
  |nil=>exact(W.ns p).elim|cons d ds=>
   cases d with
   |int j=>
    cases ds with
    |cons _ _=>exact(W.ns p).elim|nil=>
     obtain⟨v,vs,e,q,t⟩:=q1;have Y:match (if bh j=e_ then EI (aJ 0 j.toNat)else FE Err.stuck:M (List A'))with
      |.ok ds=>∀J F1 H1,B5 F H F1 H1->pz K F1 J ds->R J H1|.error e=>W.p e F H:=p
     by_cases U:bh j=e_
     .rw[s_ U]at Y;unfold bh at U;simp only[r_,DX]at U;exact⟨j,by rw[e,show v=.int j from q,show vs=[]from t],U.1,U.2,Y _ F1 H1 a pV⟩
     .rw[q_ U]at Y;exact(W.ns Y).elim
   |_=>exact(W.ns p).elim
def ri_rng2{fr:aa->M (List A')}{R:It->Hp->Prop}(h:iD K W (gL xk fr) σ H R):iRng2 (tDA K W fr) σ H R:=by
 obtain⟨F,ρ,r,s,p⟩:=h;refine gS r s (λe f=>?_) λds hd xs F1 H1 d q1=>?_
 .have z:gL xk fr ρ=.error e:=by unfold gL;rw[f];rfl
  rw[z]at p;exact p
 .have z:gL xk fr ρ=xk ds:=by unfold gL;rw[hd];rfl
  rw[z]at p;by_cases Y:∃i j,ds=[.int i,.int j]
  .obtain⟨i,j,rfl⟩:=Y;obtain⟨v,vs,e,q,c,b,e2,q2,t⟩:=q1;have a:match (if (bh i&&bh j)=e_ then EI (aJ i (j-i).toNat)else FE Err.stuck:M (List A'))with
    |.ok ds=>∀J F1 H1,B5 F H F1 H1->pz K F1 J ds->R J H1|.error e=>W.p e F H:=p
   by_cases U:(bh i&&bh j)=e_
   .rw[s_ U]at a;unfold bh at U;simp only[r_,DX]at U;exact⟨i,j,by rw[e,show v=.int i from q,e2,show c=.int j from q2,show b=[]from t],⟨U.1.1,U.1.2,U.2.1,U.2.2⟩,a _ F1 H1 d pV⟩
   .rw[q_ U]at a;exact(W.ns a).elim
  .have:xk ds=.error .stuck:=by
    unfold xk;split
    .exact DD ⟨_,_,rfl⟩ Y
    .rfl
   rw[this]at p;exact(W.ns p).elim
def dO(ix:List (Option Nat))(ρ:aa):aa:=ix.map λo=>match o with
 |none=>g_|some j=>(ρ[j]?).join
def aS(p:Pat)(ft:aa->M Bool)(fe:aa->M A')(ρ0:aa):List A'->M (List A')
 |[]=>.ok []|d::ds=>(g9 p d ρ0).bind λρ=>(ft ρ).bind λb=>if b=e_ then(fe ρ).bind λy=>(aS p ft fe ρ0 ds).bind λr=>.ok (y::r)else aS p ft fe ρ0 ds
def cC(fi:aa->M (List A'))(ix:List (Option Nat))(p:Pat)(ft:aa->M Bool)(fe:aa->M A'):aa->M A':=λρ=>(fi ρ).bind λds=>if ds.length<=n_ then(aS p ft fe (dO ix ρ) ds).bind λr=>.ok (.lst r)else .error .stuck
noncomputable def iL:aa->M Bool:=λ_=>.ok e_
theorem jc.inS{F:Hp}{ρ:aa}(r:jc K F σ ρ)(ix:List (Option Nat)):jc K F (Lake.inS ix σ) (dO ix ρ):=
 ⟨by simp[Lake.inS,dO],λi d e=>by
  unfold dO at e;unfold Lake.inS;rw[El]at e ⊢;cases h:ix[i]? with
  |none=>rw[h]at e;cases e|some o=>
   rw[h]at e;cases o with
   |none=>cases e|some j=>
    simp only[HY,F8]at e ⊢;have e1:ρ[j]?=a_ (a_ d):=by
     cases z:ρ[j]? with
     |none=>rw[z]at e;cases e|some w=>rw[z]at e;simp at e;rw[e]
    obtain⟨v,h1,h2⟩:=r.sl j d e1;exact⟨v,by rw[h1];rfl,h2⟩⟩
def Bh{p:Pat}(h:tD K W e_ (cC fi ix p ft fe) σ H Q):
  tComp (iD K W fi) ix (gP K p) (tDT K W ft) (tD K W c_ fe) σ H Q:=by
 obtain⟨F,ρ,r,s,q⟩:=h;refine⟨F,ρ,r,s,?_⟩
 cases S:fi ρ with
 |error e=>exact q.err (by unfold cC;rw[S];rfl)|ok ds=>
  intro J F1 H1 C G;have e0:cC fi ix p ft fe ρ=if ds.length<=n_ then(aS p ft fe (dO ix ρ) ds).bind λr=>.ok (.lst r)else .error .stuck:=by unfold cC;rw[S];rfl
  rw[e0]at q;by_cases R:ds.length<=n_
  .rw[s_ R]at q;refine⟨λi m ys H2=>m=ds.length-i/\i<=ds.length/\∃F2 U,B5 F1 H1 F2 H2/\ax K F2 U ys/\U.length<=i /\
    (match aS p ft fe (dO ix ρ) (ds.drop i)with
     |.ok Y=>aS p ft fe (dO ix ρ) ds=.ok (U++Y)|.error e=>W.p e F H),⟨ds.length,ac,E1 _,F1,[],B5.refl C.fh,rfl,E1 _,?_⟩,?_⟩
   .rw[Iw];cases e:aS p ft fe (dO ix ρ) ds with
    |ok Y=>rfl|error x=>exact q.err (by rw[e];rfl)
   .rintro i m ys H2 ⟨rfl,hi,F2,U,f,E,ly,t⟩;have A:ys.length<=n_:=by rw[E.length];omega
    by_cases j:i<ds.length
    .have ed:ds.drop i=ds[i]::ds.drop (i+1):=IH j;rw[ed]at t;refine .inr ⟨G.go i F2 H2 f.ff f.fh j,A,λw H'=>(i+1<=ds.length/\∃F2 U,B5 F1 H1 F2 H'/\ax K F2 U w/\U.length<=i+1 /\
      (match aS p ft fe (dO ix ρ) (ds.drop (i+1))with
       |.ok Y=>aS p ft fe (dO ix ρ) ds=.ok (U++Y)|.error e=>W.p e F H)),λw H' n=>⟨ds.length-(i+1),ac,rfl,n⟩,λx H' y=>?_⟩
     obtain⟨X,o,q3⟩:=G.yl i F2 H2 x H' ds[i] f.ff f.fh (by simp[j]) y;have r3:jc K X (Lake.inS ix σ) (dO ix ρ):=(r.mono (C.trans (f.trans o)).ff).inS ix;have z:B5 F H X H':=C.trans (f.trans o);have ec:aS p ft fe (dO ix ρ) (ds[i]::ds.drop (i+1))=(g9 p ds[i] (dO ix ρ)).bind λc=>(ft c).bind λb=>if b=e_ then(fe c).bind λy=>(aS p ft fe (dO ix ρ) (ds.drop (i+1))).bind λr=>.ok (y::r)else aS p ft fe (dO ix ρ) (ds.drop (i+1)):=by rw[aS]
     rw[ec]at t;cases D:g9 p ds[i] (dO ix ρ)with
     |error e=>rw[D]at t;have:=o6 D;subst this;exact(W.ns t).elim|ok c=>
      rw[D]at t;refine gP_run r3 o.fh q3 D λZ P=>?_;have k:match ((ft c).bind λb=>if b=e_ then(fe c).bind λy=>(aS p ft fe (dO ix ρ) (ds.drop (i+1))).bind λr=>.ok (y::r)else aS p ft fe (dO ix ρ) (ds.drop (i+1)))with
       |.ok Y=>aS p ft fe (dO ix ρ) ds=.ok (U++Y)|.error e=>W.p e F H:=t
      refine iq P o.fh (λe I=>by rw[I]at k;exact W.mono k z) λb L F5 H5 u=>?_;rw[L]at k;cases b with
      |false=>
       have g:match aS p ft fe (dO ix ρ) (ds.drop (i+1))with
        |.ok Y=>aS p ft fe (dO ix ρ) ds=.ok (U++Y)|.error e=>W.p e F H:=k
       exact⟨j,F5,U,f.trans (o.trans u),E.mono (o.trans u).ff,ac,g⟩
      |true=>
       have g:match ((fe c).bind λy=>(aS p ft fe (dO ix ρ) (ds.drop (i+1))).bind λr=>.ok (y::r))with
        |.ok Y=>aS p ft fe (dO ix ρ) ds=.ok (U++Y)|.error e=>W.p e F H:=k
       refine aK (P.mono u.ff) u.fh (λe I=>by rw[I]at g;exact W.mono g (z.trans u)) λd hd v F6 H6 O q6=>?_;rw[hd]at g;refine⟨j,F6,U++[d],f.trans (o.trans (u.trans O)),ax.append (E.mono (o.trans (u.trans O)).ff) ⟨v,[],rfl,q6,rfl⟩,by simp;omega,?_⟩
       have l:match ((aS p ft fe (dO ix ρ) (ds.drop (i+1))).bind λr=>.ok (d::r):M (List A'))with
        |.ok Y=>aS p ft fe (dO ix ρ) ds=.ok (U++Y)|.error e=>W.p e F H:=g
       cases T:aS p ft fe (dO ix ρ) (ds.drop (i+1))with
       |ok Y=>rw[T]at l;show _=EI ((U++[d])++Y);rw[E4];exact l|error x=>rw[T]at l;exact l
    .have:i=ds.length:=ac
     subst this;rw[Jb]at t;have B:aS p ft fe (dO ix ρ) ds=.ok (U++[]):=t;rw[Fc]at B;rw[B]at q;refine .inl ⟨G.st F2 H2 f.ff f.fh,A,λa N=>?_⟩;have st:B5 F H F2 H2:=C.trans f;exact q (.ref a) F2 _ (st.trans (B5.grow f.fh N)) ⟨a,ys,rfl,ak,f.fh.free N,st.hh.free N,E⟩
  .rw[q_ R]at q;exact(W.ns q).elim
end
inductive C' where
 |nx (ρ:aa)|rt (d:A')|bk (ρ:aa)|ct (ρ:aa)
variable{g g2:aa->M C'}
structure Rep(K:Fg)(F0 H0 FB:Hp)(O:aF)(F H:Hp)(σ:St)(ρ:aa):Prop where
 st:B5 F0 H0 F H
 fb:aO FB F
 len:ρ.length=σ.length
 fz:∀(i:Nat) (d:A'),ρ[i]?=a_ (a_ d)->i∉O->∃v,σ[i]?=a_ (a_ v)/\aU K F d v
 ow:∀(i:Nat) (d:A'),ρ[i]?=a_ (a_ d)->i∈O->∃v,σ[i]?=a_ (a_ v)/\kn K F H0 H d v
 ap:∀(i j:Nat) (d e:A') (a:i_),i∈O->j∈O->(ρ[i]?=a_ (a_ d)/\isO d=e_)->(ρ[j]?=a_ (a_ e)/\isO e=e_)->σ[i]?=a_ (a_ (.ref a))->σ[j]?=a_ (a_ (.ref a))->i=j
def j8(O O2:aF)(σ:St)(ρ:aa)(b:i_):Prop:=∃(i:Nat) (d:A'),i∈O/\i∉O2/\isO d=e_/\ρ[i]?=a_ (a_ d)/\σ[i]?=a_ (a_ (.ref b))
open Classical in
noncomputable def plus(F H:Hp)(A:Addr->Prop):Hp:=λb=>if A b then H b else F b
open Classical in
noncomputable def minus(F:Hp)(A:Addr->Prop):Hp:=λb=>if A b then none else F b
def iu{A:i_->Prop}(h:A b):plus F H A b=H b:=by unfold plus;rw[s_ h]
def cR{A:i_->Prop}(h:¬A b):plus F H A b=F b:=by unfold plus;rw[q_ h]
def jQ{A:i_->Prop}(h:A b):minus F A b=g_:=by unfold minus;rw[s_ h]
def cL{A:i_->Prop}(h:¬A b):minus F A b=F b:=by unfold minus;rw[q_ h]
def Rep.own(r:Rep K F0 H0 FB O F H σ ρ)(h:j8 O O2 σ ρ b):F b=g_/\H0 b=g_/\∃o,H b=a_ o/\isMu o=e_:=by obtain⟨i,d,hi,_,hd,e1,e2⟩:=h;obtain⟨v,e3,q⟩:=r.ow i _ e1 hi;rw[e2]at e3;cases e3;obtain⟨a,o,e,p,m,f,z⟩:=q.top hd;cases e;exact⟨f,z,o,p,m⟩
def Rep.ju(r:Rep K F0 H0 FB O F H σ ρ):aO F (plus F H (j8 O O2 σ ρ)):=λb o h=>by
 by_cases J:j8 O O2 σ ρ b
 .rw[(r.own J).1]at h;cases h
 .rw[cR J];exact h
def Rep.dj(r:Rep K F0 H0 FB O F H σ ρ):aO (plus F H (j8 O O2 σ ρ)) H:=λb o h=>by
 by_cases J:j8 O O2 σ ρ b
 .rw[iu J]at h;exact h
 .rw[cR J]at h;exact r.st.fh b o h
def Rep.freeze(r:Rep K F0 H0 FB O F H σ ρ)(J:∀i∈O2,i∈O):Rep K F0 H0 FB O2 (plus F H (j8 O O2 σ ρ)) H σ ρ where
 st:=⟨r.st.ff.trans r.ju,r.st.hh,r.dj,λb o h=>by
  by_cases k:j8 O O2 σ ρ b
  .exact .inr (r.own k).2.1
  .rw[cR k]at h;exact r.st.nw b o h⟩
 fb:=r.fb.trans r.ju
 len:=r.len
 fz:=λi d e hi=>by
  by_cases U:i∈O
  .obtain⟨v,e3,q⟩:=r.ow i d e U;refine⟨v,e3,?_⟩
   cases hd:isO d with
   |true=>obtain⟨a,_,ev,_⟩:=q.top hd;subst ev;exact q.give hd r.ju (iu ⟨i,d,U,hi,hd,e,e3⟩)
   |false=>rw[kn.non hd]at q;exact q.mono r.ju
  .obtain⟨v,e3,q⟩:=r.fz i d e U;exact⟨v,e3,q.mono r.ju⟩
 ow:=λi d e hi=>by
  obtain⟨v,e3,q⟩:=r.ow i d e (J i hi);refine⟨v,e3,?_⟩
  cases hd:isO d with
  |true=>
   obtain⟨a,o,ev,p,_,f,z⟩:=q.top hd;subst ev;refine q.re hd r.ju ?_ λ_ h=>h;have:¬j8 O O2 σ ρ a:=λ⟨j,d',c,Y,g,f1,l⟩=>by have:=r.ap i j d d' a (J i hi) c ⟨e,hd⟩ ⟨f1,g⟩ e3 l;subst this;exact Y hi
   rw[cR this];exact f
  |false=>rw[kn.non hd]at q ⊢;exact q.mono r.ju
 ap:=λi j d e a hi c=>r.ap i j d e a (J i hi) (J j c)
def Rep.repE(r:Rep K F0 H0 FB [] F H σ ρ):jc K F σ ρ:=⟨r.len,λi d e=>r.fz i d e ad⟩
def Rep.gI(r:Rep K F0 H0 FB O F H σ ρ):jc K (plus F H (j8 O [] σ ρ)) σ ρ:=(r.freeze (O2:=[]) ad).repE
noncomputable def erase:aF->aa->aa
 |[],ρ=>ρ|i::is,ρ=>erase is (ρ.set i g_)
theorem gM:∀(O:aF) (ρ:aa),(erase O ρ).length=ρ.length
 |[],_=>rfl|i::is,ρ=>by rw[erase,gM,DM]
theorem uq:∀(O:aF) (ρ:aa) (i:Nat) (d:A'),(erase O ρ)[i]?=a_ (a_ d)->ρ[i]?=a_ (a_ d)/\i∉O
 |[],_,_,_,h=>⟨h,ad⟩|j::is,ρ,i,d,h=>by
  obtain⟨h1,h2⟩:=uq is (ρ.set j g_) i d h;by_cases e:j=i
  .subst e;have J:j<ρ.length:=by
    have:=(v_.mp h1).1;simpa using this
   rw[vw J]at h1;cases h1
  .rw[m_ e]at h1;exact⟨h1,by simp[h2];omega⟩
def Rep.gU(r:Rep K F0 H0 FB O F H σ ρ):jc K F σ (erase O ρ):=
 ⟨by rw[gM,r.len],λi d e=>let ⟨h1,h2⟩:=uq O ρ i d e;r.fz i d h1 h2⟩
def Rep.step(r:Rep K F0 H0 FB O F H σ ρ)(s:B5 F H F1 H1):Rep K F0 H0 FB O F1 H1 σ ρ where
 st:=r.st.trans s
 fb:=r.fb.trans s.ff
 len:=r.len
 fz:=λi d e hi=>let ⟨v,e3,q⟩:=r.fz i d e hi;⟨v,e3,q.mono s.ff⟩
 ow:=λi d e hi=>by
  obtain⟨v,e3,q⟩:=r.ow i d e hi;refine⟨v,e3,?_⟩
  cases hd:isO d with
  |true=>
   obtain⟨a,u,ev,p,_,f,z⟩:=q.top hd;subst ev;refine q.re hd s.ff ?_ (s.hh a);cases e1:F1 a with
   |none=>rfl|some o=>
    rcases s.nw a o e1 with h|h
    .rw[f]at h;cases h
    .rw[p]at h;cases h
  |false=>rw[kn.non hd]at q ⊢;exact q.mono s.ff
 ap:=r.ap
def Rep.eK(r:Rep K F0 H0 FB O F H σ ρ)(s:B5 (plus F H (j8 O [] σ ρ)) H F1 H1):Rep K F0 H0 FB O (minus F1 (j8 O [] σ ρ)) H1 σ ρ:=by
 refine r.step ⟨λb o h=>?_,s.hh,λb o h=>?_,λb o h=>?_⟩
 .by_cases J:j8 O [] σ ρ b
  .rw[(r.own J).1]at h;cases h
  .rw[cL J];exact s.ff b o (by rw[cR J];exact h)
 .by_cases J:j8 O [] σ ρ b
  .rw[jQ J]at h;cases h
  .rw[cL J]at h;exact s.fh b o h
 .by_cases J:j8 O [] σ ρ b
  .rw[jQ J]at h;cases h
  .rw[cL J]at h;rcases s.nw b o h with z|z
   .rw[cR J]at z;exact .inl z
   .exact .inr z
def Rep.jg(r:Rep K F0 H0 FB O F H σ ρ)(s:B5 (plus F H (j8 O [] σ ρ)) H F1 H1)(a:i_)(xs:am)(h:SqT K F1 a xs):SqT K (minus F1 (j8 O [] σ ρ)) a xs:=by
 have key:∀{b:i_} {o:HO},F1 b=a_ o->isMu o=c_->minus F1 (j8 O [] σ ρ) b=a_ o:=λ{b o} h n=>by
  by_cases J:j8 O [] σ ρ b
  .obtain⟨_,_,u,e,m⟩:=r.own J;have:=s.ff b u (by rw[iu J];exact e);rw[h]at this;cases this;rw[n]at m;cases m
  .rw[cL J];exact h
 rcases h with(h|⟨o,h⟩)|h
 .exact .inl (.inl (key h rfl))
 .exact .inl (.inr ⟨o,key h rfl⟩)
 .exact .inr h
theorem Rep.set{d:A'}{v:V}(r:Rep K F0 H0 FB O F H σ ρ)(q:aU K F d v)(i:Nat):Rep K F0 H0 FB (O.filter (· != i)) F H (σ.set i (a_ v)) (ρ.set i (a_ d)) where
 st:=r.st
 fb:=r.fb
 len:=by rw[DM,DM,r.len]
 fz:=λj e h U=>by
  by_cases J:i=j
  .subst J;have hi:i<ρ.length:=by
    have:=(v_.mp h).1;simpa using this
   rw[vw hi]at h;cases h;exact⟨v,by rw[vw (by rw[<- r.len];exact hi)],q⟩
  .rw[m_ J]at h;rw[m_ J];exact r.fz j e h λz=>U (EW.mpr ⟨z,by simpa using Em J⟩)
 ow:=λj e h U=>by
  obtain⟨h1,h2⟩:=EW.mp U;have J:i≠j:=λz=>by simp[z]at h2
  rw[m_ J]at h ⊢;exact r.ow j e h h1
 ap:=λj k ds es a U c e1 e2 e3 e4=>by
  obtain⟨j1,b⟩:=EW.mp U;obtain⟨k1,k2⟩:=EW.mp c;have J:i≠j:=λz=>by simp[z]at b
  have Y:i≠k:=λz=>by simp[z]at k2
  rw[m_ J]at e1 e3;rw[m_ Y]at e2 e4;exact r.ap j k ds es a j1 k1 e1 e2 e3 e4
def Rep.setOwn{v:V}(r:Rep K F0 H0 FB O F H σ ρ)(q:kn K F H0 H d v)(t:∀a,v=.ref a->isO d=e_->¬j8 O [i] σ ρ a):Rep K F0 H0 FB (i::O.filter (· != i)) F H (σ.set i (a_ v)) (ρ.set i (a_ d)) where
 st:=r.st
 fb:=r.fb
 len:=by rw[DM,DM,r.len]
 fz:=λj e h c=>by simp only[p_,L9]at c;have J:i≠j:=λz=>c.1 z.symm;rw[m_ J]at h ⊢;exact r.fz j e h λz=>c.2 (EW.mpr ⟨z,by simpa using Em J⟩)
 ow:=λj e h c=>by
  by_cases J:i=j
  .subst J;have hi:i<ρ.length:=by
    have:=(v_.mp h).1;simpa using this
   rw[vw hi]at h;cases h;exact⟨v,by rw[vw (by rw[<- r.len];exact hi)],q⟩
  .rw[m_ J]at h ⊢;rcases p_.mp c with z|z
   .exact DD z.symm J
   .exact r.ow j e h (EW.mp z).1
 ap:=λj k ds es a c o e1 e2 e3 e4=>by
  have key:∀{k':Nat} {Y U:A'},k'∈O->k'≠i->((ρ.set i (a_ d))[i]?=a_ (a_ Y)/\isO Y=e_)->((ρ.set i (a_ d))[k']?=a_ (a_ U)/\isO U=e_)->(σ.set i (a_ v))[i]?=a_ (a_ (.ref a))->(σ.set i (a_ v))[k']?=a_ (a_ (.ref a))->False:=by
   intro k' Y U l f f1 n f3 f4;have hi:i<ρ.length:=by have:=(v_.mp f1.1).1;simpa using this
   rw[vw hi]at f1;rw[vw (by rw[<- r.len];exact hi)]at f3;rw[m_ (Em f)]at n f4;have s:v=.ref a:=by simpa using f3
   have p:d=Y:=by simpa using f1.1
   exact t a s (p▸f1.2) ⟨k',U,l,by simpa using f,n.2,n.1,f4⟩
  rcases p_.mp c with g|g
  .rcases p_.mp o with b|b
   .rw[g,b]
   .obtain⟨k1,k2⟩:=EW.mp b;subst g;exact(key k1 (by simpa using k2) e1 e2 e3 e4).elim
  .obtain⟨j1,u⟩:=EW.mp g;have J:i≠j:=λz=>by simp[z]at u
   rcases p_.mp o with b|b
   .subst b;exact(key j1 (Em J) e2 e1 e4 e3).elim
   .obtain⟨k1,k2⟩:=EW.mp b;have m:i≠k:=λz=>by simp[z]at k2
    rw[m_ J]at e1 e3;rw[m_ m]at e2 e4;exact r.ap j k ds es a j1 k1 e1 e2 e3 e4
def Rep.dQ(r:Rep K F0 H0 FB O F H σ ρ)(s:B5 (plus F H (j8 O [] σ ρ)) H F1 H1):aO F (minus F1 (j8 O [] σ ρ)):=λb o h=>by
 by_cases J:j8 O [] σ ρ b
 .rw[(r.own J).1]at h;cases h
 .rw[cL J];exact s.ff b o (by rw[cR J];exact h)
def zT(h:i∉O):O.filter (· != i)=O:=by rw[MT];intro a J;simp;intro e;exact h (e▸J)
def Rep.set'{v:V}(r:Rep K F0 H0 FB O F H σ ρ)(q:aU K F d v)(hi:i∉O):Rep K F0 H0 FB O F H (σ.set i (a_ v)) (ρ.set i (a_ d)):=by have:=r.set q i;rw[zT hi]at this;exact this
def Rep.base{J:Hp}(r:Rep K F0 H0 FB O F H σ ρ)(s:aO J FB):Rep K F0 H0 J O F H σ ρ:=⟨r.st,s.trans r.fb,r.len,r.fz,r.ow,r.ap⟩
def Rep.wR{d':A'}{u:HO}(r:Rep K F0 H0 FB O F H σ ρ)(hi:i∈O)(e1:ρ[i]?=a_ (a_ d))(hd:isO d=e_)(e2:σ[i]?=a_ (a_ (.ref a)))(q:F a=g_->H0 a=g_->kn K F H0 (upd H a u) d' (.ref a)):Rep K F0 H0 FB O F (upd H a u) σ (ρ.set i (a_ d')):=by
 have c:F a=g_/\H0 a=g_/\∃o,H a=a_ o/\isMu o=e_:=r.own (O2:=[]) ⟨i,d,hi,ad,hd,e1,e2⟩;have l:i<ρ.length:=(v_.mp e1).1;refine⟨⟨r.st.ff,λb o h=>?_,λb o h=>?_,r.st.nw⟩,r.fb,by rw[DM,r.len],λj e h U=>?_,λj e h U=>?_,λj k es fs b U w f1 y f3 f4=>?_⟩
 .rw[aq (az h c.2.1)];exact r.st.hh b o h
 .rw[aq (az h c.1)];exact r.st.fh b o h
 .have J:i≠j:=λz=>U (z▸hi);rw[m_ J]at h;exact r.fz j e h U
 .by_cases J:i=j
  .subst J;rw[vw l]at h;cases h;exact⟨.ref a,e2,q c.1 c.2.1⟩
  .rw[m_ J]at h;obtain⟨v,e3,z⟩:=r.ow j e h U;refine⟨v,e3,?_⟩
   cases g:isO e with
   |true=>
    obtain⟨b,o,ev,p,_,f,_⟩:=z.top g;subst ev;have m:b≠a:=λz=>by subst z;exact J (r.ap i j d e b hi U ⟨e1,hd⟩ ⟨h,g⟩ e2 e3)
    exact z.re g (aO.refl _) f λo h=>by rw[aq m];exact h
   |false=>rw[kn.non g]at z ⊢;exact z
 .have Y:∀{j:Nat} {e:A'},((ρ.set i (a_ d'))[j]?=a_ (a_ e)/\isO e=e_)->∃t,ρ[j]?=a_ (a_ t)/\isO t=e_:=λ{j e} f=>by
   by_cases J:i=j
   .subst J;exact⟨d,e1,hd⟩
   .rw[m_ J]at f;exact⟨e,f⟩
  obtain⟨s,x⟩:=Y f1;obtain⟨n,g2⟩:=Y y;exact r.ap j k s n b U w x g2 f3 f4
def Rep.write{ds U:List A'}{J:am}(r:Rep K F0 H0 FB O F H σ ρ)(hi:i∈O)(e1:ρ[i]?=a_ (a_ (.lst ds)))(e2:σ[i]?=a_ (a_ (.ref a)))(q:ax K F U J):Rep K F0 H0 FB O F (upd H a (.lst J)) σ (ρ.set i (a_ (.lst U))):=
 r.wR hi e1 rfl e2 λf z=>⟨a,J,rfl,ak,f,z,q⟩
noncomputable def Pat.names:Pat->aF
 |.nm i=>[i]|.tp is=>is
theorem qi{R:St->Hp->Prop}:∀{is:aF} {ds:List A'} {vs:am} {σ:St} {ρ:aa},Rep K F0 H0 FB O F H σ ρ->(∀i∈is,i∉O)->ax K F ds vs->ds.length=is.length->(∀σ',Rep K F0 H0 FB O F H σ' (ir is ds ρ)->R σ' H)->gk is vs σ H R
 |[],[],_,σ,ρ,r,_,q,_,h=>⟨q,h σ r⟩|[],_::_,_,_,_,_,_,_,e,_=>by simp at e|_::_,[],_,_,_,_,_,_,e,_=>by simp at e|i::is,d::ds,_,σ,ρ,r,n,⟨v,vs,e,q,t⟩,l,h=>⟨v,vs,e,qi (r.set' q (n i ad)) (λj J=>n j (by simp[J])) t (by simpa using l) h⟩
def gP_rep{R:St->Hp->Prop}{p:Pat}{v:V}(r:Rep K F0 H0 FB O F H σ ρ)(n:∀i∈p.names,i∉O)(q:aU K F d v)(e:g9 p d ρ=.ok ρ')(h:∀σ',Rep K F0 H0 FB O F H σ' ρ'->R σ' H):gP K p v σ H R:=by
 cases p with
 |nm i=>have:=Gh e;subst this;exact h _ (r.set' q (n i (by simp[Pat.names])))|tp is=>
  cases d with
  |tup ds=>
   have U:(if ds.length=is.length then EI (ir is ds ρ)else FE Err.stuck)=EI ρ':=e;by_cases J:ds.length=is.length
   .rw[s_ J]at U;have:=Gh U;subst this;obtain⟨a,xs,ev,t,z⟩:=q;exact⟨a,xs,ev,r.st.fh.tup t,by rw[z.length,J],qi r n z J h⟩
   .rw[q_ J]at U;cases U
  |_=>cases e
def ck(K:Fg)(W:cn)(ro:Bool)(F0 H0 FB:Hp)(OL O':aF)(D:Ends)(r:M C'):Prop:=match r with
 |.ok (.nx ρ)=>∀σ F H,Rep K F0 H0 FB O' F H σ ρ->D.nx σ H|.ok (.rt d)=>∀v F H,B5 F0 H0 F H->Val K ro F H0 H d v->D.rt v H|.ok (.bk ρ)=>∀σ F H,Rep K F0 H0 FB OL F H σ ρ->D.bk σ H|.ok (.ct ρ)=>∀σ F H,Rep K F0 H0 FB OL F H σ ρ->D.ct σ H|.error e=>W.p e F0 H0
def tS(K:Fg)(W:cn)(ro:Bool)(F0 H0:Hp)(OL O O':aF)(g:aa->M C'):TS:=λD σ H=>∃FB F ρ,Rep K F0 H0 FB O F H σ ρ/\ck K W ro F0 H0 FB OL O' D (g ρ)
def dh:aa->M C':=λρ=>.ok (.nx ρ)
def ba(g h:aa->M C'):aa->M C':=λρ=>(g ρ).bind λfl=>match fl with
 |.nx ρ'=>h ρ'|fl=>.ok fl
noncomputable def sIf(ft:aa->M Bool)(g h:aa->M C'):aa->M C':=λρ=>(ft ρ).bind λb=>if b=e_ then g ρ else h ρ
def kO:Bool->A'->Bool
 |true,.lst ds=>uo ds|_,d=>fN d
def vk(own:Bool)(i:Nat)(f:aa->M A'):aa->M C':=λρ=>(f ρ).bind λd=>if kO own d=e_ then .ok (.nx (ρ.set i (a_ d)))else .error .stuck
def aM(O:aF)(i:Nat)(f:aa->M A'):aa->M C':=λρ=>(f (erase O ρ)).bind λd=>.ok (.nx (ρ.set i (a_ d)))
def ig(ρ:aa)(i:Nat):M (List A'):=match ρ[i]? with
 |some (a_ (.lst ds))=>.ok ds|_=>.error .stuck
def put(ρ:aa)(i:Nat)(ds:List A'):M C':=.ok (.nx (ρ.set i (a_ (.lst ds))))
def gG(O:aF)(i:Nat)(f:aa->M A'):aa->M C':=λρ=>(ig ρ i).bind λds=>(f (erase O ρ)).bind λd=>if ds.length<n_ then put ρ i (ds++[d])else .error .stuck
noncomputable def asI:A'->M Int
 |.int i=>.ok i|_=>.error .stuck
def vh(i:Nat)(fi f:aa->M A'):aa->M C':=λρ=>(f ρ).bind λd=>(ig ρ i).bind λds=>(fi ρ).bind λk=>(asI k).bind λk=>if fN d=e_ then(match ixN ds.length k with
 |some j=>put ρ i (ds.set j d)|none=>.error .stuck)else .error .stuck
def cQ(f:aa->M A'):aa->M C':=λρ=>(f ρ).bind λd=>.ok (.rt d)
noncomputable def isL:A'->Bool
 |.lst _=>e_|_=>c_
def cp(p:Pat)(g:aa->M C'):List A'->aa->M C'
 |[],ρ=>.ok (.nx ρ)|d::ds,ρ=>(g9 p d ρ).bind λU=>(g U).bind λfl=>match fl with
  |.nx J=>cp p g ds J|.ct J=>cp p g ds J|.bk J=>.ok (.nx J)|.rt d=>.ok (.rt d)
def ie(O:aF)(fi:aa->M (List A'))(p:Pat)(g:aa->M C'):aa->M C':=λρ=>(fi (erase O ρ)).bind λds=>cp p g ds ρ
def eS(ft:aa->M Bool)(g:aa->M C'):Nat->aa->M C'
 |0,_=>.error .stuck|n+1,ρ=>(ft ρ).bind λb=>if b=e_ then(g ρ).bind λfl=>match fl with
  |.nx J=>eS ft g n J|.ct J=>eS ft g n J|.bk J=>.ok (.nx J)|.rt d=>.ok (.rt d)else .ok (.nx ρ)
section
variable{W:cn}{own:Bool}{h:aa->M C'}{f fi:aa->M A'}
def ck.err{x:M C'}{e:Err}(p:ck K W ro F0 H0 FB OL O' D x)(h:x=.error e):W.p e F0 H0:=by rw[h]at p;exact p
def ck.fO{x:M C'}{e:Err}(p:ck K W ro F0 H0 FB OL O' D x)(s:B5 F0 H0 F H)(h:x=.error e):W.p e F H:=W.mono (p.err h) s
theorem ck.stuck{x:M C'}{P:Prop}(p:ck K W ro F0 H0 FB OL O' D x)(h:x=.error .stuck):P:=(W.ns (p.err h)).elim
def tS.enter(J:∀i∈O2,i∈O)(t:tS K W ro F0 H0 OL O O' g D σ H):tS K W ro F0 H0 OL O2 O' g D σ H:=by obtain⟨FB,F,ρ,r,p⟩:=t;exact⟨FB,_,ρ,r.freeze J,p⟩
def rs_next(t:tS K W ro F0 H0 OL O O dh D σ H):tNext D σ H:=by obtain⟨FB,F,ρ,r,p⟩:=t;exact p σ F H r
def rs_seq(t:tS K W ro F0 H0 OL O O2 (ba g h) D σ H):tSeq (tS K W ro F0 H0 OL O O' g) (tS K W ro F0 H0 OL O' O2 h) D σ H:=by
 obtain⟨FB,F,ρ,r,p⟩:=t;refine⟨FB,F,ρ,r,?_⟩
 unfold ba at p;cases e:g ρ with
 |error x=>exact p.err (by rw[e];rfl)|ok fl=>
  rw[e]at p;cases fl with
  |nx ρ'=>exact λσ' F' H' r'=>⟨FB,F',ρ',r',p⟩|rt d=>exact p|bk ρ'=>exact p|ct ρ'=>exact p
def rs_if(t:tS K W ro F0 H0 OL O O' (sIf ft g h) D σ H):tIfS (tDT K W ft) (tS K W ro F0 H0 OL O O' g) (tS K W ro F0 H0 OL O O' h) D σ H:=by
 obtain⟨FB,F,ρ,r,p⟩:=t;refine iq r.gI r.dj (λe U=>p.fO (r.freeze (O2:=[]) ad).st (by unfold sIf;rw[U];rfl)) λb Y F1 H1 J=>?_;have z:sIf ft g h ρ=if b=e_ then g ρ else h ρ:=by unfold sIf;rw[Y];rfl
 rw[z]at p;cases b with
 |true=>exact⟨FB,_,ρ,r.eK J,p⟩|false=>exact⟨FB,_,ρ,r.eK J,p⟩
noncomputable def aft(own:Bool)(i:Nat)(O:aF):aF:=if own=e_ then i::O.filter (· != i)else O.filter (· != i)
def Rep.bindV{v:V}(r:Rep K F0 H0 FB O F H σ ρ)(q:Val K own F H2 H d v)(h2:aO H0 H2)(U:∀a,j8 O [] σ ρ a->∃o,H2 a=a_ o):Rep K F0 H0 FB (aft own i O) F H (σ.set i (a_ v)) (ρ.set i (a_ d)):=by
 cases own with
 |false=>exact r.set q i|true=>refine r.setOwn (kn.back h2 q) λa Y hd z=>?_;subst Y;obtain⟨b,_,e,_,_,_,n⟩:=kn.top hd q;cases e;obtain⟨j,es,h1,h2,g,f,c⟩:=z;obtain⟨o,J⟩:=U a ⟨j,es,h1,ad,g,f,c⟩;rw[n]at J;cases J
def Bc(t:tS K W ro F0 H0 OL O (aft own i O) (aM O i f) D σ H):tAsg (tD K W own f) (m6 i) D σ H:=by
 obtain⟨FB,F,ρ,r,p⟩:=t;refine aK r.gU r.st.fh (λe U=>p.fO r.st (by unfold aM;rw[U];rfl)) λd hd v F1 H1 J q=>?_;have z:aM O i f ρ=.ok (.nx (ρ.set i (a_ d))):=by unfold aM;rw[hd];rfl
 rw[z]at p;exact p _ F1 H1 ((r.step J).bindV q r.st.hh λa Y=>let ⟨_,_,_,e,_⟩:=r.own Y;⟨_,e⟩)
def Rep.flatV{v:V}(r:Rep K F0 H0 FB O F H σ ρ)(s:B5 (plus F H (j8 O [] σ ρ)) H F1 H1)(q:Val K own F1 H H1 d v)(fl:kO own d=e_):Val K own (minus F1 (j8 O [] σ ρ)) H H1 d v:=by
 have J:∀{a:i_},F1 a=g_->minus F1 (j8 O [] σ ρ) a=g_:=λ{a} h=>by
  by_cases U:j8 O [] σ ρ a
  .exact jQ U
  .rw[cL U];exact h
 cases own with
 |false=>exact aU.flat (r.jg s) (by cases d<;>exact fl) q
 |true=>
  cases d with
  |lst ds=>obtain⟨a,xs,e,p,n,z,t⟩:=q;exact⟨a,xs,e,p,J n,z,t.flat (r.jg s) fl⟩
  |non=>exact q|bl b=>exact q|int i=>exact q|str x=>exact q|tup ds=>exact aU.flat (d:=.tup ds) (r.jg s) fl q|ins C fs=>exact aU.flat (d:=.ins C fs) (r.jg s) fl q|dic ks=>cases fl|dil ks=>cases fl
def rs_setA(t:tS K W ro F0 H0 OL O (aft own i O) (vk own i f) D σ H):tAsg (tD K W own f) (m6 i) D σ H:=by
 obtain⟨FB,F,ρ,r,p⟩:=t;refine aK r.gI r.dj (λe Y=>p.fO (r.freeze (O2:=[]) ad).st (by unfold vk;rw[Y];rfl)) λd hd v F1 H1 U q=>?_;have z:vk own i f ρ=if kO own d=e_ then .ok (.nx (ρ.set i (a_ d)))else .error .stuck:=by unfold vk;rw[hd];rfl
 rw[z]at p;by_cases J:kO own d=e_
 .rw[s_ J]at p;exact p _ _ H1 ((r.eK U).bindV (r.flatV U q J) r.st.hh λa b=>let ⟨_,_,_,e,_⟩:=r.own b;⟨_,e⟩)
 .rw[q_ J]at p;exact p.stuck rfl
def j3{ds:List A'}(h:ig ρ i=.ok ds):ρ[i]?=a_ (a_ (.lst ds)):=by
 unfold ig at h;split at h
 .cases h;assumption
 .cases h
def nh{e:Err}(h:ig ρ i=.error e):e=.stuck:=by
 unfold ig at h;split at h
 .cases h
 .cases h;rfl
def Rep.BS{ds:List A'}(r:Rep K F0 H0 FB O F H σ ρ)(hi:i∈O)(e:ρ[i]?=a_ (a_ (.lst ds))):∃a xs,σ[i]?=a_ (a_ (.ref a))/\H a=a_ (.lst xs)/\ax K F ds xs:=by obtain⟨v,e3,a,xs,ev,p,_,_,t⟩:=r.ow i _ e hi;subst ev;exact⟨a,xs,e3,p,t⟩
def tApp(K:Fg)(i:Nat)(te:TE):TS:=yK (tBM K "list" qZ (Am i) (gT te wX))
def rs_appB(hi:i∈O)(t:tS K W ro F0 H0 OL O O (gG O i f) D σ H):tApp K i (tD K W c_ f) D σ H:=by
 obtain⟨FB,F,ρ,r,p⟩:=t;cases J:ig ρ i with
 |error e=>have:=nh J;subst this;exact p.stuck (by unfold gG;rw[J];rfl)|ok ds=>
  obtain⟨a,xs,e2,b,z⟩:=r.BS hi (j3 J);refine⟨.ref a,e2,qH b,?_⟩
  refine aK r.gU r.st.fh (λe c=>p.fO r.st (by unfold gG;rw[J];show(f (erase O ρ)).bind _=_;rw[c];rfl)) λd hd v F1 H1 U q=>?_;have g:gG O i f ρ=if ds.length<n_ then put ρ i (ds++[d])else .error .stuck:=by unfold gG;rw[J];show(f (erase O ρ)).bind _=_;rw[hd];rfl
  rw[g]at p;by_cases Y:ds.length<n_
  .rw[s_ Y]at p;exact⟨a,xs,v,rfl,rfl,U.hh _ _ b,by rw[z.length];exact Y,p σ F1 _ ((r.step U).write hi (j3 J) e2 (ax.append (z.mono U.ff) ⟨v,[],rfl,q,rfl⟩))⟩
  .rw[q_ Y]at p;exact p.stuck rfl
def rs_setI(hi:i∈O)(t:tS K W ro F0 H0 OL O O (vh i fi f) D σ H):tAsg (tD K W c_ f) (gSub (Am i) (tD K W c_ fi) rSetL) D σ H:=by
 obtain⟨FB,F,ρ,r,p⟩:=t;refine aK r.gI r.dj (λe g=>p.fO (r.freeze (O2:=[]) ad).st (by unfold vh;rw[g];rfl)) λd hd v F1 H1 h q=>?_;have o:vh i fi f ρ=(ig ρ i).bind λds=>(fi ρ).bind λk=>(asI k).bind λk=>if fN d=e_ then(match ixN ds.length k with
  |some j=>put ρ i (ds.set j d)|none=>.error .stuck)else .error .stuck:=by unfold vh;rw[hd];rfl
 rw[o]at p;cases U:ig ρ i with
 |error e=>have:=nh U;subst this;exact p.stuck (by rw[U];rfl)|ok ds=>
  rw[U]at p;have p:ck K W ro F0 H0 FB OL O D ((fi ρ).bind λk=>(asI k).bind λk=>if fN d=e_ then(match ixN ds.length k with
   |some j=>put ρ i (ds.set j d)|none=>.error .stuck)else .error .stuck):=p
  have J:=r.eK h;obtain⟨a,xs,e2,n,z⟩:=J.BS hi (j3 U);refine⟨.ref a,e2,?_⟩
  refine aK J.gI J.dj (λe g=>p.fO (J.freeze (O2:=[]) ad).st (by rw[g];rfl)) λk m w F2 H2 Y q2=>?_;rw[m]at p;cases k with
  |int k=>
   have p:ck K W ro F0 H0 FB OL O D (if fN d=e_ then(match ixN ds.length k with
    |some j=>put ρ i (ds.set j d)|none=>.error .stuck)else .error .stuck):=p
   by_cases c:fN d=e_
   .rw[s_ c]at p;cases b:ixN ds.length k with
    |none=>rw[b]at p;exact p.stuck rfl|some j=>
     rw[b]at p;refine⟨a,xs,k,j,rfl,q2,Y.hh _ _ n,by rw[z.length];exact b,?_⟩
     have l:aU K (minus F1 (j8 O [] σ ρ)) d v:=aU.flat (r.jg h) c q;exact p σ _ _ ((J.eK Y).write hi (j3 U) e2 (ax.set (l.mono (J.dQ Y)) j (z.mono (J.dQ Y))))
   .rw[q_ c]at p;exact p.stuck rfl
  |_=>exact p.stuck rfl
def rs_ret(t:tS K W ro F0 H0 OL O O' (cQ f) D σ H):tRet (tD K W ro f) D σ H:=by
 obtain⟨FB,F,ρ,r,p⟩:=t;have J:=r.freeze (O2:=[]) ad;refine aK r.gI r.dj (λe Y=>p.fO J.st (by unfold cQ;rw[Y];rfl)) λd hd v F1 H1 U q=>?_;have z:cQ f ρ=.ok (.rt d):=by unfold cQ;rw[hd];rfl
 rw[z]at p;exact p v F1 H1 (J.st.trans U) (q.back r.st.hh)
def rs_for{fs:aa->M (List A')}{pt:Pat}(n:∀i∈pt.names,i∉O)(t:tS K W ro F0 H0 OL O O (ie O fs pt g) D σ H):tFor (iD K W fs) (gP K pt) (tS K W ro F0 H0 O O O g) D σ H:=by
 obtain⟨FB,F,ρ,r,p⟩:=t;refine⟨F,erase O ρ,r.gU,r.st.fh,?_⟩
 cases e:fs (erase O ρ)with
 |error x=>exact p.fO r.st (by unfold ie;rw[e];rfl)|ok ds=>
  have z:ie O fs pt g ρ=cp pt g ds ρ:=by unfold ie;rw[e];rfl
  rw[z]at p;intro J F1 H1 k l;refine⟨λi m σ H=>∃F ρ,Rep K F0 H0 F1 O F H σ ρ/\i<=ds.length/\m=ds.length-i/\ck K W ro F0 H0 FB OL O D (cp pt g (ds.drop i) ρ),⟨ds.length,F1,ρ,?_,E1 _,ac,by rw[Iw];exact p⟩,?_⟩
  .have f:=r.step k;exact⟨f.st,aO.refl _,f.len,f.fz,f.ow,f.ap⟩
  .rintro i m h H2 ⟨F2,U,b,hi,rfl,p2⟩;by_cases a:i<ds.length
   .have B:ds.drop i=ds[i]::ds.drop (i+1):=IH a;rw[B]at p2;refine .inr ⟨l.go i F2 H2 b.fb b.st.fh a,λσ' H'=>(∃F ρ,Rep K F0 H0 F1 O F H' σ' ρ/\ck K W ro F0 H0 FB OL O D (cp pt g (ds.drop (i+1)) ρ)),λσ' H' ⟨F,ρ,r,p⟩=>⟨ds.length-(i+1),ac,F,ρ,r,a,rfl,p⟩,λx H' y=>?_⟩;obtain⟨C,u,w⟩:=l.yl i F2 H2 x H' ds[i] b.fb b.st.fh (by simp[a]) y;have A:cp pt g (ds[i]::ds.drop (i+1)) U=(g9 pt ds[i] U).bind λj=>(g j).bind λfl=>match fl with
     |.nx U=>cp pt g (ds.drop (i+1)) U|.ct U=>cp pt g (ds.drop (i+1)) U|.bk U=>.ok (.nx U)|.rt d=>.ok (.rt d):=by rw[cp]
    rw[A]at p2;cases eb:g9 pt ds[i] U with
    |error x=>have:=o6 eb;subst this;exact p2.stuck (by rw[eb];rfl)|ok c=>
     rw[eb]at p2;have p2:ck K W ro F0 H0 FB OL O D ((g c).bind λfl=>match fl with
      |.nx U=>cp pt g (ds.drop (i+1)) U|.ct U=>cp pt g (ds.drop (i+1)) U|.bk U=>.ok (.nx U)|.rt d=>.ok (.rt d)):=p2
     refine gP_rep (b.step u) n w eb λs v=>⟨F1,C,c,v,?_⟩
     have o:aO FB F1:=(r.step k).fb;cases q:g c with
     |error x=>exact p2.err (by rw[q];rfl)|ok fl=>
      rw[q]at p2;cases fl with
      |nx Y=>exact λσ' F' H' r'=>⟨F',Y,r',p2⟩|ct Y=>exact λσ' F' H' r'=>⟨F',Y,r',p2⟩|bk Y=>exact λσ' F' H' r'=>p2 σ' F' H' (r'.base o)|rt d=>exact p2
   .have:i=ds.length:=ac
    subst this;rw[Jb]at p2;exact .inl ⟨l.st F2 H2 b.fb b.st.fh,p2 h F2 H2 (b.base (r.step k).fb)⟩
def rs_while(t:tS K W ro F0 H0 OL O O (eS ft g m) D σ H):tWhile (tDT K W ft) (tS K W ro F0 H0 O O O g) D σ H:=by
 refine⟨λm σ H=>tS K W ro F0 H0 OL O O (eS ft g m) D σ H,⟨m,t⟩,?_⟩
 rintro m σ H ⟨FB,F,ρ,r,p⟩;cases m with
 |zero=>exact p.stuck rfl|succ m=>
  have i:eS ft g (m+1) ρ=(ft ρ).bind λb=>if b=e_ then(g ρ).bind λfl=>match fl with
   |.nx J=>eS ft g m J|.ct J=>eS ft g m J|.bk J=>.ok (.nx J)|.rt d=>.ok (.rt d)else .ok (.nx ρ):=by rw[eS]
  rw[i]at p;refine iq r.gI r.dj (λe f=>p.fO (r.freeze (O2:=[]) ad).st (by rw[f];rfl)) λb h F1 H1 c=>?_;rw[h]at p;have Y:=r.eK c;cases b with
  |false=>exact p σ _ H1 Y|true=>
   have p:ck K W ro F0 H0 FB OL O D ((g ρ).bind λfl=>match fl with
    |.nx J=>eS ft g m J|.ct J=>eS ft g m J|.bk J=>.ok (.nx J)|.rt d=>.ok (.rt d)):=p
   refine⟨λσ' H'=>tS K W ro F0 H0 OL O O (eS ft g m) D σ' H',λσ' H' n=>⟨m,Fz _,n⟩,FB,_,ρ,Y,?_⟩
   cases a:g ρ with
   |error x=>exact p.err (by rw[a];rfl)|ok fl=>
    rw[a]at p;cases fl with
    |nx U=>exact λσ' F' H' r'=>⟨FB,F',U,r',p⟩|ct U=>exact λσ' F' H' r'=>⟨FB,F',U,r',p⟩|bk U=>exact λσ' F' H' r'=>p σ' F' H' r'|rt d=>exact p
end
noncomputable def stk:M α:=.error .stuck
def j6:A'->A'->M A'
 |.int i,.int j=>.ok (.int (i+j))|.str x,.str y=>if x.length+y.length<=n_ then .ok (.str (x++y))else stk
 |.lst xs,.lst ys=>if xs.length+ys.length<=n_ then .ok (.lst (xs++ys))else stk
 |.tup xs,.tup ys=>if xs.length+ys.length<=n_ then .ok (.tup (xs++ys))else stk
 |_,_=>stk
def yL:A'->A'->M A'
 |.int i,.int j=>.ok (.int (i-j))|_,_=>stk
noncomputable def de(i:Int):Bool:=z_ (-(2^64)<i)&&z_ (i<2^64)
def mulD:A'->A'->M A'
 |.int i,.int j=>if (de i||de j)=e_ then .ok (.int (i*j))else stk
 |_,_=>stk
def zU:A'->A'->M A'
 |.int i,.int j=>if (z_ (0<j)&&z_ (j<18446744073709551616))=e_ then .ok (.int (i/j))else stk
 |_,_=>stk
def sN:A'->A'->M A'
 |.int i,.int j=>if 0<j then .ok (.int (i%j))else stk
 |_,_=>stk
def powD:A'->A'->M A'
 |.int i,.int j=>if (z_ (0<=j)&&z_ (j<=1000000)&&z_ (i.natAbs<2^64))=e_ then .ok (.int (i^j.toNat))else stk
 |_,_=>stk
def negD:A'->M A'
 |.int i=>.ok (.int (-i))|_=>stk
def ltD:A'->A'->M A'
 |.int i,.int j=>.ok (.bl (z_ (i<j)))|_,_=>stk
def leD:A'->A'->M A'
 |.int i,.int j=>.ok (.bl (z_ (i<=j)))|_,_=>stk
def gtD:A'->A'->M A'
 |.int i,.int j=>.ok (.bl (z_ (j<i)))|_,_=>stk
noncomputable def b2z(b:Bool):Int:=if b then 1 else 0
mutual
noncomputable def eqD:A'->A'->Bool
 |.non,.non=>e_|.bl a,.bl b=>a==b|.bl a,.int b=>b2z a==b|.int a,.bl b=>a==b2z b|.int a,.int b=>a==b|.str a,.str b=>a==b|.tup xs,.tup ys=>mI xs ys|.lst xs,.lst ys=>mI xs ys|_,_=>c_
noncomputable def mI:List A'->List A'->Bool
 |[],[]=>e_|d::ds,e::es=>eqD d e&&mI ds es|_,_=>c_
end
mutual
noncomputable def HS:A'->Nat->Bool
 |.tup ds,n=>(match n with
  |0=>c_|n+1=>iU ds n)
 |.lst ds,n=>(match n with
  |0=>c_|n+1=>iU ds n)
 |.ins _ _,_=>c_|.dic _,_=>c_|.dil _,_=>c_|.non,_=>e_|.bl _,_=>e_|.int _,_=>e_|.str _,_=>e_
noncomputable def iU:List A'->Nat->Bool
 |[],_=>e_|d::ds,n=>HS d n&&iU ds n
end
def eqM(a b:A'):M A':=if (HS a 40&&HS b 40)=e_ then .ok (.bl (eqD a b))else stk
def neM(a b:A'):M A':=if (HS a 40&&HS b 40)=e_ then .ok (.bl (!eqD a b))else stk
def inM(a b:A'):M A':=(jj b).bind λds=>if (HS a 40&&iU ds 40)=e_ then .ok (.bl (ds.any λd=>eqD d a))else stk
def zq:A'->A'->M A'
 |.non,.non=>.ok (.bl c_)|_,.non=>.ok (.bl e_)|_,_=>stk
def jA(ds:List A')(i:Int):M A':=match atI ds i with
 |some d=>.ok d|none=>stk
def ixD:A'->A'->M A'
 |.lst ds,.int i=>jA ds i|.tup ds,.int i=>jA ds i|_,_=>stk
def xA:List A'->M A'
 |[.lst ds]=>.ok (.int ds.length)|[.tup ds]=>.ok (.int ds.length)|_=>stk
def fZ:List A'->M (List Bool)
 |[]=>.ok []|d::ds=>(asB d).bind λb=>(fZ ds).bind λr=>.ok (b::r)
def bD:List A'->M aj
 |[]=>.ok []|d::ds=>(asI d).bind λb=>(bD ds).bind λr=>.ok (b::r)
def allD:List A'->M A'
 |[.lst ds]=>(fZ ds).bind λbs=>.ok (.bl (bs.all id))|_=>stk
def sumD:List A'->M A'
 |[.lst ds]=>(bD ds).bind λis=>.ok (.int is.sum)|_=>stk
def kI:List A'->M A'
 |[.lst ds]=>.ok (.lst ds)|[.tup ds]=>.ok (.lst ds)|_=>stk
def lh:List A'->M A'
 |[.lst ds]=>.ok (.tup ds)|[.tup ds]=>.ok (.tup ds)|_=>stk
noncomputable def ik(i j:Int):Int:=if j>i then j else i
noncomputable def jR(i j:Int):Int:=if j<i then j else i
def maxL:aj->M A'
 |[]=>stk|i::is=>.ok (.int (is.foldl ik i))
def minL:aj->M A'
 |[]=>stk|i::is=>.ok (.int (is.foldl jR i))
def maxD:List A'->M A'
 |[.int i,.int j]=>.ok (.int (ik i j))|[.lst ds]=>(bD ds).bind maxL|_=>stk
def minD:List A'->M A'
 |[.int i,.int j]=>.ok (.int (jR i j))|[.lst ds]=>(bD ds).bind minL|_=>stk
def mE:A'->M A'
 |.int _=>.ok (.bl e_)|.bl _=>.ok (.bl e_)|.ins _ _=>stk|.dic _=>stk|.dil _=>stk|_=>.ok (.bl c_)
def jX:A'->M A'
 |.bl _=>.ok (.bl e_)|.ins _ _=>stk|.dic _=>stk|.dil _=>stk|_=>.ok (.bl c_)
def jW:A'->M A'
 |.lst _=>.ok (.bl e_)|.ins _ _=>stk|.dic _=>stk|.dil _=>stk|_=>.ok (.bl c_)
def fLR(fr:aa->M (List A')):aa->M A':=λρ=>(fr ρ).bind bc
def cY:Nat->List A'->List A'
 |_,[]=>[]|k,d::ds=>.tup [.int k,d]::cY (k+1) ds
def ji:A'->M (List A')
 |.lst ds=>.ok ds|_=>.error .stuck
def oV(fa:aa->M A'):aa->M (List A'):=λρ=>(fa ρ).bind λd=>(ji d).bind λds=>.ok (cY 0 ds)
def ko:List A'->List A'->List A'
 |d::ds,e::es=>.tup [d,e]::ko ds es|_,_=>[]
def fZip(fa fb:aa->M A'):aa->M (List A'):=λρ=>(fa ρ).bind λa=>(fb ρ).bind λb=>(ji a).bind λds=>(ji b).bind λes=>.ok (ko ds es)
def b6(nN n:Nat)(g:aa->M C')(ds:List A'):M A':=if ds.length=n then(g (ds.map a_++Eh (nN-ds.length) g_)).bind λfl=>match fl with
 |.nx _=>.ok .non|.rt d=>.ok d|_=>stk else stk
@[simp]def av{α β:Type}(a:α)(f:α->M β):OQ (EI a:M α) f=f a:=id rfl
@[simp]def i0{α β:Type}(e:Err)(f:α->M β):OQ (FE e:M α) f=.error e:=id rfl
@[simp] theorem dz:∀is:aj,bD (is.map A'.int)=.ok is
 |[]=>rfl|i::is=>by simp[bD,asI,dz is]
@[simp] theorem Ad:∀is:List Bool,fZ (is.map A'.bl)=.ok is
 |[]=>rfl|i::is=>by simp[fZ,asB,Ad is]
@[simp] theorem BF(n:Nat):∀is:aj,iU (is.map A'.int) n=e_
 |[]=>by simp[iU]|i::is=>by simp[iU,HS,BF n is]
@[simp] theorem ke:∀is J:aj,mI (is.map A'.int) (J.map A'.int)=z_ (is=J)
 |[],[]=>by simp[mI]|[],_::_=>by simp[mI]|_::_,[]=>by simp[mI]|i::is,j::J=>by simp only[x_,mI,eqD,ke is J,Gs];rw[Ht];simp
def jZ{ds:List A'}(h:k<ds.length):jA ds (k:Int)=.ok ds[k]:=by unfold jA atI ixN;rw[s_ ac,s_ ac];simp[h]
def getI_int{is:aj}{k:Int}(U:0<=k)(h:k<is.length):jA (is.map A'.int) k=.ok (.int (is[k.toNat]' ac)):=by
 have J:k.toNat<(is.map A'.int).length:=by simp;omega
 have e:k=(k.toNat:Int):=ac
 have:=jZ J;rw[<- e]at this;rw[this];simp
theorem cP{p:Pat}{fe:aa->M A'}{ρ0:aa}(f:A'->A'):∀(ds:List A'),(∀d∈ds,∃ρ,g9 p d ρ0=.ok ρ/\fe ρ=.ok (f d))->aS p iL fe ρ0 ds=.ok (ds.map f)
 |[],_=>rfl|d::ds,h=>by obtain⟨ρ,e1,e2⟩:=h d ad;rw[aS,e1];simp only[av,iL,e2,cP f ds λx J=>h x (by simp[J])];simp
@[simp]def t9(i:Int):de i=(z_ (-(2^64)<i)&&z_ (i<2^64)):=id rfl
@[simp]def small_def2(i:Int):bh i=(z_ (-(2^62)<=i)&&z_ (i<2^62)):=id rfl
@[simp]def eqDs_nilR(ds:List A'):mI ds []=ds.isEmpty:=by cases ds<;>rfl
section
variable{fr:aa->M (List A')}{h:aa->M C'}
@[simp]def e_var0(d:A')(r:aa):ae 0 (a_ d::r)=.ok d:=id rfl
@[simp]def e_varS(i:Nat)(o:Option A')(r:aa):ae (i+1) (o::r)=ae i r:=by simp[ae]
@[simp]def e_c(d:A'):fC d ρ=.ok d:=id rfl
@[simp]def e_1(k:A'->M A'):f1 k fa ρ=(fa ρ).bind k:=id rfl
@[simp]def e_2(k:A'->A'->M A'):f2 k fa fb ρ=(fa ρ).bind λa=>(fb ρ).bind λb=>k a b:=id rfl
@[simp]def e_nil:ay ρ=.ok []:=id rfl
@[simp]def e_cons:a9 fa fr ρ=(fa ρ).bind λa=>(fr ρ).bind λr=>.ok (a::r):=id rfl
@[simp]def e_L(k:List A'->M A'):fL k fr ρ=(fr ρ).bind k:=id rfl
@[simp]def e_ite:fIte ft fa fb ρ=(ft ρ).bind λb=>if b=e_ then fa ρ else fb ρ:=id rfl
@[simp]def e_and:Aq ft fu ρ=(ft ρ).bind λb=>if b=e_ then fu ρ else .ok c_:=id rfl
@[simp]def e_or:fOr ft fu ρ=(ft ρ).bind λb=>if b=e_ then .ok e_ else fu ρ:=id rfl
@[simp]def e_not:Ap ft ρ=(ft ρ).bind λb=>.ok (!b):=id rfl
@[simp]def e_B:fB fa ρ=(fa ρ).bind asB:=id rfl
@[simp]def e_andV:oW fa fb ρ=(fa ρ).bind λa=>(asB a).bind λb=>if b=e_ then fb ρ else .ok (.bl c_):=id rfl
@[simp]def e_tru:vZ fa ρ=(fa ρ).bind truD:=id rfl
@[simp]def e_chain(k k':A'->A'->M A'):iM k k' fa fb fc ρ=(fa ρ).bind λa=>(fb ρ).bind λb=>(k a b).bind λx=>(asB x).bind λz=>if z=e_ then(fc ρ).bind λc=>k' b c else .ok (.bl c_):=id rfl
@[simp]def e_yes:iL ρ=.ok e_:=id rfl
@[simp]def e_it:fIt fa ρ=(fa ρ).bind jj:=id rfl
@[simp]def e_rng(k:List A'->M (List A')):gL k fr ρ=(fr ρ).bind k:=id rfl
@[simp]def e_LR:fLR fr ρ=(fr ρ).bind bc:=id rfl
@[simp]def e_enum:oV fa ρ=(fa ρ).bind λd=>(ji d).bind λds=>.ok (cY 0 ds):=id rfl
@[simp]def e_zip:fZip fa fb ρ=(fa ρ).bind λa=>(fb ρ).bind λb=>(ji a).bind λds=>(ji b).bind λes=>.ok (ko ds es):=id rfl
@[simp]def e_comp(fi:aa->M (List A'))(ix:List (Option Nat))(p:Pat):cC fi ix p ft fa ρ=(fi ρ).bind λds=>if ds.length<=n_ then(aS p ft fa (dO ix ρ) ds).bind λr=>.ok (.lst r)else .error .stuck:=id rfl
@[simp]def e_asB(b:Bool):asB (.bl b)=.ok b:=id rfl
@[simp]def e_asI(b:Int):asI (.int b)=.ok b:=id rfl
@[simp]def e_itemsL(ds:List A'):jj (.lst ds)=.ok ds:=id rfl
@[simp]def e_itL(ds:List A'):ji (.lst ds)=.ok ds:=id rfl
@[simp]def e_itemsT(ds:List A'):jj (.tup ds)=.ok ds:=id rfl
@[simp]def e_truB(b:Bool):truD (.bl b)=.ok b:=id rfl
@[simp]def e_truL(ds:List A'):truD (.lst ds)=.ok (!ds.isEmpty):=id rfl
@[simp]def e_addI(i j:Int):j6 (.int i) (.int j)=.ok (.int (i+j)):=id rfl
@[simp]def e_subI(i j:Int):yL (.int i) (.int j)=.ok (.int (i-j)):=id rfl
@[simp]def e_negI(i:Int):negD (.int i)=.ok (.int (-i)):=id rfl
@[simp]def e_ltI(i j:Int):ltD (.int i) (.int j)=.ok (.bl (z_ (i<j))):=id rfl
@[simp]def e_leI(i j:Int):leD (.int i) (.int j)=.ok (.bl (z_ (i<=j))):=id rfl
@[simp]def e_gtI(i j:Int):gtD (.int i) (.int j)=.ok (.bl (z_ (j<i))):=id rfl
@[simp]def e_ixL(ds:List A')(i:Int):ixD (.lst ds) (.int i)=jA ds i:=id rfl
@[simp]def e_ixT(ds:List A')(i:Int):ixD (.tup ds) (.int i)=jA ds i:=id rfl
@[simp]def e_lenL(ds:List A'):xA [.lst ds]=.ok (.int ds.length):=id rfl
@[simp]def e_all(ds:List A'):allD [.lst ds]=(fZ ds).bind λbs=>.ok (.bl (bs.all id)):=id rfl
@[simp]def e_sum(ds:List A'):sumD [.lst ds]=(bD ds).bind λis=>.ok (.int is.sum):=id rfl
@[simp]def e_listL(ds:List A'):kI [.lst ds]=.ok (.lst ds):=id rfl
@[simp]def e_listT(ds:List A'):kI [.tup ds]=.ok (.lst ds):=id rfl
@[simp]def e_tupleL(ds:List A'):lh [.lst ds]=.ok (.tup ds):=id rfl
@[simp]def e_max2(i j:Int):maxD [.int i,.int j]=.ok (.int (ik i j)):=id rfl
@[simp]def xX(ds:List A'):maxD [.lst ds]=(bD ds).bind maxL:=id rfl
@[simp]def CB(ds:List A'):minD [.lst ds]=(bD ds).bind minL:=id rfl
@[simp]def e_isiBI(i:Int):jX (.int i)=.ok (.bl c_):=id rfl
@[simp]def e_isiII(i:Int):mE (.int i)=.ok (.bl e_):=id rfl
@[simp]def e_isiLL(ds:List A'):jW (.lst ds)=.ok (.bl e_):=id rfl
@[simp]def e_notN(d:A'):zq d .non=.ok (.bl (match d with|.non=>c_|_=>e_)):=by cases d<;>rfl
@[simp]def e_next:dh ρ=.ok (.nx ρ):=id rfl
@[simp] theorem e_seq:ba g h ρ=(g ρ).bind λfl=>match fl with
 |.nx ρ'=>h ρ'|fl=>.ok fl:=id rfl
@[simp]def e_if:sIf ft g h ρ=(ft ρ).bind λb=>if b=e_ then g ρ else h ρ:=id rfl
@[simp]def e_setB(O:aF)(i:Nat):aM O i fa ρ=(fa (erase O ρ)).bind λd=>.ok (.nx (ρ.set i (a_ d))):=id rfl
@[simp]def e_setA(own:Bool)(i:Nat):vk own i fa ρ=(fa ρ).bind λd=>if kO own d=e_ then .ok (.nx (ρ.set i (a_ d)))else .error .stuck:=id rfl
@[simp]def e_ret:cQ fa ρ=(fa ρ).bind λd=>.ok (.rt d):=id rfl
@[simp]def e_for(O:aF)(fi:aa->M (List A'))(p:Pat):ie O fi p g ρ=(fi (erase O ρ)).bind λds=>cp p g ds ρ:=id rfl
@[simp]def e_appB(O:aF)(i:Nat):gG O i fa ρ=(ig ρ i).bind λds=>(fa (erase O ρ)).bind λd=>if ds.length<n_ then put ρ i (ds++[d])else .error .stuck:=id rfl
@[simp] theorem e_setI(i:Nat):vh i fb fa ρ=(fa ρ).bind λd=>(ig ρ i).bind λds=>(fb ρ).bind λk=>(asI k).bind λk=>if fN d=e_ then(match ixN ds.length k with
 |some j=>put ρ i (ds.set j d)|none=>.error .stuck)else .error .stuck:=id rfl
@[simp]def e_put(i:Nat)(ds:List A'):put ρ i ds=.ok (.nx (ρ.set i (a_ (.lst ds)))):=id rfl
@[simp]def e_lst0(ds:List A')(r:aa):ig (a_ (.lst ds)::r) 0=.ok ds:=id rfl
@[simp]def e_lstS(i:Nat)(o:Option A')(r:aa):ig (o::r) (i+1)=ig r i:=by simp[ig]
@[simp]def e_er0:erase [] ρ=ρ:=id rfl
@[simp]def e_erS(i:Nat)(O:aF):erase (i::O) ρ=erase O (ρ.set i g_):=id rfl
@[simp]def oX(i:Nat)(d:A'):g9 (.nm i) d ρ=.ok (ρ.set i (a_ d)):=id rfl
@[simp]def e_btp(is:aF)(ds:List A'):g9 (.tp is) (.tup ds) ρ=if ds.length=is.length then .ok (ir is ds ρ)else .error .stuck:=id rfl
@[simp]def e_sa0(ds:List A'):ir [] ds ρ=ρ:=by cases ds<;>rfl
@[simp]def e_saS(i:Nat)(is:aF)(d:A')(ds:List A'):ir (i::is) (d::ds) ρ=ir is ds (ρ.set i (a_ d)):=id rfl
@[simp]def e_in0:dO [] ρ=[]:=id rfl
@[simp]def e_inN(ix:List (Option Nat)):dO (g_::ix) ρ=g_::dO ix ρ:=id rfl
@[simp]def e_inS(j:Nat)(ix:List (Option Nat)):dO (a_ j::ix) ρ=(ρ[j]?).join::dO ix ρ:=id rfl
@[simp]def e_tup(ds:List A'):bG ds=if ds.length<=n_ then .ok (.tup ds)else .error .stuck:=id rfl
@[simp]def e_lst(ds:List A'):bc ds=if ds.length<=n_ then .ok (.lst ds)else .error .stuck:=id rfl
@[simp]def e_line:n_=16777216:=Ey
@[simp] theorem e_run(a b:Nat)(ds:List A'):b6 a b g ds=if ds.length=b then(g (ds.map a_++Eh (a-ds.length) g_)).bind λfl=>match fl with
 |.nx _=>.ok .non|.rt d=>.ok d|_=>stk else stk:=id rfl
@[simp]def xV{j:Int}(h:bh j=e_):iS [.int j]=.ok (aJ 0 j.toNat):=by show(if bh j=e_ then _ else _)=_;rw[s_ h]
@[simp]def e_mod{i j:Int}(h:0<j):sN (.int i) (.int j)=.ok (.int (i%j)):=by simp[sN,h]
@[simp]def e_fdiv{i j:Int}(h:0<j)(h2:j<18446744073709551616):zU (.int i) (.int j)=.ok (.int (i/j)):=by simp[zU,h,h2]
@[simp]def xW{i j:Int}(h:de j=e_):mulD (.int i) (.int j)=.ok (.int (i*j)):=by show(if (de i||de j)=e_ then _ else _)=_;rw[h,L8,s_ rfl]
@[simp]def e_mulL{i j:Int}(h:de i=e_):mulD (.int i) (.int j)=.ok (.int (i*j)):=by show(if (de i||de j)=e_ then _ else _)=_;rw[h,Bool.true_or,s_ rfl]
end
section
variable{W:cn}{own:Bool}{a b c:EM}{rest:List EM}{f:aa->M A'}{fr:aa->M (List A')}
def PE.imp{t t':TE}(h:PE X e t)(q:∀σ H Q,t' σ H Q->t σ H Q):PE X e t':=λB4 s σ H Q I z=>h B4 s σ H Q I (q σ H Q z)
def PT.imp{t t':TT}(h:PT X e t)(q:∀σ H Q,t' σ H Q->t σ H Q):PT X e t':=λB4 s σ H Q I z=>h B4 s σ H Q I (q σ H Q z)
def PW.imp{t t':TT}(h:PW X e t)(q:∀σ H Q,t' σ H Q->t σ H Q):PW X e t':=λJ B4 s σ H Q I z=>h J B4 s σ H Q I (q σ H Q z)
def PA.imp{t t':TA}(h:PA X es t)(q:∀σ H Q,t' σ H Q->t σ H Q):PA X es t':=λps B4 s σ H Q I z=>h ps B4 s σ H Q I (q σ H Q z)
def PI.imp{t t':TI}(h:PI X tg e t)(q:∀σ H Q,t' σ H Q->t σ H Q):PI X tg e t':=λB4 s σ H Q I z=>h B4 s σ H Q I (q σ H Q z)
def PS.imp{t t':TS}(h:PS X st t)(q:∀D σ H,t' D σ H->t D σ H):PS X st t':=λB4 s σ H D I z=>h B4 s σ H D I (q D σ H z)
def PSs.imp{st:List E6}{t t':TS}(h:PSs X st t)(q:∀D σ H,t' D σ H->t D σ H):PSs X st t':=λB4 s σ H D I z=>h B4 s σ H D I (q D σ H z)
abbrev DE(K:Fg)(W:cn)(own:Bool)(X:Cx)(e:EM)(f:aa->M A'):Prop:=PE X e (tD K W own f)
abbrev DT(K:Fg)(W:cn)(X:Cx)(e:EM)(f:aa->M Bool):Prop:=PT X e (tDT K W f)
abbrev DW(K:Fg)(W:cn)(X:Cx)(e:EM)(f:aa->M Bool):Prop:=PW X e (tDT K W f)
abbrev DA(K:Fg)(W:cn)(X:Cx)(es:List EM)(f:aa->M (List A')):Prop:=PA X es (tDA K W f)
abbrev DI(K:Fg)(W:cn)(X:Cx)(tg e:EM)(f:aa->M (List A')):Prop:=PI X tg e (iD K W f)
abbrev DG(K:Fg)(X:Cx)(tg:EM)(p:Pat):Prop:=PG X tg (gP K p)
abbrev DS(K:Fg)(W:cn)(ro:Bool)(X:Cx)(OL O O':aF)(st:E6)(g:aa->M C'):Prop:=∀F0 H0:Hp,PS X st (tS K W ro F0 H0 OL O O' g)
abbrev DSs(K:Fg)(W:cn)(ro:Bool)(X:Cx)(OL O O':aF)(st:List E6)(g:aa->M C'):Prop:=∀F0 H0:Hp,PSs X st (tS K W ro F0 H0 OL O O' g)
abbrev Op2(K:Fg)(W:cn)(own:Bool)(X:Cx)(o:h_->h_->NI h_)(g:A'->A'->M A'):Prop:=OpR X o (rD2 K W own g)
abbrev mv(K:Fg)(W:cn)(own:Bool)(X:Cx)(v:h_)(g:List A'->M A'):Prop:=cK X v (rDL K W own g)
def ai(i:Nat)(U: ~~~(X.N[i]?=a_ x))(hv:autoParam (Vis X.env.scope x) Jq4)(hd:((x==("__debug__":Dy))=c_)⁻¹)(J:((x==("__classdict__":Dy))=c_)⁻¹):DE K W c_ X (.Name x pos) (ae i):=(pv i U hv hd J).imp λ_ _ _=>rd_var
def af{i:Int}{j}:DE K W c_ X (.Constant (.int i) j pos) (fC (.int i)):=pe_int.imp λ_ _ _=>rd_c λ_=>rfl
def gQ{k:Bool}{j}:DE K W c_ X (.Constant (.bool k) j pos) (fC (.bl k)):=pe_bl.imp λ_ _ _=>rd_c λ_=>rfl
def yj{j}:DE K W c_ X (.Constant .none j pos) (fC .non):=pe_non.imp λ_ _ _=>rd_c λ_=>rfl
def wm{n:Int}(J:∃t,X.mg x=a_ (.int n t))(U: ~~~(Gl X x))(hd:((x==("__debug__":Dy))=c_)⁻¹):DE K W c_ X (.Name x pos) (fC (.int n)):=(pe_gint U J hd).imp λ_ _ _=>rd_c λ_=>rfl
def aw(h:DE K W e_ X e f):DE K W c_ X e f:=PE.imp h λ_ _ _ ⟨F,ρ,r,s,p⟩=>⟨F,ρ,r,s,p.frz⟩
def aV{op:Operator}{g:A'->A'->M A'}(J:Op2 K W own X (FX op) g)(Y:DE K W c_ X a fa)(U:DE K W c_ X b fb):DE K W own X (.BinOp a op b pos) (f2 g fa fb):=(pe_op J Y U).imp λ_ _ _=>rd_2
def zV{op:UnaryOp}{g:A'->M A'}(J:UnR X (OU op) (rD1 K W own g))(U:DE K W c_ X a fa):DE K W own X (.UnaryOp op a pos) (f1 g fa):=(pe_un J U).imp λ_ _ _=>rd_1
def uE{g:A'->A'->M A'}(J:Op2 K W c_ X (EU op) g)(c:DE K W c_ X a fa)(Y:DE K W c_ X b fb)(U:autoParam (Il op b=c_) Jq10):DE K W c_ X (.Compare a [op] [b] pos) (f2 g fa fb):=
 (pe_cmpR J c Y U).imp λ_ _ _=>rd_2
def bT{g:A'->A'->M A'}(J:Op2 K W c_ X (EU op) g)(c:DE K W c_ X a fa)(Y:DE K W c_ X b fb)(U:autoParam (Il op b=c_) Jq10):DT K W X (.Compare a [op] [b] pos) (fB (f2 g fa fb)):=
 (Bn J c Y U).imp λσ H Q h=>by have q:=rd_B h;exact rd_2 (own:=c_) q
def de_chain{g:A'->A'->M A'}(U:Op2 K W c_ X (EU op) g)(J:Op2 K W c_ X (EU op') g')(f:DE K W c_ X a fa)(e:DE K W c_ X b fb)(d:DE K W c_ X c fc)(Y:autoParam (MY [op,op'] [b,c]=c_) Jq8):DE K W c_ X (.Compare a [op,op'] [b,c] pos) (iM g g' fa fb fc):=(pe_chain U J f e d Y).imp λ_ _ _=>xn
def xZ{g:A'->A'->M A'}(U:Op2 K W c_ X (EU op) g)(J:Op2 K W c_ X (EU op') g')(f:DE K W c_ X a fa)(e:DE K W c_ X b fb)(d:DE K W c_ X c fc)(Y:autoParam (MY [op,op'] [b,c]=c_) Jq8):DT K W X (.Compare a [op,op'] [b,c] pos) (fB (iM g g' fa fb fc)):=(pt_chain U J f e d Y).imp λσ H Q h=>by have q:=rd_B h;exact xn q
def lD(Y:DE K W c_ X a fa)(b: ~~~(X.K=K))(U:autoParam (∀J,Nk a X.env J=(do let v <- J;JT a.pos;Hh [v] (OI v))) Jq5):DT K W X a (vZ fa):=by subst b;exact(pt_truth Y U).imp λ_ _ _=>rd_tru
def ux(J:DT K W X a ft):DT K W X (.UnaryOp .Not a pos) (Ap ft):=(pt_not J).imp λ_ _ _=>rd_not
def wa(J:DT K W X a ft):DW K W X (.BoolOp .And [a] pos) ft:=pw_and1 J
def xY(J:DT K W X a ft):DW K W X (.BoolOp .Or [a] pos) ft:=pw_or1 J
def CC(U:DT K W X a ft)(J:DW K W X (.BoolOp .And (b::rest) pos) fu):DW K W X (.BoolOp .And (a::b::rest) pos) (Aq ft fu):=(pw_and U J).imp λ_ _ _=>rd_and
def dw_or(U:DT K W X a ft)(J:DW K W X (.BoolOp .Or (b::rest) pos) fu):DW K W X (.BoolOp .Or (a::b::rest) pos) (fOr ft fu):=(pw_or U J).imp λ_ _ _=>rd_or
def CN{op}(h:DE K W c_ X a f):DE K W c_ X (.BoolOp op [a] pos) f:=pe_one h
def ym(U:DE K W c_ X a fa)(J:DE K W c_ X (.BoolOp .And (b::rest) pos) fb):DE K W c_ X (.BoolOp .And (a::b::rest) pos) (oW fa fb):=(pe_and U J).imp λ_ _ _=>rd_andV
def de_ite(J:DT K W X c ft)(Y:DE K W own X a fa)(U:DE K W own X b fb):DE K W own X (.IfExp c a b pos) (fIte ft fa fb):=(pe_ifExp J Y U).imp λ_ _ _=>rd_ite
def bq:DA K W X [] ay:=bR.imp λ_ _ _=>rd_nil
def bx(Y:DE K W c_ X e fa)(U:DA K W X es fr)(J: ~~~(j_ (e::es) X.env=(c_,DC e X.env)::j_ es X.env)):DA K W X (e::es) (a9 fa fr):=(aN Y U J).imp λ_ _ _=>rd_cons
def bX{J}(h:DA K W X es fr):DE K W own X (.Tuple es J pos) (fL bG fr):=(pe_tup h).imp λ_ _ _=>rd_tup
def aW(h:DA K W X es fr):DE K W e_ X (.List es pos) (fL bc fr):=(pe_lst h).imp λ_ _ _=>rd_lst
def aL{id:String}{g:List A'->M A'}(d:mv K W own X (.builtin id) g)(b:X.mg x=g_)(hv:FV x=a_ (.builtin id))(f:DA K W X (e::es) fr)(c: ~~~(Gl X x))(a:(x≠"__name__")⁻¹)(Y:((x==("__debug__":Dy))=c_)⁻¹)(J: ~~~(j_ (e::es) X.env=(c_,DC e X.env)::j_ es X.env))(U: ~~~((EG pos (j_ es X.env)).any (·.1)=c_)):DE K W own X (.Call (.Name x p) (e::es) [] pos) (fL g fr):=
 (gd d c b hv f a Y J U).imp λ_ _ _=>rd_L
def fU{g:List A'->M A'}(d:mv K W own X (.type T) g)(b:X.mg x=g_)(hv:FV x=a_ (.type T))(f:DA K W X (e::es) fr)(c: ~~~(Gl X x))(a:(x≠"__name__")⁻¹)(Y:((x==("__debug__":Dy))=c_)⁻¹)(J: ~~~(j_ (e::es) X.env=(c_,DC e X.env)::j_ es X.env))(U: ~~~((EG pos (j_ es X.env)).any (·.1)=c_)):DE K W own X (.Call (.Name x p) (e::es) [] pos) (fL g fr):=
 (iw d c b hv f a Y J U).imp λ_ _ _=>rd_L
def aR{g:A'->A'->M A'}(U:IxR X (rD2 K W own g))(c:DE K W c_ X a fa)(Y:DE K W c_ X b fb)(J:autoParam (wM b) Jq11):DE K W own X (.Subscript a b pos) (f2 g fa fb):=(pe_ix U c Y J).imp λ_ _ _=>rd_2
def gN(Y:X.N.Nodup)(hi: ~~~(X.N[i]?=a_ x))(J:autoParam (Loc X.env.scope x) Jq6)(U:autoParam (X.fn x=e_\/X.env.scope.names.lookup x=a_ .local) Jq3):DG K X (.Name x pos) (.nm i):=vz Y hi J U
def bL(i:DE K W c_ X e fa)(j: ~~~(X.K=K)):DI K W X tg e (fIt fa):=by
 subst j;refine PI.imp (t:=iSeq X.K (tD X.K W c_ fa)) ?_ λ_ _ _=>ri_seq;intro B4 s σ H R I h;refine HH (i B4 s σ H _ I h) λv J g=>?_;obtain⟨y,H1,U,d,q1⟩:=g;obtain⟨l,e1,q⟩:=q1;subst e1;cases d;rcases q with⟨⟨xs,Y⟩,q⟩|⟨⟨xs,Y⟩,q⟩
 .obtain⟨its,c,p,f⟩:=U.list Y;refine Jk p.isList ?_;refine⟨J.z,[J.z],_,_,H1,rfl,U.kept (t':=J.toks) λb o e=>d_ _ e,AJ l _,⟨_,l_ _ rfl,rfl,rfl⟩,λb a=>?_,q⟩
  have e:b=J.z:=by simpa using a
  subst e;exact U.fpOk (t_ _) (U.hok.fresh (t_ _))
 .obtain⟨its,c,p,f⟩:=U.tuple Y;refine HF (show J.heap.IsTuple l its.toArray from p) ?_;refine⟨J.z,[J.z],_,_,H1,rfl,U.kept (t':=J.toks) λb o e=>d_ _ e,yH l _,⟨_,l_ _ rfl,rfl,rfl⟩,λb a=>?_,q⟩
  have e:b=J.z:=by simpa using a
  subst e;exact U.fpOk (t_ _) (U.hok.fresh (t_ _))
def fS(U:X.mg "range"=g_)(b:DA K W X [a] fr)(Y: ~~~(Gl X "range"))(J: ~~~(j_ [a] X.env=[(c_,DC a X.env)])):DI K W X tg (.Call (.Name "range" p) [a] [] pos) (gL iS fr):=(Bt Y U b J).imp λ_ _ _=>ri_rng1
def di_rng2(Y:X.mg "range"=g_)(d:DA K W X [a,b] fr)(c: ~~~(Gl X "range"))(U: ~~~(j_ [a,b] X.env=[(c_,DC a X.env),(c_,DC b X.env)]))(J: ~~~(j_ [b] X.env=[(c_,DC b X.env)])):
  DI K W X tg (.Call (.Name "range" p) [a,b] [] pos) (gL xk fr):=(Bs c Y d U J).imp λ_ _ _=>ri_rng2
variable{h:aa->M C'}
def cb:DSs K W ro X OL O O [] dh:=λ_ _=>Bo.imp λ_ _ _=>rs_next
def ah(h1:DS K W ro X OL O O' st g)(h2:DSs K W ro X OL O' O2 sts h):DSs K W ro X OL O O2 (st::sts) (ba g h):=λF0 H0=>(iT (h1 F0 H0) (h2 F0 H0)).imp λ_ _ _=>rs_seq
def au(h1:DS K W ro X OL O O' st g):DSs K W ro X OL O O' [st] g:=λF0 H0=>ky (h1 F0 H0)
def bK(h1:DSs K W ro X OL O2 O' sts g)(J:(∀i∈O2,i∈O)⁻¹):DSs K W ro X OL O O' sts g:=λF0 H0=>PSs.imp (h1 F0 H0) λ_ _ _=>tS.enter J
def dN{U J:List E6}(Y:DT K W X c ft)(b:DSs K W ro X OL O O' U g)(a:DSs K W ro X OL O O' J h):DS K W ro X OL O O' (.If c U J pos) (sIf ft g h):=λF0 H0=>(ps_if Y (b F0 H0) (a F0 H0)).imp λ_ _ _=>rs_if
def wc(b:X.N.Nodup)(a:DE K W own X e f)(hi: ~~~(X.N[i]?=a_ x))(J:autoParam (Loc X.env.scope x) Jq6)(U: ~~~(Fd e (a_ (.Name x pos')) pos.line X.env=Ff c_))(Y:autoParam (X.fn x=e_\/X.env.scope.names.lookup x=a_ .local) Jq3):
  DS K W ro X OL O (aft own i O) (.Assign [.Name x pos'] e pos) (aM O i f):=λF0 H0=>(xp b hi J a U Y).imp λ_ _ _=>Bc
def ds_setA(b:X.N.Nodup)(a:DE K W own X e f)(hi: ~~~(X.N[i]?=a_ x))(J:autoParam (Loc X.env.scope x) Jq6)(U: ~~~(Fd e (a_ (.Name x pos')) pos.line X.env=Ff c_))(Y:autoParam (X.fn x=e_\/X.env.scope.names.lookup x=a_ .local) Jq3):
  DS K W ro X OL O (aft own i O) (.Assign [.Name x pos'] e pos) (vk own i f):=λF0 H0=>(xp b hi J a U Y).imp λ_ _ _=>rs_setA
def aE(J:DE K W ro X e f):DS K W ro X OL O O' (.Return (a_ e) pos) (cQ f):=λF0 H0=>(ps_ret J).imp λ_ _ _=>rs_ret
def bC{fs:aa->M (List A')}{pt:Pat}(hi:DI K W X tg iter fs)(Y:DG K X tg pt)(b:DSs K W ro X O O O body g)(n:(∀i∈pt.names,i∉O)⁻¹)(U:autoParam (M7 (u_ X.prog X.w) X.A X.env X.xe) Jq12)(a: ~~~(X.calm=e_))(J:autoParam (∀x,GG iter X.env x=Ff x) Jq5):DS K W ro X OL O O (.For tg iter body [] pos) (ie O fs pt g):=λF0 H0=>(ps_for U a hi Y (b F0 H0) J).imp λ_ _ _=>rs_for n
def ds_while(U:DT K W X c ft)(Y:DSs K W ro X O O O body g)(J:autoParam (M7 (u_ X.prog X.w) X.A X.env X.xe) Jq12):DS K W ro X OL O O (.While c body [] pos) (eS ft g m):=λF0 H0=>(ps_while J U (Y F0 H0)).imp λ_ _ _=>rs_while
def fQ(h:DE K W c_ X e f)(g:(i∈O)⁻¹)(j: ~~~(X.N[i]?=a_ x))(hv:autoParam (Vis X.env.scope x) Jq4)(hd:((x==("__debug__":Dy))=c_)⁻¹)(d:((x==("__classdict__":Dy))=c_)⁻¹)(k: ~~~(X.K=K))(a: ~~~(j_ [e] X.env=[(c_,DC e X.env)]))(Y: ~~~(E5 (.Name x p) "append" X.env (DC (.Name x p) X.env)=DC (.Name x p) X.env))(b: ~~~(((EG q (j_ [e] X.env)).all (λx=> !x.1)&&(Ir q (GZ [] X.env)).all (λx=>x.1.isSome)&&z_ ([e].length+([]:List Io).length+(if ([]:List Io).isEmpty then 0 else 1)<30))=e_))(J: ~~~((EG q (j_ [] X.env)).any (·.1)=c_))(U: ~~~((apos.endLine==q.line)=e_))(c: ~~~(Fd (.Call (.Attribute (.Name x p) "append" apos) [e] [] q) g_ pos.line X.env=Ff c_)):
  DS K W ro X OL O O (.Expr (.Call (.Attribute (.Name x p) "append" apos) [e] [] q) pos) (gG O i f):=λF0 H0=>by
 subst k;exact PS.imp (mZ (pe_bm Ho Je Lf u4 (pv i j hv hd d) (aN h bR a) Y b U a J) c) λ_ _ _=>rs_appB g
end
section
variable{W:cn}{own:Bool}
def OpR.imp{f:h_->h_->NI h_}{r r':R2}(h:OpR X f r)(q:∀x y H Q,r' x y H Q->r x y H Q):OpR X f r':=λB4 s σ H x y v u Q I U J z=>h B4 s σ H x y v u Q I U J (q x y H Q z)
def UnR.imp{f:h_->NI h_}{r r':V->Hp->VK->Prop}(h:UnR X f r)(q:∀x H Q,r' x H Q->r x H Q):UnR X f r':=λB4 s σ H x v Q I J z=>h B4 s σ H x v Q I J (q x H Q z)
def cK.imp{f:h_}{r r':am->Hp->VK->Prop}(h:cK X f r)(q:∀x H Q,r' x H Q->r x H Q):cK X f r':=λB4 s σ H x v Q I J z=>h B4 s σ H x v Q I J (q x H Q z)
def IxR.imp{r r':R2}(h:IxR X r)(q:∀x y H Q,r' x y H Q->r x y H Q):IxR X r':=λJ sl B4 s σ H x y v u Q I Y U z e=>h J sl B4 s σ H x y v u Q I Y U (q x y H Q z) e
def aH.stuck{Q:VK}{P:Prop}(p:aH K W own F H (stk) Q):P:=(W.ns p).elim
theorem aH.int{F H:Hp}{Q:VK}{i:Int}(p:aH K W own F H (.ok (.int i)) Q)(s:aO F H):Q (.int i) H:=p _ F H (B5.refl s) (by cases own<;>rfl)
theorem aH.bl{F H:Hp}{Q:VK}{b:Bool}(p:aH K W own F H (.ok (.bl b)) Q)(s:aO F H):Q (.bl b) H:=p _ F H (B5.refl s) (by cases own<;>rfl)
theorem aH.str{F H:Hp}{Q:VK}{x:Dy}(p:aH K W own F H (.ok (.str x)) Q)(s:aO F H):Q (.str x) H:=p _ F H (B5.refl s) (by cases own<;>rfl)
theorem aH.tup{F H:Hp}{Q:VK}{ds:List A'}{xs:am}{a:i_}(p:aH K W own F H (.ok (.tup ds)) Q)(s:aO F H)(q:ax K F ds xs)(J:H a=g_):Q (.ref a) (upd H a (.tup xs)):=
 p _ _ _ (B5.lay s J) (by
  have:aU K (upd F a (.tup xs)) (.tup ds) (.ref a):=⟨a,xs,rfl,SqT.of ak,q.mono (aO.upd (s.free J))⟩
  cases own<;>exact this)
def aH.same{Q:VK}{ds:List A'}{v:V}(p:aH K W own F H (.ok (.tup ds)) Q)(s:aO F H)(q:aU K F (.tup ds) v):Q v H:=p _ F H (B5.refl s) (by cases own<;>exact q)
theorem aH.lst{F H:Hp}{Q:VK}{ds:List A'}{xs:am}{a:i_}(p:aH K W e_ F H (.ok (.lst ds)) Q)(s:aO F H)(q:ax K F ds xs)(J:H a=g_):Q (.ref a) (upd H a (.lst xs)):=
 p _ F _ (B5.grow s J) ⟨a,xs,rfl,ak,s.free J,J,q⟩
def eX{g:A'->A'->M A'}(Y:∀a b,(∃i j,a=.int i/\b=.int j)\/g a b=stk){x:V}{Q:VK}(h:rD2 K W own g x y H Q):∃F i j,aO F H/\x=.int i/\y=.int j/\aH K W own F H (g (.int i) (.int j)) Q:=by
 obtain⟨F,a,b,s,U,J,p⟩:=h;rcases Y a b with⟨i,j,rfl,rfl⟩|e
 .exact⟨F,i,j,s,U,J,p⟩
 .rw[e]at p;exact p.stuck
def n9:Op2 K W own X (FX .Sub) yL:=op_sub.imp λx y H Q h=>by obtain⟨F,i,j,s,e1,e2,p⟩:=eX (λa b=>by cases a<;>cases b<;>first|exact .inr rfl|exact .inl ⟨_,_,rfl,rfl⟩) h;exact⟨i,j,e1,e2,p.int s⟩
def o_mul:Op2 K W own X (FX .Mult) mulD:=op_mul.imp λx y H Q h=>by
 obtain⟨F,i,j,s,e1,e2,p⟩:=eX (λa b=>by cases a<;>cases b<;>first|exact .inr rfl|exact .inl ⟨_,_,rfl,rfl⟩) h;have U:aH K W own F H (if (de i||de j)=e_ then .ok (.int (i*j))else stk) Q:=p;by_cases J:(de i||de j)=e_
 .rw[s_ J]at U;refine⟨i,j,e1,e2,?_,U.int s⟩
  unfold de at J;simp only[Jy,r_,DX]at J;exact J
 .rw[q_ J]at U;exact U.stuck
def BV{j:Int}(J:0<j)(h1:j<18446744073709551616):j.natAbs.log2<9000:=by
 have a:j.natAbs<2^64:=ac
 have b:=(Nat.log2_lt (n:=j.natAbs) (k:=64) ac).mpr a;omega
def BC:OpR X (FX .FloorDiv) (rI (λ_ j=>0<j/\j<18446744073709551616) λi j=>.int (i/j)):=opI λi j _ _ _ _ _ J q=>by obtain⟨Y,U⟩:=J;exact floordiv_int ac (by rw[Int.fdiv_eq_ediv_of_nonneg i ac];exact q) (.inl (PyProof.noPylong_of_log2 (BV Y U)))
def BH:Op2 K W own X (FX .FloorDiv) zU:=BC.imp λx y H Q h=>by
 obtain⟨F,i,j,s,e1,e2,p⟩:=eX (λa b=>by cases a<;>cases b<;>first|exact .inr rfl|exact .inl ⟨_,_,rfl,rfl⟩) h;have J:aH K W own F H (if (z_ (0<j)&&z_ (j<18446744073709551616))=e_ then .ok (.int (i/j))else stk) Q:=p;by_cases U:(z_ (0<j)&&z_ (j<18446744073709551616))=e_
 .rw[s_ U]at J;simp only[r_,DX]at U;exact⟨i,j,e1,e2,U,J.int s⟩
 .rw[q_ U]at J;exact J.stuck
def kE:Op2 K W own X (FX .Mod) sN:=op_mod.imp λx y H Q h=>by
 obtain⟨F,i,j,s,e1,e2,p⟩:=eX (λa b=>by cases a<;>cases b<;>first|exact .inr rfl|exact .inl ⟨_,_,rfl,rfl⟩) h;have J:aH K W own F H (if 0<j then .ok (.int (i%j))else stk) Q:=p;by_cases U:0<j
 .rw[s_ U]at J;exact⟨i,j,e1,e2,U,J.int s⟩
 .rw[q_ U]at J;exact J.stuck
def zo:Op2 K W own X (FX .Pow) powD:=op_pow.imp λx y H Q h=>by
 obtain⟨F,i,j,s,e1,e2,p⟩:=eX (λa b=>by cases a<;>cases b<;>first|exact .inr rfl|exact .inl ⟨_,_,rfl,rfl⟩) h;have U:aH K W own F H (if (z_ (0<=j)&&z_ (j<=1000000)&&z_ (i.natAbs<2^64))=e_ then .ok (.int (i^j.toNat))else stk) Q:=p;by_cases J:(z_ (0<=j)&&z_ (j<=1000000)&&z_ (i.natAbs<2^64))=e_
 .rw[s_ J]at U;simp only[r_,DX]at J;exact⟨i,j,e1,e2,⟨J.1.1,J.1.2,J.2⟩,U.int s⟩
 .rw[q_ J]at U;exact U.stuck
def zp:UnR X (OU .USub) (rD1 K W own negD):=un_neg.imp λx H Q h=>by
 obtain⟨F,a,s,J,p⟩:=h;cases a with
 |int i=>exact⟨i,J,aH.int (own:=own) p s⟩|_=>exact aH.stuck p
def o_lt:Op2 K W own X (EU .Lt) ltD:=op_lt.imp λx y H Q h=>by obtain⟨F,i,j,s,e1,e2,p⟩:=eX (λa b=>by cases a<;>cases b<;>first|exact .inr rfl|exact .inl ⟨_,_,rfl,rfl⟩) h;exact⟨i,j,e1,e2,p.bl s⟩
def o_le:Op2 K W own X (EU .LtE) leD:=op_le.imp λx y H Q h=>by obtain⟨F,i,j,s,e1,e2,p⟩:=eX (λa b=>by cases a<;>cases b<;>first|exact .inr rfl|exact .inl ⟨_,_,rfl,rfl⟩) h;exact⟨i,j,e1,e2,p.bl s⟩
def o_gt:Op2 K W own X (EU .Gt) gtD:=op_gt.imp λx y H Q h=>by obtain⟨F,i,j,s,e1,e2,p⟩:=eX (λa b=>by cases a<;>cases b<;>first|exact .inr rfl|exact .inl ⟨_,_,rfl,rfl⟩) h;exact⟨i,j,e1,e2,p.bl s⟩
def op_catL:OpR X (FX .Add) (λx y H Q=>∃l b xs c,x=.ref l/\y=.ref b/\SqL X.K H l xs/\SqL X.K H b c/\xs.length+c.length<=n_/\∀p,H p=g_->Q (.ref p) (upd H p (.lst (xs++c)))):=by
 intro B4 s σ H x y v u Q I t o h;obtain⟨l,b,xs,c,rfl,rfl,z,A,E,q⟩:=h;cases t;cases o;obtain⟨its,r,p1,F⟩:=I.list z;obtain⟨J,g,p2,w⟩:=I.list A;have D:=r.length;have C:=g.length;obtain⟨⟨B,dd,k,sl⟩,i,j,n,hd⟩:=id p1.isList;obtain⟨⟨m,e,f,d⟩,U,a,n2,Y⟩:=id p2.isList;simp only at j hd a Y;subst j hd a Y;refine K7 ⟨_,i,rfl⟩ ⟨_,U,rfl⟩ noFill_list_add seq_list_add PySem.F.slot_list_add PySem.F.entry_list_add (PySem.F.args_list_add_2 _ _) (list_addW l b its.toArray J.toArray n n2 dd e sl d (by simp only[Dv];omega)) ⟨i,U,?_⟩;have ea:its.toArray++J.toArray=(its++J).toArray:=by simp
 rw[ea];exact⟨.ref _,_,I.lnew (t':=s.toks) (r.append g) (by rw[Eb];omega),rfl,q _ I.fresh⟩
def op_cat3:OpR X (FX .Add) (λx y H Q=>∃a b xs ys,x=.ref a/\y=.ref b/\SqT X.K H a xs/\SqT X.K H b ys/\xs.length+ys.length<=n_/\(xs=[]->Q (.ref b) H)/\(ys=[]->Q (.ref a) H)/\∀p,H p=g_->Q (.ref p) (upd H p (.tup (xs++ys)))):=by
 intro B4 s σ H x y v u Q I j i h;obtain⟨a,b,xs,ys,rfl,rfl,q,o,A,q1,q2,z⟩:=h;by_cases k:xs=[]
 .subst k;cases j;cases i;obtain⟨its,w,p1,_⟩:=I.tuple q;obtain⟨J,D,p2,_⟩:=I.tuple o;cases w;obtain⟨⟨C,dd,r,sl⟩,l,m,n,hd⟩:=id p1;obtain⟨⟨t,f,g,d⟩,U,c,n2,Y⟩:=id p2;simp only at m hd c Y;subst m hd c Y;exact K7 ⟨_,l,rfl⟩ ⟨_,U,rfl⟩ Ly MH IX IJ (ID _ _)
   (tuple_addW0 a b #[] J.toArray n n2 dd f sl d rfl) ⟨l,U,⟨.ref b,H,I,rfl,q1 rfl⟩⟩
 .exact op_catT B4 s σ H _ _ v u Q I j i ⟨a,b,xs,ys,rfl,rfl,q,o,k,A,λe=>q2 e,λ_ p B=>z p B⟩
def eN(n: ~~~(X.K=K)):Op2 K W e_ X (FX .Add) j6:=by
 subst n;refine(op_add.or (zg.or (op_catL.or op_cat3))).imp λx y H Q h=>?_;obtain⟨F,a,b,s,k,g,p⟩:=h;cases a with
 |int i=>
  cases b with
  |int j=>exact .inl ⟨i,j,k,g,p.int s⟩|_=>exact aH.stuck p
 |str z=>
  cases b with
  |str w=>
   have J:aH X.K W e_ F H (if z.length+w.length<=n_ then .ok (.str (z++w))else stk) Q:=p;by_cases U:z.length+w.length<=n_
   .rw[s_ U]at J;exact .inr (.inl ⟨z,w,k,g,U,J.str s⟩)
   .rw[q_ U]at J;exact J.stuck
  |_=>exact aH.stuck p
 |lst ds=>
  cases b with
  |lst es=>
   obtain⟨a,xs,e1,f,c⟩:=k;obtain⟨b,ys,e2,d,Y⟩:=g;have J:aH X.K W e_ F H (if ds.length+es.length<=n_ then .ok (.lst (ds++es))else stk) Q:=p;by_cases U:ds.length+es.length<=n_
   .rw[s_ U]at J;exact .inr (.inr (.inl ⟨a,b,xs,ys,e1,e2,s.lst f,s.lst d,by rw[c.length,Y.length];exact U,λl m=>J.lst s (c.append Y) m⟩))
   .rw[q_ U]at J;exact J.stuck
  |_=>exact aH.stuck p
 |tup ds=>
  cases b with
  |tup es=>
   obtain⟨a,xs,e1,f,c⟩:=k;obtain⟨b,ys,e2,d,Y⟩:=g;have J:aH X.K W e_ F H (if ds.length+es.length<=n_ then .ok (.tup (ds++es))else stk) Q:=p;by_cases U:ds.length+es.length<=n_
   .rw[s_ U]at J;refine .inr (.inr (.inr ⟨a,b,xs,ys,e1,e2,s.tup f,s.tup d,by rw[c.length,Y.length];exact U,λe=>?_,λe=>?_,λl m=>J.tup s (c.append Y) m⟩))
    .have z:ds=[]:=by have:=c.length;rw[e]at this;exact Fv.mp this.symm
     subst z;exact J.same s ⟨b,ys,rfl,d,Y⟩
    .have z:es=[]:=by have:=Y.length;rw[e]at this;exact Fv.mp this.symm
     subst z;rw[Fc]at J;exact J.same s ⟨a,xs,rfl,f,c⟩
   .rw[q_ U]at J;exact J.stuck
  |_=>exact aH.stuck p
 |_=>exact aH.stuck p
def o_notN:Op2 K W own X (EU .IsNot) zq:=op_notN.imp λx y H Q h=>by
 obtain⟨F,a,b,s,J,U,p⟩:=h;have key:∀{k:Bool},zq a b=.ok (.bl k)->b=.non->((!decide (x=V.non))=k)->y=V.non/\Q (.bl (!decide (x=V.non))) H:=λ{k} e1 e2 e3=>by subst e2;rw[e1]at p;rw[e3];exact⟨U,p.bl s⟩
 cases b with
 |non=>
  cases a with
  |non=>exact key rfl rfl (by rw[show x=.non from J];rfl)|bl k=>exact key rfl rfl (by rw[show x=.bl k from J];rfl)|int k=>exact key rfl rfl (by rw[show x=.int k from J];rfl)|str k=>exact key rfl rfl (by rw[show x=.str k from J];rfl)|tup ds=>obtain⟨l,xs,e,_⟩:=J;exact key rfl rfl (by rw[e];rfl)
  |lst ds=>obtain⟨l,xs,e,_⟩:=J;exact key rfl rfl (by rw[e];rfl)
  |ins C fs=>obtain⟨l,dx,xs,e,_⟩:=J;exact key rfl rfl (by rw[e];rfl)
  |dic ks=>obtain⟨l,xs,e,_⟩:=J;exact key rfl rfl (by rw[e];rfl)
  |dil ks=>obtain⟨l,xs,e,_⟩:=J;exact key rfl rfl (by rw[e];rfl)
 |_=>cases a<;>exact aH.stuck p
def Cm{Q:VK}{ds:List A'}{xs:am}{i:Int}(p:aH K W c_ F H (jA ds i) Q)(s:aO F H)(r:ax K F ds xs):∃v,atI xs i=a_ v/\Q v H:=by
 unfold jA at p;cases e:atI ds i with
 |none=>rw[e]at p;exact aH.stuck p|some d=>
  rw[e]at p;unfold atI at e;cases J:ixN ds.length i with
  |none=>rw[J]at e;cases e|some j=>
   rw[J]at e;obtain⟨v,e1,q⟩:=r.get (show ds[j]?=a_ d from e);refine⟨v,?_,p v F H (B5.refl s) q⟩
   unfold atI;rw[r.length,J];exact e1
def cH(d: ~~~(X.K=K)):IxR X (rD2 K W c_ ixD):=by
 subst d;refine ix_seq.imp λx y H Q h=>?_;obtain⟨F,a,b,s,c,Y,p⟩:=h;cases a with
 |lst ds=>
  cases b with
  |int i=>obtain⟨a,xs,e1,J,U⟩:=c;obtain⟨v,e2,q⟩:=Cm p s U;exact .inl ⟨a,xs,i,v,e1,Y,s.lst J,e2,q⟩
  |_=>exact aH.stuck p
 |tup ds=>
  cases b with
  |int i=>obtain⟨a,xs,e1,J,U⟩:=c;obtain⟨v,e2,q⟩:=Cm p s U;exact .inr (.inl ⟨a,xs,i,v,e1,Y,s.tup J,e2,q⟩)
  |_=>exact aH.stuck p
 |_=>exact aH.stuck p
def l6(J: ~~~(X.K=K)):mv K W own X (.builtin "len") xA:=by
 subst J;refine iO.imp λxs H Q h=>?_;obtain⟨F,ds,s,q,p⟩:=h;cases ds with
 |nil=>exact aH.stuck p|cons d ds=>
  cases ds with
  |cons _ _=>cases d<;>exact aH.stuck p
  |nil=>
   obtain⟨v,vs,e,q,e2⟩:=q;cases d with
   |lst es=>
    obtain⟨a,ys,e1,t,r⟩:=q;refine⟨a,ys,by rw[e,e1,show vs=[]from e2],.inl (s.lst t),?_⟩
    rw[r.length];exact aH.int (own:=own) p s
   |tup es=>
    obtain⟨a,ys,e1,t,r⟩:=q;refine⟨a,ys,by rw[e,e1,show vs=[]from e2],.inr (s.tup t),?_⟩
    rw[r.length];exact aH.int (own:=own) p s
   |_=>exact aH.stuck p
end
section
variable{W:cn}{own:Bool}
def kB{g:List A'->M A'}(J:∀ds,(∃d,ds=[d])\/g ds=stk){xs:am}{Q:VK}(h:rDL K W own g xs H Q):∃F d x,aO F H/\xs=[x]/\aU K F d x/\aH K W own F H (g [d]) Q:=by
 obtain⟨F,ds,s,q,p⟩:=h;rcases J ds with⟨d,rfl⟩|e
 .obtain⟨v,vs,e,q1,e2⟩:=q;exact⟨F,d,v,s,by rw[e,show vs=[]from e2],q1,p⟩
 .rw[e]at p;exact p.stuck
def AH{g:List A'->M A'}(U:∀ds,(∃d,ds=[d])\/(∃d e,ds=[d,e])\/g ds=stk){xs:am}{Q:VK}(h:rDL K W own g xs H Q):(∃F d x,aO F H/\xs=[x]/\aU K F d x/\aH K W own F H (g [d]) Q)\/∃F d e x y,aO F H/\xs=[x,y]/\aU K F d x/\aU K F e y/\aH K W own F H (g [d,e]) Q:=by
 obtain⟨F,ds,s,q,p⟩:=h;rcases U ds with⟨d,rfl⟩|⟨d,e,rfl⟩|e
 .obtain⟨v,vs,e,q1,e2⟩:=q;exact .inl ⟨F,d,v,s,by rw[e,show vs=[]from e2],q1,p⟩
 .obtain⟨v,vs,e1,q1,w,J,e2,q2,e3⟩:=q;exact .inr ⟨F,d,e,v,w,s,by rw[e1,e2,show J=[]from e3],q1,q2,p⟩
 .rw[e]at p;exact p.stuck
theorem qv{F:Hp}:∀{ds:List A'} {xs:am} {bs:List Bool},ax K F ds xs->fZ ds=.ok bs->xs=bs.map V.bl
 |[],_,_,q,e=>by cases e;exact q|d::ds,_,bs,⟨v,vs,e1,q,r⟩,e=>by
  cases d with
  |bl b=>
   cases e2:fZ ds with
   |error x=>simp only[fZ,asB,av,e2,i0]at e;cases e|ok cs=>simp only[fZ,asB,av,e2]at e;cases e;rw[e1,show v=.bl b from q,qv r e2];rfl
  |_=>cases e
theorem qy:∀{ds:List A'} {e:Err},fZ ds=.error e->e=.stuck
 |[],_,h=>by cases h|d::ds,e,h=>by
  cases d with
  |bl b=>
   cases e2:fZ ds with
   |error x=>simp only[fZ,asB,av,e2,i0]at h;cases h;exact qy e2|ok cs=>simp only[fZ,asB,av,e2]at h;cases h
  |_=>cases h;rfl
theorem dw{F:Hp}:∀{ds:List A'} {xs:am} {bs:aj},ax K F ds xs->bD ds=.ok bs->xs=bs.map V.int
 |[],_,_,q,e=>by cases e;exact q|d::ds,_,bs,⟨v,vs,e1,q,r⟩,e=>by
  cases d with
  |int b=>
   cases e2:bD ds with
   |error x=>simp only[bD,asI,av,e2,i0]at e;cases e|ok cs=>simp only[bD,asI,av,e2]at e;cases e;rw[e1,show v=.int b from q,dw r e2];rfl
  |_=>cases e
theorem dA:∀{ds:List A'} {e:Err},bD ds=.error e->e=.stuck
 |[],_,h=>by cases h|d::ds,e,h=>by
  cases d with
  |int b=>
   cases e2:bD ds with
   |error x=>simp only[bD,asI,av,e2,i0]at h;cases h;exact dA e2|ok cs=>simp only[bD,asI,av,e2]at h;cases h
  |_=>cases h;rfl
def c_all(U:X.calm=e_)(Y: ~~~(X.K=K)):mv K W own X (.builtin "all") allD:=by
 subst Y;refine(call_all U).imp λxs H Q h=>?_;obtain⟨F,d,x,s,e,q,p⟩:=kB (λds=>by match ds with|[d]=>exact .inl ⟨d,rfl⟩|[]=>exact .inr rfl|a::b::c=>exact .inr (by cases a<;>rfl)) h;cases d with
 |lst ds=>
  obtain⟨a,ys,e1,t,r⟩:=q;have J:aH X.K W own F H ((fZ ds).bind λbs=>.ok (.bl (bs.all id))) Q:=p;cases eb:fZ ds with
  |error z=>rw[eb]at J;have:=qy eb;subst this;exact aH.stuck J|ok bs=>
   rw[eb]at J;refine⟨a,bs,by rw[e,e1],?_,aH.bl (own:=own) J s⟩
   rw[<- qv r eb];exact s.lst t
 |_=>exact aH.stuck p
def Dh(U: ~~~(X.K=K)):mv K W e_ X (.type "list") kI:=by
 subst U;refine lE.imp λxs H Q h=>?_;obtain⟨F,d,x,s,e,q,p⟩:=kB (λds=>by match ds with|[d]=>exact .inl ⟨d,rfl⟩|[]=>exact .inr rfl|a::b::c=>exact .inr (by cases a<;>rfl)) h;cases d with
 |lst ds=>obtain⟨a,ys,e1,t,r⟩:=q;exact⟨a,ys,by rw[e,e1],.inl (s.lst t),λl J=>aH.lst p s r J⟩
 |tup ds=>obtain⟨a,ys,e1,t,r⟩:=q;exact⟨a,ys,by rw[e,e1],.inr (s.tup t),λl J=>aH.lst p s r J⟩
 |_=>exact aH.stuck p
def sv(U: ~~~(X.K=K)):mv K W own X (.type "tuple") lh:=by
 subst U;refine sr.imp λxs H Q h=>?_;obtain⟨F,d,x,s,e,q,p⟩:=kB (λds=>by match ds with|[d]=>exact .inl ⟨d,rfl⟩|[]=>exact .inr rfl|a::b::c=>exact .inr (by cases a<;>rfl)) h;cases d with
 |lst ds=>obtain⟨a,ys,e1,t,r⟩:=q;exact⟨a,ys,by rw[e,e1],.inl ⟨s.lst t,λl J=>aH.tup p s r J⟩⟩
 |tup ds=>obtain⟨a,ys,e1,t,r⟩:=q;subst e1;exact⟨a,ys,e,.inr ⟨s.tup t,aH.same (own:=own) p s ⟨a,ys,rfl,t,r⟩⟩⟩
 |_=>exact aH.stuck p
theorem fold_max:∀(is:aj) (i:Int),(is.foldl ik i=i\/is.foldl ik i∈is)/\i<=is.foldl ik i/\∀a∈is,a<=is.foldl ik i
 |[],i=>⟨.inl rfl,GP _,λ_ h=>nomatch h⟩
 |j::is,i=>by
  obtain⟨h1,h2,U⟩:=fold_max is (ik i j);have z:(ik i j=i\/ik i j=j)/\i<=ik i j/\j<=ik i j:=by unfold ik;split<;>(refine⟨?_,?_,?_⟩<;>first|exact .inl rfl|exact .inr rfl|omega)
  rw[D_];refine⟨?_,KS z.2.1 h2,λa J=>?_⟩
  .rcases h1 with h1|h1
   .rw[h1];rcases z.1 with z|z
    .exact .inl z
    .exact .inr (by rw[z];exact Ea)
   .exact .inr (DQ _ h1)
  .rcases p_.mp J with e|e
   .rw[e];exact KS z.2.2 h2
   .exact U a e
theorem fold_min:∀(is:aj) (i:Int),(is.foldl jR i=i\/is.foldl jR i∈is)/\is.foldl jR i<=i/\∀a∈is,is.foldl jR i<=a
 |[],i=>⟨.inl rfl,GP _,λ_ h=>nomatch h⟩
 |j::is,i=>by
  obtain⟨h1,h2,U⟩:=fold_min is (jR i j);have z:(jR i j=i\/jR i j=j)/\jR i j<=i/\jR i j<=j:=by unfold jR;split<;>(refine⟨?_,?_,?_⟩<;>first|exact .inl rfl|exact .inr rfl|omega)
  rw[D_];refine⟨?_,KS h2 z.2.1,λa J=>?_⟩
  .rcases h1 with h1|h1
   .rw[h1];rcases z.1 with z|z
    .exact .inl z
    .exact .inr (by rw[z];exact Ea)
   .exact .inr (DQ _ h1)
  .rcases p_.mp J with e|e
   .rw[e];exact KS h2 z.2.2
   .exact U a e
def vY{is:aj}{i m:Int}(h1:m∈i::is)(h2:∀a∈i::is,a<=m):is.foldl ik i=m:=by
 obtain⟨U,g2,J⟩:=fold_max is i;have b:is.foldl ik i<=m:=by
  rcases U with g|g
  .rw[g];exact h2 i Ea
  .exact h2 _ (DQ _ g)
 have Y:m<=is.foldl ik i:=by
  rcases p_.mp h1 with e|e
  .rw[e];exact g2
  .exact J m e
 omega
def vX{is:aj}{i m:Int}(h1:m∈i::is)(h2:∀a∈i::is,m<=a):is.foldl jR i=m:=by
 obtain⟨U,g2,J⟩:=fold_min is i;have b:m<=is.foldl jR i:=by
  rcases U with g|g
  .rw[g];exact h2 i Ea
  .exact h2 _ (DQ _ g)
 have Y:is.foldl jR i<=m:=by
  rcases p_.mp h1 with e|e
  .rw[e];exact g2
  .exact J m e
 omega
def Dd(k:X.calm=e_):cK X (.builtin "max") (λxs H Q=>∃a i is,xs=[.ref a]/\SqL X.K H a ((i::is).map V.int)/\Q (.int (is.foldl ik i)) H):=by
 intro B4 s σ H xs us Q I r h;obtain⟨a,i,is,rfl,d,q⟩:=h;obtain⟨u,rfl,c⟩:=r.one;cases c;obtain⟨its,b,p,n⟩:=I.list d;have hi:=intsAre_of b;obtain⟨xs,e⟩:=hi.allInts.items;have J:i::is=xs.toList.map (·.1):=by rw[<- hi.numsOf,<- MK,<- e]
 have hsz:0<xs.size:=by have l:=Hd JP J;simp at l;omega
 have U:=p.isList;rw[e]at U;refine max_intList (I.ok.hd k) U hsz λv h' tk hv f=>?_;obtain⟨t,rfl⟩:=N1 hv;obtain⟨h1,h2⟩:=argBest_gt (LI xs) (xs.size-1);refine⟨.int _,H,I.kept f,⟨t,rfl⟩,?_⟩
 have:=vY (is:=is) (i:=i) (m:=LI xs (Im (λi j=>z_ (LI xs i>LI xs j)) (xs.size-1))) (by
   rw[J,N0];exact getD_mem (by rw[y_,DO];omega)) (λa Y=>by
   rw[J]at Y;obtain⟨j,g,rfl⟩:=mem_getD Y;rw[y_,DO]at g;rw[<- N0];exact h2 j ac)
 rw[<- this];exact q
def D9(k:X.calm=e_):cK X (.builtin "min") (λxs H Q=>∃a i is,xs=[.ref a]/\SqL X.K H a ((i::is).map V.int)/\Q (.int (is.foldl jR i)) H):=by
 intro B4 s σ H xs us Q I r h;obtain⟨a,i,is,rfl,d,q⟩:=h;obtain⟨u,rfl,c⟩:=r.one;cases c;obtain⟨its,b,p,n⟩:=I.list d;have hi:=intsAre_of b;obtain⟨xs,e⟩:=hi.allInts.items;have J:i::is=xs.toList.map (·.1):=by rw[<- hi.numsOf,<- MK,<- e]
 have hsz:0<xs.size:=by have l:=Hd JP J;simp at l;omega
 have U:=p.isList;rw[e]at U;refine min_intList (I.ok.hd k) U hsz λv h' tk hv f=>?_;obtain⟨t,rfl⟩:=N1 hv;obtain⟨h1,h2⟩:=argBest_lt (LI xs) (xs.size-1);refine⟨.int _,H,I.kept f,⟨t,rfl⟩,?_⟩
 have:=vX (is:=is) (i:=i) (m:=LI xs (Im (λi j=>z_ (LI xs i<LI xs j)) (xs.size-1))) (by
   rw[J,N0];exact getD_mem (by rw[y_,DO];omega)) (λa Y=>by
   rw[J]at Y;obtain⟨j,g,rfl⟩:=mem_getD Y;rw[y_,DO]at g;rw[<- N0];exact h2 j ac)
 rw[<- this];exact q
def wA(U:X.calm=e_)(f: ~~~(X.K=K)):mv K W own X (.builtin "max") maxD:=by
 subst f;refine((De U).or (Dd U)).imp λxs H Q h=>?_;rcases AH (λds=>by match ds with|[d]=>exact .inl ⟨d,rfl⟩|[d,e]=>exact .inr (.inl ⟨d,e,rfl⟩)|[]=>exact .inr (.inr rfl)|a::b::c::d=>exact .inr (.inr (by cases a<;>cases b<;>rfl))) h with⟨F,d,x,s,e,q,p⟩|⟨F,d,Y,x,y,s,e,q,q2,p⟩
 .cases d with
  |lst ds=>
   obtain⟨a,ys,e1,t,r⟩:=q;have J:aH X.K W own F H ((bD ds).bind maxL) Q:=p;cases eb:bD ds with
   |error z=>rw[eb]at J;have:=dA eb;subst this;exact aH.stuck J|ok is=>
    rw[eb]at J;cases is with
    |nil=>exact aH.stuck J|cons i is=>refine .inr ⟨a,i,is,by rw[e,e1],?_,aH.int (own:=own) J s⟩;rw[<- dw r eb];exact s.lst t
  |_=>exact aH.stuck p
 .cases d with
  |int i=>
   cases Y with
   |int j=>exact .inl ⟨i,j,by rw[e,show x=.int i from q,show y=.int j from q2],aH.int (own:=own) p s⟩|_=>exact aH.stuck p
  |_=>cases Y<;>exact aH.stuck p
def c_min(U:X.calm=e_)(f: ~~~(X.K=K)):mv K W own X (.builtin "min") minD:=by
 subst f;refine((Dc U).or (D9 U)).imp λxs H Q h=>?_;rcases AH (λds=>by match ds with|[d]=>exact .inl ⟨d,rfl⟩|[d,e]=>exact .inr (.inl ⟨d,e,rfl⟩)|[]=>exact .inr (.inr rfl)|a::b::c::d=>exact .inr (.inr (by cases a<;>cases b<;>rfl))) h with⟨F,d,x,s,e,q,p⟩|⟨F,d,Y,x,y,s,e,q,q2,p⟩
 .cases d with
  |lst ds=>
   obtain⟨a,ys,e1,t,r⟩:=q;have J:aH X.K W own F H ((bD ds).bind minL) Q:=p;cases eb:bD ds with
   |error z=>rw[eb]at J;have:=dA eb;subst this;exact aH.stuck J|ok is=>
    rw[eb]at J;cases is with
    |nil=>exact aH.stuck J|cons i is=>refine .inr ⟨a,i,is,by rw[e,e1],?_,aH.int (own:=own) J s⟩;rw[<- dw r eb];exact s.lst t
  |_=>exact aH.stuck p
 .cases d with
  |int i=>
   cases Y with
   |int j=>exact .inl ⟨i,j,by rw[e,show x=.int i from q,show y=.int j from q2],aH.int (own:=own) p s⟩|_=>exact aH.stuck p
  |_=>cases Y<;>exact aH.stuck p
end
theorem SqL.inj{B4:Pn}{σ:St}{H:Hp}{s:k_}{a:i_}{xs ys:am}(I:B6 X B4 σ H s)(h:SqL X.K H a xs)(h':SqL X.K H a ys):xs=ys:=by
 obtain⟨c,Y,p1,_⟩:=I.list h;obtain⟨b,U,p2,_⟩:=I.list h';obtain⟨o,n,e,_,_,d⟩:=p1;obtain⟨o',f,J,_,_,d'⟩:=p2;rw[e]at J;cases J;rw[d]at d';injection d' with d1 _
 have:c=b:=by simpa using Hd Kz d1
 subst this;exact Y.inj U
theorem SqT.inj{B4:Pn}{σ:St}{H:Hp}{s:k_}{a:i_}{xs ys:am}(I:B6 X B4 σ H s)(h:SqT X.K H a xs)(h':SqT X.K H a ys):xs=ys:=by
 obtain⟨c,Y,p1,_⟩:=I.tuple h;obtain⟨b,U,p2,_⟩:=I.tuple h';obtain⟨o,e,_,n,d⟩:=p1;obtain⟨o',J,_,f,d'⟩:=p2;rw[e]at J;cases J;rw[d]at d';injection d' with d1 _
 have:c=b:=by simpa using Hd Kz d1
 subst this;exact Y.inj U
def ax.all_eq{F:Hp}(e:Nat->Bool):∀{ds es:List A'},ds.length=es.length->(∀(j:Nat) a b,ds[j]?=a_ a->es[j]?=a_ b->e j=eqD a b)->(DR ds.length).all e=mI ds es:=by
 intro ds
 induction ds generalizing e with
 |nil=>intro es h _;cases es with
  |nil=>rfl|cons _ _=>simp at h
 |cons d ds J=>
  intro es h q;cases es with
  |nil=>simp at h|cons b es=>
   rw[B_,Jo,List.all_cons,List.all_map,mI];rw[q 0 d b rfl rfl]
   congr 1
   exact J (e∘Nat.succ) (by simpa using h) λj x y Y U=>q (j+1) x y (by simpa using Y) (by simpa using U)
theorem mH:∀{ds es:List A'},ds.length≠es.length->mI ds es=c_
 |[],[],h=>DD rfl h|[],_::_,_=>rfl|_::_,[],_=>rfl|d::ds,e::es,h=>by rw[mI,mH (ds:=ds) (es:=es) (λz=>h (by simp[z])),JQ]
def xT(e:Nat->Bool):∀{ds es:List A'},(∀(j:Nat) a b,ds[j]?=a_ a->es[j]?=a_ b->e j=eqD a b)->((DR (min ds.length es.length)).all e&&ds.length==es.length)=mI ds es:=by
 intro ds es q;by_cases J:ds.length=es.length
 .have e1:min ds.length es.length=ds.length:=ac
  rw[e1,ax.all_eq (F:=λ_=>g_) e J q,J,Ng,Bool.and_true]
 .rw[mH J];have:(ds.length==es.length)=c_:=by simpa using J
  rw[this,JQ]
mutual
theorem mJ:∀{d:A'} {n:Nat},HS d n=e_->eqD d d=e_
 |.non,_,_=>rfl|.bl b,_,_=>by simp[eqD]|.int i,_,_=>by simp[eqD]|.str x,_,_=>by simp[eqD]|.tup ds,0,h=>by simp[HS]at h|.tup ds,n+1,h=>by simp only[HS]at h;simp only[eqD];exact nK h|.lst ds,0,h=>by simp[HS]at h|.lst ds,n+1,h=>by simp only[HS]at h;simp only[eqD];exact nK h|.ins _ _,_,h=>by simp[HS]at h|.dic _,_,h=>by simp[HS]at h|.dil _,_,h=>by simp[HS]at h
theorem nK:∀{ds:List A'} {n:Nat},iU ds n=e_->mI ds ds=e_
 |[],_,_=>rfl|d::ds,n,h=>by simp only[iU,r_]at h;simp only[mI,mJ h.1,nK h.2,Bool.and_self]
end
theorem rA:∀{ds:List A'} {n i:Nat} {d:A'},iU ds n=e_->ds[i]?=a_ d->HS d n=e_
 |[],_,_,_,_,h=>by simp at h|_::_,_,0,_,h,e=>by simp only[iU,r_]at h;simp at e;rw[<- e];exact h.1|_::_,_,i+1,_,h,e=>by simp only[iU,r_]at h;exact rA h.2 (by simpa using e)
def ja(ds es:List A')(j:Nat):Bool:=match ds[j]?,es[j]? with
 |some a,a_ b=>eqD a b|_,_=>e_
inductive Sh(s:k_):A'->h_->Prop
 |non:Sh s .non .none
 |bl (b:Bool):Sh s (.bl b) (.bool b)
 |int (i:Int) (t:Nat):Sh s (.int i) (.int i t)
 |str (x:Dy) (t:Nat):Sh s (.str x) (.str x t)
 |tup {ds:List A'} {l:i_} {is:Array h_} (p:s.heap.IsTuple l is):Sh s (.tup ds) (.ref l)
 |lst {ds:List A'} {l:i_} {is:Array h_} (p:s.heap.IsList l is):Sh s (.lst ds) (.ref l)
noncomputable def sq:A'->A'->Bool
 |.tup _,.tup _=>e_|.lst _,.lst _=>e_|_,_=>c_
def t7{a b:A'}(h:sq a b=e_):(∃ds es,a=.tup ds/\b=.tup es)\/∃ds es,a=.lst ds/\b=.lst es:=by
 unfold sq at h;split at h
 .exact .inl ⟨_,_,rfl,rfl⟩
 .exact .inr ⟨_,_,rfl,rfl⟩
 .cases h
def eqAt_U{s:k_}{a b:A'}(c:Sh s a u)(Y:Sh s b v)(U:A.units<Ez):sq a b=e_\/Jd A s u v (eqD a b):=match c,Y with
 |.non,.non=>.inr (.same _)|.non,.bl b=>.inr (.none_bool b)|.non,.int b J=>.inr (.none_int b J)|.non,.str b J=>.inr (.none_str b J)|.non,.tup q=>.inr (.none_tuple q U)|.non,.lst q=>.inr (.none_list q U)|.bl a,.non=>.inr (.bool_none a)|.bl a,.bl b=>.inr (.bool_bool a b)|.bl a,.int b J=>.inr (.bool_int a b J)|.bl a,.str b J=>.inr (.bool_str a b J)|.bl a,.tup q=>.inr (.bool_tuple a q U)|.bl a,.lst q=>.inr (.bool_list a q U)|.int a t,.non=>.inr (.int_none a t)|.int a t,.bl b=>.inr (.int_bool a t b)|.int a t,.int b J=>.inr (.int_int a t b J)|.int a t,.str b J=>.inr (.int_str a t b J)|.int a t,.tup q=>.inr (.int_tuple a t q U)|.int a t,.lst q=>.inr (.int_list a t q U)|.str a t,.non=>.inr (.str_none a t)|.str a t,.bl b=>.inr (.str_bool a t b)|.str a t,.int b J=>.inr (.str_int a t b J)|.str a t,.str b J=>.inr (.str_str a t b J)|.str a t,.tup q=>.inr (.str_tuple a t q U)|.str a t,.lst q=>.inr (.str_list a t q U)|.tup p,.non=>.inr (.tuple_none p U)|.tup p,.bl b=>.inr (.tuple_bool b p U)|.tup p,.int b J=>.inr (.tuple_int b J p U)|.tup p,.str b J=>.inr (.tuple_str b J p U)|.tup _,.tup _=>.inl rfl|.tup p,.lst q=>.inr (.tuple_list p q U)|.lst p,.non=>.inr (.list_none p U)|.lst p,.bl b=>.inr (.list_bool b p U)|.lst p,.int b J=>.inr (.list_int b J p U)|.lst p,.str b J=>.inr (.list_str b J p U)|.lst p,.tup q=>.inr (.list_tuple p q U)|.lst _,.lst _=>.inl rfl
def rcAt_U{s:k_}{a b:A'}(c:Sh s a u)(Y:Sh s b v)(U:A.units<Ez):sq a b=e_\/MO A s u v (eqD a b):=match c,Y with
 |.non,.non=>.inr (.none_none)|.non,.bl b=>.inr (.none_bool b)|.non,.int b J=>.inr (.none_int b J)|.non,.str b J=>.inr (.none_str b J)|.non,.tup q=>.inr (.none_tuple q U)|.non,.lst q=>.inr (.none_list q U)|.bl a,.non=>.inr (.bool_none a)|.bl a,.bl b=>.inr (.bool_bool a b)|.bl a,.int b J=>.inr (.bool_int a b J)|.bl a,.str b J=>.inr (.bool_str a b J)|.bl a,.tup q=>.inr (.bool_tuple a q U)|.bl a,.lst q=>.inr (.bool_list a q U)|.int a t,.non=>.inr (.int_none a t)|.int a t,.bl b=>.inr (.int_bool a t b)|.int a t,.int b J=>.inr (.int_int a t b J)|.int a t,.str b J=>.inr (.int_str a t b J)|.int a t,.tup q=>.inr (.int_tuple a t q U)|.int a t,.lst q=>.inr (.int_list a t q U)|.str a t,.non=>.inr (.str_none a t)|.str a t,.bl b=>.inr (.str_bool a t b)|.str a t,.int b J=>.inr (.str_int a t b J)|.str a t,.str b J=>.inr (.str_str a t b J)|.str a t,.tup q=>.inr (.str_tuple a t q U)|.str a t,.lst q=>.inr (.str_list a t q U)|.tup p,.non=>.inr (.tuple_none p U)|.tup p,.bl b=>.inr (.tuple_bool b p U)|.tup p,.int b J=>.inr (.tuple_int b J p U)|.tup p,.str b J=>.inr (.tuple_str b J p U)|.tup _,.tup _=>.inl rfl|.tup p,.lst q=>.inr (.tuple_list p q U)|.lst p,.non=>.inr (.list_none p U)|.lst p,.bl b=>.inr (.list_bool b p U)|.lst p,.int b J=>.inr (.list_int b J p U)|.lst p,.str b J=>.inr (.list_str b J p U)|.lst p,.tup q=>.inr (.list_tuple p q U)|.lst _,.lst _=>.inl rfl
def rcNeAt_U{s:k_}{a b:A'}(c:Sh s a u)(Y:Sh s b v)(U:A.units<Ez):sq a b=e_\/LS A s u v (!eqD a b):=match c,Y with
 |.non,.non=>.inr (.none_none)|.non,.bl b=>.inr (.none_bool b)|.non,.int b J=>.inr (.none_int b J)|.non,.str b J=>.inr (.none_str b J)|.non,.tup q=>.inr (.none_tuple q U)|.non,.lst q=>.inr (.none_list q U)|.bl a,.non=>.inr (.bool_none a)|.bl a,.bl b=>.inr (.bool_bool a b)|.bl a,.int b J=>.inr (.bool_int a b J)|.bl a,.str b J=>.inr (.bool_str a b J)|.bl a,.tup q=>.inr (.bool_tuple a q U)|.bl a,.lst q=>.inr (.bool_list a q U)|.int a t,.non=>.inr (.int_none a t)|.int a t,.bl b=>.inr (.int_bool a t b)|.int a t,.int b J=>.inr (.int_int a t b J)|.int a t,.str b J=>.inr (.int_str a t b J)|.int a t,.tup q=>.inr (.int_tuple a t q U)|.int a t,.lst q=>.inr (.int_list a t q U)|.str a t,.non=>.inr (.str_none a t)|.str a t,.bl b=>.inr (.str_bool a t b)|.str a t,.int b J=>.inr (.str_int a t b J)|.str a t,.str b J=>.inr (.str_str a t b J)|.str a t,.tup q=>.inr (.str_tuple a t q U)|.str a t,.lst q=>.inr (.str_list a t q U)|.tup p,.non=>.inr (.tuple_none p U)|.tup p,.bl b=>.inr (.tuple_bool b p U)|.tup p,.int b J=>.inr (.tuple_int b J p U)|.tup p,.str b J=>.inr (.tuple_str b J p U)|.tup _,.tup _=>.inl rfl|.tup p,.lst q=>.inr (.tuple_list p q U)|.lst p,.non=>.inr (.list_none p U)|.lst p,.bl b=>.inr (.list_bool b p U)|.lst p,.int b J=>.inr (.list_int b J p U)|.lst p,.str b J=>.inr (.list_str b J p U)|.lst p,.tup q=>.inr (.list_tuple p q U)|.lst _,.lst _=>.inl rfl
section
variable{s:k_}
def tw(I:B6 X B4 σ H s)(J:aO F H){x:V}(o:HS d n=e_)(q:aU X.K F d x)(r:D' x u):Sh s d u:=by
 cases d with
 |non=>cases(show x=.non from q);cases r;exact .non|bl b=>cases(show x=.bl b from q);cases r;exact .bl b|int i=>cases(show x=.int i from q);obtain⟨t,rfl⟩:=r;exact .int i t
 |str y=>cases(show x=.str y from q);obtain⟨t,rfl⟩:=r;exact .str y t
 |tup ds=>obtain⟨l,xs,e,t,_⟩:=q;subst e;cases r;obtain⟨is,_,p,_⟩:=I.tuple (J.tup t);exact .tup (show s.heap.IsTuple l is.toArray from p)
 |lst ds=>obtain⟨l,xs,e,t,_⟩:=q;subst e;cases r;obtain⟨is,_,p,_⟩:=I.list (J.lst t);exact .lst p.isList
 |_=>simp[HS]at o
theorem nQ{n:Nat}(Y:∀(d e:A') {v:V},aU X.K F d v->aU X.K F e v->HS d n=e_->HS e n=e_->d=e):∀(ds es:List A') {xs:am},ax X.K F ds xs->ax X.K F es xs->iU ds n=e_->iU es n=e_->ds=es
 |[],[],_,_,_,_,_=>rfl|[],_::_,_,q,⟨_,_,e,_⟩,_,_=>by rw[show _=[]from q]at e;cases e|_::_,[],_,⟨_,_,e,_⟩,q,_,_=>by rw[show _=[]from q]at e;cases e|d::ds,e::es,_,⟨v,vs,e1,q1,b⟩,⟨w,c,e2,q2,a⟩,U,J=>by rw[e1]at e2;cases e2;simp only[iU,r_]at U J;rw[Y d e q1 q2 U.1 J.1,nQ Y ds es b a U.2 J.2]
def mK{e:A'}{v:V}(hd:sq d d=c_)(q:aU X.K F d v)(r:aU X.K F e v)(U:HS d n=e_)(J:HS e n=e_):d=e:=by
 cases d<;>first|(cases hd;done)|(simp[HS]at U;done)|(simp only[aU]at q;subst q)
 all_goals cases e<;>first|(simp[HS]at J;done)|(simp only[aU]at r;first|(obtain⟨_,_,z,_⟩:=r;cases z;done)|(cases r<;>rfl))
theorem rW(I:B6 X B4 σ H s)(Y:aO F H):∀(n:Nat) (d e:A') {v:V},aU X.K F d v->aU X.K F e v->HS d n=e_->HS e n=e_->d=e
 |n,.tup ds,e,v,⟨l,xs,e1,h1,b⟩,r,J,U=>by
  subst e1;cases n with
  |zero=>simp[HS]at J|succ n=>
   cases e with
   |tup es=>obtain⟨c,ys,e2,h2,a⟩:=r;cases e2;cases SqT.inj I (Y.tup h1) (Y.tup h2);rw[nQ (rW I Y n) _ _ b a (by simpa only[HS] using J) (by simpa only[HS] using U)]
   |lst es=>obtain⟨c,ys,e2,h2,a⟩:=r;cases e2;obtain⟨g,_,p1,_⟩:=I.list (Y.lst h2);obtain⟨f,_,p2,_⟩:=I.tuple (Y.tup h1);exact DD rfl (LR p1.isList (show s.heap.IsTuple l f.toArray from p2))
   |_=>first|(simp[HS]at U;done)|(simp only[aU]at r;cases r)
 |n,.lst ds,e,v,⟨l,xs,e1,h1,b⟩,r,J,U=>by
  subst e1;cases n with
  |zero=>simp[HS]at J|succ n=>
   cases e with
   |lst es=>obtain⟨c,ys,e2,h2,a⟩:=r;cases e2;cases SqL.inj I (Y.lst h1) (Y.lst h2);rw[nQ (rW I Y n) _ _ b a (by simpa only[HS] using J) (by simpa only[HS] using U)]
   |tup es=>obtain⟨c,ys,e2,h2,a⟩:=r;cases e2;obtain⟨g,_,p1,_⟩:=I.list (Y.lst h1);obtain⟨f,_,p2,_⟩:=I.tuple (Y.tup h2);exact DD rfl (LR p1.isList (show s.heap.IsTuple l f.toArray from p2))
   |_=>first|(simp[HS]at U;done)|(simp only[aU]at r;cases r)
 |_,.non,_,_,q,r,J,U=>mK rfl q r J U|_,.bl _,_,_,q,r,J,U=>mK rfl q r J U|_,.int _,_,_,q,r,J,U=>mK rfl q r J U|_,.str _,_,_,q,r,J,U=>mK rfl q r J U|_,.ins _ _,_,_,_,_,J,_=>by simp[HS]at J|_,.dic _,_,_,_,_,J,_=>by simp[HS]at J|_,.dil _,_,_,_,_,J,_=>by simp[HS]at J
termination_by n=>n
def rcAt_S{a b:A'}{x:V}(I:B6 X B4 σ H s)(g:aO F H)(N:sq a b=e_)(z:aU X.K F a x)(w:aU X.K F b y)(t:D' x u)(r:D' y v)(n:A.units<Ez)(C:∀(ds es:List A') (j:Nat) (U J:A') (x y:V) (u v:h_),(a=.tup ds/\b=.tup es\/a=.lst ds/\b=.lst es)->ds[j]?=a_ U->es[j]?=a_ J->aU X.K F U x->aU X.K F J y->D' x u->D' y v->Jd A.in1 s u v (eqD U J)):MO A s u v (eqD a b):=by
 rcases t7 N with⟨ds,es,rfl,rfl⟩|⟨ds,es,rfl,rfl⟩
 .skip;obtain⟨l1,xs,e1,h1,f⟩:=z;subst e1;cases t;obtain⟨is,c,p1,_⟩:=I.tuple (g.tup h1);obtain⟨B,ys,e2,h2,d⟩:=w;subst e2;cases r;obtain⟨m,Y,p2,_⟩:=I.tuple (g.tup h2);have G:=c.length;have E:=Y.length;have L:=f.length;have K:=d.length;have q:=SeqAt.RcAt.tuples (A:=A) (e:=ja ds es) (show s.heap.IsTuple l1 is.toArray from p1) (show s.heap.IsTuple B m.toArray from p2) n (λj h1 h2=>by
   obtain⟨i,f1,o⟩:=c.atA h1;obtain⟨h,p,g2⟩:=Y.atA h2;obtain⟨U,k1,l⟩:=f.at f1;obtain⟨J,k2,k⟩:=d.at p;rw[show ja ds es j=eqD U J by simp only[ja,k1,k2]];exact C ds es j U J i h _ _ (.inl ⟨rfl,rfl⟩) k1 k2 l k o g2)
  rw[show is.toArray.size=ds.length by simp;omega,show m.toArray.size=es.length by simp;omega,xT _ (λj a b h1 h2=>by simp only[ja,h1,h2])]at q;exact q
 .skip;obtain⟨l1,xs,e1,h1,f⟩:=z;subst e1;cases t;obtain⟨is,c,p1,_⟩:=I.list (g.lst h1);obtain⟨B,ys,e2,h2,d⟩:=w;subst e2;cases r;obtain⟨m,Y,p2,_⟩:=I.list (g.lst h2);have G:=c.length;have E:=Y.length;have L:=f.length;have K:=d.length;by_cases D:ds.length=es.length
  .have q:=SeqAt.RcAt.lists (A:=A) (e:=ja ds es) p1.isList p2.isList (by simp;omega) n (λj h1 h2=>by
   obtain⟨i,f1,o⟩:=c.atA h1;obtain⟨h,p,g2⟩:=Y.atA h2;obtain⟨U,k1,l⟩:=f.at f1;obtain⟨J,k2,k⟩:=d.at p;rw[show ja ds es j=eqD U J by simp only[ja,k1,k2]];exact C ds es j U J i h _ _ (.inr ⟨rfl,rfl⟩) k1 k2 l k o g2)
   rw[show is.toArray.size=ds.length by simp;omega,ax.all_eq (F:=F) _ D (λj a b h1 h2=>by simp only[ja,h1,h2])]at q;exact q
  .rw[show eqD (.lst ds) (.lst es)=c_ from mH D];exact SeqAt.RcAt.lists_lengths (A:=A) p1.isList p2.isList (by simp;omega) n
def rcNeAt_S{a b:A'}{x:V}(I:B6 X B4 σ H s)(g:aO F H)(N:sq a b=e_)(z:aU X.K F a x)(w:aU X.K F b y)(t:D' x u)(r:D' y v)(n:A.units<Ez)(C:∀(ds es:List A') (j:Nat) (U J:A') (x y:V) (u v:h_),(a=.tup ds/\b=.tup es\/a=.lst ds/\b=.lst es)->ds[j]?=a_ U->es[j]?=a_ J->aU X.K F U x->aU X.K F J y->D' x u->D' y v->Jd A.in1 s u v (eqD U J)):LS A s u v (!eqD a b):=by
 rcases t7 N with⟨ds,es,rfl,rfl⟩|⟨ds,es,rfl,rfl⟩
 .skip;obtain⟨l1,xs,e1,h1,f⟩:=z;subst e1;cases t;obtain⟨is,c,p1,_⟩:=I.tuple (g.tup h1);obtain⟨B,ys,e2,h2,d⟩:=w;subst e2;cases r;obtain⟨m,Y,p2,_⟩:=I.tuple (g.tup h2);have G:=c.length;have E:=Y.length;have L:=f.length;have K:=d.length;have q:=SeqAt.RcNeAt.tuples (A:=A) (e:=ja ds es) (show s.heap.IsTuple l1 is.toArray from p1) (show s.heap.IsTuple B m.toArray from p2) n (λj h1 h2=>by
   obtain⟨i,f1,o⟩:=c.atA h1;obtain⟨h,p,g2⟩:=Y.atA h2;obtain⟨U,k1,l⟩:=f.at f1;obtain⟨J,k2,k⟩:=d.at p;rw[show ja ds es j=eqD U J by simp only[ja,k1,k2]];exact C ds es j U J i h _ _ (.inl ⟨rfl,rfl⟩) k1 k2 l k o g2)
  rw[show is.toArray.size=ds.length by simp;omega,show m.toArray.size=es.length by simp;omega,xT _ (λj a b h1 h2=>by simp only[ja,h1,h2])]at q;exact q
 .skip;obtain⟨l1,xs,e1,h1,f⟩:=z;subst e1;cases t;obtain⟨is,c,p1,_⟩:=I.list (g.lst h1);obtain⟨B,ys,e2,h2,d⟩:=w;subst e2;cases r;obtain⟨m,Y,p2,_⟩:=I.list (g.lst h2);have G:=c.length;have E:=Y.length;have L:=f.length;have K:=d.length;by_cases D:ds.length=es.length
  .have q:=SeqAt.RcNeAt.lists (A:=A) (e:=ja ds es) p1.isList p2.isList (by simp;omega) n (λj h1 h2=>by
   obtain⟨i,f1,o⟩:=c.atA h1;obtain⟨h,p,g2⟩:=Y.atA h2;obtain⟨U,k1,l⟩:=f.at f1;obtain⟨J,k2,k⟩:=d.at p;rw[show ja ds es j=eqD U J by simp only[ja,k1,k2]];exact C ds es j U J i h _ _ (.inr ⟨rfl,rfl⟩) k1 k2 l k o g2)
   rw[show is.toArray.size=ds.length by simp;omega,ax.all_eq (F:=F) _ D (λj a b h1 h2=>by simp only[ja,h1,h2])]at q;exact q
  .rw[show eqD (.lst ds) (.lst es)=c_ from mH D];exact SeqAt.RcNeAt.lists_lengths (A:=A) p1.isList p2.isList (by simp;omega) n
def ok_sub{a b c Y:A'}{ds es:List A'}(J:HS a n=e_)(U:HS b n=e_)(h:a=.tup ds/\b=.tup es\/a=.lst ds/\b=.lst es)(k1:ds[j]?=a_ c)(k2:es[j]?=a_ Y):∃m,n=m+1/\HS c m=e_/\HS Y m=e_:=by
 cases n with
 |zero=>rcases h with⟨rfl,rfl⟩|⟨rfl,rfl⟩<;>simp[HS]at J
 |succ m=>exact⟨m,rfl,by rcases h with⟨rfl,rfl⟩|⟨rfl,rfl⟩<;>simp only[HS]at J U<;>exact⟨rA J k1,rA U k2⟩⟩
def eqAt_N(I:B6 X B4 σ H s)(f:aO F H):∀(n:Nat) (a b:A') {x y:V} {u v:h_} {A:Fu},HS a n=e_->HS b n=e_->aU X.K F a x->aU X.K F b y->D' x u->D' y v->A.units+n<Ez->Jd A s u v (eqD a b):=by
 intro n
 induction n with
 |zero=>intro a b x y u v A U g J d c Y t;refine(eqAt_U (tw I f U J c) (tw I f g d Y) ac).resolve_left λh=>?_;rcases t7 h with⟨ds,es,rfl,rfl⟩|⟨ds,es,rfl,rfl⟩<;>simp[HS]at U
 |succ n r=>
  intro a b x y u v A U g J d c Y t;rcases eqAt_U (A:=A) (tw I f U J c) (tw I f g d Y) ac with h|h
  .by_cases i:x=y
   .subst i;cases(show a=b from rW I f (n+1) a b J d U g);rw[mJ U];rcases t7 h with⟨ds,es,rfl,_⟩|⟨ds,es,rfl,_⟩<;>(obtain⟨l1,xs,e1,_⟩:=J;subst e1;cases c;cases Y;exact SeqAt.EqAt.same _)
   .have q:=rcAt_S (A:=A) I f h J d c Y ac λds es j D C G E L K w k1 k2 p o B g2=>by
     obtain⟨m,e,l,k⟩:=ok_sub U g w k1 k2;cases e;exact r D C l k p o B g2 (by show A.units+1+n<Ez;omega)
    rcases t7 h with⟨ds,es,rfl,rfl⟩|⟨ds,es,rfl,rfl⟩<;>(obtain⟨l1,xs,e1,_⟩:=J;obtain⟨N,ys,e2,_⟩:=d;subst e1;subst e2;cases c;cases Y;exact SeqAt.EqAt.of_refs (λz=>i (by rw[z])) q)
  .exact h
def Ct(I:B6 X B4 σ H s)(g:aO F H)(a b:A'){x:V}(e:HS a n=e_)(d:HS b n=e_)(c:aU X.K F a x)(Y:aU X.K F b y)(U:D' x u)(J:D' y v)(f:A.units+n<Ez):Jd A s u v (eqD a b):=eqAt_N I g n a b e d c Y U J f
def eqAt_I(I:B6 X B4 σ H s)(i:aO F H){a b:A'}(c:HS a n=e_)(Y:HS b n=e_)(l:A.units+n<Ez)(ds es:List A')(j:Nat)(U J:A')(x y:V)(u v:h_)(h:a=.tup ds/\b=.tup es\/a=.lst ds/\b=.lst es)(k1:ds[j]?=a_ U)(k2:es[j]?=a_ J)(g:aU X.K F U x)(f:aU X.K F J y)(k:D' x u)(g2:D' y v):Jd A.in1 s u v (eqD U J):=by obtain⟨m,rfl,e,d⟩:=ok_sub c Y h k1 k2;exact Ct I i U J e d g f k g2 (by show A.units+1+m<Ez;omega)
def rcAt_D(I:B6 X B4 σ H s)(J:aO F H)(a b:A'){x:V}(f:HS a n=e_)(e:HS b n=e_)(d:aU X.K F a x)(c:aU X.K F b y)(Y:D' x u)(U:D' y v)(g:A.units+n<Ez):MO A s u v (eqD a b):=
 (rcAt_U (tw I J f d Y) (tw I J e c U) ac).elim (λh=>rcAt_S I J h d c Y U ac (eqAt_I I J f e g)) id
def rcNeAt_D(I:B6 X B4 σ H s)(J:aO F H)(a b:A'){x:V}(f:HS a n=e_)(e:HS b n=e_)(d:aU X.K F a x)(c:aU X.K F b y)(Y:D' x u)(U:D' y v)(g:A.units+n<Ez):LS A s u v (!eqD a b):=
 (rcNeAt_U (tw I J f d Y) (tw I J e c U) ac).elim (λh=>rcNeAt_S I J h d c Y U ac (eqAt_I I J f e g)) id
end
section
variable{W:cn}{own:Bool}
def aH.blS{Q:VK}{s:k_}{b:Bool}(p:aH K W own F H (.ok (.bl b)) Q)(J:aO F H)(I:B6 X B4 σ H s):EP X B4 σ Q (.bool b) s:=⟨.bl b,H,I,rfl,p.bl J⟩
def o_eq(g:X.A.units+64<Ez)(f: ~~~(X.K=K)):Op2 K W own X (EU .Eq) eqM:=by
 subst f;intro B4 s σ H x y v u Q I c Y h;obtain⟨F,a,b,U,e,d,p⟩:=h;unfold eqM at p;by_cases J:(HS a 40&&HS b 40)=e_
 .rw[s_ J]at p;simp only[r_]at J;exact rcAt_D I U a b J.1 J.2 e d c Y ac _ _ _ _ (p.blS U I)
 .rw[q_ J]at p;exact p.stuck
def o_ne(g:X.A.units+64<Ez)(f: ~~~(X.K=K)):Op2 K W own X (EU .NotEq) neM:=by
 subst f;intro B4 s σ H x y v u Q I c Y h;obtain⟨F,a,b,U,e,d,p⟩:=h;unfold neM at p;by_cases J:(HS a 40&&HS b 40)=e_
 .rw[s_ J]at p;simp only[r_]at J;exact rcNeAt_D I U a b J.1 J.2 e d c Y ac _ _ _ _ (p.blS U I)
 .rw[q_ J]at p;exact p.stuck
end
section
variable{s:k_}
def B6.qI{t':Nat}{T:i_}{xs:am}(I:B6 X B4 σ H s)(g:∀b∈ch,Ak X B4 H b)(k:∀b o,b∉ch->s.heap.get? b=a_ o->h'.get? b=a_ o)(h:s.heap.objs.size<=T)(f:xs.length<=n_/\∃its:as,Ds xs its/\Pc h' T its.toArray):B6 X B4 σ (upd H T (.tup xs)) {s with heap:=h',toks:=t'}:=by
 have J:H T=g_:=I.hok.fresh h;have Y:∀b u,H b=a_ u->b∉ch:=λb u e z=>by rw[(g b z).1]at e;cases e
 have d:∀{b:i_} {o:H9},s.heap.get? b=a_ o->b≠T:=λ{b o} e=>Dx (DL (mf e) h);refine I.step (g':=s.gens) (d':=s.drawn) (ch:=ch) (λb a=>?_) (λb o _ _ U e _=>k b o U e) (λb o _ _ U e _=>⟨o.slots,k b o U e⟩) (λb o _ e n=>by rw[aq (d e)];exact n)
  (λb o U e=>⟨o,k b o U e⟩) (λb ys e=>by rw[aq (az e J)];exact e) (λb o u e=>by rw[aq (az e J)];exact e) (λb ps e=>⟨#[],by rw[aq (az e J),e];simp⟩) (λm j=>?_) (λb u e=>?_) I.bare
 .obtain⟨p,f1,l,f3,f4,f5⟩:=g b a;exact⟨f3,f1,f4,f5⟩
 .obtain⟨o,es,ep,i,r⟩:=j;exact⟨o,es,ep,k _ o (λz=>(g _ z).2.1 rfl) i,r⟩
 .by_cases a:b=T
  .subst a;rw[ak]at e;cases e;exact f
  .rw[aq a]at e;refine(I.hok b u e).v8 (λc v U q=>k c v ?_ q) (λc q=>?_) λc ys q=>?_
   .rcases U with z|z
    .rw[z];exact Y b u e
    .exact Y c _ z
   .rw[aq (az q J)];exact q
   .rw[aq (az q J)];exact q
def B6.qJ{t':Nat}(I:B6 X B4 σ H s)(Y:∀b∈ch,Ak X B4 H b)(k:∀b o,b∉ch->s.heap.get? b=a_ o->h'.get? b=a_ o):B6 X B4 σ H {s with heap:=h',toks:=t'}:=by
 have U:∀b u,H b=a_ u->b∉ch:=λb u e z=>by rw[(Y b z).1]at e;cases e
 refine I.step (g':=s.gens) (d':=s.drawn) (ch:=ch) (λb f=>?_) (λb o _ _ J e _=>k b o J e) (λb o _ _ J e _=>⟨o.slots,k b o J e⟩) (λb o _ e n=>n)
  (λb o J e=>⟨o,k b o J e⟩) (λb ys e=>e) (λb o u e=>e) (λb ps e=>⟨#[],by rw[e];simp⟩) (λm d=>?_) (λb u e=>?_) I.bare
 .obtain⟨h,f1,g,f3,f4,f5⟩:=Y b f;exact⟨f3,f1,f4,f5⟩
 .obtain⟨o,es,ep,a,r⟩:=d;exact⟨o,es,ep,k _ o (λz=>(Y _ z).2.1 rfl) a,r⟩
 .refine(I.hok b u e).v8 (λc v J q=>k c v ?_ q) (λ_ q=>q) λ_ _ q=>q;rcases J with z|z
  .rw[z];exact U b u e
  .exact U c _ z
end
def Ite(K:Fg)(a:i_):It:=
 ⟨λi H=>∃xs x,SqL K H a xs/\xs[i]?=a_ x,λi H x H'=>∃T y,H T=g_/\x=.ref T/\H'=upd H T (.tup [.int i,y])/\∀xs,SqL K H a xs->xs[i]?=a_ y,λi H=>∃xs,SqL K H a xs/\xs.length<=i⟩
def sU(a e f:i_)(m:e≠f):Turn P w K (.Tuple elts k pos) (Ite K a) [e,f] e (λi h=>(∃J,IsEnum h e f i J)/\h.IsListIter f a i) where
 mem:=by simp
 obj:=λi h st b U=>by
  obtain⟨⟨J,g⟩,o,e1,c,d⟩:=st;rcases p_.mp U with rfl|U
  .exact⟨_,g,λv z=>by cases z⟩
  .have:b=f:=by simpa using U
   subst this;exact⟨o,e1,λv z=>by rw[d]at z;cases z⟩
 keep:=λi h h' st O=>by obtain⟨⟨J,g⟩,Y⟩:=st;exact⟨⟨J,O e ad _ g⟩,Y.at λo x=>O f ad o x⟩
 item:=by
  intro X L hw N Q i B4 s σ H E I t st D;subst L hw N;obtain⟨⟨J,g⟩,Y⟩:=st;obtain⟨xs,x,r,B⟩:=D;obtain⟨its,A,p,S⟩:=I.list r;obtain⟨u,W,R⟩:=A.get B;refine wpAny_pyNext_enum_item g Y p.isList (x:=u) (by simpa using W) m λh1 Z l hT hsz hk=>?_;refine⟨_,rfl,Mb Z λh2 F j=>?_⟩
  have C:e<s.z:=mf g;have n:s.z≠e:=E7 C;have I1:B6 X B4 σ (upd H s.z (.tup [.int i,x])) {s with heap:=h2,toks:=s.toks+1}:=I.qI (ch:=[e,f]) t (λb o U q=>by have h3:=hk b o (λz=>U (by simp[z])) (λz=>U (by simp[z])) q;exact(j.2 b (λz=>U (by simp[z]))).trans h3) (t_ _) ⟨by show 2<=n_;decide,[.int i s.toks,u],.cons ⟨_,rfl⟩ (.cons R .nil),⟨_,(j.2 _ n).trans hT,rfl,0,rfl⟩⟩
  refine⟨.ref s.z,_,I1,rfl,⟨s.z,x,I.hok.fresh (t_ _),rfl,rfl,λys T=>by rw[I.my T r];exact B⟩,⟨⟨u,by simpa using F⟩,l.at λo y=>(j.2 f m.symm).trans y⟩,λb U=>?_⟩
  have G:=(t b U).1;have:b≠s.z:=by
   rcases p_.mp U with rfl|U
   .exact n.symm
   .have:b=f:=by simpa using U
    subst this;obtain⟨o,e1,_⟩:=Y;exact Dx (mf e1)
  rw[aq this];exact G
 done:=by intro X L hw N Q i B4 s σ H E I t st D;subst L hw N;obtain⟨⟨J,g⟩,Y⟩:=st;obtain⟨xs,r,B⟩:=D;obtain⟨its,A,p,S⟩:=I.list r;have hl:=A.length;exact wpAny_pyNext_enum_end (I.ok.hd Q) g Y p.isList (Fh (by simp;omega)) λh2 eb=>⟨rfl,I.qJ (t':=s.toks) (ch:=[e,f]) t λb o U q=>eb b o (λz=>U (by simp[z])) q⟩
 self:=λ_ _ _ _ _ st h=>by obtain⟨⟨J,g⟩,_⟩:=st;exact HR g h
theorem nM:∀(ds:List A') (k i:Nat),(cY k ds)[i]?=(ds[i]?).map λd=>.tup [.int ((k+i:Nat):Int),d]
 |[],k,i=>by simp[cY]|d::ds,k,0=>by simp[cY]|d::ds,k,i+1=>by rw[cY,Fw,nM ds (k+1) i,Fw];rw[show k+1+i=k+(i+1) by omega]
theorem fP:∀(ds:List A') (k:Nat),(cY k ds).length=ds.length
 |[],_=>rfl|d::ds,k=>by rw[cY,B_,fP ds,B_]
def uc{xs:am}{ds:List A'}(t:SqL K F a xs)(z:ax K F ds xs):pz K F (Ite K a) (cY 0 ds) where
 go:=λi F' H' Y J hi=>⟨xs,xs[i]'(by rw[z.length];rw[fP]at hi;exact hi),J.lst (Y.lst t),by rw[fP]at hi;simp[z.length,hi]⟩
 yl:=λi F' H' x H2 d Y J hd b=>by
  obtain⟨T,y,c,ex,e,b⟩:=b;subst ex e;rw[nM]at hd;cases U:ds[i]? with
  |none=>rw[U]at hd;cases hd|some d'=>
   rw[U]at hd;simp at hd;subst hd;obtain⟨v,e1,q⟩:=z.get U;have e2:=b xs (J.lst (Y.lst t));rw[e1]at e2;cases e2;refine⟨upd F' T (.tup [.int i,y]),B5.lay J c,T,_,rfl,SqT.of ak,?_⟩
   exact⟨.int i,[y],rfl,rfl,y,[],rfl,(q.mono Y).mono (aO.upd (J.free c)),rfl⟩
 st:=λF' H' Y J=>⟨xs,J.lst (Y.lst t),by rw[z.length,fP];exact t_ _⟩
section
variable{W:cn}{own:Bool}{a b:EM}{f:aa->M A'}{fr:aa->M (List A')}
def iEnum(K:Fg)(tl:TE):TI:=λσ H R=>tl σ H λx H1=>∃a,x=.ref a/\(∃xs,SqL K H1 a xs)/\R (Ite K a) H1
def pi_enum{tl:TE}(r:Gl X "enumerate")(m:X.mg "enumerate"=g_)(n:PE X a tl)(e: ~~~(j_ [a] X.env=[(c_,DC a X.env)])):
  PI X (.Tuple elts k q) (.Call (.Name "enumerate" p) [a] [] pos) (iEnum X.K tl):=by
 intro B4 s σ H R I h;have t:PA X [a] (gT tl wX):=aN n bR e;refine LM (fJ I r m boot_enumerate (DY (HH (t pos B4 s σ H (λvs H1=>match vs with
  |[x]=>∃a,x=.ref a/\(∃xs,SqL X.K H1 a xs)/\R (Ite X.K a) H1
  |_=>False) I h) λus J ⟨vs,H1,Y,i,q1⟩=>?_) e rfl))
 rcases vs with _|⟨x,_|⟨_,_⟩⟩
 .exact Ej q1
 rotate_left
 .exact Ej q1
 .obtain⟨l,e1,⟨xs,j⟩,q⟩:=q1;subst e1;obtain⟨u,rfl,g⟩:=i.one;cases g;obtain⟨its,w,pl,y⟩:=Y.list j;refine Ow pl.isList λh2 f c hsz o=>?_;have v:B6 X B4 σ H1 {J with heap:=h2}:=Y.kept (t':=J.toks) o;refine HR f ?_;refine⟨J.z+1,[J.z+1,J.z],_,_,H1,rfl,v,sU l _ _ (Jh _),⟨⟨_,f⟩,c⟩,λb d=>?_,q⟩
  have U:J.z<=b:=by
   rcases p_.mp d with rfl|d
   .exact FT _
   .have:b=J.z:=by simpa using d
    exact KQ this.symm
  exact Y.fpOk U (Y.hok.fresh U)
def ri_enum{R:It->Hp->Prop}(h:iD K W (oV fa) σ H R):iEnum K (tD K W c_ fa) σ H R:=by
 obtain⟨F,ρ,r,s,p⟩:=h;refine aK r s (λe U=>?_) λd hd v F1 H1 J q1=>?_
 .have z:oV fa ρ=.error e:=by unfold oV;rw[U];rfl
  rw[z]at p;exact p
 .have z:oV fa ρ=(ji d).bind λds=>.ok (cY 0 ds):=by unfold oV;rw[hd];rfl
  rw[z]at p;cases d with
  |lst ds=>obtain⟨b,xs,e,t,z⟩:=q1;exact⟨b,e,⟨xs,J.fh.lst t⟩,p _ F1 H1 J (uc t z)⟩
  |_=>exact(W.ns p).elim
def wg(U:X.mg "enumerate"=g_)(Y:DE K W c_ X a fa)(b: ~~~(Gl X "enumerate"))(J: ~~~(j_ [a] X.env=[(c_,DC a X.env)]))(c: ~~~(X.K=K)):
  DI K W X (.Tuple elts k q) (.Call (.Name "enumerate" p) [a] [] pos) (oV fa):=by
 subst c;exact(pi_enum b U Y J).imp λ_ _ _=>ri_enum
def cq:PTs X [] (tDT K W iL):=λB4 s σ H Q I h=>pts_nil B4 s σ H Q I (by obtain⟨F,ρ,r,J,q⟩:=h;exact q F H (B5.refl J))
def cI:PGs X [] (gk []):=pgs_nil
def b8{is:aF}(a:X.N.Nodup)(h2:PGs X es (gk is))(hi: ~~~(X.N[i]?=a_ x))(J:autoParam (Loc X.env.scope x) Jq6)(Y:autoParam (X.fn x=e_\/X.env.scope.names.lookup x=a_ .local) Jq3)(U: ~~~((Gq (.Name x p::es) X.env).map (·.2)=Iz (.Name x p) X.env::(Gq es X.env).map (·.2))):PGs X (.Name x p::es) (gk (i::is)):=xq (vz a hi J Y) h2 U
def jb{is:aF}(Y:X.calm=e_)(h:PGs X es (gk is))(U: ~~~((Gq es X.env).length=is.length))(J: ~~~((Gq es X.env).findIdx? (·.1)=g_))(a: ~~~(X.K=K)):DG K X (.Tuple es k pos) (.tp is):=by subst a;exact pg_tup Y h U J
theorem lu{ix:List (Option Nat)}:∀{is:aF},(∀i∈is,ix[i]?=a_ g_)->∀vs σ' H' (Q:St->Hp->Prop),gk is vs σ' H' Q->gk is vs σ' H' λJ H2=>Q J H2/\∀(i:Nat) v,σ'[i]?=a_ (a_ v)->(∃j,ix[i]?=a_ (a_ j))->J[i]?=a_ (a_ v)
 |[],_,vs,σ',H',Q,⟨e,q⟩=>⟨e,q,λ_ _ h _=>h⟩|i::is,d,vs,σ',H',Q,⟨v,r,e,q⟩=>by
  refine⟨v,r,e,?_⟩
  have:=lu (ix:=ix) (is:=is) (λj g=>d j (by simp[g])) r (σ'.set i (a_ v)) H' Q q;have Y:∀{is:aF} {vs:am} {U:St} {H1:Hp} {Q a:St->Hp->Prop},(∀J H2,Q J H2->a J H2)->gk is vs U H1 Q->gk is vs U H1 a:=by
   intro is
   induction is with
   |nil=>rintro vs U H1 Q a m ⟨e,q⟩;exact⟨e,m _ _ q⟩
   |cons i is f=>rintro vs U H1 Q a m ⟨v,r,e,q⟩;exact⟨v,r,e,f m q⟩
  refine Y (λJ H2 b=>?_) this;obtain⟨q1,q2⟩:=b;refine⟨q1,λj w h b=>?_⟩
  obtain⟨l,c⟩:=b;refine q2 j w ?_ ⟨l,c⟩;have:i≠j:=by rintro rfl;rw[d i ad]at c;cases c
  rw[m_ this];exact h
def iG{is:aF}(h:∀i∈is,ix[i]?=a_ g_):om ix (gP K (.tp is)):=λx σ' H' Q ⟨a,xs,e,t,l,q⟩=>⟨a,xs,e,t,l,lu h xs σ' H' Q q⟩
def gm{s:k_}(Y:N'.Nodup)(hi: ~~~(N'[i]?=a_ x))(J:autoParam (Loc (b7 X N' sc L cs s H fp).env.scope x) Jq6)(U:autoParam ((b7 X N' sc L cs s H fp).fn x=e_\/(b7 X N' sc L cs s H fp).env.scope.names.lookup x=a_ .local) Jq3):DG K (b7 X N' sc L cs s H fp) (.Name x pos) (.nm i):=pg_c Y hi J U
variable{pt:Pat}
def cx(N':List Dy)(ix:List (Option Nat))(hi:DI K W X tg iter fi)(c:∀L cs s H fp,DG K (b7 X N' sc L cs s H fp) tg pt)(a:om ix (gP K pt))(U:∀L cs s H fp,PTs (b7 X N' sc L cs s H fp) ifs (tDT K W ft))(d:∀L cs s H fp,DE K W c_ (b7 X N' sc L cs s H fp) elt fe)(e: ~~~(X.calm=e_))(J: ~~~(bB X.N X.env.scope N' sc ix=e_))(b: ~~~(sc.kind=.function))(Y:autoParam (∀x,GG iter X.env x=Ff x) Jq5):
  DE K W e_ X (.ListComp elt [⟨tg,iter,ifs,0⟩] sc pos) (cC fi ix pt ft fe):=(pe_comp N' ix e hi c a U d J b Y).imp λ_ _ _=>Bh
def tD_fr{Q:VK}(h:tD K W own f σ H Q):tD K W e_ f σ H Q:=by
 cases own with
 |true=>exact h|false=>obtain⟨F,ρ,r,s,p⟩:=h;exact⟨F,ρ,r,s,p.frz⟩
def ds_compB(own:Bool)(N':List Dy)(ix:List (Option Nat))(j:X.N.Nodup)(hi:DI K W X tg iter fi)(f:∀L cs s H fp,DG K (b7 X N' sc L cs s H fp) tg pt)(c:om ix (gP K pt))(a:∀L cs s H fp,PTs (b7 X N' sc L cs s H fp) ifs (tDT K W ft))(g:∀L cs s H fp,DE K W c_ (b7 X N' sc L cs s H fp) elt fe)(e: ~~~(X.N[i]?=a_ x))(Y: ~~~(X.env.scope.names.lookup x=a_ .local))(h: ~~~(X.calm=e_))(J: ~~~(Fd (.ListComp elt [⟨tg,iter,ifs,0⟩] sc pos) (a_ (.Name x py)) spos.line X.env=Ff e_))(U: ~~~(bB X.N X.env.scope N' sc ix=e_))(d: ~~~(sc.kind=.function))(b:autoParam (∀x,GG iter X.env x=Ff x) Jq5):
  DS K W ro X OL O (aft own i O) (.Assign [.Name x py] (.ListComp elt [⟨tg,iter,ifs,0⟩] sc pos) spos) (aM O i (cC fi ix pt ft fe)):=λF0 H0=>
 (pN N' ix j e Y h hi f c a g J U d b).imp λD σ H t=>Bh (tD_fr (Bc t))
def ds_setI{r:Pos}(g:DE K W c_ X e f)(d:DE K W c_ X b fk)(c:(i∈O)⁻¹)(j: ~~~(X.N[i]?=a_ x))(hv:autoParam (Vis X.env.scope x) Jq4)(hd:((x==("__debug__":Dy))=c_)⁻¹)(Y:((x==("__classdict__":Dy))=c_)⁻¹)(h:autoParam (∀v,Iz (.Subscript (.Name x p) b q) X.env v=(do
   let J <- Hh [v] (DC (.Name x p) X.env)
   let U <- Hh [v,J] (DC b X.env)
   JT q
   Hh [v,J,U] (OX J U v)
   release [v,J,U] [])) Jq5)(a: ~~~(MF [.Subscript (.Name x p) b q] e r.line X.env=Ff c_))(hw: ~~~(MG [.Subscript (.Name x p) b q] e X.env=Ff g_))(h1: ~~~((Gq [.Subscript (.Name x p) b q] X.env).map (·.2)=[Iz (.Subscript (.Name x p) b q) X.env])):
  DS K W ro X OL O O (.Assign [.Subscript (.Name x p) b q] e r) (vh i fk f):=λF0 H0=>(ps_asg g (pg_sub (pv i j hv hd Y) d set_list h) a hw h1).imp λ_ _ _=>rs_setI c
def spF(K:Fg)(ro:Bool)(g:List A'->M A')(n:Nat):Sp:=λvs H Q _=>∃F ds,aO F H/\ax K F ds vs/\ds.length=n/\aH K J3 ro F H (g ds) Q
def jM{ds:List A'}(h:ds.length≠n):b6 nN n g ds=stk:=by unfold b6;rw[q_ h]
def CV(F:eJ X.prog X.w X.K X.mg X.base CX0 k fad fd ps (spF K ro (b6 nN n g) n))(d:eW k X.A)(f:X.mg x=a_ (.ref fad))(i:Gw X.K (.ref fad)=e_)(l:Binds X.K fd ps [])(m:DA K J3 X (e::es) fr)(j: ~~~(Gl X x))(a:((x==("__debug__":Dy))=c_)⁻¹)(U: ~~~(j_ (e::es) X.env=(c_,DC e X.env)::j_ es X.env))(Y: ~~~((EG pos (j_ es X.env)).any (·.1)=c_)):
  DE K J3 ro X (.Call (.Name x p) (e::es) [] pos) (fL (b6 nN n g) fr):=by
 refine PE.imp (n5 F d j f i l .nil tV m a U Y) λσ H Q h=>?_;obtain⟨F,ρ,r,s,p⟩:=rd_L h;refine⟨F,ρ,r,s,?_⟩
 cases e1:fr ρ with
 |error z=>rw[e1]at p;exact p|ok ds=>
  rw[e1]at p;intro vs F' H' st q;obtain⟨F1,J,c,q1,z⟩:=p vs F' H' st q;show spF K ro (b6 nN n g) n (vs++[]) H' Q E0;rw[Fc];by_cases b:J.length=n
  .exact⟨F1,J,c,q1,b,z⟩
  .rw[jM b]at z;exact aH.stuck z
end
section
variable{base:Eg}
def t6{vs:am}{ds:List A'}(q:ax K F ds vs)(h:(ds.map a_++Eh (N.length-ds.length) g_)[i]?=a_ (a_ d)):∃v,(start N vs)[i]?=a_ (a_ v)/\aU K F d v:=by
 have hi:i<ds.length:=by
  by_cases hi:i<ds.length
  .exact hi
  .rw[Hc (by simpa using hi),I_]at h;split at h<;>cases h
 rw[EO (by simpa using hi),El]at h;cases e:ds[i]? with
 |none=>rw[e]at h;cases h|some d'=>
  rw[e]at h;cases h;obtain⟨v,e1,q1⟩:=q.get e;refine⟨v,?_,q1⟩
  unfold start;rw[EO (by rw[y_,q.length];exact hi),El,e1];rfl
theorem fn_D{f:i_}(F:Fun K x qual st f fd)(S:eR N ps (aB st))(ro:Bool)(g:aa->M C')(c:∀(cdv:h_) (A:Fu) (outer:List LH) (s:k_) (H:Hp) (E:XK),eW k (A.deeper (He qual (aB st) s.heap.objs.size f cdv)) ->
   DSs K J3 ro (uY CX0 P w K mg base N qual (aB st) f cdv A outer s H E).nox [] [] O' (bF st) g):eJ P w K mg base CX0 (k+1) f fd ps (spF K ro (b6 N.length ps.length g) ps.length):=by
 have Y:ps.length<=N.length:=by have:=Hd JP S.pre;rw[I9]at this;omega
 refine F.okX S (λvs H Q E ⟨F,ds,s,q,l,p⟩=>by rw[q.length,l]) λcdv A outer s H vs Q E U b=>?_;obtain⟨F1,ds,J,q,l,p⟩:=b;refine⟨_,c cdv A outer s H E U F1 H,F1,F1,ds.map a_++Eh (N.length-ds.length) g_,?_,?_⟩
 .refine⟨B5.refl J,aO.refl _,?_,λi d e _=>t6 q e,(λi d e h=>nomatch h),(λi j ds es a h=>nomatch h)⟩
  unfold start;rw[Eb,Eb,y_,y_,FZ,FZ,q.length]
 .have e1:b6 N.length ps.length g ds=(g (ds.map a_++Eh (N.length-ds.length) g_)).bind λfl=>match fl with
   |.nx _=>.ok .non|.rt d=>.ok d|_=>stk:=by unfold b6;exact s_ l
  rw[e1]at p;cases e2:g (ds.map a_++Eh (N.length-ds.length) g_)with
  |error z=>rw[e2]at p;exact p|ok fl=>
   rw[e2]at p;cases fl with
   |nx ρ=>exact λσ F H r=>p .non F H r.st (by cases ro<;>rfl)
   |rt d=>exact λv F H st q=>p v F H st q|bk ρ=>exact aH.stuck p|ct ρ=>exact aH.stuck p
def spLaw(K:Fg):Sp:=λvs H Q _=>∃(a:i_) (ns:aj),vs=[.ref a]/\SqL K H a (ns.map V.int)/\ns.length<=63/\∀H',Q (.bl e_) H'
theorem kU{F:Hp}:∀is:aj,ax K F (is.map A'.int) (is.map V.int)
 |[]=>rfl|i::is=>⟨.int i,is.map V.int,rfl,rfl,kU is⟩
def law_ok{f:i_}{mlaw:Nat->List A'->M A'}(F:∀n,eJ P w K mg base CX0 k f fd [x] (spF K ro (mlaw n) 1))(h:∀ns:aj,ns.length<=63->∃n,mlaw n [.lst (ns.map .int)]=.ok (.bl e_)):eJ P w K mg base CX0 k f fd [x] (spLaw K):=by
 refine⟨λvs H Q E ⟨a,ns,e,_⟩=>by rw[e];rfl,λA outer s H J us vs Q E U d g hv ⟨a,ns,e,Y,c,q⟩=>?_⟩
 obtain⟨n,b⟩:=h ns c;refine(F n).run A outer s H J us vs Q E U d g hv ⟨H,[.lst (ns.map .int)],aO.refl _,⟨.ref a,[],e,⟨a,_,rfl,Y,kU ns⟩,rfl⟩,rfl,?_⟩;rw[b];intro v F' H' st z;have:v=.bl e_:=by cases ro<;>exact z
 rw[this];exact q H'
end
structure Kit(K:Fg):Prop where
 Bk:EE K (.type "int") (.type "int")=a_ e_
 za:EE K (.type "bool") (.type "int")=a_ e_
 yX:EE K (.type "list") (.type "int")=a_ c_
 vq:EE K (.type "tuple") (.type "int")=a_ c_
 Bj:EE K (.type "str") (.type "int")=a_ c_
 oH:EE K (.type "NoneType") (.type "int")=a_ c_
 yZ:EE K (.type "int") (.type "bool")=a_ c_
 vy:EE K (.type "bool") (.type "bool")=a_ e_
 vv:EE K (.type "list") (.type "bool")=a_ c_
 tP:EE K (.type "tuple") (.type "bool")=a_ c_
 yW:EE K (.type "str") (.type "bool")=a_ c_
 mY:EE K (.type "NoneType") (.type "bool")=a_ c_
 yY:EE K (.type "int") (.type "list")=a_ c_
 vx:EE K (.type "bool") (.type "list")=a_ c_
 vt:EE K (.type "list") (.type "list")=a_ e_
 tO:EE K (.type "tuple") (.type "list")=a_ c_
 yV:EE K (.type "str") (.type "list")=a_ c_
 mX:EE K (.type "NoneType") (.type "list")=a_ c_
 q_int_tuple:EE K (.type "int") (.type "tuple")=a_ c_
 q_bool_tuple:EE K (.type "bool") (.type "tuple")=a_ c_
 q_list_tuple:EE K (.type "list") (.type "tuple")=a_ c_
 q_tuple_tuple:EE K (.type "tuple") (.type "tuple")=a_ e_
 q_str_tuple:EE K (.type "str") (.type "tuple")=a_ c_
 An:EE K (.type "NoneType") (.type "tuple")=a_ c_
 q_int_str:EE K (.type "int") (.type "str")=a_ c_
 q_bool_str:EE K (.type "bool") (.type "str")=a_ c_
 q_list_str:EE K (.type "list") (.type "str")=a_ c_
 q_tuple_str:EE K (.type "tuple") (.type "str")=a_ c_
 q_str_str:EE K (.type "str") (.type "str")=a_ e_
 q_NoneType_str:EE K (.type "NoneType") (.type "str")=a_ c_
section
variable{W:cn}{own:Bool}{a b:EM}{fr:aa->M (List A')}
def isi_D{s:k_}{x:V}{U Y bl bt bs:Bool}{Q:Vp}(I:B6 X B4 σ H s)(J:aO F H)(q:aU X.K F d x)(r:D' x u)(hi:EE X.K (.type "int") (.type T)=a_ U)(n:EE X.K (.type "bool") (.type T)=a_ Y)(m:EE X.K (.type "list") (.type T)=a_ bl)(f:EE X.K (.type "tuple") (.type T)=a_ bt)(g:EE X.K (.type "str") (.type T)=a_ bs)(j:EE X.K (.type "NoneType") (.type T)=a_ bn)(h:∀k tk,(match d with|.int _=>k=U|.bl _=>k=Y|.lst _=>k=bl|.tup _=>k=bt|.str _=>k=bs|.non=>k=bn|.ins _ _=>False|.dic _=>False|.dil _=>False)->Q (.bool k) {s with toks:=tk})(a:∀C fs,d≠.ins C fs)(c:∀ks,d≠.dic ks)(b:∀ks,d≠.dil ks):
  o_ (u_ X.prog X.w) X.A (HG (.builtin "isinstance") [u,.type T]) Q X.xe s:=by
 cases d with
 |non=>cases(show x=.non from q);cases r;exact KG PySem.W.kitx_none I.kIn Hu j (λz=>nomatch z) λtk=>h _ tk rfl
 |bl y=>cases(show x=.bl y from q);cases r;exact KG PySem.W.kitx_bool I.kIn Hu n (λz=>nomatch z) λtk=>h _ tk rfl
 |int i=>cases(show x=.int i from q);obtain⟨t,rfl⟩:=r;exact KG PySem.W.kitx_int I.kIn Hu hi (λz=>nomatch z) λtk=>h _ tk rfl
 |str y=>cases(show x=.str y from q);obtain⟨t,rfl⟩:=r;exact KG PySem.W.kitx_str I.kIn Hu g (λz=>nomatch z) λtk=>h _ tk rfl
 |lst ds=>obtain⟨l,xs,e,t,_⟩:=q;subst e;cases r;obtain⟨its,_,pl,_⟩:=I.list (J.lst t);obtain⟨o,h1,h2,_⟩:=pl.isList;exact KG PySem.W.kitx_list I.kIn ⟨o,h1,h2⟩ m (λz=>nomatch z) λtk=>h _ tk rfl
 |tup ds=>obtain⟨l,xs,e,t,_⟩:=q;subst e;cases r;obtain⟨its,_,pl,_⟩:=I.tuple (J.tup t);obtain⟨o,h1,h2,_⟩:=pl;exact KG PySem.W.kitx_tuple I.kIn ⟨o,h1,h2⟩ f (λz=>nomatch z) λtk=>h _ tk rfl
 |ins C fs=>exact DD rfl (a C fs)|dic ks=>exact DD rfl (c ks)|dil ks=>exact DD rfl (b ks)
def CU{y:Dy}{g:A'->M A'}(k:cK X (.builtin "isinstance") (λxs H Q=>∃v,xs=[v,.ty T]/\rD1 K W own g v H Q))(i:X.mg "isinstance"=g_)(c:X.mg y=g_)(Y:FV y=a_ (.type T))(l:DE K W c_ X a fa)(j: ~~~(Gl X "isinstance"))(e: ~~~(Gl X y))(f:(y≠"__name__")⁻¹)(hd:((y==("__debug__":Dy))=c_)⁻¹)(U: ~~~(j_ [a,.Name y p2] X.env=[(c_,DC a X.env),(c_,DC (.Name y p2) X.env)]))(J: ~~~(j_ [.Name y p2] X.env=[(c_,DC (.Name y p2) X.env)]))(b: ~~~((EG pos (j_ [.Name y p2] X.env)).any (·.1)=c_)):
  DE K W own X (.Call (.Name "isinstance" p) [a,.Name y p2] [] pos) (f1 g fa):=
 (gd k j i J7 (aN l (aN (pe_tyN (pos:=p2) e c Y f hd) bR J) (by rw[U,J])) ag ag (by rw[U,J]) b).imp λσ H Q h=>by
  obtain⟨F,ρ,r,s,q⟩:=rd_1 h;refine⟨F,ρ,r,s,?_⟩
  cases e1:fa ρ with
  |error z=>rw[e1]at q;exact q|ok d=>rw[e1]at q;exact λv F' H' st z=>⟨v,rfl,q v F' H' st z⟩
def Di(J:Kit K)(f: ~~~(X.K=K)):cK X (.builtin "isinstance") (λxs H Q=>∃v,xs=[v,.ty "int"]/\rD1 K W own mE v H Q):=by
 subst f;intro B4 s σ H xs us Q I r h;obtain⟨v,rfl,F,d,a,q,p⟩:=h;obtain⟨u,w,rfl,b,U⟩:=r.two;cases(show w=Gf "int" from U);by_cases hi:(∃C fs,d=.ins C fs)\/(∃ks,d=.dic ks)\/∃ks,d=.dil ks
 .rcases hi with⟨C,fs,rfl⟩|⟨ks,rfl⟩|⟨ks,rfl⟩<;>exact aH.stuck p
 .refine isi_D I a q b J.Bk J.za J.yX J.vq J.Bj J.oH (λk tk c=>⟨.bl k,H,I.tok tk,rfl,?_⟩) (λC fs e=>hi (.inl ⟨C,fs,e⟩)) (λks e=>hi (.inr (.inl ⟨ks,e⟩))) (λks e=>hi (.inr (.inr ⟨ks,e⟩)));cases d<;>first|(have Y:k=_:=c;subst Y;exact aH.bl (own:=own) p a)|exact DD (.inl ⟨_,_,rfl⟩) hi|exact DD (.inr (.inl ⟨_,rfl⟩)) hi|exact DD (.inr (.inr ⟨_,rfl⟩)) hi
def zW(U:Kit K)(e:X.mg "isinstance"=g_)(c:X.mg "int"=g_)(g:DE K W c_ X a fa)(h: ~~~(X.K=K))(f: ~~~(Gl X "isinstance"))(d: ~~~(Gl X "int"))(Y: ~~~(j_ [a,.Name "int" p2] X.env=[(c_,DC a X.env),(c_,DC (.Name "int" p2) X.env)]))(J: ~~~(j_ [.Name "int" p2] X.env=[(c_,DC (.Name "int" p2) X.env)]))(b: ~~~((EG pos (j_ [.Name "int" p2] X.env)).any (·.1)=c_)):
  DE K W own X (.Call (.Name "isinstance" p) [a,.Name "int" p2] [] pos) (f1 mE fa):=CU (Di U h) e c dkK g f d ag ag Y J b
def Ac(J:Kit K)(f: ~~~(X.K=K)):cK X (.builtin "isinstance") (λxs H Q=>∃v,xs=[v,.ty "bool"]/\rD1 K W own jX v H Q):=by
 subst f;intro B4 s σ H xs us Q I r h;obtain⟨v,rfl,F,d,a,q,p⟩:=h;obtain⟨u,w,rfl,b,U⟩:=r.two;cases(show w=Gf "bool" from U);by_cases hi:(∃C fs,d=.ins C fs)\/(∃ks,d=.dic ks)\/∃ks,d=.dil ks
 .rcases hi with⟨C,fs,rfl⟩|⟨ks,rfl⟩|⟨ks,rfl⟩<;>exact aH.stuck p
 .refine isi_D I a q b J.yZ J.vy J.vv J.tP J.yW J.mY (λk tk c=>⟨.bl k,H,I.tok tk,rfl,?_⟩) (λC fs e=>hi (.inl ⟨C,fs,e⟩)) (λks e=>hi (.inr (.inl ⟨ks,e⟩))) (λks e=>hi (.inr (.inr ⟨ks,e⟩)));cases d<;>first|(have Y:k=_:=c;subst Y;exact aH.bl (own:=own) p a)|exact DD (.inl ⟨_,_,rfl⟩) hi|exact DD (.inr (.inl ⟨_,rfl⟩)) hi|exact DD (.inr (.inr ⟨_,rfl⟩)) hi
def wk(U:Kit K)(e:X.mg "isinstance"=g_)(c:X.mg "bool"=g_)(g:DE K W c_ X a fa)(h: ~~~(X.K=K))(f: ~~~(Gl X "isinstance"))(d: ~~~(Gl X "bool"))(Y: ~~~(j_ [a,.Name "bool" p2] X.env=[(c_,DC a X.env),(c_,DC (.Name "bool" p2) X.env)]))(J: ~~~(j_ [.Name "bool" p2] X.env=[(c_,DC (.Name "bool" p2) X.env)]))(b: ~~~((EG pos (j_ [.Name "bool" p2] X.env)).any (·.1)=c_)):
  DE K W own X (.Call (.Name "isinstance" p) [a,.Name "bool" p2] [] pos) (f1 jX fa):=CU (Ac U h) e c dkK g f d ag ag Y J b
def Aa(J:Kit K)(f: ~~~(X.K=K)):cK X (.builtin "isinstance") (λxs H Q=>∃v,xs=[v,.ty "list"]/\rD1 K W own jW v H Q):=by
 subst f;intro B4 s σ H xs us Q I r h;obtain⟨v,rfl,F,d,a,q,p⟩:=h;obtain⟨u,w,rfl,b,U⟩:=r.two;cases(show w=Gf "list" from U);by_cases hi:(∃C fs,d=.ins C fs)\/(∃ks,d=.dic ks)\/∃ks,d=.dil ks
 .rcases hi with⟨C,fs,rfl⟩|⟨ks,rfl⟩|⟨ks,rfl⟩<;>exact aH.stuck p
 .refine isi_D I a q b J.yY J.vx J.vt J.tO J.yV J.mX (λk tk c=>⟨.bl k,H,I.tok tk,rfl,?_⟩) (λC fs e=>hi (.inl ⟨C,fs,e⟩)) (λks e=>hi (.inr (.inl ⟨ks,e⟩))) (λks e=>hi (.inr (.inr ⟨ks,e⟩)));cases d<;>first|(have Y:k=_:=c;subst Y;exact aH.bl (own:=own) p a)|exact DD (.inl ⟨_,_,rfl⟩) hi|exact DD (.inr (.inl ⟨_,rfl⟩)) hi|exact DD (.inr (.inr ⟨_,rfl⟩)) hi
def wj(U:Kit K)(e:X.mg "isinstance"=g_)(c:X.mg "list"=g_)(g:DE K W c_ X a fa)(h: ~~~(X.K=K))(f: ~~~(Gl X "isinstance"))(d: ~~~(Gl X "list"))(Y: ~~~(j_ [a,.Name "list" p2] X.env=[(c_,DC a X.env),(c_,DC (.Name "list" p2) X.env)]))(J: ~~~(j_ [.Name "list" p2] X.env=[(c_,DC (.Name "list" p2) X.env)]))(b: ~~~((EG pos (j_ [.Name "list" p2] X.env)).any (·.1)=c_)):
  DE K W own X (.Call (.Name "isinstance" p) [a,.Name "list" p2] [] pos) (f1 jW fa):=CU (Aa U h) e c dkK g f d ag ag Y J b
def tRng(ta:TA)(lo hi:am->Option Int):TE:=λσ H Q=>ta σ H λvs H1=>∃i j,lo vs=a_ i/\hi vs=a_ j/\(-(2^62)<=i/\i<2^62/\ -(2^62)<=j/\j<2^62)/\∀r,H1 r=g_->Q (.ref r) (upd H1 r (.rng i j))
noncomputable def lo1:am->Option Int
 |[.int _]=>a_ 0|_=>g_
noncomputable def hi1:am->Option Int
 |[.int j]=>a_ j|_=>g_
noncomputable def lo2:am->Option Int
 |[.int i,.int _]=>a_ i|_=>g_
noncomputable def hi2:am->Option Int
 |[.int _,.int j]=>a_ j|_=>g_
def xj{s:k_}{hi:Int}{t u v:Tok}{tk:Nat}(I:B6 X B4 σ H s):B6 X B4 σ (upd H s.heap.objs.size (.rng lo hi)) {s with heap:=s.heap.push {cls:=.type "range",data:=.fields #[.int lo t,.int hi u,.int 1 v]},toks:=tk}:=
 I.laid (λb o e=>d_ _ e) (t_ _) ⟨t,u,v,l_ _ rfl⟩
def Bu{ta:TA}(d:Gl X "range")(c:X.mg "range"=g_)(e:PA X [a] ta)(Y: ~~~(j_ [a] X.env=[(c_,DC a X.env)])):PE X (.Call (.Name "range" p) [a] [] pos) (tRng ta lo1 hi1):=by
 intro B4 s σ H Q I h;refine LM (fJ I d c Ms (DY (HH (e pos B4 s σ H _ I h) λus f b=>?_) Y rfl));obtain⟨vs,H1,U,J,q1⟩:=b;obtain⟨i,j,e1,e2,g,q⟩:=q1
 match vs,J,e1,e2 with
 |[.int k],J,e1,e2=>cases e1;cases e2;obtain⟨u,rfl,t,rfl⟩:=J.one;exact call_range_1 ⟨.ref _,_,xj U,rfl,q _ U.fresh⟩
def pe_rng2{ta:TA}(f:Gl X "range")(e:X.mg "range"=g_)(g:PA X [a,b] ta)(c: ~~~(j_ [a,b] X.env=[(c_,DC a X.env),(c_,DC b X.env)]))(J: ~~~(j_ [b] X.env=[(c_,DC b X.env)])):PE X (.Call (.Name "range" p) [a,b] [] pos) (tRng ta lo2 hi2):=by
 intro B4 s σ H Q I h;refine LM (fJ I f e Ms (DY (HH (g pos B4 s σ H _ I h) λus l d=>?_) (by rw[c,J]) (by rw[J];rfl)));obtain⟨vs,H1,Y,U,q1⟩:=d;obtain⟨i,j,e1,e2,n,q⟩:=q1
 match vs,U,e1,e2 with
 |[.int k,.int m],U,e1,e2=>cases e1;cases e2;obtain⟨u,w,rfl,⟨t,rfl⟩,t',rfl⟩:=U.two;exact call_range_2 ⟨.ref _,_,xj Y,rfl,q _ Y.fresh⟩
theorem Ds.of_get:∀{xs:am} {us:as},xs.length=us.length->(∀(i:Nat) v u,xs[i]?=a_ v->us[i]?=a_ u->D' v u)->Ds xs us
 |[],[],_,_=>.nil|[],_::_,h,_=>by simp at h|_::_,[],h,_=>by simp at h|x::xs,u::us,h,q=>.cons (q 0 x u rfl rfl) (Ds.of_get (by simpa using h) λi v w h1 h2=>q (i+1) v w (by simpa using h1) (by simpa using h2))
def pW:∀{n:Nat} {acc:as},acc.length=n->(∀(i:Nat) v,acc[i]?=a_ v->∃t,v=.int (lo+i) t)->Ds ((DR n).map λk:Nat=>V.int (lo+k)) acc:=by
 intro n acc J h;refine Ds.of_get (by simp[J]) λi v u e1 e2=>?_;obtain⟨t,rfl⟩:=h i u e2;have hi:i<n:=by have:=(v_.mp e1).1;simpa using this
 rw[El,J9 hi]at e1;cases e1;exact⟨t,rfl⟩
def kj(d:X.calm=e_):cK X (.type "list") (λxs H Q=>∃r lo hi,xs=[.ref r]/\H r=a_ (.rng lo hi)/\(-(2^62)<=lo/\lo<2^62/\ -(2^62)<=hi/\hi<2^62)/\(hi-lo).toNat<=n_/\∀l,H l=g_->Q (.ref l) (upd H l (.lst ((DR (hi-lo).toNat).map λk:Nat=>V.int (lo+k))))):=by
 intro B4 s σ H xs us Q I b h;obtain⟨r,lo,hi,rfl,f,⟨p,o,m,j⟩,Y,q⟩:=h;obtain⟨u,rfl,a⟩:=b.one;cases a;obtain⟨t,u,v,e⟩:=(show ∃t u v,s.heap.get? r=a_ {cls:=.type "range",data:=.fields #[.int lo t,.int hi u,.int 1 v]}from I.hok r _ f)
 refine call_list_range (n:=(hi-lo).toNat) (I.ok.hd d) e (Pg p o m j) (by rw[MJ];split<;>omega) (by rw[Ey]at Y;omega) λh' tk J g c e2 U=>?_;have hv:Ds ((DR (hi-lo).toNat).map λk:Nat=>V.int (lo+k)) J.toList:=pW (by rw[DO];exact U.1) λi v hi=>by obtain⟨t,e⟩:=U.2 i v (by simpa using hi);exact⟨t,by rw[e,MU]⟩
 exact⟨.ref _,_,I.laid (t':=tk) c (t_ _) (show cz X.prog X.w _ h' _ (.lst _)from⟨by simpa using Y,J.toList,g,hv,by simpa using e2⟩),rfl,q _ I.fresh⟩
def nP(lo:Int)(n:Nat):ax K F (aJ lo n) ((DR n).map λk:Nat=>V.int (lo+k)):=by
 refine ax.of_get (by simp[aJ]) λi d v h1 h2=>?_;have hi:i<n:=by have:=(v_.mp h2).1;simpa using this
 unfold aJ at h1;rw[El,J9 hi]at h1 h2;cases h1;cases h2;rfl
def xx{Q:VK}{i j:Int}(p:aH K W e_ F H1 (bc (aJ i (j-i).toNat)) Q)(s:aO F H1)(a:H1 r=g_):
  (j-i).toNat<=n_/\∀l,upd H1 r (.rng i j) l=g_->Q (.ref l) (upd (upd H1 r (.rng i j)) l (.lst ((DR (j-i).toNat).map λk:Nat=>V.int (i+k)))):=by
 unfold bc at p;by_cases Y:(aJ i (j-i).toNat).length<=n_
 .rw[s_ Y]at p;refine⟨by simpa[aJ] using Y,λl J=>?_⟩
  have U:B5 F H1 F (upd H1 r (.rng i j)):=B5.grow s a;have e:H1 l=g_:=U.hh.free J;exact p _ F _ (U.trans (B5.grow U.fh J)) ⟨l,_,rfl,ak,s.free e,e,nP i _⟩
 .rw[q_ Y]at p;exact(W.ns p).elim
def de_lrng1(c:X.mg "list"=g_)(m:X.mg "range"=g_)(t:DA K W X [a] fr)(q: ~~~(X.calm=e_))(n: ~~~(Gl X "range"))(d: ~~~(Gl X "list"))(l: ~~~(j_ [a] X.env=[(c_,DC a X.env)]))(U: ~~~(j_ [.Call (.Name "range" q1) [a] [] q2] X.env=[(c_,DC (.Call (.Name "range" q1) [a] [] q2) X.env)])):DE K W e_ X (.Call (.Name "list" p) [.Call (.Name "range" q1) [a] [] q2] [] pos) (fLR (gL iS fr)):=by
 refine PE.imp (iw (kj q) d c Fs (aN (Bu n m t l) bR U) ag ag U rfl) λσ H Q h=>?_;obtain⟨F,ρ,r,s,p⟩:=h;refine gS r s (λe o=>p.err (by unfold fLR gL;rw[o];rfl)) λds hd xs F1 H1 f q1=>?_;have e1:fLR (gL iS fr) ρ=(iS ds).bind bc:=by unfold fLR gL;rw[hd];rfl
 rw[e1]at p;have p1:=p.step f;by_cases Y:∃j,ds=[.int j]
 .obtain⟨j,rfl⟩:=Y;obtain⟨v,vs,e2,q2,e3⟩:=q1;have p2:aH K W e_ F1 H1 ((if bh j=e_ then EI (aJ 0 j.toNat)else FE Err.stuck:M (List A')).bind bc) Q:=p1;by_cases J:bh j=e_
  .rw[s_ J]at p2;unfold bh at J;simp only[r_,DX]at J;have e4:xs=[.int j]:=by rw[e2,show v=.int j from q2,show vs=[]from e3]
   subst e4;refine⟨0,j,rfl,rfl,⟨ag,ag,J.1,J.2⟩,λk b=>?_⟩
   have p3:aH K W e_ F1 H1 (bc (aJ 0 (j-0).toNat)) Q:=by rw[Pz];exact p2
   obtain⟨i,g⟩:=xx p3 f.fh b;exact⟨k,0,j,rfl,ak,⟨ag,ag,J.1,J.2⟩,i,g⟩
  .rw[q_ J]at p2;exact(W.ns p2).elim
 .have:iS ds=.error .stuck:=by
   unfold iS;split
   .exact DD ⟨_,rfl⟩ Y
   .rfl
  rw[this]at p1;exact(W.ns p1).elim
def de_lrng2(g:X.mg "list"=g_)(w:X.mg "range"=g_)(A:DA K W X [a,b] fr)(z: ~~~(X.calm=e_))(x: ~~~(Gl X "range"))(k: ~~~(Gl X "list"))(u: ~~~(j_ [a,b] X.env=[(c_,DC a X.env),(c_,DC b X.env)]))(d: ~~~(j_ [b] X.env=[(c_,DC b X.env)]))(U: ~~~(j_ [.Call (.Name "range" q1) [a,b] [] q2] X.env=[(c_,DC (.Call (.Name "range" q1) [a,b] [] q2) X.env)])):DE K W e_ X (.Call (.Name "list" p) [.Call (.Name "range" q1) [a,b] [] q2] [] pos) (fLR (gL xk fr)):=by
 refine PE.imp (iw (kj z) k g Fs (aN (pe_rng2 x w A u d) bR U) ag ag U rfl) λσ H Q h=>?_;obtain⟨F,ρ,r,s,p⟩:=h;refine gS r s (λe y=>p.err (by unfold fLR gL;rw[y];rfl)) λds hd xs F1 H1 l q1=>?_;have e1:fLR (gL xk fr) ρ=(xk ds).bind bc:=by unfold fLR gL;rw[hd];rfl
 rw[e1]at p;have p1:=p.step l;by_cases Y:∃i j,ds=[.int i,.int j]
 .obtain⟨i,j,rfl⟩:=Y;obtain⟨v,vs,e2,q2,o,c,e3,t,e4⟩:=q1;have p2:aH K W e_ F1 H1 ((if (bh i&&bh j)=e_ then EI (aJ i (j-i).toNat)else FE Err.stuck:M (List A')).bind bc) Q:=p1;by_cases J:(bh i&&bh j)=e_
  .rw[s_ J]at p2;unfold bh at J;simp only[r_,DX]at J;have e5:xs=[.int i,.int j]:=by rw[e2,show v=.int i from q2,e3,show o=.int j from t,show c=[]from e4]
   subst e5;refine⟨i,j,rfl,rfl,⟨J.1.1,J.1.2,J.2.1,J.2.2⟩,λq f=>?_⟩
   obtain⟨n,m⟩:=xx p2 l.fh f;exact⟨q,i,j,rfl,ak,⟨J.1.1,J.1.2,J.2.1,J.2.2⟩,n,m⟩
  .rw[q_ J]at p2;exact(W.ns p2).elim
 .have:xk ds=.error .stuck:=by
   unfold xk;split
   .exact DD ⟨_,_,rfl⟩ Y
   .rfl
  rw[this]at p1;exact(W.ns p1).elim
end
def cO{s:k_}{is:aF}(a:N'.Nodup)(h2:PGs (b7 X N' sc L cs s H fp) es (gk is))(hi: ~~~(N'[i]?=a_ x))(J:autoParam (Loc (b7 X N' sc L cs s H fp).env.scope x) Jq6)(Y:autoParam ((b7 X N' sc L cs s H fp).fn x=e_\/(b7 X N' sc L cs s H fp).env.scope.names.lookup x=a_ .local) Jq3)(U: ~~~((Gq (.Name x p::es) (b7 X N' sc L cs s H fp).env).map (·.2)=Iz (.Name x p) (b7 X N' sc L cs s H fp).env::(Gq es (b7 X N' sc L cs s H fp).env).map (·.2))):PGs (b7 X N' sc L cs s H fp) (.Name x p::es) (gk (i::is)):=xq (pg_c a hi J Y) h2 U
open PySem.W in
section
open PySem.W
end
def insL{α:Type}(lt:α->α->Bool)(x:α):List α->List α
 |[]=>[x]|y::ys=>if lt y x=e_ then y::insL lt x ys else x::y::ys
def dU{α:Type}(lt:α->α->Bool):List α->List α
 |[]=>[]|x::xs=>insL lt x (dU lt xs)
noncomputable def ltZ(a b:Int):Bool:=z_ (a<b)
noncomputable def cU(t:aj):A':=.tup (t.map .int)
def tupD:A'->M aj
 |.tup ds=>bD ds|_=>stk
def il:List A'->M (List aj)
 |[]=>.ok []|d::ds=>(tupD d).bind λt=>(il ds).bind λr=>.ok (t::r)
section
variable{lt:α->α->Bool}
structure Ord(lt:α->α->Bool):Prop where
 irr:∀a,lt a a=c_
 tr:∀a b c,lt a b=e_->lt b c=e_->lt a c=e_
 tot:∀a b,lt a b=c_->lt b a=c_->a=b
theorem ue(x:α):∀l:List α,(insL lt x l).Perm (x::l)
 |[]=>Gm _|y::ys=>by
  rw[insL];split
  .exact((ue x ys).cons y).trans (KR x y ys)
  .exact Gm _
theorem d7:∀l:List α,(dU lt l).Perm l
 |[]=>Gm _|x::xs=>(ue x _).trans ((d7 xs).cons x)
def Ord.le_trans(o:Ord lt){a b c:α}(h1:lt b a=c_)(h2:lt c b=c_):lt c a=c_:=by
 cases h:lt c a with
 |false=>rfl|true=>
  cases J:lt b c with
  |true=>rw[o.tr b c a J h]at h1;cases h1|false=>have:=o.tot c b h2 J;subst this;rw[h]at h1;cases h1
end
section
open PySem.W
variable{lt:α->α->Bool}
theorem vP:∀{J:List α},J.length<2->dU lt J=J
 |[],_=>rfl|[x],_=>rfl|_::_::_,h=>by simp at h;omega
def tup_deep{F:Hp}{t:aj}(h:tupD d=.ok t):d=cU t:=by
 cases d with
 |tup ds=>
  have:∀{ds:List A'} {t:aj},bD ds=.ok t->ds=t.map .int:=by
   intro ds
   induction ds with
   |nil=>intro t h;cases h;rfl|cons d ds J=>
    intro t h;cases d with
    |int i=>
     cases e:bD ds with
     |error x=>simp only[bD,asI,av,e,i0]at h;cases h|ok r=>simp only[bD,asI,av,e]at h;cases h;rw[J e];rfl
    |_=>cases h
  unfold cU;rw[this h]
 |_=>cases h
theorem sW:∀{ds:List A'} {ts:List aj},il ds=.ok ts->ds=ts.map cU
 |[],_,h=>by cases h;rfl|d::ds,ts,h=>by
  cases e:tupD d with
  |error x=>simp only[il,e,i0]at h;cases h|ok t=>
   cases e2:il ds with
   |error x=>simp only[il,e,av,e2,i0]at h;cases h|ok r=>simp only[il,e,av,e2]at h;cases h;rw[tup_deep (F:=λ_=>g_) e,sW e2];rfl
theorem sX:∀{ds:List A'} {e:Err},il ds=.error e->e=.stuck
 |[],_,h=>by cases h|d::ds,e,h=>by
  cases e1:tupD d with
  |error x=>
   simp only[il,e1,i0]at h;cases h;cases d with
   |tup ds=>exact dA e1|_=>cases e1;rfl
  |ok t=>
   cases e2:il ds with
   |error x=>simp only[il,e1,av,e2,i0]at h;cases h;exact sX e2|ok r=>simp only[il,e1,av,e2]at h;cases h
end
noncomputable def cX(n d:Nat):Option Int->Nat
 |none=>d|some v=>if v<0 then(v+(n:Int)).toNat else min v.toNat n
def Ar(xs:List α)(lo hi:Option Int):List α:=(xs.drop (cX xs.length 0 lo)).take (cX xs.length xs.length hi-cX xs.length 0 lo)
def gF:A'->Option Int->Option Int->M A'
 |.lst ds,lo,hi=>.ok (.lst (Ar ds lo hi))|.tup ds,lo,hi=>if (z_ (cX ds.length 0 lo=0)&&z_ (cX ds.length ds.length hi=ds.length))=e_ then stk else .ok (.tup (Ar ds lo hi))
 |_,_,_=>stk
noncomputable def tX:aa->M (Option Int):=λ_=>.ok g_
def lV(f:aa->M A'):aa->M (Option Int):=λρ=>(f ρ).bind λd=>(asI d).bind λi=>.ok (a_ i)
noncomputable def fSl(g:A'->Option Int->Option Int->M A')(fa:aa->M A')(fl fu:aa->M (Option Int)):aa->M A':=λρ=>(fa ρ).bind λa=>(fl ρ).bind λl=>(fu ρ).bind λu=>g a l u
def extD(ρ:aa)(i:Nat)(ds:List A'):A'->M C'
 |.lst es=>if ds.length+es.length<=n_ then put ρ i (ds++es)else stk
 |_=>stk
def sExt(O:aF)(i:Nat)(f:aa->M A'):aa->M C':=λρ=>(ig ρ i).bind λds=>(f (erase O ρ)).bind λd=>extD ρ i ds d
section
variable{W:cn}{own:Bool}{a b d:EM}{lo hi:Option EM}{r t u:Pos}{f:aa->M A'}{fu:aa->M (Option Int)}
def tDO(K:Fg)(W:cn)(f:aa->M (Option Int)):TO:=λσ H Q=>∃F ρ,jc K F σ ρ/\aO F H/\(match f ρ with
 |.ok o=>∀F' H',B5 F H F' H'->Q o H'|.error e=>W.p e F H)
def AR{R:Option Int->Hp->Prop}(r:jc K F σ ρ)(s:aO F H)(U:∀e,fl ρ=.error e->W.p e F H)(J:∀o,fl ρ=.ok o->∀F1 H1,B5 F H F1 H1->R o H1):tDO K W fl σ H R:=by
 refine⟨F,ρ,r,s,?_⟩
 cases e:fl ρ with
 |ok d=>exact J d e|error x=>exact U x e
abbrev DP(K:Fg)(W:cn)(X:Cx)(e:Option EM)(f:aa->M (Option Int)):Prop:=PO X e (tDO K W f)
def PO.imp{t t':TO}(h:PO X lo t)(q:∀σ H Q,t' σ H Q->t σ H Q):PO X lo t':=λB4 s σ H Q I z=>h B4 s σ H Q I (q σ H Q z)
def rT:DP K W X g_ tX:=po_none.imp λσ H Q ⟨F,ρ,r,s,p⟩=>p F H (B5.refl s)
def rR(h:DE K W c_ X e f):DP K W X (a_ e) (lV f):=(po_some h).imp λσ H Q ⟨F,ρ,r,s,p⟩=>by
 refine aK r s (λe U=>?_) λd hd v F1 H1 J q1=>?_
 .have z:lV f ρ=.error e:=by unfold lV;rw[U];rfl
  rw[z]at p;exact p
 .have z:lV f ρ=(asI d).bind λi=>.ok (a_ i):=by unfold lV;rw[hd];rfl
  rw[z]at p;cases d with
  |int i=>exact⟨i,q1,p F1 H1 J⟩|_=>exact(W.ns p).elim
def rDS(K:Fg)(W:cn)(own:Bool)(g:A'->Option Int->Option Int->M A'):V->Option Int->Option Int->Hp->VK->Prop:=λx lo hi H Q=>∃F a,aO F H/\aU K F a x/\aH K W own F H (g a lo hi) Q
def rd_sl{g:A'->Option Int->Option Int->M A'}{Q:VK}(h:tD K W own (fSl g fa fl fu) σ H Q):tSl (rDS K W own g) (tD K W c_ fa) (tDO K W fl) (tDO K W fu) σ H Q:=by
 obtain⟨F,ρ,r,s,p⟩:=h;refine aK r s (λe Y=>p.err (by unfold fSl;rw[Y];rfl)) λa c x F1 H1 J q1=>?_;refine AR (r.mono J.ff) J.fh (λe Y=>(p.step J).err (by unfold fSl;rw[c];show(fl ρ).bind _=_;rw[Y];rfl)) λl d F2 H2 U=>?_;refine AR ((r.mono J.ff).mono U.ff) U.fh (λe Y=>(p.step (J.trans U)).err (by unfold fSl;rw[c];show(fl ρ).bind _=_;rw[d];show(fu ρ).bind _=_;rw[Y];rfl)) λu f i j b=>?_;refine⟨i,a,b.fh,aU.mono (U.trans b).ff q1,?_⟩
 have e:fSl g fa fl fu ρ=g a l u:=by unfold fSl;rw[c];show(fl ρ).bind _=_;rw[d];show(fu ρ).bind _=_;rw[f];rfl
 rw[e]at p;exact p.step ((J.trans U).trans b)
def de_sl{g:A'->Option Int->Option Int->M A'}(U:SlR X (rDS K W own g))(b:DE K W c_ X a fa)(Y:DP K W X lo fl)(J:DP K W X hi fu):DE K W own X (.Subscript a (.Slice lo hi g_ p2) pos) (fSl g fa fl fu):=(pe_slice U b Y J).imp λ_ _ _=>rd_sl
def yq(n d:Nat)(o:Option Int):cX n d o=HT.sIx n d o:=by cases o<;>rfl
def ax.cut{ds:List A'}{xs:am}{l u:Option Int}(h:ax K F ds xs):ax K F (Ar ds l u) (cutV xs l u):=by unfold Ar cutV;rw[yq,yq,h.length];exact ax.take _ (ax.drop _ h)
def x_sl(k: ~~~(X.K=K)):SlR X (rDS K W e_ gF):=by
 subst k;intro B4 s σ H x v f d lo hi sl Q I g j pl i h;refine(SlR.or sl_list sl_tup) B4 s σ H x v f d lo hi sl Q I g j pl i ?_;obtain⟨F,a,J,c,p⟩:=h;cases a with
 |lst ds=>obtain⟨l,xs,e,t,z⟩:=c;exact .inl ⟨l,xs,e,J.lst t,λr Y=>aH.lst p J z.cut Y⟩
 |tup ds=>
  obtain⟨l,xs,e,t,z⟩:=c;have U:aH X.K W e_ F H (if (z_ (cX ds.length 0 lo=0)&&z_ (cX ds.length ds.length hi=ds.length))=e_ then stk else .ok (.tup (Ar ds lo hi))) Q:=p;by_cases b:(z_ (cX ds.length 0 lo=0)&&z_ (cX ds.length ds.length hi=ds.length))=e_
  .rw[s_ b]at U;exact U.stuck
  .rw[q_ b]at U;refine .inr ⟨l,xs,e,J.tup t,λhw=>b ?_,λr Y=>aH.tup U J z.cut Y⟩;rw[yq,yq,<- z.length];simp only[r_,DX];exact hw
 |_=>exact aH.stuck p
def rs_ext(hi:i∈O)(t:tS K W ro F0 H0 OL O O (sExt O i f) D σ H):yK (tBM K "list" Bi (Am i) (gT (tD K W e_ f) wX)) D σ H:=by
 obtain⟨FB,F,ρ,r,p⟩:=t;cases J:ig ρ i with
 |error e=>have:=nh J;subst this;exact p.stuck (by unfold sExt;rw[J];rfl)|ok ds=>
  obtain⟨a,xs,e2,g,z⟩:=r.BS hi (j3 J);refine⟨.ref a,e2,qH g,?_⟩
  refine aK r.gU r.st.fh (λe j=>p.fO r.st (by unfold sExt;rw[J];show(f (erase O ρ)).bind _=_;rw[j];rfl)) λd hd v F1 H1 U q=>?_;have l:sExt O i f ρ=extD ρ i ds d:=by unfold sExt;rw[J];show(f (erase O ρ)).bind _=_;rw[hd];rfl
  rw[l]at p;cases d with
  |lst es=>
   obtain⟨b,h,e3,k,_,_,c⟩:=q;by_cases Y:ds.length+es.length<=n_
   .have ep:extD ρ i ds (.lst es)=put ρ i (ds++es):=s_ Y;rw[ep]at p;exact⟨a,b,xs,h,rfl,by rw[e3],U.hh _ _ g,k,by rw[z.length,c.length];exact Y,p σ F1 _ ((r.step U).write hi (j3 J) e2 (ax.append (z.mono U.ff) c))⟩
   .exact p.stuck (q_ Y)
  |_=>exact p.stuck rfl
def ds_ext(h:DE K W e_ X e f)(g:(i∈O)⁻¹)(j: ~~~(X.N[i]?=a_ x))(hv:autoParam (Vis X.env.scope x) Jq4)(hd:((x==("__debug__":Dy))=c_)⁻¹)(d:((x==("__classdict__":Dy))=c_)⁻¹)(k: ~~~(X.K=K))(a: ~~~(j_ [e] X.env=[(c_,DC e X.env)]))(Y: ~~~(E5 (.Name x p) "extend" X.env (DC (.Name x p) X.env)=DC (.Name x p) X.env))(b: ~~~(((EG q (j_ [e] X.env)).all (λx=> !x.1)&&(Ir q (GZ [] X.env)).all (λx=>x.1.isSome)&&z_ ([e].length+([]:List Io).length+(if ([]:List Io).isEmpty then 0 else 1)<30))=e_))(J: ~~~((EG q (j_ [] X.env)).any (·.1)=c_))(U: ~~~((apos.endLine==q.line)=e_))(c: ~~~(Fd (.Call (.Attribute (.Name x p) "extend" apos) [e] [] q) g_ pos.line X.env=Ff c_)):
  DS K W ro X OL O O (.Expr (.Call (.Attribute (.Name x p) "extend" apos) [e] [] q) pos) (sExt O i f):=λF0 H0=>by
 subst k;exact PS.imp (mZ (pe_bm Ho Mo PySem.F.type_list_extend BP (pv i j hv hd d) (aN h bR a) Y b U a J) c) λ_ _ _=>rs_ext g
end
section
variable{fu:aa->M (Option Int)}
@[simp]def e_pNone:tX ρ=.ok g_:=id rfl
@[simp]def e_pSome:lV fa ρ=(fa ρ).bind λd=>(asI d).bind λi=>.ok (a_ i):=id rfl
@[simp]def e_slF(k:A'->Option Int->Option Int->M A'):fSl k fa fl fu ρ=(fa ρ).bind λa=>(fl ρ).bind λl=>(fu ρ).bind λu=>k a l u:=id rfl
@[simp]def e_sliceL(ds:List A')(lo hi:Option Int):gF (.lst ds) lo hi=.ok (.lst (Ar ds lo hi)):=id rfl
@[simp]def e_pow{i j:Int}(J:0<=j)(h1:j<=1000000)(h2:i.natAbs<2^64):powD (.int i) (.int j)=.ok (.int (i^j.toNat)):=by show(if (z_ (0<=j)&&z_ (j<=1000000)&&z_ (i.natAbs<2^64))=e_ then _ else _)=_;rw[s_ (by simp only[r_,DX];exact⟨⟨J,h1⟩,h2⟩)]
@[simp]def e_eqII(i j:Int):eqM (.int i) (.int j)=.ok (.bl (z_ (i=j))):=by show EI (A'.bl (i==j))=_;rw[show(i==j)=z_ (i=j)from rfl]
@[simp]def e_neII(i j:Int):neM (.int i) (.int j)=.ok (.bl (!decide (i=j))):=by show EI (A'.bl (!(i==j)))=_;rw[show(i==j)=z_ (i=j)from rfl]
@[simp]def cut_take{α:Type}(xs:List α){j:Int}(h:0<=j):Ar xs g_ (a_ j)=xs.take j.toNat:=by
 unfold Ar cX;simp only[q_ (show ¬j<0 by omega),Iw,Pt];rcases Px j.toNat xs.length with h1|h1
 .rw[Lk h1]
 .rw[Ol h1,NQ,HD h1]
@[simp]def cut_drop{α:Type}(xs:List α){j:Int}(h:0<=j):Ar xs (a_ j) g_=xs.drop j.toNat:=by
 unfold Ar cX;simp only[q_ (show ¬j<0 by omega)];rcases Px j.toNat xs.length with h1|h1
 .rw[Lk h1,HD ad]
 .rw[Ol h1,List.drop_of_length_le h1,Jb];simp
end
def revD:A'->M A'
 |.lst ds=>.ok (.lst ds.reverse)|_=>stk
def oj(Cs:List i_)(x:Dy):A'->M A'
 |.ins C fs=>if Cs.contains C=e_ then(match fs.lookup x with
  |some d=>.ok d|none=>stk)else stk
 |_=>stk
def isC(C:i_)(m:Dy):A'->Bool
 |.ins D fs=>(D==C)&&(fs.lookup m).isNone|_=>c_
def kc(C:i_)(m:Dy)(g:List A'->M A')(fo:aa->M A')(fr:aa->M (List A')):aa->M A':=λρ=>(fo ρ).bind λo=>if isC C m o=e_ then(fr ρ).bind λJ=>g (o::J)else stk
def bS(C C2:i_)(m:Dy)(g g2:List A'->M A')(fo:aa->M A')(fr:aa->M (List A')):aa->M A':=λρ=>(fo ρ).bind λo=>if isC C m o=e_ then(fr ρ).bind λJ=>g (o::J)else if isC C2 m o=e_ then(fr ρ).bind λJ=>g2 (o::J)else stk
def newR(C:i_)(g:List A'->M A'):List A'->M A'
 |[d]=>(g [d]).bind λr=>.ok (.ins C [("gaps",r)])|_=>stk
def twoL:A'->A'->Bool
 |.lst xs,.lst ys=>z_ (xs.length=ys.length)|_,_=>c_
def newP(C:i_)(g:List A'->M A'):List A'->M A'
 |[d,e]=>(g [d]).bind λr=>(g [e]).bind λJ=>if twoL r J=e_ then .ok (.ins C [("gaps",r),("beside",J)])else stk
 |_=>stk
def sStk:aa->M C':=λ_=>stk
section
variable{W:cn}{own:Bool}{o a b c d:EM}{y m:Dy}{f:aa->M A'}{fr:aa->M (List A')}{Cs:List i_}
def CD:DS K W ro X OL O O' st sStk:=λF0 H0 B4 s σ H D I h=>by obtain⟨FB,F,ρ,r,p⟩:=h;exact p.stuck rfl
theorem i3.at{F:Hp}{x:Dy}:∀{gs:List (Dy×A')} {fs:List (Dy×V)},i3 K F gs fs->(∀d,gs.lookup x=a_ d->∃v,fs.lookup x=a_ v/\aU K F d v)/\(gs.lookup x=g_->fs.lookup x=g_)
 |[],fs,h=>by cases(show fs=[]from h);exact⟨λd h=>by simp at h,λ_=>rfl⟩|(g,d)::gs,fs,h=>by
  obtain⟨v,r,rfl,h1,h2⟩:=h;have J:=i3.at (x:=x) h2;rw[A_,A_];cases e:x==g with
  |true=>exact⟨λd' h'=>by cases h';exact⟨v,rfl,h1⟩,λh'=>by cases h'⟩|false=>exact J
def uD(j:∀C∈Cs,Cls K C/\ic K C y)(b:DE K W c_ X e fa)(f: ~~~(E5 e y X.env (DC e X.env)=DC e X.env))(i: ~~~(X.K=K)):DE K W c_ X (.Attribute e y pos) (f1 (oj Cs y) fa):=by
 subst i;refine(By b f).imp λσ H Q h=>?_;obtain⟨F,ρ,r,s,p⟩:=h;refine aK r s (λe b=>p.err (by unfold f1;rw[b];rfl)) λa g x F1 H1 U q1=>?_;have k:f1 (oj Cs y) fa ρ=oj Cs y a:=by unfold f1;rw[g];rfl
 rw[k]at p;cases a with
 |ins C gs=>
  obtain⟨l,dx,fs,e1,ea,m⟩:=q1;have J:aH X.K W c_ F H (if Cs.contains C=e_ then(match gs.lookup y with
   |some d=>.ok d|none=>stk)else stk) Q:=p
  by_cases c:Cs.contains C=e_
  .rw[s_ c]at J;obtain⟨h1,h2⟩:=j C (by simpa using c);cases Y:gs.lookup y with
   |none=>rw[Y]at J;exact aH.stuck J|some d=>rw[Y]at J;obtain⟨v,hv,hd⟩:=m.at.1 d Y;exact⟨l,C,dx,fs,v,e1,U.fh _ _ ea,h1,h2,hv,(J.step U) v F1 H1 (B5.refl U.fh) hd⟩
  .rw[q_ c]at J;exact aH.stuck J
 |_=>exact aH.stuck p
def PE.or{U J:TE}(h1:PE X e U)(h2:PE X e J):PE X e (λσ H Q=>U σ H Q\/J σ H Q):=λB4 s σ H Q I h=>h.elim (h1 B4 s σ H Q I) (h2 B4 s σ H Q I)
def Bg{Q:VK}(h:tD K J3 ro (kc C m (b6 nN n g) fo fr) σ H Q):tMeth C m (spF K ro (b6 nN n g) n) [] E0 (tD K J3 c_ fo) (tDA K J3 fr) σ H Q:=by
 obtain⟨F,ρ,r,s,p⟩:=h;refine aK r s (λe c=>p.err (by unfold kc;rw[c];rfl)) λo k x F1 H1 Y q1=>?_;have t:kc C m (b6 nN n g) fo fr ρ=if isC C m o=e_ then(fr ρ).bind λU=>b6 nN n g (o::U)else stk:=by unfold kc;rw[k];rfl
 rw[t]at p;by_cases a:isC C m o=e_
 .rw[s_ a]at p;cases o with
  |ins D gs=>
   obtain⟨l,dx,fs,e1,ea,u⟩:=id q1;have J:((D==C)&&(gs.lookup m).isNone)=e_:=a;rw[r_]at J;obtain⟨f,q⟩:=J;have f:D=C:=by simpa using f
   subst f;refine⟨l,dx,fs,e1,Y.fh _ _ ea,u.at.2 (by simpa using q),?_⟩
   have p:=p.step Y;refine gS (r.mono Y.ff) Y.fh (λe c=>p.err (by rw[c];rfl)) λU d vs F2 H2 b j=>?_;rw[d]at p;have p:aH K J3 ro F1 H1 (b6 nN n g (.ins D gs::U)) Q:=p;have p:=p.step b;show spF K ro (b6 nN n g) n (x::(vs++[])) H2 Q E0;rw[Fc];by_cases i:(A'.ins D gs::U).length=n
   .exact⟨F2,.ins D gs::U,b.fh,⟨x,vs,rfl,aU.mono b.ff q1,j⟩,i,p⟩
   .rw[jM i]at p;exact aH.stuck p
  |_=>cases a
 .rw[q_ a]at p;exact aH.stuck p
def xm{Q:VK}(h:tD K J3 ro (bS C C2 m (b6 nN n g) (b6 nN2 n2 g2) fo fr) σ H Q):
  tD K J3 ro (kc C m (b6 nN n g) fo fr) σ H Q\/tD K J3 ro (kc C2 m (b6 nN2 n2 g2) fo fr) σ H Q:=by
 obtain⟨F,ρ,r,s,p⟩:=h;cases U:fo ρ with
 |error e=>
  refine .inl ⟨F,ρ,r,s,?_⟩;have e1:bS C C2 m (b6 nN n g) (b6 nN2 n2 g2) fo fr ρ=.error e:=by unfold bS;rw[U];rfl
  have e2:kc C m (b6 nN n g) fo fr ρ=.error e:=by unfold kc;rw[U];rfl
  rw[e1]at p;rw[e2];exact p
 |ok o=>
  have e1:bS C C2 m (b6 nN n g) (b6 nN2 n2 g2) fo fr ρ=if isC C m o=e_ then(fr ρ).bind λJ=>b6 nN n g (o::J)else if isC C2 m o=e_ then(fr ρ).bind λJ=>b6 nN2 n2 g2 (o::J)else stk:=by unfold bS;rw[U];rfl
  have e2:kc C m (b6 nN n g) fo fr ρ=if isC C m o=e_ then(fr ρ).bind λJ=>b6 nN n g (o::J)else stk:=by unfold kc;rw[U];rfl
  have e3:kc C2 m (b6 nN2 n2 g2) fo fr ρ=if isC C2 m o=e_ then(fr ρ).bind λJ=>b6 nN2 n2 g2 (o::J)else stk:=by unfold kc;rw[U];rfl
  rw[e1]at p;by_cases Y:isC C m o=e_
  .rw[s_ Y]at p e2;exact .inl ⟨F,ρ,r,s,by rw[e2];exact p⟩
  .rw[q_ Y]at p;exact .inr ⟨F,ρ,r,s,by rw[e3];exact p⟩
def yB(X:Cx)(o:EM)(m:Dy)(apos:Pos)(es:List EM)(pos:Pos)(pl:NI Bool):Prop:=DC (.Call (.Attribute o m apos) es [] pos) X.env=(do let J <- DC o X.env;JT apos.atName;let (f,first) <- Hh [J] (KC J m pl);N4 pos f first (EG pos (j_ es X.env)) (Ir pos (GZ [] X.env)))
section
variable{fad2:i_}{fd2:Gi}
def xr(c:Cls X.K C)(M:Meth X.K C m fad)(F:eJ X.prog X.w X.K X.mg X.base CX0 k fad fd ps (spF X.K ro (b6 nN n g) n))(a:eW k X.A)(d:Binds X.K fd ps [])(b:DE X.K J3 c_ X o fo)(f:DA X.K J3 X (e::es) fr)(J:j_ (e::es) X.env=(c_,DC e X.env)::j_ es X.env)(U:(EG pos (j_ es X.env)).any (·.1)=c_)(Y:yB X o m apos (e::es) pos pl):DE X.K J3 ro X (.Call (.Attribute o m apos) (e::es) [] pos) (kc C m (b6 nN n g) fo fr):=
 (pe_meth (pl:=pl) b c M F a d .nil tV f J U Y).imp λ_ _ _=>Bg
def tU(c:Cls X.K C)(M:Meth X.K C m fad)(F:eJ X.prog X.w X.K X.mg X.base CX0 k fad fd ps (spF X.K ro (b6 nN n g) n))(U:eW k X.A)(a:Binds X.K fd ps [])(Y:DE X.K J3 c_ X o fo)(J:yB X o m apos [] pos pl):DE X.K J3 ro X (.Call (.Attribute o m apos) [] [] pos) (kc C m (b6 nN n g) fo ay):=
 (pe_meth0 (pl:=pl) Y c M F U a .nil tV J).imp λσ H Q h=>by
  obtain⟨F,ρ,r,s,z⟩:=Bg h;refine⟨F,ρ,r,s,?_⟩
  cases e1:fo ρ with
  |error e=>rw[e1]at z;exact z|ok od=>rw[e1]at z;intro v F' H' st q;obtain⟨l,dx,fs,h1,h2,d,b⟩:=z v F' H' st q;exact⟨l,dx,fs,h1,h2,d,rd_nil b⟩
def rY{k2:Nat}(c:Cls K C)(M:Meth K C m fad)(F:eJ X.prog X.w X.K X.mg X.base CX0 k fad fd ps (spF K ro (b6 nN n g) n))(h:eW k X.A)(i:Binds X.K fd ps [])(l:Cls K C2)(p:Meth K C2 m fad2)(F2:eJ X.prog X.w X.K X.mg X.base CX0 k2 fad2 fd2 ps2 (spF K ro (b6 nN2 n2 g2) n2))(Y:eW k2 X.A)(a:Binds X.K fd2 ps2 [])(d:DE K J3 c_ X o fo)(f:DA K J3 X (e::es) fr)(j: ~~~(X.K=K))(J: ~~~(j_ (e::es) X.env=(c_,DC e X.env)::j_ es X.env))(U: ~~~((EG pos (j_ es X.env)).any (·.1)=c_))(b: ~~~(yB X o m apos (e::es) pos pl)):
  DE K J3 ro X (.Call (.Attribute o m apos) (e::es) [] pos) (bS C C2 m (b6 nN n g) (b6 nN2 n2 g2) fo fr):=by
 subst j;exact(PE.or (xr c M F h i d f J U b) (xr l p F2 Y a d f J U b)).imp λ_ _ _=>xm
def gO{k2:Nat}(c:Cls K C)(M:Meth K C m fad)(F:eJ X.prog X.w X.K X.mg X.base CX0 k fad fd ps (spF K ro (b6 nN n g) n))(b:eW k X.A)(d:Binds X.K fd ps [])(f:Cls K C2)(h:Meth K C2 m fad2)(F2:eJ X.prog X.w X.K X.mg X.base CX0 k2 fad2 fd2 ps2 (spF K ro (b6 nN2 n2 g2) n2))(J:eW k2 X.A)(U:Binds X.K fd2 ps2 [])(a:DE K J3 c_ X o fo)(e: ~~~(X.K=K))(Y: ~~~(yB X o m apos [] pos pl)):
  DE K J3 ro X (.Call (.Attribute o m apos) [] [] pos) (bS C C2 m (b6 nN n g) (b6 nN2 n2 g2) fo ay):=by
 subst e;exact(PE.or (tU c M F b d a Y) (tU f h F2 J U a Y)).imp λ_ _ _=>xm
end
def spI1(K:Fg)(C:i_)(g:List A'->M A'):Sp:=λvs H Q _=>∃p dx v F d,vs=[.ref p,v]/\H p=a_ (.ins C dx [])/\F p=g_/\aO F H/\aU K F d v/\(match g [d]with
 |.ok r=>∀w F' H',aO F F'->aO F' H'->F' p=g_->(∀b o,F' b=a_ o->F b=a_ o\/H b=g_)->(∀c o,H c=a_ o->c≠p->H' c=a_ o)->H' p=a_ (.ins C dx [("gaps",w)])->aU K F' r w->Q .non H'|.error e=>J3.p e F H)
def spI2(K:Fg)(C:i_)(g:List A'->M A'):Sp:=λvs H Q _=>∃p dx v Y F d a,vs=[.ref p,v,Y]/\H p=a_ (.ins C dx [])/\F p=g_/\aO F H/\aU K F d v/\aU K F a Y/\(match (g [d]).bind λr=>(g [a]).bind λJ=>if twoL r J=e_ then .ok (r,J)else stk with
 |.ok (r,J)=>∀w U F' H',aO F F'->aO F' H'->F' p=g_->(∀b o,F' b=a_ o->F b=a_ o\/H b=g_)->(∀c o,H c=a_ o->c≠p->H' c=a_ o)->H' p=a_ (.ins C dx [("gaps",w),("beside",U)])->aU K F' r w->aU K F' J U->Q .non H'|.error e=>J3.p e F H)
def B5.born{x dx:i_}{fs:List (Dy×V)}(s:aO F H)(Y:H x=g_)(U:H dx=g_)(a:dx≠x)(h1:aO F F')(h2:aO F' H')(i:F' x=g_)(g:∀b o,F' b=a_ o->F b=a_ o\/upd (upd H dx (.own x)) x (.ins C dx []) b=g_)(f:∀c o,upd (upd H dx (.own x)) x (.ins C dx []) c=a_ o->c≠x->H' c=a_ o)(d:H' x=a_ (.ins C dx fs)):B5 F H (upd F' x (.ins C dx fs)) H' where
 ff:=h1.trans (aO.upd i)
 hh:=λc o e=>by
  have J:c≠x:=λh=>by rw[h,Y]at e;cases e
  have hd:c≠dx:=λh=>by rw[h,U]at e;cases e
  exact f c o (by rw[aq J,aq hd];exact e) J
 fh:=λc o e=>by
  by_cases J:c=x
  .subst J;rw[ak]at e;rw[d];exact e
  .rw[aq J]at e;exact h2 _ _ e
 nw:=λc o e=>by
  by_cases J:c=x
  .subst J;exact .inr Y
  .rw[aq J]at e;rcases g c o e with z|z
   .exact .inl z
   .refine .inr ?_;by_cases hd:c=dx
    .subst hd;exact U
    .rw[aq J,aq hd]at z;exact z
def de_newR{g:List A'->M A'}(n:Mk X.K C fI)(R:eJ X.prog X.w X.K X.mg X.base CX0 k fI fdI ps (spI1 K C g))(y:eW (k+1) X.A)(B:X.mg x=a_ (.ref C))(G:Binds X.K fdI ps [])(I:DA K J3 X [e] fr)(D: ~~~(Gl X x))(l:((x==("__debug__":Dy))=c_)⁻¹)(f: ~~~(j_ [e] X.env=(c_,DC e X.env)::j_ [] X.env))(i: ~~~((EG pos (j_ [] X.env)).any (·.1)=c_)):
  DE K J3 c_ X (.Call (.Name x p) [e] [] pos) (fL (newR C g) fr):=by
 refine PE.imp (Bw n R y D B G .nil tV I l f i) λσ H Q h=>?_;obtain⟨F,ρ,r,s,p⟩:=rd_L h;refine⟨F,ρ,r,s,?_⟩
 cases e1:fr ρ with
 |error z=>rw[e1]at p;exact p|ok ds=>
  rw[e1]at p;intro vs F1 H1 st q;obtain⟨F2,m,J,q1,z⟩:=p vs F1 H1 st q;rcases m with _|⟨d,_|⟨_,_⟩⟩
  .exact aH.stuck z
  rotate_left
  .exact aH.stuck z
  .obtain⟨v,a,rfl,u,A⟩:=q1;cases(show a=[]from A);intro x dx b Y j;refine⟨x,dx,v,F2,d,rfl,ak,J.free b,λc o e=>?_,u,?_⟩
   .have E:c≠x:=λh=>by rw[h,J.free b]at e;cases e
    have hd:c≠dx:=λh=>by rw[h,J.free Y]at e;cases e
    rw[aq E,aq hd];exact J _ _ e
   .have z:aH K J3 c_ F2 H1 ((g [d]).bind λr=>.ok (.ins C [("gaps",r)])) Q:=z;cases U:g [d]with
    |error e=>rw[U]at z;exact Ej z|ok r=>
     rw[U]at z;intro w F' H' h1 h2 t P O N L;refine⟨rfl,z (.ref x) (upd F' x (.ins C dx [("gaps",w)])) H' (B5.born J b Y j h1 h2 t P O N) ?_⟩
     exact⟨x,dx,_,rfl,ak,w,[],rfl,aU.mono (aO.upd t) L,rfl⟩
def de_newP{g:List A'->M A'}(E:Mk X.K C fI)(FI:eJ X.prog X.w X.K X.mg X.base CX0 k fI fdI ps (spI2 K C g))(O:eW (k+1) X.A)(R:X.mg x=a_ (.ref C))(W:Binds X.K fdI ps [])(Z:DA K J3 X [e,a] fr)(S: ~~~(Gl X x))(y:((x==("__debug__":Dy))=c_)⁻¹)(n: ~~~(j_ [e,a] X.env=(c_,DC e X.env)::j_ [a] X.env))(t: ~~~((EG pos (j_ [a] X.env)).any (·.1)=c_)):
  DE K J3 c_ X (.Call (.Name x p) [e,a] [] pos) (fL (newP C g) fr):=by
 refine PE.imp (Bw E FI O S R W .nil tV Z y n t) λσ H Q h=>?_;obtain⟨F,ρ,r,s,p⟩:=rd_L h;refine⟨F,ρ,r,s,?_⟩
 cases e1:fr ρ with
 |error z=>rw[e1]at p;exact p|ok ds=>
  rw[e1]at p;intro vs F1 H1 st q;obtain⟨F2,B,U,q1,z⟩:=p vs F1 H1 st q;rcases B with _|⟨d,_|⟨D,_|⟨_,_⟩⟩⟩
  .exact aH.stuck z
  .exact aH.stuck z
  rotate_left
  .exact aH.stuck z
  .obtain⟨v,I,rfl,N,L,i,rfl,j,P⟩:=q1;cases(show i=[]from P);intro x dx l b u;refine⟨x,dx,v,L,F2,d,D,rfl,ak,U.free l,λc o e=>?_,N,j,?_⟩
   .have T:c≠x:=λh=>by rw[h,U.free l]at e;cases e
    have hd:c≠dx:=λh=>by rw[h,U.free b]at e;cases e
    rw[aq T,aq hd];exact U _ _ e
   .have z:aH K J3 c_ F2 H1 ((g [d]).bind λr=>(g [D]).bind λf=>if twoL r f=e_ then .ok (.ins C [("gaps",r),("beside",f)])else stk) Q:=z;cases Y:g [d]with
    |error e=>rw[Y]at z;exact Ej z|ok r=>
     rw[Y,av]at z;cases J:g [D]with
     |error e=>rw[J]at z;exact Ej z|ok f=>
      rw[J,av]at z;by_cases m:twoL r f=e_
      .rw[s_ m]at z;rw[av,av,s_ m];intro w G F' H' h1 h2 A h4 h5 h6 h7 h8;refine⟨rfl,z (.ref x) (upd F' x (.ins C dx [("gaps",w),("beside",G)])) H' (B5.born U l b u h1 h2 A h4 h5 h6) ?_⟩
       exact⟨x,dx,_,rfl,ak,w,_,rfl,aU.mono (aO.upd A) h7,G,[],rfl,aU.mono (aO.upd A) h8,rfl⟩
      .rw[q_ m]at z;exact aH.stuck z
end
section
variable{W:cn}{own:Bool}
def D8(t:X.calm=e_):cK X (.builtin "sum") (λxs H Q=>∃(a:i_) (is:aj),xs=[.ref a]/\SqL X.K H a (is.map V.int)/\Q (.int is.sum) H):=by
 intro B4 s σ H xs us Q I r h;obtain⟨a,is,rfl,m,q⟩:=h;obtain⟨u,rfl,j⟩:=r.one;cases j;obtain⟨its,i,p,w⟩:=I.list m;have hi:=intsAre_of i;obtain⟨xs,e⟩:=hi.allInts.items;have Y:is=xs.toList.map (·.1):=by rw[<- hi.numsOf,<- MK,<- e]
 have g:=p.isList;rw[e]at g;refine O3 (iter_intList g λf e2 st d c=>?_);subst e2;refine⟨_,_,_,_,_,_,_,LI xs,rfl,(K9 (A:=X.A.in1) (I.ok.hd t) _ a c (intItems xs)).toS,st,d,(λ_ _=>N1),λs' t' J=>?_⟩
 obtain⟨h',g',d',U,k⟩:=s';have e1:=J.gens;have e2:=J.drawn;have e3:=J.os;have e4:=J.heap;simp only at e1 e2 e3;subst e1 e2 e3;have n:=old_kept (s:=s) (l:=a) (h':=h') λb o v e=>e4 b o v e;refine⟨.int _,H,I.kept (t':=U) n,⟨t',rfl⟩,?_⟩
 have es:preSum (LI xs) (intItems xs).size=is.sum:=by rw[preSum_eq,Y,HD (by simp[intItems])]
 rw[es];exact q
def c_sum(c:X.calm=e_)(f: ~~~(X.K=K)):mv K W own X (.builtin "sum") sumD:=by
 subst f;refine(D8 c).imp λxs H Q h=>?_;obtain⟨F,ds,s,q,p⟩:=h;rcases ds with _|⟨d,_|⟨_,_⟩⟩
 .exact aH.stuck p
 .obtain⟨v,vs,rfl,U,b⟩:=q;cases(show vs=[]from b);cases d with
  |lst ds=>
   obtain⟨a,xs,e,t,z⟩:=U;have J:aH X.K W own F H ((bD ds).bind λis=>.ok (.int is.sum)) Q:=p;cases hi:bD ds with
   |error e=>rw[hi]at J;have:=dA hi;subst this;exact aH.stuck J|ok is=>rw[hi]at J;have Y:xs=is.map V.int:=dw z hi;subst Y;exact⟨a,is,by rw[e],s.lst t,aH.int J s⟩
  |_=>exact aH.stuck p
 .cases d<;>exact aH.stuck p
end
def Itz(K:Fg)(a b:i_):It:=
 ⟨λi H=>∃xs ys x y,SqL K H a xs/\SqL K H b ys/\xs[i]?=a_ x/\ys[i]?=a_ y,λi H v H'=>∃T x y,H T=g_/\v=.ref T/\H'=upd H T (.tup [x,y])/\(∀xs,SqL K H a xs->xs[i]?=a_ x)/\∀ys,SqL K H b ys->ys[i]?=a_ y,λi H=>∃xs ys,SqL K H a xs/\SqL K H b ys/\(xs.length<=i\/ys.length<=i)⟩
def turn_zip{d l g f l1 N:i_}(D:Hy z d l g f l1 N):
  Turn P w K (.Tuple elts k pos) (Itz K l1 N) [z,d,l,g,f] z (λi h=>IsZip h z d l .none/\IC h d (.ref g) (.ref f)/\(∃a b,IC h l a b)/\h.IsListIter g l1 i/\h.IsListIter f N i) where
 mem:=by simp
 obj:=λi h st b J=>by
  obtain⟨j,U,⟨a,c,Y⟩,⟨o1,e1,c1,d1⟩,⟨o2,e2,c2,d2⟩⟩:=st;simp only[p_,DK,FO]at J;rcases J with rfl|rfl|rfl|rfl|rfl
  .exact⟨_,j,λv q=>by cases q⟩
  .exact⟨_,U,λv q=>by cases q⟩
  .exact⟨_,Y,λv q=>by cases q⟩
  .exact⟨o1,e1,λv q=>by rw[d1]at q;cases q⟩
  .exact⟨o2,e2,λv q=>by rw[d2]at q;cases q⟩
 keep:=λi h h' st r=>by obtain⟨j,U,⟨a,c,Y⟩,h1,h2⟩:=st;exact⟨r z ad _ j,r d ad _ U,⟨a,c,r l ad _ Y⟩,h1.at λo x=>r g ad o x,h2.at λo x=>r f ad o x⟩
 item:=by
  intro X T hw W hc i B4 s σ H E I F st R;subst T hw W;obtain⟨j,U,⟨a,c,Y⟩,h1,h2⟩:=st;obtain⟨xs,ys,x,y,C,B,gx,gy⟩:=R;obtain⟨its,G,p,_⟩:=I.list C;obtain⟨t,m,p2,_⟩:=I.list B;obtain⟨u,hu,ru⟩:=G.get gx;obtain⟨u2,O,L⟩:=m.get gy;refine wpAny_pyNext_zip_item D j U Y h1 h2 p.isList p2.isList (x:=u) (y:=u2) (by simpa using hu) (by simpa using O) λh' a1 a2 a3 a4 a5 a6 a7=>?_;refine⟨_,rfl,Mw a1 λZ b1 n=>?_⟩
  have lz:z<s.z:=mf j;have lTI:d<s.z:=mf U;have lTO:l<s.z:=mf Y;have li1:g<s.z:=by obtain⟨o,e,_⟩:=h1;exact mf e
  have li2:f<s.z:=by obtain⟨o,e,_⟩:=h2;exact mf e
  have I1:B6 X B4 σ (upd H s.z (.tup [x,y])) {s with heap:=Z,toks:=s.toks}:=I.qI (ch:=[z,d,l,g,f]) F (λb o J q=>by simp only[p_,DK,FO,L9]at J;exact(n.2 b J.1).trans (a7 b o J.1 J.2.2.1 J.2.2.2.1 J.2.2.2.2 q)) (t_ _) ⟨by show 2<=n_;decide,[u,u2],.cons ru (.cons L .nil),⟨_,(n.2 _ (E7 lz)).trans a5,rfl,0,rfl⟩⟩
  refine⟨.ref s.z,_,I1,rfl,⟨s.z,x,y,I.hok.fresh (t_ _),rfl,rfl,λzs Q=>by rw[I.my Q C];exact gx,λzs Q=>by rw[I.my Q B];exact gy⟩,
   ⟨b1,(n.2 _ D.TIz).trans (a7 d _ D.TIz D.TITO D.TIi1 D.TIi2 U),⟨_,_,(n.2 _ D.TOz).trans a2⟩,a3.at λo q=>(n.2 _ D.i1z).trans q,a4.at λo q=>(n.2 _ D.i2z).trans q⟩,λb J=>?_⟩
  have S:=(F b J).1;have:b≠s.z:=by simp only[p_,DK,FO]at J;rcases J with rfl|rfl|rfl|rfl|rfl<;>exact Dx (by assumption)
  rw[aq this];exact S
 done:=by
  intro X T hw W hc i B4 s σ H E I F st R;subst T hw W;obtain⟨j,U,⟨a,c,Y⟩,h1,h2⟩:=st;obtain⟨xs,ys,C,B,A⟩:=R;obtain⟨its,G,p,_⟩:=I.list C;obtain⟨t,m,p2,_⟩:=I.list B;have e1:=G.length;have e2:=m.length;refine wpAny_pyNext_zip_end (I.ok.hd hc) D j U Y h1 h2 p.isList p2.isList ?_ λh' hk=>⟨rfl,I.qJ (t':=s.toks) (ch:=[z,d,l,g,f]) F λb o J q=>?_⟩
  .rcases A with z|z
   .exact .inl (Fh (by simp;omega))
   .exact .inr (Fh (by simp;omega))
  .simp only[p_,DK,FO,L9]at J;exact hk b o J.1 J.2.2.1 J.2.2.2.1 J.2.2.2.2 q
 self:=λ_ _ _ _ _ st h=>JD st.1 h
theorem qC:∀(ds es:List A') (i:Nat),(ko ds es)[i]?=(ds[i]?).bind λd=>(es[i]?).map λe=>.tup [d,e]
 |[],es,i=>by simp[ko]|d::ds,[],i=>by cases h:(d::ds)[i]?<;>simp[ko]
 |d::ds,e::es,0=>by simp[ko]|d::ds,e::es,i+1=>by rw[ko,Fw,qC ds es i,Fw,Fw]
theorem jD:∀(ds es:List A'),(ko ds es).length=min ds.length es.length
 |[],es=>by simp[ko]|d::ds,[]=>by simp[ko]|d::ds,e::es=>by rw[ko,B_,jD ds es,B_,B_];omega
def iter_zip{xs ys:am}{ds es:List A'}(t:SqL K F a xs)(z:ax K F ds xs)(g:SqL K F b ys)(e:ax K F es ys):pz K F (Itz K a b) (ko ds es) where
 go:=λi F' H' U J hi=>by rw[jD]at hi;exact⟨xs,ys,xs[i]'(by rw[z.length];omega),ys[i]'(by rw[e.length];omega),J.lst (U.lst t),J.lst (U.lst g),C_ _,C_ _⟩
 yl:=λi F' H' x H2 d U J hd k=>by
  obtain⟨T,j,f,h,ex,l,h1,h2⟩:=k;subst ex l;rw[qC]at hd;cases Y:ds[i]? with
  |none=>rw[Y]at hd;cases hd|some o=>
   cases c:es[i]? with
   |none=>rw[Y,c]at hd;cases hd|some n=>
    rw[Y,c]at hd;simp at hd;subst hd;obtain⟨v,e1,q⟩:=z.get Y;obtain⟨m,e2,q2⟩:=e.get c;have e3:=h1 xs (J.lst (U.lst t));have e4:=h2 ys (J.lst (U.lst g));rw[e1]at e3;rw[e2]at e4;cases e3;cases e4;refine⟨upd F' T (.tup [j,f]),B5.lay J h,T,_,rfl,SqT.of ak,?_⟩
    exact⟨j,[f],rfl,(q.mono U).mono (aO.upd (J.free h)),f,[],rfl,(q2.mono U).mono (aO.upd (J.free h)),rfl⟩
 st:=λF' H' U J=>⟨xs,ys,J.lst (U.lst t),J.lst (U.lst g),by rw[z.length,e.length,jD];omega⟩
section
variable{W:cn}{a b:EM}
def iZip(K:Fg)(ta tb:TE):TI:=λσ H R=>ta σ H λx H1=>tb σ H1 λy H2=>∃a b,x=.ref a/\y=.ref b/\(∃xs,SqL K H2 a xs)/\(∃ys,SqL K H2 b ys)/\R (Itz K a b) H2
def pi_zip{tb:TE}(F:Gl X "zip")(D:X.mg "zip"=g_)(G:PE X a ta)(f:PE X b tb)(v:j_ [a,b] X.env=[(c_,DC a X.env),(c_,DC b X.env)])(U:j_ [b] X.env=[(c_,DC b X.env)]):
  PI X (.Tuple elts k q) (.Call (.Name "zip" p) [a,b] [] pos) (iZip X.K ta tb):=by
 intro B4 s σ H R I h;have K:PA X [a,b] (gT ta (gT tb wX)):=aN G (aN f bR U) (by rw[v,U]);refine LM (fJ I F D boot_zip (DY (HH (K pos B4 s σ H (λvs H1=>match vs with
  |[x,y]=>∃a b,x=.ref a/\y=.ref b/\(∃xs,SqL X.K H1 a xs)/\(∃ys,SqL X.K H1 b ys)/\R (Itz X.K a b) H1
  |_=>False) I h) λus J ⟨vs,H1,d,A,q1⟩=>?_) (by rw[v,U]) (by rw[U];rfl)))
 rcases vs with _|⟨x,_|⟨y,_|⟨_,_⟩⟩⟩
 .exact Ej q1
 .exact Ej q1
 rotate_left
 .exact Ej q1
 .obtain⟨l,B,e1,e2,⟨xs,C⟩,⟨ys,i⟩,q⟩:=q1;subst e1 e2;obtain⟨u,P,rfl,z,g⟩:=A.two;cases z;cases g;obtain⟨its,Q,pl,_⟩:=d.list C;obtain⟨r,w,Y,_⟩:=d.list i;have N:l<J.z:=by obtain⟨_,e,_⟩:=pl.isList;exact mf e
  have L:B<J.z:=by obtain⟨_,e,_⟩:=Y.isList;exact mf e
  refine call_zip_2 pl.isList Y.isList λh' t o n m j hsz E=>?_;have O:B6 X B4 σ H1 {J with heap:=h'}:=d.kept (t':=J.toks) E;refine JD t ?_;refine⟨J.z+4,[J.z+4,J.z+2,J.z+3,J.z,J.z+1],_,_,H1,rfl,O,turn_zip (zipApart_new N L),⟨t,o,⟨_,_,n⟩,m,j⟩,λb f=>?_,q⟩
  have c:J.z<=b:=by
   simp only[p_,DK,FO]at f;rcases f with rfl|rfl|rfl|rfl|rfl
   .exact Ji _ 4
   .exact Ji _ 2
   .exact Ji _ 3
   .exact t_ _
   .exact Ji _ 1
  exact d.fpOk c (d.hok.fresh c)
def ri_zip{R:It->Hp->Prop}(h:iD K W (fZip fa fb) σ H R):iZip K (tD K W c_ fa) (tD K W c_ fb) σ H R:=by
 obtain⟨F,ρ,r,s,p⟩:=h;refine aK r s (λe a=>?_) λd hd v F1 H1 U q1=>?_
 .have z:fZip fa fb ρ=.error e:=by unfold fZip;rw[a];rfl
  rw[z]at p;exact p
 .refine aK (r.mono U.ff) U.fh (λe a=>?_) λg c k F2 H2 J q2=>?_
  .have z:fZip fa fb ρ=.error e:=by unfold fZip;rw[hd,av,a];rfl
   rw[z]at p;exact W.mono p U
  .have z:fZip fa fb ρ=(ji d).bind λds=>(ji g).bind λes=>.ok (ko ds es):=by unfold fZip;rw[hd,av,c,av]
   rw[z]at p;cases d with
   |lst ds=>
    cases g with
    |lst es=>obtain⟨b,xs,e,t,i⟩:=q1;obtain⟨j,ys,e2,f,Y⟩:=q2;have t':=J.ff.lst t;exact⟨b,j,e,e2,⟨xs,J.fh.lst t'⟩,⟨ys,J.fh.lst f⟩,p _ F2 H2 (U.trans J) (iter_zip t' (i.mono J.ff) f Y)⟩
    |_=>exact(W.ns p).elim
   |_=>exact(W.ns p).elim
def di_zip(Y:X.mg "zip"=g_)(e:DE K W c_ X a fa)(d:DE K W c_ X b fb)(c: ~~~(Gl X "zip"))(U: ~~~(j_ [a,b] X.env=[(c_,DC a X.env),(c_,DC b X.env)]))(J: ~~~(j_ [b] X.env=[(c_,DC b X.env)]))(f: ~~~(X.K=K)):
  DI K W X (.Tuple elts k q) (.Call (.Name "zip" p) [a,b] [] pos) (fZip fa fb):=by
 subst f;exact(pi_zip c Y e d U J).imp λ_ _ _=>ri_zip
end
section
variable{s:k_}
noncomputable abbrev newL:H9:={cls:=.type "list",data:=.seq ([]:as).toArray}
def wz{Q:as->k_->Prop}{a b:Int}{t u v:Tok}(hh:A.handled=g_)(y:IsRange s.heap r a b 1 t u v)(d:IY a b 1=e_)(B:Ha a b 1=n)(U:n<=2^24)(D:∀g tk (acc:Array h_),(∀c o,s.heap.get? c=a_ o->g.get? c=a_ o)->L5 (λi v=>∃t,v=.int (a+i*1) t) acc n->Q acc.toList {s with heap:=g,toks:=tk}):o_ (u_ prog w) A (L3 (.ref r)) Q E s:=by
 unfold L3;refine b_ (Kl (E3 JX ?_))
 (rw[Et JW _];show o_ _ A.in1 (Nj [] >>=λl=>again (.builtin "list.__iadd__" ⟨[l,.ref r],[]⟩)) _ _ s)
 refine b_ (DH (f_ ⟨Ga G_ _,E3 K1 ?_⟩))
 (rw[Et G_ _];show o_ _ A.in1 (HN (.ref s.z) (.ref r) (.ref s.z)) _ _ _)
 have C:(s.heap.push newL).get? s.z=a_ {cls:=.type "list",data:=.seq #[] 0}:=l_ _ rfl;refine Ew (wpAny_extend_range (A:=A) (R:=λJ z=>J=.ok (.ret (.ref s.z))/\∃(acc:Array h_) (c:Nat),z.heap.get? s.z=a_ {cls:=.type "list",dict:=g_,data:=.seq acc c,slots:=#[]}/\Q acc.toList z) (s:={s with heap:=s.heap.push newL}) hh (d_ _ y) d B U s.z _ 0 C λg tk acc c k Y p=>?_) (λj z h=>?_) λe z h=>DD h.1 ad
 .exact⟨rfl,acc,c,Y,D g tk acc (λz o e=>k z o (Dx (mf e)) (d_ _ e)) p⟩
 .cases j with
  |done f=>obtain⟨e,acc,c,Y,q⟩:=h;cases e;exact b_ (m:=load s.z) (JR Y (f_ q))
  |again G=>
   refine⟨h.1,Gd h.2 λJ z x=>?_⟩
   obtain⟨rfl,acc,c,Y,q⟩:=x;exact b_ (m:=load s.z) (JR Y (f_ q))
def qK{a b:Int}{t u v:Tok}(Y:IY a b 1=e_)(x:Ha a b 1=n)(J:n<=2^24):
  MeetsIn prog w (Builtin.«tuple.__new__» ⟨[.type "tuple",.ref r],[]⟩)
   (λA R s=>A.handled=g_/\IsRange s.heap r a b 1 t u v/\∀(g:Eg) (tk:Nat) (acc:Array h_),(∀c o,s.heap.get? c=a_ o->g.get? c=a_ o)->L5 (λi v=>∃t,v=.int (a+i*1) t) acc n->R (.ok (.ret (.ref g.objs.size))) {s with heap:=g.push {cls:=.type "tuple",data:=.seq acc},toks:=tk}):=
 .of_wp λA R s h=>by
  obtain⟨q,g,d,tk,os⟩:=s;obtain⟨hh,f,h⟩:=h;have l:=sub_tuple_self;have j:=init_tuple_lookup;have y:=madeHere_tuple;have z:GR ⟨q,g,d,tk,os⟩ (.ref r) "range":=⟨_,f,rfl⟩
  wp_walk using wpAny_loadPart' f,II z,wz (A:=A.in1) (n:=n) hh f Y x J
  intro g2 U acc m k;show o_ _ _ (H_ acc.toList.toArray >>=λv=>ret v) _ _ _;unfold H_;have p:acc.toList.toArray.size<=n_:=by rw[Ey];have:=k.1;simp;omega
  refine b_ (DH (f_ ⟨_,rfl,?_⟩) p);have e:acc.toList.toArray=acc:=by simp
  rw[e];exact h g2 U acc m k
end
section
variable{s:k_}
theorem md{Q:Vp}{a b:Int}{t u v:Tok}(hh:A.handled=g_)(f:IsRange s.heap r a b 1 t u v)(Y:IY a b 1=e_)(h:Ha a b 1=n)(J:n<=2^24)(j:∀(g:Eg) (tk:Nat) (acc:Array h_),(∀c o,s.heap.get? c=a_ o->g.get? c=a_ o)->L5 (λi v=>∃t,v=.int (a+i*1) t) acc n->Q (.ref g.objs.size) {s with heap:=g.push {cls:=.type "tuple",data:=.seq acc},toks:=tk}):
  o_ (u_ prog w) A (HG (.type "tuple") [.ref r]) Q E s:=
 callType_newIn F.called_tuple ag (F.typeCall_tuple_1 _) (F.newCall_tuple_1 _) (λU=>LU U _) F.entry_tuple_new
  (qK (t:=t) (u:=u) (v:=v) Y h J) ⟨hh,f,λg tk acc d e=>⟨⟨_,l_ _ rfl,rfl⟩,j g tk acc d e⟩⟩
end
section
variable{W:cn}{own:Bool}{a b:EM}{fr:aa->M (List A')}
def pe(f:X.calm=e_):cK X (.type "tuple") (λxs H Q=>∃r lo hi,xs=[.ref r]/\H r=a_ (.rng lo hi)/\(-(2^62)<=lo/\lo<2^62/\ -(2^62)<=hi/\hi<2^62)/\(hi-lo).toNat<=n_/\∀l,H l=g_->Q (.ref l) (upd H l (.tup ((DR (hi-lo).toNat).map λk:Nat=>V.int (lo+k))))):=by
 intro B4 s σ H xs us Q I c h;obtain⟨r,lo,hi,rfl,j,⟨x,w,p,m⟩,U,q⟩:=h;obtain⟨u,rfl,a⟩:=c.one;cases a;obtain⟨t,u,v,e⟩:=(show ∃t u v,s.heap.get? r=a_ {cls:=.type "range",data:=.fields #[.int lo t,.int hi u,.int 1 v]}from I.hok r _ j)
 refine md (n:=(hi-lo).toNat) (I.ok.hd f) e (Pg x w p m) (by rw[MJ];split<;>omega) (by rw[Ey]at U;omega) λg tk acc d J=>?_;have hv:Ds ((DR (hi-lo).toNat).map λk:Nat=>V.int (lo+k)) acc.toList:=pW (by rw[DO];exact J.1) λi v hi=>by obtain⟨t,e⟩:=J.2 i v (by simpa using hi);exact⟨t,by rw[e,MU]⟩
 have Y:B6 X B4 σ H {s with heap:=g,toks:=tk}:=I.kept d;exact⟨.ref _,_,Y.laid (t':=tk) (λb o e=>d_ _ e) (t_ _) (show cz X.prog X.w _ (g.push {cls:=.type "tuple",data:=.seq acc}) _ (.tup _)from⟨by simpa using U,acc.toList,hv,⟨_,l_ _ rfl,rfl,0,ad⟩⟩),rfl,q _ Y.fresh⟩
def fTR(fr:aa->M (List A')):aa->M A':=λρ=>(fr ρ).bind bG
def trng_end{Q:VK}{i j:Int}(p:aH K W own F H1 (bG (aJ i (j-i).toNat)) Q)(s:aO F H1)(b:H1 r=g_):
  (j-i).toNat<=n_/\∀l,upd H1 r (.rng i j) l=g_->Q (.ref l) (upd (upd H1 r (.rng i j)) l (.tup ((DR (j-i).toNat).map λk:Nat=>V.int (i+k)))):=by
 unfold bG at p;by_cases U:(aJ i (j-i).toNat).length<=n_
 .rw[s_ U]at p;refine⟨by simpa[aJ] using U,λl J=>?_⟩
  have Y:B5 F H1 F (upd H1 r (.rng i j)):=B5.grow s b;have a:=B5.lay (o:=.tup ((DR (j-i).toNat).map λk:Nat=>V.int (i+k))) Y.fh J;refine p _ _ _ (Y.trans a) ?_;cases own<;>exact⟨l,_,rfl,SqT.of ak,nP i _⟩
 .rw[q_ U]at p;exact(W.ns p).elim
def yi(c:X.mg "tuple"=g_)(m:X.mg "range"=g_)(t:DA K W X [a] fr)(q: ~~~(X.calm=e_))(n: ~~~(Gl X "range"))(d: ~~~(Gl X "tuple"))(l: ~~~(j_ [a] X.env=[(c_,DC a X.env)]))(U: ~~~(j_ [.Call (.Name "range" q1) [a] [] q2] X.env=[(c_,DC (.Call (.Name "range" q1) [a] [] q2) X.env)])):DE K W own X (.Call (.Name "tuple" p) [.Call (.Name "range" q1) [a] [] q2] [] pos) (fTR (gL iS fr)):=by
 refine PE.imp (iw (pe q) d c Gz (aN (Bu n m t l) bR U) ag ag U rfl) λσ H Q h=>?_;obtain⟨F,ρ,r,s,p⟩:=h;refine gS r s (λe o=>p.err (by unfold fTR gL;rw[o];rfl)) λds hd xs F1 H1 f q1=>?_;have e1:fTR (gL iS fr) ρ=(iS ds).bind bG:=by unfold fTR gL;rw[hd];rfl
 rw[e1]at p;have p1:=p.step f;by_cases Y:∃j,ds=[.int j]
 .obtain⟨j,rfl⟩:=Y;obtain⟨v,vs,e2,q2,e3⟩:=q1;have p2:aH K W own F1 H1 ((if bh j=e_ then EI (aJ 0 j.toNat)else FE Err.stuck:M (List A')).bind bG) Q:=p1;by_cases J:bh j=e_
  .rw[s_ J]at p2;unfold bh at J;simp only[r_,DX]at J;have e4:xs=[.int j]:=by rw[e2,show v=.int j from q2,show vs=[]from e3]
   subst e4;refine⟨0,j,rfl,rfl,⟨ag,ag,J.1,J.2⟩,λk b=>?_⟩
   have p3:aH K W own F1 H1 (bG (aJ 0 (j-0).toNat)) Q:=by rw[Pz];exact p2
   obtain⟨i,g⟩:=trng_end p3 f.fh b;exact⟨k,0,j,rfl,ak,⟨ag,ag,J.1,J.2⟩,i,g⟩
  .rw[q_ J]at p2;exact(W.ns p2).elim
 .have:iS ds=.error .stuck:=by
   unfold iS;split
   .exact DD ⟨_,rfl⟩ Y
   .rfl
  rw[this]at p1;exact(W.ns p1).elim
@[simp]def e_TR{ρ:aa}:fTR fr ρ=(fr ρ).bind bG:=id rfl
end
def fn_stk{base:Eg}{f:i_}:eJ P w K mg base CX0 k f fd ps (spF K ro (b6 nN ps.length λ_=>stk) ps.length) where
 len:=λvs H Q E ⟨F,ds,s,q,l,p⟩=>by rw[q.length,l]
 run:=λA outer s H J us vs Q E Y a b hv ⟨F,ds,U,q,l,p⟩=>by
  have e:b6 nN ps.length (λ_=>stk) ds=stk:=by unfold b6;rw[s_ l];rfl
  rw[e]at p;exact aH.stuck p
theorem xw{n:Nat}:∀{ds:List A'} {d:A'},iU ds n=e_->d∈ds->HS d n=e_
 |[],d,_,h=>by simp at h|a::ds,d,h,hd=>by
  unfold iU at h;simp only[r_]at h;rcases p_.mp hd with e|e
  .rw[e];exact h.1
  .exact xw h.2 e
section
variable{W:cn}{own:Bool}
open Classical in
def has_D{s:Shared}(I:B6 X B4 σ H s)(hF:aO F H){ds:List A'}{xs:am}{a:A'}{x:V}(od:iU ds 40=true)(oa:HS a 40=true)(qs:ax X.K F ds xs)(rv:Ds xs its)(qa:aU X.K F a x)(ra:D' x u)(hu:A.units+40<cLine):
  ∃e:Value->Bool,(∀y,y∈its.toArray->SeqAt.EqAt A s y u (e y))/\its.toArray.any e=ds.any λd=>eqD d a:=by
 have each:∀(i:Nat) (y:Value),its[i]?=some y->∃d,ds[i]?=some d/\SeqAt.EqAt A s y u (eqD d a):=λi y hy=>by
  have hi:i<its.length:=(List.getElem?_eq_some_iff.mp hy).1;have h1:i<xs.length:=by rw[rv.length];exact hi
  have h2:i<ds.length:=by rw[<- qs.length];exact h1
  obtain⟨v,e1,q1⟩:=qs.get (List.getElem?_eq_getElem h2);obtain⟨w,e2,r2⟩:=rv.get e1;rw[hy]at e2;cases e2;exact⟨_,List.getElem?_eq_getElem h2,Ct I hF _ a (xw od (List.getElem_mem h2)) oa q1 qa r2 ra hu⟩
 refine⟨λy=>decide (∃(i:Nat) (d:A'),its[i]?=some y/\ds[i]?=some d/\eqD d a=true),λy hy=>?_,?_⟩
 .by_cases h:∃(i:Nat) (d:A'),its[i]?=some y/\ds[i]?=some d/\eqD d a=true
  .obtain⟨i,d,h1,h2,h3⟩:=h;obtain⟨d',h4,h5⟩:=each i y h1;rw[h2]at h4;cases h4;rw[h3]at h5;have:decide (∃(i:Nat) (d:A'),its[i]?=some y/\ds[i]?=some d/\eqD d a=true)=true:=decide_eq_true ⟨i,d,h1,h2,h3⟩;show SeqAt.EqAt A s y u (decide _);rw[this];exact h5
  .have hm:y∈its:=by simpa using hy
   obtain⟨i,hi⟩:=List.getElem?_of_mem hm;obtain⟨d,h4,h5⟩:=each i y hi;have h6:eqD d a=false:=by
    cases hq:eqD d a with
    |false=>rfl|true=>exact absurd ⟨i,d,hi,h4,hq⟩ h
   rw[h6]at h5;show SeqAt.EqAt A s y u (decide _);rw[decide_eq_false h];exact h5
 .rw[Bool.eq_iff_iff];simp only[List.any_toArray,List.any_eq_true,decide_eq_true_eq];constructor
  .rintro⟨y,hy,i,d,h1,h2,h3⟩;exact⟨d,List.mem_of_getElem? h2,h3⟩
  .rintro⟨d,hd,h3⟩;obtain⟨i,hi⟩:=List.getElem?_of_mem hd;have h2:i<ds.length:=(List.getElem?_eq_some_iff.mp hi).1;have h4:i<its.length:=by rw[<- rv.length,qs.length];exact h2
   exact⟨its[i],List.getElem_mem h4,i,d,List.getElem?_eq_getElem h4,hi,h3⟩
def o_in(q:X.A.units+64<Ez)(o: ~~~(X.K=K)):Op2 K W own X (EU .In) inM:=by
 subst o;intro B4 s σ H x y v u Q I k j h;obtain⟨F,a,b,Y,n,m,p⟩:=h;have c:X.A.in1.units+40<Ez:=by show X.A.units+1+40<Ez;omega
 cases b with
 |lst ds=>
  obtain⟨l,xs,e,t,z⟩:=m;subst e;cases j;have U:aH X.K W own F H (if (HS a 40&&iU ds 40)=e_ then .ok (.bl (ds.any λd=>eqD d a))else stk) Q:=p;by_cases J:(HS a 40&&iU ds 40)=e_
  .rw[s_ J]at U;simp only[r_]at J;obtain⟨its,f,pl,_⟩:=I.list (Y.lst t);obtain⟨e,g,i⟩:=has_D (A:=X.A.in1) I Y J.2 J.1 z f n k c;refine SeqAt.in_listAt e pl.isList g ?_;rw[i];exact U.blS Y I
  .rw[q_ J]at U;exact U.stuck
 |tup ds=>
  obtain⟨l,xs,e,t,z⟩:=m;subst e;cases j;have U:aH X.K W own F H (if (HS a 40&&iU ds 40)=e_ then .ok (.bl (ds.any λd=>eqD d a))else stk) Q:=p;by_cases J:(HS a 40&&iU ds 40)=e_
  .rw[s_ J]at U;simp only[r_]at J;obtain⟨its,f,pl,_⟩:=I.tuple (Y.tup t);obtain⟨e,g,i⟩:=has_D (A:=X.A.in1) I Y J.2 J.1 z f n k c;refine SeqAt.in_tupleAt e (show s.heap.IsTuple l its.toArray from pl) g ?_;rw[i];exact U.blS Y I
  .rw[q_ J]at U;exact U.stuck
 |_=>exact aH.stuck p
end
abbrev ZRec(h:Eg)(z p q:i_)(m k:h_):Prop:=h.get? z=a_ {cls:=.type "zip",dict:=g_,data:=.fields #[m,k,.bool c_,.ref p,.ref q],slots:=#[]}
structure Zs(z p q u v l m:i_)(r k a b:h_)(i j:Nat)(xs ys:Array h_)(h:Eg):Prop where
 me:ZRec h z p q r k
 its:IC h p (.ref u) (.ref v)
 own:IC h q a b
 one:h.IsListIter u l i
 two:h.IsListIter v m j
 xl:h.IsList l xs
 yl:h.IsList m ys
def Off(z q u v:i_)(h h':Eg):Prop:=∀c o,c≠z->c≠q->c≠u->c≠v->h.get? c=a_ o->h'.get? c=a_ o
section
variable{q u v:i_}{a b:h_}{g:Eg}
def Off.then(A:Off z q u v h h')(B:Off z q u v h' g):Off z q u v h g:=λc o a b d e x=>B c o a b d e (A c o a b d e x)
def Off.byZ(A:EY z h h'):Off z q u v h h':=λc o a _ _ _ x=>A c o a x
def Off.byQ(A:EY q h h'):Off z q u v h h':=λc o _ a _ _ x=>A c o a x
def Off.byU(A:EY u h h'):Off z q u v h h':=λc o _ _ a _ x=>A c o a x
def Off.byV(A:EY v h h'):Off z q u v h h':=λc o _ _ _ a x=>A c o a x
def Off.new{o:H9}:Off z q u v h (h.push o):=λ_ _ _ _ _ _ x=>d_ _ x
end
section
variable{s:k_}{p q:i_}{r k:h_}
def Av{T:Unit->k_->Prop}(Y:ZRec s.heap z p q r k)(b:∃o,s.heap.get? c=a_ o/\o.cls=.type "StopIteration")(d:∀h',EY z s.heap h'->(∃o,h'.get? c=a_ o/\o.cls=.type "StopIteration")->T () {s with heap:=h'}):o_ (u_ P w) A (Km (.ref z) 0 .none) T E s:=by
 obtain⟨o,e,t⟩:=b;have a:c≠z:=by intro J;have U:=e.symm.trans (J▸Y);rw[DV U]at t;exact DD t ad
 exact OE Y (show 0<5 by decide) λh' _ B=>d h' B.extBut ⟨o,B.extBut _ _ a e,t⟩
end
def B5.stays{o:HO}(s:B5 F H F' H')(n:F a=g_)(h:H a=a_ o):F' a=g_:=by
 cases e:F' a with
 |none=>rfl|some u=>
  rcases s.nw a u e with z|z
  .rw[n]at z;cases z
  .rw[h]at z;cases z
structure mm(K:Fg)(F G H:Hp)(ds:List A')(vs:am):Prop where
 len:vs.length=ds.length
 get:∀(k:Nat) (d:A'),ds[k]?=a_ d->∃a xs es,vs[k]?=a_ (.ref a)/\d=.lst es/\H a=a_ (.lst xs)/\F a=g_/\G a=g_/\ax K F es xs
 ap:∀(j k:Nat) (a:i_),vs[j]?=a_ (.ref a)->vs[k]?=a_ (.ref a)->j=k
section
variable{ds:List A'}{vs:List V}
def mm.nil:mm K F G H [] []:=⟨rfl,λk d e=>by simp at e,λj k a e=>by simp at e⟩
def mm.step(o:mm K F G H ds vs)(s:B5 F H F' H'):mm K F' G H' ds vs where
 len:=o.len
 get:=λk d e=>by obtain⟨a,xs,es,h1,h2,J,b,Y,U⟩:=o.get k d e;exact⟨a,xs,es,h1,h2,s.hh _ _ J,s.stays b J,Y,U.mono s.ff⟩
 ap:=o.ap
def mm.back(o:mm K F G H ds vs)(s:aO G' G):mm K F G' H ds vs where
 len:=o.len
 get:=λk d e=>by obtain⟨a,xs,es,h1,h2,b,Y,U,J⟩:=o.get k d e;exact⟨a,xs,es,h1,h2,b,Y,s.free U,J⟩
 ap:=o.ap
theorem mm.at(o:mm K F G H ds vs){k:Nat}{a:i_}(h:vs[k]?=a_ (.ref a)):∃xs es,ds[k]?=a_ (.lst es)/\H a=a_ (.lst xs)/\F a=g_/\G a=g_/\ax K F es xs:=by
 have J:k<ds.length:=by rw[<- o.len];exact(v_.mp h).1
 obtain⟨b,xs,es,h1,h2,d,c,Y,U⟩:=o.get k ds[k] (by simp[J]);rw[h]at h1;cases h1;exact⟨xs,es,by rw[<- h2];simp[J],d,c,Y,U⟩
def mm.add(o:mm K F G H ds vs){es:List A'}{xs:am}(J:∀k:Nat,vs[k]?≠a_ (.ref a))(l:H a=a_ (.lst xs))(i:F a=g_)(h:G a=g_)(g:ax K F es xs):mm K F G H (ds++[.lst es]) (vs++[.ref a]) where
 len:=by simp[o.len]
 get:=λk d e=>by
  rcases KP k ds.length with z|z|z
  .rw[EO z]at e;obtain⟨b,ys,fs,n,g2⟩:=o.get k d e;exact⟨b,ys,fs,by rw[EO (by rw[o.len];exact z)];exact n,g2⟩
  .subst z;simp at e;refine⟨a,xs,es,?_,e.symm,l,i,h,g⟩
   rw[<- o.len];simp
  .have:=(v_.mp e).1;simp at this;omega
 ap:=λj k b e1 e2=>by
  have key:∀m,(vs++[V.ref a])[m]?=a_ (.ref b)->(m<vs.length/\vs[m]?=a_ (.ref b))\/(m=vs.length/\b=a):=λm e=>by
   rcases KP m vs.length with z|z|z
   .rw[EO z]at e;exact .inl ⟨z,e⟩
   .subst z;simp at e;exact .inr ⟨rfl,e.symm⟩
   .have:=(v_.mp e).1;simp at this;omega
  rcases key j e1 with⟨_,Y⟩|⟨Y,f⟩<;>rcases key k e2 with⟨_,U⟩|⟨U,c⟩
  .exact o.ap j k b Y U
  .subst c;exact DD Y (J j)
  .subst f;exact DD U (J k)
  .omega
end
section
variable{W:cn}
def rd_turns{p:Pat}{R:am->Hp->Prop}(r:jc K F σ ρ)(s:aO F H)(hL:∀ρ d,fe ρ=.ok d->∃es,d=.lst es)(E:∀e,cC fi ix p ft fe ρ=.error e->W.p e F H)(X:∀rs,cC fi ix p ft fe ρ=.ok (.lst rs)->∀ys F2 H2,B5 F H F2 H2->mm K F2 H H2 rs ys->R ys H2):iD K W fi σ H λJ H1=>ki J ix (gP K p) (tDT K W ft) (tD K W e_ fe) σ R H1:=by
 refine⟨F,ρ,r,s,?_⟩
 cases T:fi ρ with
 |error e=>exact E e (by unfold cC;rw[T];rfl)|ok ds=>
  intro J F1 H1 A L;have G:cC fi ix p ft fe ρ=if ds.length<=n_ then(aS p ft fe (dO ix ρ) ds).bind λr=>.ok (.lst r)else .error .stuck:=by unfold cC;rw[T];rfl
  by_cases S:ds.length<=n_
  .rw[s_ S]at G;rw[G]at E X;refine⟨λi m ys H2=>m=ds.length-i/\i<=ds.length/\∃F2 U,B5 F1 H1 F2 H2/\mm K F2 H1 H2 U ys/\U.length<=i /\
    (match aS p ft fe (dO ix ρ) (ds.drop i)with
     |.ok Y=>aS p ft fe (dO ix ρ) ds=.ok (U++Y)|.error e=>W.p e F H),⟨ds.length,ac,E1 _,F1,[],B5.refl A.fh,mm.nil,E1 _,?_⟩,?_⟩
   .rw[Iw];cases e:aS p ft fe (dO ix ρ) ds with
    |ok Y=>rfl|error x=>exact E x (by rw[e];rfl)
   .rintro i m ys H2 ⟨rfl,hi,F2,U,g,I,ly,t⟩;have B:ys.length<=n_:=by rw[I.len];omega
    by_cases h:i<ds.length
    .have ed:ds.drop i=ds[i]::ds.drop (i+1):=IH h;rw[ed]at t;refine .inr ⟨L.go i F2 H2 g.ff g.fh h,B,λu H'=>(i+1<=ds.length/\∃F2 U,B5 F1 H1 F2 H'/\mm K F2 H1 H' U u/\U.length<=i+1 /\
      (match aS p ft fe (dO ix ρ) (ds.drop (i+1))with
       |.ok Y=>aS p ft fe (dO ix ρ) ds=.ok (U++Y)|.error e=>W.p e F H)),λu H' n=>⟨ds.length-(i+1),ac,rfl,n⟩,λx H' y=>?_⟩
     obtain⟨F3,l,q3⟩:=L.yl i F2 H2 x H' ds[i] g.ff g.fh (by simp[h]) y;have r3:jc K F3 (Lake.inS ix σ) (dO ix ρ):=(r.mono (A.trans (g.trans l)).ff).inS ix;have w:B5 F H F3 H':=A.trans (g.trans l);have ec:aS p ft fe (dO ix ρ) (ds[i]::ds.drop (i+1))=(g9 p ds[i] (dO ix ρ)).bind λc=>(ft c).bind λb=>if b=e_ then(fe c).bind λy=>(aS p ft fe (dO ix ρ) (ds.drop (i+1))).bind λr=>.ok (y::r)else aS p ft fe (dO ix ρ) (ds.drop (i+1)):=by rw[aS]
     rw[ec]at t;cases D:g9 p ds[i] (dO ix ρ)with
     |error e=>rw[D]at t;have:=o6 D;subst this;exact(W.ns t).elim|ok c=>
      rw[D]at t;refine gP_run r3 l.fh q3 D λσ2 Q=>?_;have j:match ((ft c).bind λb=>if b=e_ then(fe c).bind λy=>(aS p ft fe (dO ix ρ) (ds.drop (i+1))).bind λr=>.ok (y::r)else aS p ft fe (dO ix ρ) (ds.drop (i+1)))with
       |.ok Y=>aS p ft fe (dO ix ρ) ds=.ok (U++Y)|.error e=>W.p e F H:=t
      refine iq Q l.fh (λe N=>by rw[N]at j;exact W.mono j w) λb O F5 H5 q=>?_;rw[O]at j;cases b with
      |false=>
       have f:match aS p ft fe (dO ix ρ) (ds.drop (i+1))with
        |.ok Y=>aS p ft fe (dO ix ρ) ds=.ok (U++Y)|.error e=>W.p e F H:=j
       exact⟨h,F5,U,g.trans (l.trans q),I.step (l.trans q),ac,f⟩
      |true=>
       have f:match ((fe c).bind λy=>(aS p ft fe (dO ix ρ) (ds.drop (i+1))).bind λr=>.ok (y::r))with
        |.ok Y=>aS p ft fe (dO ix ρ) ds=.ok (U++Y)|.error e=>W.p e F H:=j
       refine aK (Q.mono q.ff) q.fh (λe N=>by rw[N]at f;exact W.mono f (w.trans q)) λd hd v F6 H6 P q6=>?_;rw[hd]at f;obtain⟨es,rfl⟩:=hL _ _ hd;obtain⟨a,xs,ev,g1,g2,Z,g4⟩:=q6;subst ev;have d5:=I.step (l.trans q);refine⟨h,F6,U++[.lst es],g.trans (l.trans (q.trans P)),(d5.step P).add (λk hk=>?_) g1 g2 ((g.trans (l.trans q)).hh.free Z) g4,by simp;omega,?_⟩
       .obtain⟨_,_,_,z,_⟩:=d5.at hk;rw[Z]at z;cases z
       .have o:match ((aS p ft fe (dO ix ρ) (ds.drop (i+1))).bind λr=>.ok (A'.lst es::r):M (List A'))with
         |.ok Y=>aS p ft fe (dO ix ρ) ds=.ok (U++Y)|.error e=>W.p e F H:=f
        cases e7:aS p ft fe (dO ix ρ) (ds.drop (i+1))with
        |ok Y=>rw[e7]at o;show _=EI ((U++[A'.lst es])++Y);rw[E4];exact o|error x=>rw[e7]at o;exact o
    .have:i=ds.length:=ac
     subst this;rw[Jb]at t;have C:aS p ft fe (dO ix ρ) ds=.ok (U++[]):=t;rw[Fc]at C;exact .inl ⟨L.st F2 H2 g.ff g.fh,B,X U (by rw[C];rfl) ys F2 H2 (A.trans g) (I.back A.hh)⟩
  .rw[q_ S]at G;exact(W.ns (E .stuck G)).elim
end
def lstOf:A'->M (List A')
 |.lst ds=>.ok ds|_=>.error .stuck
def rowAt(rs:List A')(a:Int):M (Nat×List A'):=match ixN rs.length a with
 |some j=>(match rs[j]? with
  |some (.lst es)=>.ok (j,es)|_=>.error .stuck)
 |none=>.error .stuck
def pK(rs:List A')(J:Nat×List A')(b:Int)(x:A'):M (List A'):=match ixN J.2.length b with
 |some k=>.ok (rs.set J.1 (.lst (J.2.set k x)))|none=>.error .stuck
def tK(i:Nat)(rs:List A')(x:A')(U:Nat×List A')(fB:aa->M A')(ρ:aa):M C':=(fB (ρ.set i g_)).bind λb=>(asI b).bind λb=>(pK rs U b x).bind λJ=>.ok (.nx (ρ.set i (a_ (.lst J))))
def lU(i:Nat)(rs:List A')(x:A')(fA fB:aa->M A')(ρ:aa):M C':=(fA (ρ.set i g_)).bind λa=>(asI a).bind λa=>(rowAt rs a).bind λJ=>tK i rs x J fB ρ
def Be(i:Nat)(rs:List A')(fx fA fB:aa->M A')(ρ:aa):M C':=(fx (ρ.set i g_)).bind λx=>lU i rs x fA fB ρ
def vm(i:Nat)(fc fx fA fB:aa->M A'):aa->M C':=λρ=>(fc ρ).bind λd=>(lstOf d).bind λrs=>Be i rs fx fA fB ρ
def uJ(g:aa->M C')(m:M C'):M C':=m.bind λfl=>match fl with
 |.nx ρ'=>g ρ'|fl=>.ok fl
def eC{m:M C'}{e:Err}(h:m=.error e):uJ g m=.error e:=by rw[h];rfl
section
variable{W:cn}
def rs_rows{p:Pat}{fx fB:aa->M A'}(hL:∀ρ d,fe ρ=.ok d->∃es,d=.lst es)(hi:i<σ.length)(t:tS K W ro F0 H0 OL [] O' (ba (vm i (cC fi ix p ft fe) fx fA fB) g) D σ H):
  tSeq (wW i (iD K W fi) ix (gP K p) (tDT K W ft) (tD K W e_ fe)) (tSeq (tAsg (tD K W c_ fx) (gSub (tOp (rIx K) (Am i) (tD K W c_ fA)) (tD K W c_ fB) rSetL)) (tS K W ro F0 H0 OL [] O' g)) D σ H:=by
 obtain⟨FB,F,ρ,r,q⟩:=t;have rE:=r.repE;have q0:ck K W ro F0 H0 FB OL O' D (uJ g (vm i (cC fi ix p ft fe) fx fA fB ρ)):=q;refine rd_turns rE r.st.fh hL (λe P=>q0.fO r.st (eC (by unfold vm;rw[P];rfl))) λrs hrs ys F2 H2 T ow a ha=>?_;have q1:ck K W ro F0 H0 FB OL O' D (uJ g (Be i rs fx fA fB ρ)):=by unfold vm at q0;rw[hrs]at q0;exact q0
 have r2:jc K F2 (σ.set i (a_ (.ref a))) (ρ.set i g_):=⟨by rw[DM,DM,r.len],λj d e=>by
  by_cases O:i=j
  .subst O;rw[vw (by rw[r.len];exact hi)]at e;cases e
  .rw[m_ O]at e;obtain⟨v,h1,h2⟩:=rE.sl j d e;exact⟨v,by rw[m_ O];exact h1,h2.mono T.ff⟩⟩
 have sg:B5 F2 H2 F2 (upd H2 a (.lst ys)):=B5.grow T.fh ha;have s:=T.trans sg;refine aK r2 sg.fh (λe P=>q1.fO (r.st.trans s) (eC (by unfold Be;rw[P];rfl))) λx hx v F3 H3 f qx=>?_;have q2:ck K W ro F0 H0 FB OL O' D (uJ g (lU i rs x fA fB ρ)):=by unfold Be at q1;rw[hx]at q1;exact q1
 refine⟨.ref a,by rw[vw hi],?_⟩
 refine aK (r2.mono f.ff) f.fh (λe P=>q2.fO (r.st.trans (s.trans f)) (eC (by unfold lU;rw[P];rfl))) λda hda va F4 H4 y qa=>?_;cases da with
 |int ka=>
  have A:ck K W ro F0 H0 FB OL O' D (uJ g ((rowAt rs ka).bind λje=>tK i rs x je fB ρ)):=by unfold lU at q2;rw[hda]at q2;exact q2
  have h3a:H3 a=a_ (.lst ys):=f.hh _ _ ak;have h4a:=y.hh _ _ h3a;have Z:=((ow.step sg).step f).step y;have S:=s.trans (f.trans y);cases hj:ixN rs.length ka with
  |none=>exact A.stuck (eC (by unfold rowAt;rw[hj];rfl))|some j=>
   have L:=(vO hj).2.1;obtain⟨b,xs,es,g1,g2,g3,g4,g5,g6⟩:=Z.get j rs[j] (by simp[L]);have erj:rs[j]?=a_ (.lst es):=by rw[<- g2];simp[L]
   have X:ck K W ro F0 H0 FB OL O' D (uJ g (tK i rs x (j,es) fB ρ)):=by
    unfold rowAt at A;rw[hj]at A;have A:ck K W ro F0 H0 FB OL O' D (uJ g (((match rs[j]? with
     |some (.lst es)=>.ok (j,es)|_=>.error .stuck):M (Nat×List A')).bind λje=>tK i rs x je fB ρ)):=A
    rw[erj]at A;exact A
   refine .inl ⟨a,ys,ka,.ref b,rfl,qa,SqL.of h4a,?_,?_⟩
   .unfold atI;rw[ow.len,hj];exact g1
   refine aK (r2.mono (f.trans y).ff) y.fh (λe P=>X.fO (r.st.trans S) (eC (by unfold tK;rw[P];rfl))) λdb hdb vb U Q Y qb=>?_;cases db with
   |int kb=>
    have q5:ck K W ro F0 H0 FB OL O' D (uJ g ((pK rs (j,es) kb x).bind λrs'=>.ok (.nx (ρ.set i (a_ (.lst rs')))))):=by unfold tK at X;rw[hdb]at X;exact X
    cases hk:ixN es.length kb with
    |none=>exact q5.stuck (eC (by unfold pK;rw[show((j,es):Nat×List A').2=es from rfl,hk];rfl))|some k=>
     have q6:ck K W ro F0 H0 FB OL O' D (g (ρ.set i (a_ (.lst (rs.set j (.lst (es.set k x))))))):=by unfold pK at q5;rw[show((j,es):Nat×List A').2=es from rfl,hk]at q5;exact q5
     have h5a:=Y.hh _ _ h4a;have h5b:=Y.hh _ _ g3;have B:=Z.step Y;have st:B5 F H U Q:=S.trans Y;refine⟨b,xs,kb,k,rfl,qb,h5b,by rw[g6.length];exact hk,?_⟩
     have ma:H a=g_:=T.hh.free ha;have fa2:F2 a=g_:=T.fh.free ha;have f5a:U a=g_:=(f.trans (y.trans Y)).stays fa2 (ak (H:=H2) (a:=a) (o:=.lst ys));have nab:a≠b:=λz=>by obtain⟨_,_,_,w,_⟩:=ow.at (k:=j) (a:=b) g1;rw[<- z,ha]at w;cases w
     have G:∀c,(c=a\/∃m:Nat,ys[m]?=a_ (.ref c))->U c=g_/\H c=g_:=λc h=>by
      rcases h with z|⟨m,z⟩
      .rw[z];exact⟨f5a,ma⟩
      .obtain⟨_,_,_,_,z1,z2,_⟩:=B.at z;exact⟨z1,z2⟩
     have Ab:b=a\/∃m:Nat,ys[m]?=a_ (.ref b):=.inr ⟨j,g1⟩;have R:aO U (plus U (upd Q b (.lst (xs.set k v))) λc=>c=a\/∃m:Nat,ys[m]?=a_ (.ref c)):=λc o h=>by
      by_cases J:c=a\/∃m:Nat,ys[m]?=a_ (.ref c)
      .rw[(G c J).1]at h;cases h
      .rw[cR J];exact h
     have fh:aO (plus U (upd Q b (.lst (xs.set k v))) λc=>c=a\/∃m:Nat,ys[m]?=a_ (.ref c)) (upd Q b (.lst (xs.set k v))):=λc o h=>by
      by_cases J:c=a\/∃m:Nat,ys[m]?=a_ (.ref c)
      .rw[iu J]at h;exact h
      .rw[cR J]at h;have:c≠b:=λz=>J (by rw[z];exact Ab);rw[aq this];exact Y.fh c o h
     have E:aO F3 (plus U (upd Q b (.lst (xs.set k v))) λc=>c=a\/∃m:Nat,ys[m]?=a_ (.ref c)):=(y.trans Y).ff.trans R;have C:aO F4 (plus U (upd Q b (.lst (xs.set k v))) λc=>c=a\/∃m:Nat,ys[m]?=a_ (.ref c)):=Y.ff.trans R;refine⟨FB,plus U (upd Q b (.lst (xs.set k v))) (λc=>c=a\/∃m:Nat,ys[m]?=a_ (.ref c)),ρ.set i (a_ (.lst (rs.set j (.lst (es.set k x))))),?_,q6⟩
     have l:=r.st.trans st;refine⟨⟨l.ff.trans R,λc o h=>?_,fh,λc o h=>?_⟩,r.fb.trans (st.ff.trans R),by rw[DM,DM,r.len],λm d e _=>?_,(λm d e h=>nomatch h),(λm n d1 d2 c h=>nomatch h)⟩
     .have:c≠b:=λz=>by
       rw[z]at h;have:=r.st.hh _ _ h;rw[(G b Ab).2]at this;cases this
      rw[aq this];exact l.hh c o h
     .by_cases J:c=a\/∃m:Nat,ys[m]?=a_ (.ref c)
      .exact .inr (r.st.hh.free (G c J).2)
      .rw[cR J]at h;exact l.nw c o h
     .by_cases N:i=m
      .subst N;rw[vw (by rw[r.len];exact hi)]at e;cases e;refine⟨.ref a,by rw[vw hi],a,ys,rfl,SqL.of ?_,?_⟩
       .rw[iu (.inl rfl),aq nab];exact h5a
       .refine ax.of_get (by rw[DM];exact ow.len) λm d u e1 e2=>?_;by_cases I:j=m
        .subst I;rw[vw L]at e1;cases e1;rw[g1]at e2;cases e2;exact⟨b,xs.set k v,rfl,SqL.of (by rw[iu Ab,ak]),ax.set (aU.mono E qx) k (g6.mono C)⟩
        .rw[m_ I]at e1;obtain⟨c,ws,fs,k1,k2,k3,k4,k5,k6⟩:=B.get m d e1;rw[k1]at e2;cases e2;subst k2;have ncb:c≠b:=λz=>I (B.ap j m b g1 (by rw[<- z];exact k1));exact⟨c,ws,rfl,SqL.of (by rw[iu (.inr ⟨m,k1⟩),aq ncb];exact k3),k6.mono R⟩
      .rw[m_ N]at e;obtain⟨u,h1,h2⟩:=rE.sl m d e;exact⟨u,by rw[m_ N];exact h1,h2.mono (st.ff.trans R)⟩
   |_=>exact X.stuck (eC (by unfold tK;rw[hdb];rfl))
 |_=>exact q2.stuck (eC (by unfold lU;rw[hda];rfl))
end
def BW{fr:aa->M (List A')}:∀ρ d,fL kI fr ρ=.ok d->∃es,d=.lst es:=λρ d h=>by
 unfold fL at h;cases e:fr ρ with
 |error x=>rw[e]at h;cases h|ok ds=>
  rw[e]at h;have h:kI ds=.ok d:=h;unfold kI at h;split at h
  all_goals first
   |(cases h;done)
   |(split at h<;>first|(cases h;done)|(cases h;exact⟨_,rfl⟩))
   |(cases h;exact⟨_,rfl⟩)
section
variable{W:cn}{ex ea eb:EM}{pt:Pat}{fx fB:aa->M A'}
def ds_rows(N':List Dy)(ix:List (Option Nat))(w:X.N.Nodup)(hi:DI K W X tg iter fi)(q:∀L cs s H fp,DG K (b7 X N' sc L cs s H fp) tg pt)(o:om ix (gP K pt))(l:∀L cs s H fp,PTs (b7 X N' sc L cs s H fp) ifs (tDT K W ft))(r:∀L cs s H fp,DE K W e_ (b7 X N' sc L cs s H fp) elt fe)(y:∀ρ d,fe ρ=.ok d->∃es,d=.lst es)(k:DE K W c_ X ex fx)(C:DE K W c_ X ea fA)(B:DE K W c_ X eb fB)(n:DSs K W ro X OL [] O' sts g)(c: ~~~(X.N[i]?=a_ x))(j: ~~~(X.env.scope.names.lookup x=a_ .local))(t: ~~~(X.calm=e_))(A: ~~~(X.K=K))(Y: ~~~(Fd (.ListComp elt [⟨tg,iter,ifs,0⟩] sc pos) (a_ (.Name x py)) spos.line X.env=Ff e_))(h: ~~~(bB X.N X.env.scope N' sc ix=e_))(p: ~~~(sc.kind=.function))(m:autoParam (∀x,GG iter X.env x=Ff x) Jq5)(hv:autoParam (Vis X.env.scope x) Jq4)(hd:((x==("__debug__":Dy))=c_)⁻¹)(f:((x==("__classdict__":Dy))=c_)⁻¹)(b:autoParam (wM ea) Jq11)(u:autoParam (∀v,Iz (.Subscript (.Subscript (.Name x p1) ea p2) eb p3) X.env v=(do
   let J <- Hh [v] (DC (.Subscript (.Name x p1) ea p2) X.env)
   let U <- Hh [v,J] (DC eb X.env)
   JT p3
   Hh [v,J,U] (OX J U v)
   release [v,J,U] [])) Jq5)(a: ~~~(MF [.Subscript (.Subscript (.Name x p1) ea p2) eb p3] ex p4.line X.env=Ff c_))(hw: ~~~(MG [.Subscript (.Subscript (.Name x p1) ea p2) eb p3] ex X.env=Ff g_))(h1: ~~~((Gq [.Subscript (.Subscript (.Name x p1) ea p2) eb p3] X.env).map (·.2)=[Iz (.Subscript (.Subscript (.Name x p1) ea p2) eb p3) X.env])):
  DSs K W ro X OL [] O' (.Assign [.Name x py] (.ListComp elt [⟨tg,iter,ifs,0⟩] sc pos) spos::.Assign [.Subscript (.Subscript (.Name x p1) ea p2) eb p3] ex p4::sts) (ba (vm i (cC fi ix pt ft fe) fx fA fB) g):=by
 subst A;intro F0 H0 B4 s σ H D I z;have e:i<σ.length:=by rw[I.len];exact(v_.mp c).1
 refine iT (pN N' ix w c j t hi q o l r Y h p m) (iT (ps_asg k (pg_sub (pe_ix ix_seq (pv i c hv hd f) C b) B set_list u) a hw h1) (n F0 H0)) B4 s σ H D I ?_;exact rs_rows y e z
end
section
variable{s:k_}
def iV{q:i_}{xs:Array h_}{Q:Vp}(st:s.heap.IsTupleIter q a i)(J:s.heap.IsTuple a xs)(hv:xs[i]?=a_ v)(k:∀h',h'.IsTupleIter q a (i+1)->FN q s.heap h'->Q v {s with heap:=h'}):o_ (u_ prog w) A (GJ (.ref q)) Q E s:=by obtain⟨U,e1,e2,e3⟩:=id st;obtain⟨Y,f1,_,b,f3⟩:=J;have ty:=st.typeIs;unfold GJ;refine b_ (Ek (name:=Fq "__next__") ty Gy (DU Gy ty J6 ?_ (JY _)));show o_ _ _ (field (.ref q) 0 >>= _) _ _ s;refine b_ (E9 e1 e3 (x:=.ref a) rfl ?_);show o_ _ _ (if (w_ a==Er)=e_ then _ else _) _ _ s;rw[q_ (show ¬((w_ a==Er)=e_)from Dz)];show o_ _ _ (field (.ref q) 1 >>= _) _ _ s;refine b_ (E9 e1 e3 (x:=.int i 0) rfl ?_);show o_ _ _ (Lv (.ref a) >>= _) _ _ s;refine b_ (EK f1 f3 ?_);simp only[E8,hv];refine b_ (ED e1 e3 ad (f_ ⟨v,rfl,f_ (k _ ?_ (Ep ..))⟩));exact⟨_,Ef _ e1 (F7 (Ft e3 _)),(IP ..).trans e2,by rw[Ft e3];simp[EL]⟩
def nc{q:i_}{xs:Array h_}{Q:Vp}(hh:A.handled=g_)(st:s.heap.IsTupleIter q a i)(J:s.heap.IsTuple a xs)(hv:xs[i]?=g_)(k:∀h' e,EY q s.heap h'->(∃o,h'.get? e=a_ o/\o.cls=.type "StopIteration")->E (.ref e) {s with heap:=h'}):o_ (u_ prog w) A (GJ (.ref q)) Q E s:=by
 obtain⟨U,e1,e2,e3⟩:=id st;obtain⟨Y,f1,_,b,f3⟩:=J;have ty:=st.typeIs;unfold GJ;refine b_ (Ek (name:=Fq "__next__") ty Gy (DU Gy ty J6 ?_ (JY _)));show o_ _ _ (field (.ref q) 0 >>= _) _ _ s;refine b_ (E9 e1 e3 (x:=.ref a) rfl ?_);show o_ _ _ (if (w_ a==Er)=e_ then _ else _) _ _ s;rw[q_ (show ¬((w_ a==Er)=e_)from Dz)];show o_ _ _ (field (.ref q) 1 >>= _) _ _ s;refine b_ (E9 e1 e3 (x:=.int i 0) rfl ?_);show o_ _ _ (Lv (.ref a) >>= _) _ _ s;refine b_ (EK f1 f3 ?_);simp only[E8,hv];refine b_ (G2 (b_ (ED e1 e3 ad (b_ ?_))));simp only[Mg,Me];refine b_ (DH ?_ (by size_fits));refine b_ (m:=IV _ _) (GD (a:=Er) (by first|rfl|(simp only[firstArgMember];rfl)) ?_);refine DH ?_ (by size_fits);simp only[Md];refine b_ (Jr ?_);first|rw[show A.in1.handled=g_ from hh]|rw[hh]
 exact b_ (f_ (Kk (k _ _ (((Ep ..).extBut.push _).push _) ⟨_,l_ _ rfl,rfl⟩)))
end
def uy(hh:A.handled=g_)(q a:i_)(J:a≠q)(xs:Array h_):Draws prog w A q [q,a] xs.size (λi v=>xs[i]?=a_ v) (λi h=>h.IsTupleIter q a i/\h.IsTuple a xs) where
 live:=λ_ _ st=>let ⟨o,e,_⟩:=st.1;⟨o,e⟩
 frame:=λ_ _ _ st k=>⟨st.1.at λo e=>k q ad o e,let ⟨o,e,r⟩:=st.2;⟨o,k a ad o e,r⟩⟩
 item:=λi s Q E hi st k=>iV st.1 st.2 (v:=xs[i]) (by simp[hi]) λh' Y U=>k _ h' s.toks (by simp[hi]) ⟨Y,let ⟨o,e,r⟩:=st.2;⟨o,U.extBut a o J e,r⟩⟩ U
 done:=λs Q E st k=>nc hh st.1 st.2 ad k
def Cu(a:i_)(xs:Array h_)(n:Nat)(dd:Option i_)(sl:Array (Option h_)):Meets (Builtin.«enumerate.__new__» ⟨[.type "enumerate",.ref a],[]⟩) (λ_ R s=>s.heap.get? a=a_ {cls:=.type "tuple",dict:=dd,data:=.seq xs n,slots:=sl}/\R (.ok (.ret (.ref (s.heap.push {cls:=.type "tuple_iterator",data:=.fields #[.ref a,.int 0 0]}).objs.size))) {s with heap:=(s.heap.push {cls:=.type "tuple_iterator",data:=.fields #[.ref a,.int 0 0]}).push {cls:=.type "enumerate",data:=.fields #[.none,.bool c_,.ref s.heap.objs.size,EL 0,.none,.none]}}):=
 .of_wp λprog w A R s h=>by
  obtain⟨Y,g,d,tk,os⟩:=s;obtain⟨ea,h⟩:=h;have J:=sub_enumerate;have U:L6 (L4 ⟨Y,g,d,tk,os⟩) a xs:=⟨_,ea,rfl,n,rfl⟩
  wp_walk using Iu ea
  refine wpAny_stack_any λz=>f_ ?_;split
  .rename_i c _ _ _ _ _;cases(c==Gf "enumerate")<;>(wp_walk using Iu ea,HF U;exact⟨_,rfl,h⟩)
  .wp_walk using Iu ea,HF U
   exact⟨_,rfl,h⟩
section
variable{s:k_}
def A7{xs:Array h_}{Q:Vp}(d:s.heap.IsTuple a xs)(k:∀h',IsEnum h' (s.heap.objs.size+1) s.heap.objs.size 0 .none->h'.IsTupleIter s.heap.objs.size a 0->h'.objs.size=s.heap.objs.size+2->(∀b o,s.heap.get? b=a_ o->h'.get? b=a_ o)->Q (.ref (s.heap.objs.size+1)) {s with heap:=h'}):o_ (u_ prog w) A (HG (.type "enumerate") [.ref a]) Q E s:=by
 obtain⟨⟨c,dd,e,sl⟩,e1,e2,n,e3⟩:=d;have e2:c=.type "tuple":=e2;have e3:e=.seq xs n:=e3;subst e2 e3;refine callType_new PySem.F.called_enumerate ag (PySem.F.typeCall_enumerate_1 _) (PySem.F.newCall_enumerate_1 _) (λJ=>LU J _) PySem.F.entry_enumerate_new (Cu a xs n dd sl) ⟨e1,?_⟩;have U:(s.heap.push {cls:=.type "tuple_iterator",data:=.fields #[.ref a,.int 0 0]}).objs.size=s.z+1:=DZ ..;show _/\_;rw[U];have Y:IsEnum ((s.heap.push {cls:=.type "tuple_iterator",data:=.fields #[.ref a,.int 0 0]}).push {cls:=.type "enumerate",data:=.fields #[.none,.bool c_,.ref s.z,EL 0,.none,.none]}) (s.z+1) s.z 0 .none:=by have z:=l_ (s.heap.push {cls:=.type "tuple_iterator",data:=.fields #[.ref a,.int 0 0]}) (o:={cls:=.type "enumerate",data:=.fields #[.none,.bool c_,.ref s.z,EL 0,.none,.none]}) rfl;rw[U]at z;exact z
 exact⟨⟨_,Y,rfl⟩,k _ Y ⟨_,d_ _ (l_ _ rfl),rfl,rfl⟩ (by rw[DZ,U]) λb o z=>d_ _ (d_ _ z)⟩
end
def IteT(K:Fg)(a:i_):It:=
 ⟨λi H=>∃xs x,SqT K H a xs/\xs[i]?=a_ x,λi H x H'=>∃T y,H T=g_/\x=.ref T/\H'=upd H T (.tup [.int i,y])/\∀xs,SqT K H a xs->xs[i]?=a_ y,λi H=>∃xs,SqT K H a xs/\xs.length=i⟩
theorem yJ(a e Y:i_)(m:e≠Y):Turn P w K (.Tuple elts k pos) (IteT K a) [e,Y] e (λi h=>(∃U,IsEnum h e Y i U)/\h.IsTupleIter Y a i) where
 mem:=by simp
 obj:=λi h st b f=>by
  obtain⟨⟨U,g⟩,o,e1,c,d⟩:=st;rcases p_.mp f with N|f
  .subst N;exact⟨_,g,λv z=>by cases z⟩
  .have:b=Y:=by simpa using f
   subst this;exact⟨o,e1,λv z=>by rw[d]at z;cases z⟩
 keep:=λi h h' st kk=>by obtain⟨⟨U,g⟩,J⟩:=st;exact⟨⟨U,kk e ad _ g⟩,J.at λo x=>kk Y ad o x⟩
 item:=by
  intro X hP hw hK hc i B4 s σ H E I L st W;subst hP hw hK;obtain⟨⟨U,g⟩,J⟩:=st;obtain⟨xs,x,G,R⟩:=W;obtain⟨its,O,p,hz⟩:=I.tuple G;obtain⟨u,hu,ru⟩:=O.get R;have t:s.heap.IsTuple a its.toArray:=p;have j:a≠Y:=λz=>by obtain⟨o1,r,n,_⟩:=t;obtain⟨o2,c3,c4,_⟩:=J;rw[z,c3]at r;cases r;rw[c4]at n;exact DD n ag
  have Q:e≠a:=λz=>by obtain⟨o1,r,n,_⟩:=t;have D:s.heap.get? e=_:=g;rw[z,r]at D;cases D;exact DD n ad
  have T:i<its.toArray.size:=by have:=(v_.mp hu).1;simpa using this
  refine wpAny_pyNext_enum_itemD (uy (A:=X.A.in1) (show X.A.in1.handled=g_ from I.ok.hd hc) Y a j its.toArray) g ⟨J,t⟩ T m (by simp[m,Q]) λv h1 tk hv ho B hT hsz hk=>?_;have S:v=u:=by have hv:its.toArray[i]?=a_ v:=hv;rw[show its.toArray[i]?=its[i]? by simp,hu]at hv;exact(DV hv).symm
  subst S;refine⟨_,rfl,Mb ho λh2 Z l=>?_⟩
  have C:e<s.z:=mf g;have F:s.z≠e:=E7 C;have I1:B6 X B4 σ (upd H s.z (.tup [.int i,x])) {s with heap:=h2,toks:=tk+1}:=I.qI (ch:=[e,Y]) L (λb o f q=>by have h3:=hk b o (λz=>f (by simp[z])) (λz=>f (by simp[z])) q;exact(l.2 b (λz=>f (by simp[z]))).trans h3) (t_ _) ⟨by show 2<=n_;decide,[.int i tk,v],.cons ⟨_,rfl⟩ (.cons ru .nil),⟨_,(l.2 _ F).trans hT,rfl,0,rfl⟩⟩
  refine⟨.ref s.z,_,I1,rfl,⟨s.z,x,I.hok.fresh (t_ _),rfl,rfl,λys hy=>by rw[I.jG hy G];exact R⟩,⟨⟨v,by simpa using Z⟩,B.1.at λo y=>(l.2 Y m.symm).trans y⟩,λb f=>?_⟩
  have hbn:=(L b f).1;have:b≠s.z:=by
   rcases p_.mp f with N|f
   .subst N;exact F.symm
   .have:b=Y:=by simpa using f
    subst this;obtain⟨o,e1,_⟩:=J;exact Dx (mf e1)
  rw[aq this];exact hbn
 done:=by
  intro X hP hw hK hc i B4 s σ H E I L st W;subst hP hw hK;obtain⟨⟨U,g⟩,J⟩:=st;obtain⟨xs,G,R⟩:=W;obtain⟨its,O,p,hz⟩:=I.tuple G;have hl:=O.length;have t:s.heap.IsTuple a its.toArray:=p;have j:a≠Y:=λz=>by obtain⟨o1,r,n,_⟩:=t;obtain⟨o2,c3,c4,_⟩:=J;rw[z,c3]at r;cases r;rw[c4]at n;exact DD n ag
  have hn:i=its.toArray.size:=by simp;omega
  rw[hn]at J;exact wpAny_pyNext_enum_endD (uy (A:=X.A.in1) (show X.A.in1.handled=g_ from I.ok.hd hc) Y a j its.toArray) g ⟨J,t⟩ λh2 eb=>⟨rfl,I.qJ (t':=s.toks) (ch:=[e,Y]) L λb o f q=>eb b o (λz=>f (by simp[z])) q⟩
 self:=λ_ _ _ _ _ st h=>by obtain⟨⟨U,g⟩,_⟩:=st;exact HR g h
def zO{xs:am}{ds:List A'}(t:SqT K F a xs)(z:ax K F ds xs):pz K F (IteT K a) (cY 0 ds) where
 go:=λi F' H' Y J hi=>⟨xs,xs[i]'(by rw[z.length];rw[fP]at hi;exact hi),J.tup (Y.tup t),by rw[fP]at hi;simp[z.length,hi]⟩
 yl:=λi F' H' x H2 d Y J hd b=>by
  obtain⟨T,y,c,ex,e,b⟩:=b;subst ex e;rw[nM]at hd;cases U:ds[i]? with
  |none=>rw[U]at hd;cases hd|some d'=>
   rw[U]at hd;simp at hd;subst hd;obtain⟨v,e1,q⟩:=z.get U;have e2:=b xs (J.tup (Y.tup t));rw[e1]at e2;cases e2;refine⟨upd F' T (.tup [.int i,y]),B5.lay J c,T,_,rfl,SqT.of ak,?_⟩
   exact⟨.int i,[y],rfl,rfl,y,[],rfl,(q.mono Y).mono (aO.upd (J.free c)),rfl⟩
 st:=λF' H' Y J=>⟨xs,J.tup (Y.tup t),by rw[z.length,fP]⟩
def jl(fa:aa->M A'):aa->M (List A'):=λρ=>(fa ρ).bind λd=>(jj d).bind λds=>.ok (cY 0 ds)
@[simp]def e_enum2{fa:aa->M A'}{ρ:aa}:jl fa ρ=(fa ρ).bind λd=>(jj d).bind λds=>.ok (cY 0 ds):=id rfl
section
variable{W:cn}{a:EM}
def iEnum2(K:Fg)(tl:TE):TI:=λσ H R=>tl σ H λx H1=>∃a,x=.ref a/\((∃xs,SqL K H1 a xs)/\R (Ite K a) H1\/(∃xs,SqT K H1 a xs)/\R (IteT K a) H1)
def pi_enum2{tl:TE}(z:Gl X "enumerate")(w:X.mg "enumerate"=g_)(y:PE X a tl)(m: ~~~(j_ [a] X.env=[(c_,DC a X.env)])):
  PI X (.Tuple elts k q) (.Call (.Name "enumerate" p) [a] [] pos) (iEnum2 X.K tl):=by
 intro B4 s σ H R I h;have A:PA X [a] (gT tl wX):=aN y bR m;refine LM (fJ I z w boot_enumerate (DY (HH (A pos B4 s σ H (λvs H1=>match vs with
  |[x]=>∃a,x=.ref a/\((∃xs,SqL X.K H1 a xs)/\R (Ite X.K a) H1\/(∃xs,SqT X.K H1 a xs)/\R (IteT X.K a) H1)
  |_=>False) I h) λus J ⟨vs,H1,Y,t,q1⟩=>?_) m rfl))
 rcases vs with _|⟨x,_|⟨_,_⟩⟩
 .exact Ej q1
 rotate_left
 .exact Ej q1
 .obtain⟨l,e1,q⟩:=q1;subst e1;obtain⟨u,rfl,r⟩:=t.one;cases r;have e:∀b∈[J.z+1,J.z],Ak X B4 H1 b:=λb i=>by
   have d:J.z<=b:=by
    rcases p_.mp i with n|i
    .subst n;exact FT _
    .have:b=J.z:=by simpa using i
     exact KQ this.symm
   exact Y.fpOk d (Y.hok.fresh d)
  rcases q with⟨⟨xs,f⟩,q⟩|⟨⟨xs,f⟩,q⟩
  .obtain⟨its,o,pl,v⟩:=Y.list f;refine Ow pl.isList λh2 c U hsz g=>?_;have j:B6 X B4 σ H1 {J with heap:=h2}:=Y.kept (t':=J.toks) g;refine HR c ?_;exact⟨J.z+1,[J.z+1,J.z],_,_,H1,rfl,j,sU l _ _ (Jh _),⟨⟨_,c⟩,U⟩,e,q⟩
  .obtain⟨its,o,pl,v⟩:=Y.tuple f;refine A7 (show J.heap.IsTuple l its.toArray from pl) λh2 c U hsz g=>?_;have j:B6 X B4 σ H1 {J with heap:=h2}:=Y.kept (t':=J.toks) g;refine HR c ?_;exact⟨J.z+1,[J.z+1,J.z],_,_,H1,rfl,j,yJ l _ _ (Jh _),⟨⟨_,c⟩,U⟩,e,q⟩
def ri_enum2{R:It->Hp->Prop}(h:iD K W (jl fa) σ H R):iEnum2 K (tD K W c_ fa) σ H R:=by
 obtain⟨F,ρ,r,s,p⟩:=h;refine aK r s (λe U=>?_) λd hd v F1 H1 J q1=>?_
 .have z:jl fa ρ=.error e:=by unfold jl;rw[U];rfl
  rw[z]at p;exact p
 .have z:jl fa ρ=(jj d).bind λds=>.ok (cY 0 ds):=by unfold jl;rw[hd];rfl
  rw[z]at p;cases d with
  |lst ds=>obtain⟨b,xs,e,t,z⟩:=q1;exact⟨b,e,.inl ⟨⟨xs,J.fh.lst t⟩,p _ F1 H1 J (uc t z)⟩⟩
  |tup ds=>obtain⟨b,xs,e,t,z⟩:=q1;exact⟨b,e,.inr ⟨⟨xs,J.fh.tup t⟩,p _ F1 H1 J (zO t z)⟩⟩
  |_=>exact(W.ns p).elim
def rV(U:X.mg "enumerate"=g_)(Y:DE K W c_ X a fa)(b: ~~~(Gl X "enumerate"))(J: ~~~(j_ [a] X.env=[(c_,DC a X.env)]))(c: ~~~(X.K=K)):
  DI K W X (.Tuple elts k q) (.Call (.Name "enumerate" p) [a] [] pos) (jl fa):=by
 subst c;exact(pi_enum2 b U Y J).imp λ_ _ _=>ri_enum2
end
def j5{u:i_}(x:h.IsTupleIter u l i)(A:EY c h h')(n:u≠c):h'.IsTupleIter u l i:=x.at λo e=>A u o n e
def ip{xs:Array h_}(x:h.IsTuple l xs)(A:EY c h h')(n:l≠c):h'.IsTuple l xs:=let ⟨o,e,r⟩:=x;⟨o,A l o n e,r⟩
structure Ys(z p q u v l m:i_)(r k a b:h_)(i j:Nat)(xs ys:Array h_)(h:Eg):Prop where
 me:ZRec h z p q r k
 its:IC h p (.ref u) (.ref v)
 own:IC h q a b
 one:h.IsTupleIter u l i
 two:h.IsTupleIter v m j
 xl:h.IsTuple l xs
 yl:h.IsTuple m ys
section
variable{p q u v m:i_}{r k a b:h_}{xs ys:Array h_}
def Ys.atZ(D:Hy z p q u v l m)(Z:Ys z p q u v l m r k a b i j xs ys h)(A:EY z h h')(e:ZRec h' z p q r' k'):Ys z p q u v l m r' k' a b i j xs ys h':=
 ⟨e,A _ _ D.TIz Z.its,A _ _ D.TOz Z.own,j5 Z.one A D.i1z,j5 Z.two A D.i2z,ip Z.xl A D.l1z,ip Z.yl A D.l2z⟩
def Ys.atQ(D:Hy z p q u v l m)(Z:Ys z p q u v l m r k a b i j xs ys h)(A:EY q h h')(e:IC h' q a' b'):Ys z p q u v l m r k a' b' i j xs ys h':=
 ⟨A _ _ D.TOz.symm Z.me,A _ _ D.TITO Z.its,e,j5 Z.one A D.TOi1.symm,j5 Z.two A D.TOi2.symm,ip Z.xl A D.l1TO,ip Z.yl A D.l2TO⟩
def Ys.atU(D:Hy z p q u v l m)(Z:Ys z p q u v l m r k a b i j xs ys h)(A:EY u h h')(e:h'.IsTupleIter u l n):Ys z p q u v l m r k a b n j xs ys h':=
 ⟨A _ _ D.i1z.symm Z.me,A _ _ D.TIi1 Z.its,A _ _ D.TOi1 Z.own,e,j5 Z.two A D.i12.symm,ip Z.xl A D.l1i1,ip Z.yl A D.l2i1⟩
def Ys.atV(D:Hy z p q u v l m)(Z:Ys z p q u v l m r k a b i j xs ys h)(A:EY v h h')(e:h'.IsTupleIter v m n):Ys z p q u v l m r k a b i n xs ys h':=
 ⟨A _ _ D.i2z.symm Z.me,A _ _ D.TIi2 Z.its,A _ _ D.TOi2 Z.own,j5 Z.one A D.i12,e,ip Z.xl A D.l1i2,ip Z.yl A D.l2i2⟩
def Ys.new{o:H9}(Z:Ys z p q u v l m r k a b i j xs ys h):Ys z p q u v l m r k a b i j xs ys (h.push o):=
 ⟨d_ _ Z.me,d_ _ Z.its,d_ _ Z.own,Z.one.at λ_ e=>d_ _ e,Z.two.at λ_ e=>d_ _ e,(let ⟨o',e,t⟩:=Z.xl;⟨o',d_ _ e,t⟩),(let ⟨o',e,t⟩:=Z.yl;⟨o',d_ _ e,t⟩)⟩
end
section
variable{s:k_}{p q u v m:i_}{r k a b x y:h_}{xs ys:Array h_}
def Ax{T:Bool->k_->Prop}(Z:Ys z p q u v l m .none k a b i j xs ys s.heap)(J:T e_ s):o_ (u_ P w) A (NK (.ref z)) T E s:=
 b_ (E9 Z.me rfl (x:=.none) rfl (f_ J))
def Aw{T:Unit->k_->Prop}(D:Hy z p q u v l m)(Z:Ys z p q u v l m r k a b i j xs ys s.heap)(J:(#[a,b]:Array h_).setIfInBounds n x=#[a',b'])(U:∀h',EY q s.heap h'->h'.objs.size=s.heap.objs.size->Ys z p q u v l m r k a' b' i j xs ys h'->T () {s with heap:=h'}):o_ (u_ P w) A (Lu q (·.setIfInBounds n x)) T E s:=
 wpAny_updateSeq_pair Z.own λh' e B=>U h' B.extBut B.1 (Z.atQ D B.extBut (by rw[J]at e;exact e))
def wQ{c:h_}{T:Unit->k_->Prop}(D:Hy z p q u v l m)(Z:Ys z p q u v l m r k a b i j xs ys s.heap)(J:n<5)(U:(#[r,k,.bool c_,.ref p,.ref q]:Array h_).setIfInBounds n c=#[r',k',.bool c_,.ref p,.ref q])(Y:∀h',EY z s.heap h'->h'.objs.size=s.heap.objs.size->Ys z p q u v l m r' k' a b i j xs ys h'->T () {s with heap:=h'}):o_ (u_ P w) A (Km (.ref z) n c) T E s:=
 OE Z.me J λh' e B=>Y h' B.extBut B.1 (Z.atZ D B.extBut (by rw[U]at e;exact e))
theorem ys_gives{T:Vp}(D:Hy z p q u v l m)(Z:Ys z p q u v l m .none (.bool c_) a b i j xs ys s.heap)(Q:xs[i]?=a_ x)(O:ys[j]?=a_ y)(R:∀h' a' b',Ys z p q u v l m (EL s.heap.objs.size) (.bool c_) a' b' (i+1) (j+1) xs ys h'->IC h' s.heap.objs.size x y->Off z q u v s.heap h'->T (.ref s.heap.objs.size) {s with heap:=h'}):
  o_ (u_ P w) A (Builtin.«zip.__next__» ⟨[.ref z],[]⟩) (λf s'=>∃c,f=.done (.ret c)/\T c s') E s:=by
 have J:∀{n:Nat} {c:h_} {K:Vp} {s':k_} {r k a b:h_} {i j:Nat},Ys z p q u v l m r k a b i j xs ys s'.heap->(#[r,k,.bool c_,.ref p,.ref q]:Array h_)[n]?=a_ c->K c s'->o_ (u_ P w) A (field (.ref z) n) K E s':=
  λZ e t=>E9 Z.me rfl e t
 refine b_ (show o_ _ _ (Ff (w_ z,([]:as))) _ _ _ from f_ ?_);refine b_ (J Z (n:=2) rfl (b_ (J Z (n:=3) rfl (b_ (EK Z.its rfl ?_)))));refine b_ (Ax Z ?_);rw[s_ rfl];refine b_ (G2 (b_ (J Z (n:=4) rfl (b_ (wQ D Z (n:=0) ag rfl λg1 B1 e1 C=>?_)))));refine b_ ?_;simp only[Py,Jw,Iv];refine b_ (b_ (Ik (b_ (iV C.one C.xl Q λg2 S B2=>f_ ?_))));have I:=C.atU D B2.extBut S;refine b_ (EK I.own rfl (b_ (Aw D I (n:=0) rfl λg3 B3 e3 B=>b_ (HK (f_ ?_)))));refine b_ (b_ (Ik (b_ (iV B.two B.yl O λg4 f4 F=>f_ ?_))));have H:=B.atV D F.extBut f4;refine b_ (EK H.own rfl (b_ (Aw D H (n:=1) rfl λd X e5 o=>b_ (HK (f_ (f_ ?_))))));refine b_ (EK o.own rfl (b_ (L_ ?_)));have Y:d.objs.size=s.z:=e5.trans (F.1.trans (e3.trans (B2.1.trans e1)));have lt:z<d.objs.size:=mf o.me;refine b_ (b_ (wQ D o.new (n:=0) (r':=EL d.objs.size) ag rfl λg6 N e6 W=>wQ D W (n:=1) ag rfl λh L e7 G=>?_));refine f_ (Exists.intro _ ⟨rfl,?_⟩);have U:IC h d.objs.size x y:=L _ _ (E7 lt) (N _ _ (E7 lt) (l_ _ rfl));have g:Off z q u v s.heap h:=(Off.byZ B1).then ((Off.byU B2.extBut).then ((Off.byQ B3).then ((Off.byV F.extBut).then ((Off.byQ X).then (Off.new.then ((Off.byZ N).then (Off.byZ L)))))))
 show T (.ref d.objs.size) _;rw[Y]at U G ⊢;exact R h _ _ G U g
def ys_ends{T:Mn->k_->Prop}(hh:A.handled=g_)(D:Hy z p q u v l m)(Z:Ys z p q u v l m .none (.bool c_) a b i j xs ys s.heap)(J:xs[i]?=g_\/ys[j]?=g_)(r:∀h' c,Off z q u v s.heap h'->(∃o,h'.get? c=a_ o/\o.cls=.type "StopIteration")->E (.ref c) {s with heap:=h'}):
  o_ (u_ P w) A (Builtin.«zip.__next__» ⟨[.ref z],[]⟩) T E s:=by
 refine b_ (show o_ _ _ (Ff (w_ z,([]:as))) _ _ _ from f_ ?_);refine b_ (E9 Z.me rfl (i:=2) rfl (b_ (E9 Z.me rfl (i:=3) rfl (b_ (EK Z.its rfl ?_)))));refine b_ (Ax Z ?_);rw[s_ rfl];refine b_ (G2 (b_ (E9 Z.me rfl (i:=4) rfl (b_ (wQ D Z (n:=0) ag rfl λL C e1 U=>?_)))));refine b_ ?_;simp only[Py,Jw,Iv];cases Y:xs[i]? with
 |none=>refine b_ (b_ (Ik (b_ (nc hh U.one U.xl Y λg2 c B2 f=>?_))));exact Av (B2 _ _ D.i1z.symm U.me) f λt k e=>r t c ((Off.byZ C).then ((Off.byU B2).then (Off.byZ k))) e|some x=>have F:ys[j]?=g_:=J.resolve_left (by rw[Y];exact λh=>nomatch h);refine b_ (b_ (Ik (b_ (iV U.one U.xl Y λg2 H B2=>f_ ?_))));have y:=U.atU D B2.extBut H;refine b_ (EK y.own rfl (b_ (Aw D y (n:=0) rfl λt k e3 g=>b_ (HK (f_ ?_)))));refine b_ (b_ (Ik (b_ (nc hh g.two g.yl F λK c B f=>?_))));exact Av (B _ _ D.i2z.symm g.me) f λG I d=>r G c ((Off.byZ C).then ((Off.byU B2.extBut).then ((Off.byQ k).then ((Off.byV B).then (Off.byZ I))))) d
def yn_gives{T:Option h_->k_->Prop}(D:Hy z p q u v l m)(Z:Ys z p q u v l m .none (.bool c_) a b i j xs ys s.heap)(Y:xs[i]?=a_ x)(U:ys[j]?=a_ y)(d:∀h' a' b',Ys z p q u v l m (EL s.heap.objs.size) (.bool c_) a' b' (i+1) (j+1) xs ys h'->IC h' s.heap.objs.size x y->Off z q u v s.heap h'->T (a_ (.ref s.heap.objs.size)) {s with heap:=h'}):
  o_ (u_ P w) A (Gv (.ref z)) T E s:=by
 have ty:s.TypeIs (.ref z) "zip":=⟨_,Z.me,rfl⟩
 have J:=ys_gives (P:=P) (w:=w) (A:=A.in1) (E:=λ_ _=>False) (T:=λc s'=>T (a_ c) s') D Z Y U d;unfold Gv;refine b_ (F_ (Ek (name:=Fq "__next__") ty HC ?_));refine DU HC ty LG (Ew J (λf s' h=>?_) λ_ _ h=>h.elim) (Lp _);obtain⟨c,e,h⟩:=h;exact⟨c,e,f_ h⟩
def yn_ends{T:Option h_->k_->Prop}(hh:A.handled=g_)(D:Hy z p q u v l m)(Z:Ys z p q u v l m .none (.bool c_) a b i j xs ys s.heap)(J:xs[i]?=g_\/ys[j]?=g_)(d:∀h',Off z q u v s.heap h'->T g_ {s with heap:=h'}):o_ (u_ P w) A (Gv (.ref z)) T E s:=by
 have ty:s.TypeIs (.ref z) "zip":=⟨_,Z.me,rfl⟩
 unfold Gv;refine b_ (F_ (Ek (name:=Fq "__next__") ty HC ?_));refine DU HC ty LG (ys_ends hh D Z J λh' c U Y=>?_) (Lp _);obtain⟨o,e,t⟩:=Y;exact b_ (FF (T:="StopIteration") (b:=e_) ⟨o,e,t⟩ IU (f_ (d h' U)))
end
def ItzT(K:Fg)(a b:i_):It:=
 ⟨λi H=>∃xs ys x y,SqT K H a xs/\SqT K H b ys/\xs[i]?=a_ x/\ys[i]?=a_ y,λi H v H'=>∃T x y,H T=g_/\v=.ref T/\H'=upd H T (.tup [x,y])/\(∀xs,SqT K H a xs->xs[i]?=a_ x)/\∀ys,SqT K H b ys->ys[i]?=a_ y,λi H=>∃xs ys,SqT K H a xs/\SqT K H b ys/\(xs.length<=i\/ys.length<=i)⟩
def AI{p q u v m:i_}(D:Hy z p q u v l m):
  Turn P w K (.Tuple elts k pos) (ItzT K l m) [z,p,q,u,v] z (λi h=>IsZip h z p q .none/\IC h p (.ref u) (.ref v)/\(∃a b,IC h q a b)/\h.IsTupleIter u l i/\h.IsTupleIter v m i) where
 mem:=Ea
 obj:=λi h ⟨f,its,⟨_,_,own⟩,⟨o1,e1,_,d1⟩,⟨o2,e2,_,d2⟩⟩ c Q=>by
  simp only[p_,DK,FO]at Q;rcases Q with e|e|e|e|e<;>subst e
  .exact⟨_,f,λ_ t=>nomatch t⟩
  .exact⟨_,its,λ_ t=>nomatch t⟩
  .exact⟨_,own,λ_ t=>nomatch t⟩
  .exact⟨o1,e1,λ_ t=>by rw[d1]at t;cases t⟩
  .exact⟨o2,e2,λ_ t=>by rw[d2]at t;cases t⟩
 keep:=λi h h' ⟨f,its,⟨a,b,own⟩,Y,U⟩ G=>⟨G z ad _ f,G p ad _ its,⟨a,b,G q ad _ own⟩,Y.at λo x=>G u ad o x,U.at λo x=>G v ad o x⟩
 item:=by
  rintro X rfl rfl rfl j i B4 s σ H E I O ⟨f,its,⟨a,b,own⟩,Y,U⟩ ⟨xs,ys,x,y,N,L,gx,gy⟩;obtain⟨vs,T,W,_⟩:=I.tuple N;obtain⟨ws,S,py,_⟩:=I.tuple L;obtain⟨c,Q,rc⟩:=T.get gx;obtain⟨d,hd,rd⟩:=S.get gy;refine yn_gives D ⟨f,its,own,Y,U,W,py⟩ (x:=c) (y:=d) (by simpa using Q) (by simpa using hd) λh' a' b' Z A r=>⟨_,rfl,Mw Z.me λg C B=>?_⟩
  have F:∀e∈[z,p,q,u,v],e<s.z:=by
   simp only[p_,DK,FO];rintro e (rfl|rfl|rfl|rfl|rfl)
   .exact mf f
   .exact mf its
   .exact mf own
   .exact Y.elim λ_ t=>mf t.1
   .exact U.elim λ_ t=>mf t.1
  have R:=Z.atZ D B.extBut C;have nz:s.z≠z:=E7 (F z ad);have I':B6 X B4 σ (upd H s.z (.tup [x,y])) {s with heap:=g,toks:=s.toks}:=I.qI (ch:=[z,p,q,u,v]) O (λe o J t=>by simp only[p_,DK,FO,L9]at J;exact B.extBut e o J.1 (r e o J.1 J.2.2.1 J.2.2.2.1 J.2.2.2.2 t)) (t_ _) ⟨by show 2<=n_;decide,[c,d],.cons rc (.cons rd .nil),⟨_,B.extBut _ _ nz A,rfl,0,rfl⟩⟩
  refine⟨.ref s.z,_,I',rfl,⟨_,x,y,I.hok.fresh (t_ _),rfl,rfl,λ_ t=>by rw[I.jG t N];exact gx,λ_ t=>by rw[I.jG t L];exact gy⟩,⟨C,R.its,⟨_,_,R.own⟩,R.one,R.two⟩,λe J=>?_⟩
  rw[aq (Dx (F e J))];exact(O e J).1
 done:=by
  rintro X rfl rfl rfl j i B4 s σ H E I O ⟨f,its,⟨a,b,own⟩,Y,U⟩ ⟨xs,ys,N,L,n⟩;obtain⟨vs,T,W,_⟩:=I.tuple N;obtain⟨ws,S,py,_⟩:=I.tuple L;have nx:=T.length;have ny:=S.length;refine yn_ends (I.ok.hd j) D ⟨f,its,own,Y,U,W,py⟩ (n.imp (λt=>Fh (by simp;omega)) λt=>Fh (by simp;omega)) λh' r=>⟨rfl,I.qJ (t':=s.toks) (ch:=[z,p,q,u,v]) O λe o J t=>?_⟩
  simp only[p_,DK,FO,L9]at J;exact r e o J.1 J.2.2.1 J.2.2.2.1 J.2.2.2.2 t
 self:=λ_ _ _ _ _ st h=>JD st.1 h
noncomputable abbrev tit(l:i_):H9:={cls:=.type "tuple_iterator",data:=.fields #[.ref l,.int 0 0]}
abbrev zA(h:Eg)(l:i_):Eg:=h.push (tit l)
abbrev zB(h:Eg)(l m:i_):Eg:=(zA h l).push (tit m)
abbrev zC(h:Eg)(l m:i_):Eg:=(zB h l m).push {cls:=.type "tuple",data:=.seq #[.ref h.objs.size,.ref (zA h l).objs.size]}
abbrev zD(h:Eg)(l m:i_):Eg:=(zC h l m).push {cls:=.type "tuple",data:=.seq #[.none,.none]}
abbrev zE(h:Eg)(l m:i_):Eg:=(zD h l m).push {cls:=.type "zip",data:=.fields #[.none,.bool c_,.bool c_,.ref (zB h l m).objs.size,.ref (zC h l m).objs.size]}
def zip_newT(l m:i_)(xs ys:Array h_):Meets (Builtin.«zip.__new__» ⟨[.type "zip",.ref l,.ref m],[]⟩) (λ_ R s=>s.heap.IsTuple l xs/\s.heap.IsTuple m ys/\R (.ok (.ret (.ref (zD s.heap l m).objs.size))) {s with heap:=zE s.heap l m}):=
 .of_wp λprog w A R s h=>by
  obtain⟨U,g,d,tk,os⟩:=s;obtain⟨a,Y,h⟩:=h;have J:=sub_zip;have c:L6 (L4 ⟨U,g,d,tk,os⟩) l xs:=a;have b:L6 (L4 ⟨U.push {cls:=.type "tuple_iterator",data:=.fields #[.ref l,.int 0 0]},g,d,tk,os⟩) m ys:=Heap.IsTuple.push Y _
  wp_walk using HF c,HF b
  exact⟨_,rfl,h⟩
section
variable{s:k_}
def D6{m:i_}{xs ys:Array h_}{Q:Vp}(h:s.heap.IsTuple l xs)(g:s.heap.IsTuple m ys)(k:∀h',IsZip h' (s.heap.objs.size+4) (s.heap.objs.size+2) (s.heap.objs.size+3) .none->IC h' (s.heap.objs.size+2) (.ref s.heap.objs.size) (.ref (s.heap.objs.size+1)) ->
   IC h' (s.heap.objs.size+3) .none .none->h'.IsTupleIter s.heap.objs.size l 0->h'.IsTupleIter (s.heap.objs.size+1) m 0->(∀c o,s.heap.get? c=a_ o->h'.get? c=a_ o)->Q (.ref (s.heap.objs.size+4)) {s with heap:=h'}):
  o_ (u_ prog w) A (HG (.type "zip") [.ref l,.ref m]) Q E s:=by
 refine callType_new PySem.F.called_zip ag (PySem.F.typeCall_zip_2 _ _) (PySem.F.newCall_zip_2 _ _) (λJ=>PySem.F.args_object_init_3 J _ _) PySem.F.entry_zip_new (zip_newT l m xs ys) ⟨h,g,?_⟩;have a:(zA s.heap l).objs.size=s.z+1:=DZ ..;have n2:(zB s.heap l m).objs.size=s.z+2:=by rw[DZ,a]
 have Y:(zC s.heap l m).objs.size=s.z+3:=by rw[DZ,n2]
 have f:(zD s.heap l m).objs.size=s.z+4:=by rw[DZ,Y]
 have U:(zE s.heap l m).get? (zD s.heap l m).objs.size=a_ _:=l_ _ rfl;have b:(zE s.heap l m).get? (zC s.heap l m).objs.size=a_ _:=d_ _ (l_ _ rfl);have d:(zE s.heap l m).get? (zB s.heap l m).objs.size=a_ _:=d_ _ (d_ _ (l_ _ rfl));have e:(zE s.heap l m).get? (zA s.heap l).objs.size=a_ _:=d_ _ (d_ _ (d_ _ (l_ _ rfl)));have i:(zE s.heap l m).get? s.z=a_ _:=d_ _ (d_ _ (d_ _ (d_ _ (l_ _ rfl))));show _/\_;rw[n2,Y,f]at U;rw[a,n2]at d;rw[Y]at b;rw[a]at e;rw[f];exact⟨⟨_,U,rfl⟩,k _ U d b ⟨_,i,rfl,rfl⟩ ⟨_,e,rfl,rfl⟩ λc o t=>d_ _ (d_ _ (d_ _ (d_ _ (d_ _ t))))⟩
end
def C9{xs ys:am}{ds es:List A'}(t:SqT K F a xs)(z:ax K F ds xs)(g:SqT K F b ys)(e:ax K F es ys):pz K F (ItzT K a b) (ko ds es) where
 go:=λi F' H' U J hi=>by rw[jD]at hi;exact⟨xs,ys,xs[i]'(by rw[z.length];omega),ys[i]'(by rw[e.length];omega),J.tup (U.tup t),J.tup (U.tup g),C_ _,C_ _⟩
 yl:=λi F' H' x H2 d U J hd k=>by
  obtain⟨T,j,f,h,ex,l,h1,h2⟩:=k;subst ex l;rw[qC]at hd;cases Y:ds[i]? with
  |none=>rw[Y]at hd;cases hd|some o=>
   cases c:es[i]? with
   |none=>rw[Y,c]at hd;cases hd|some n=>
    rw[Y,c]at hd;simp at hd;subst hd;obtain⟨v,e1,q⟩:=z.get Y;obtain⟨m,e2,q2⟩:=e.get c;have e3:=h1 xs (J.tup (U.tup t));have e4:=h2 ys (J.tup (U.tup g));rw[e1]at e3;rw[e2]at e4;cases e3;cases e4;refine⟨upd F' T (.tup [j,f]),B5.lay J h,T,_,rfl,SqT.of ak,?_⟩
    exact⟨j,[f],rfl,(q.mono U).mono (aO.upd (J.free h)),f,[],rfl,(q2.mono U).mono (aO.upd (J.free h)),rfl⟩
 st:=λF' H' U J=>⟨xs,ys,J.tup (U.tup t),J.tup (U.tup g),by rw[z.length,e.length,jD];omega⟩
def jz:A'->M (List A')
 |.tup ds=>.ok ds|_=>.error .stuck
def nJ(fa fb:aa->M A'):aa->M (List A'):=λρ=>(fa ρ).bind λa=>(fb ρ).bind λb=>(jz a).bind λds=>(jz b).bind λes=>.ok (ko ds es)
@[simp]def e_zipT{fa fb:aa->M A'}{ρ:aa}:nJ fa fb ρ=(fa ρ).bind λa=>(fb ρ).bind λb=>(jz a).bind λds=>(jz b).bind λes=>.ok (ko ds es):=id rfl
@[simp]def e_itemsTD(ds:List A'):jz (.tup ds)=.ok ds:=id rfl
section
variable{W:cn}{a b:EM}
def iZipT(K:Fg)(ta tb:TE):TI:=λσ H R=>ta σ H λx H1=>tb σ H1 λy H2=>∃c d,x=.ref c/\y=.ref d/\(∃xs,SqT K H2 c xs)/\(∃ys,SqT K H2 d ys)/\R (ItzT K c d) H2
def pi_zipT{tb:TE}(N:Gl X "zip")(L:X.mg "zip"=g_)(P:PE X a ta)(O:PE X b tb)(u:j_ [a,b] X.env=[(c_,DC a X.env),(c_,DC b X.env)])(U:j_ [b] X.env=[(c_,DC b X.env)]):
  PI X (.Tuple elts k q) (.Call (.Name "zip" p) [a,b] [] pos) (iZipT X.K ta tb):=by
 intro B4 s σ H R I h;have i:PA X [a,b] (gT ta (gT tb wX)):=aN P (aN O bR U) (by rw[u,U]);have j:=i pos B4 s σ H (λvs H1=>match vs with|[x,y]=>∃c d,x=.ref c/\y=.ref d/\(∃xs,SqT X.K H1 c xs)/\(∃ys,SqT X.K H1 d ys)/\R (ItzT X.K c d) H1|_=>False) I h;refine LM (fJ I N L boot_zip (DY (HH j λus J K=>?_) (by rw[u,U]) (by rw[U];rfl)));obtain⟨vs,H1,l,B,q1⟩:=K;rcases vs with _|⟨x,_|⟨y,_|⟨_,_⟩⟩⟩
 .exact Ej q1
 .exact Ej q1
 rotate_left
 .exact Ej q1
 .obtain⟨c,d,T,S,⟨xs,G⟩,⟨ys,F⟩,Q⟩:=q1;subst T S;obtain⟨_,_,rfl,A,z⟩:=B.two;cases A;cases z;obtain⟨vs,Z,C,_⟩:=l.tuple G;obtain⟨w,W,py,_⟩:=l.tuple F;have f:J.heap.IsTuple c vs.toArray:=C;have Y:J.heap.IsTuple d w.toArray:=py;have E:c<J.z:=f.elim λ_ t=>mf t.1;have D:d<J.z:=Y.elim λ_ t=>mf t.1;refine D6 f Y λh' r its own n m o=>JD r ?_;have g:∀e∈[J.z+4,J.z+2,J.z+3,J.z,J.z+1],J.z<=e:=by
   simp only[p_,DK,FO];rintro e (rfl|rfl|rfl|rfl|rfl)<;>omega
  exact⟨_,_,_,_,H1,rfl,l.kept (t':=J.toks) o,AI (zipApart_new E D),⟨r,its,⟨_,_,own⟩,n,m⟩,λe v=>l.fpOk (g e v) (l.hok.fresh (g e v)),Q⟩
def ri_zipT{R:It->Hp->Prop}(h:iD K W (nJ fa fb) σ H R):iZipT K (tD K W c_ fa) (tD K W c_ fb) σ H R:=by
 obtain⟨F,ρ,r,s,p⟩:=h;refine aK r s (λe b=>?_) λj Y o F1 H1 a q1=>?_
 .have z:nJ fa fb ρ=.error e:=by unfold nJ;rw[b];rfl
  rw[z]at p;exact p
 .refine aK (r.mono a.ff) a.fh (λe b=>?_) λg f n F2 H2 U q2=>?_
  .have z:nJ fa fb ρ=.error e:=by unfold nJ;rw[Y];show(fb ρ).bind _=_;rw[b];rfl
   rw[z]at p;exact W.mono p a
  .have z:nJ fa fb ρ=(jz j).bind λds=>(jz g).bind λes=>.ok (ko ds es):=by unfold nJ;rw[Y];show(fb ρ).bind _=_;rw[f];rfl
   rw[z]at p;cases j with
   |tup ds=>
    cases g with
    |tup es=>obtain⟨c,xs,e1,m,l⟩:=q1;obtain⟨d,ys,e2,i,k⟩:=q2;have J:=U.ff.tup m;exact⟨c,d,e1,e2,⟨xs,U.fh.tup J⟩,⟨ys,U.fh.tup i⟩,p _ F2 H2 (a.trans U) (C9 J (l.mono U.ff) i k)⟩
    |_=>exact(W.ns p).elim
   |_=>cases g<;>exact(W.ns p).elim
def CM(Y:X.mg "zip"=g_)(e:DE K W c_ X a fa)(d:DE K W c_ X b fb)(c: ~~~(Gl X "zip"))(U: ~~~(j_ [a,b] X.env=[(c_,DC a X.env),(c_,DC b X.env)]))(J: ~~~(j_ [b] X.env=[(c_,DC b X.env)]))(f: ~~~(X.K=K)):
  DI K W X (.Tuple elts k q) (.Call (.Name "zip" p) [a,b] [] pos) (nJ fa fb):=by
 subst f;exact(pi_zipT c Y e d U J).imp λ_ _ _=>ri_zipT
end
structure RepR(K:Fg)(F0 H0 FB:Hp)(i:Nat)(a:i_)(ys:am)(rs:List A')(F H:Hp)(σ:St)(ρ:aa):Prop where
 r:Rep K F0 H0 FB [] F H σ ρ
 sl:σ[i]?=a_ (a_ (.ref a))
 hp:H a=a_ (.lst ys)
 fa:F a=g_
 ha:H0 a=g_
 nm:∀m:Nat,ys[m]?≠a_ (.ref a)
 ow:mm K F H0 H rs ys
section
variable{ys:List V}
theorem RepR.step(h:RepR K F0 H0 FB i a ys rs F H σ ρ)(s:B5 F H F1 H1):RepR K F0 H0 FB i a ys rs F1 H1 σ ρ:=
 ⟨h.r.step s,h.sl,s.hh _ _ h.hp,s.stays h.fa h.hp,h.ha,h.nm,h.ow.step s⟩
theorem RepR.base{J:Hp}(h:RepR K F0 H0 FB i a ys rs F H σ ρ)(s:aO J FB):RepR K F0 H0 J i a ys rs F H σ ρ:=⟨h.r.base s,h.sl,h.hp,h.fa,h.ha,h.nm,h.ow⟩
end
section
variable[HJ κ]
noncomputable def dropK(J:List (κ×V))(k:κ):List (κ×V):=J.filter λU=>z_ (U.1≠k)
def pq.Ci{o:Option V}{u:Option h_}(r:pq o u):o.isSome=u.isSome:=by
 cases o with
 |none=>cases u with
  |none=>rfl|some _=>exact(show False from r).elim
 |some _=>cases u with
  |none=>exact(show False from r).elim|some _=>rfl
theorem pq.getD{o:Option V}{u:Option h_}{d:V}{d':h_}(r:pq o u)(J:D' d d'):D' (o.getD d) (u.getD d'):=by
 cases o with
 |none=>cases u with
  |none=>exact J|some _=>exact(show False from r).elim
 |some _=>cases u with
  |none=>exact(show False from r).elim|some _=>exact r
def KV.drop{J:List (κ×V)}{vs:List (κ×h_)}(r:KV J vs)(k:κ):KV (dropK J k) (without vs k):=by
 unfold KV at r ⊢;unfold dropK without
 induction r with
 |nil=>exact .nil|@cons p q ps c h t U=>
  obtain⟨h1,h2⟩:=h;rw[NV,NV];by_cases e:p.1=k
  .have a:¬z_ (p.1≠k)=e_:=by simp[e]
   have b:¬z_ (q.1≠k)=e_:=by simp[h1.symm.trans e]
   rw[q_ a,q_ b];exact U
  .have Y:¬q.1=k:=λz=>e (h1.trans z);have a:z_ (p.1≠k)=e_:=by simp[e]
   have b:z_ (q.1≠k)=e_:=by simp[Y]
   rw[s_ a,s_ b];exact .cons ⟨h1,h2⟩ U
theorem KV.length{J:List (κ×V)}{vs:List (κ×h_)}(r:KV J vs):J.length=vs.length:=IF r
end
section
variable{s:k_}
def B6.big(I:B6 X B4 σ H s):Fm<s.heap.objs.size:=by have h:Eo<s.z:=(I.mod.glob.keeps I.bk).lt;exact Jt ag h
end
def AN:List (TE×TE)->St->Hp->(List (V×V)->Hp->Prop)->Prop
 |[],_,H,Q=>Q [] H|(tk,tv)::r,σ,H,Q=>tk σ H λx H1=>tv σ H1 λy H2=>AN r σ H2 λps J=>Q ((x,y)::ps) J
abbrev VV:List (V×V)->List (h_×h_)->Prop:=HI λp q=>D' p.1 q.1/\D' p.2 q.2
def PPs(X:Cx)(pos:Pos)(U:List (Option EM))(J:List EM)(Y:List (TE×TE)):Prop:=
 ∀(B4:Pn) (s:k_) (σ:St) (H:Hp) (Q:List (V×V)->Hp->Prop),B6 X B4 σ H s->AN Y σ H Q ->
  o_ (u_ X.prog X.w) X.A (evalPairs (pairTrees U J X.env pos)) (λvs s'=>∃ps H',B6 X B4 σ H' s'/\VV ps vs/\Q ps H') X.xe s
def pps_nil:PPs X pos [] [] []:=λB4 s σ H Q I h=>pairTrees_nil_walk ⟨[],H,I,.nil,h⟩
def pps_cons{k v:EM}{ks:List (Option EM)}{vs:List EM}{tk:TE}{J:List (TE×TE)}(f:PE X k tk)(hv:PE X v tv)(e:PPs X pos ks vs J):
  PPs X pos (a_ k::ks) (v::vs) ((tk,tv)::J):=λB4 s σ H Q I h=>
 pairTrees_cons_walk (HH (f B4 s σ H _ I h) λu a ⟨x,H1,j,c,q1⟩=>HH (hv B4 a σ H1 _ j q1) λn Y ⟨y,H2,i,b,q2⟩=>HH (e B4 Y σ H2 _ i q2) λm o ⟨ps,l,g,U,d⟩=>⟨(x,y)::ps,l,g,.cons ⟨c,b⟩ U,d⟩)
structure M2(X:Cx)(o:EM)(m:Dy)(apos:Pos)(e f:EM)(cpos:Pos):Prop where
 base:E5 o m X.env (DC o X.env)=DC o X.env
 few:((EG cpos (j_ [e,f] X.env)).all (λx=> !x.1)&&(Ir cpos (GZ [] X.env)).all (λx=>x.1.isSome)
  &&z_ (([e,f]:List EM).length+([]:List Io).length+(if ([]:List Io).isEmpty then 0 else 1)<30))=e_
 line:(apos.endLine==cpos.line)=e_
 trees:EG cpos (j_ [e,f] X.env)=[(c_,DC e X.env),(c_,DC f X.env)]
noncomputable def keysI(ks:aj):List (Key×V):=ks.map λk=>(J0 k,.bl e_)
structure RepK(K:Fg)(F0 H0 FB:Hp)(i:Nat)(a:i_)(ks:aj)(F H:Hp)(σ:St)(ρ:aa):Prop where
 r:Rep K F0 H0 FB [] F H σ ρ
 sl:σ[i]?=a_ (a_ (.ref a))
 hp:H a=a_ (.dK (keysI ks))
 fa:F a=g_
 ha:H0 a=g_
theorem RepK.step(h:RepK K F0 H0 FB i a ks F H σ ρ)(s:B5 F H F1 H1):RepK K F0 H0 FB i a ks F1 H1 σ ρ:=
 ⟨h.r.step s,h.sl,s.hh _ _ h.hp,s.stays h.fa h.hp,h.ha⟩
structure ExA(h:Eg)(e:i_)(C:h_)(dx hd:Option i_):Prop where
 ob:∃oe vs,h.get? e=a_ oe/\oe.cls=C/\oe.dict=dx/\oe.data=.fields vs/\vs[1]?=a_ (hd.elim Er w_)
 tb:∀T,hd=a_ T->T≠e/\∃oT ts,h.get? T=a_ oT/\oT.data=.fields ts/\ts[3]?=a_ .none
def dictMapF(f:Array h_->Array h_)(o:H9):(o.mapFields f).dict=o.dict:=by obtain⟨c,d,J,sl⟩:=o;cases J<;>rfl
def size3{l:as}(h:3<l.length):3<l.toArray.size:=by rw[Dv];exact h
section
variable{M:Ld}{s:k_}
def mkEntry{fv J:h_}{pl:as}{Q:Vp}(U:IsPlace pl)(h:∀(o:H9) (ts:Array h_),o.data=.fields ts->3<ts.size->o.isFreed=c_->Q (.ref s.heap.objs.size) {s with heap:=s.heap.push o}):
  o_ M A (Jm hv fv .none J .none pl) Q E s:=by
 unfold Jm newFields;refine DH (h _ _ rfl (size3 ?_) ?_) (U.sizeOk5 _ _ _ _ _)
 .simp
 .exact F7 rfl
structure Left(fs:List i_)(e:i_)(hd:Option i_)(h h':Eg):Prop where
 keep:∀b o,h.get? b=a_ o->b∉fs->b≠e->(∀T,hd=a_ T->b≠T)->h'.get? b=a_ o
 slot:∀b o,h.get? b=a_ o->b∈fs->∃sl,h'.get? b=a_ {o with slots:=sl}
 size:h.objs.size<=h'.objs.size
def entry_at{base:Eg}{e:i_}{C:h_}{vs:Array h_}{Q:Unit->k_->Prop}(k:A.frames=a_ (env::outer))(B:s.heap.FunFrames base (env::outer))(O:env.frame=a_ L)(D:s.heap.get? e=a_ oe)(P:oe.cls=C)(m:oe.dict=dx)(hd:oe.data=.fields vs)(i:1<vs.size)(h:∀h' T,ExA h' e C dx (a_ T)->s.heap.objs.size<=T->Left (frs (env::outer)) e g_ s.heap h'->Q () {s with heap:=h'}):
  o_ M A (frameOf env >>=λa=>entryPlaceOf L bn >>=λpl=>Jm hv a .none (EL L) .none pl >>=λb=>Km (.ref e) 1 b) (λ_ s'=>o_ M A (JF (.ref e) g_) Q E s') E s:=by
 have Y:∀b o,b∈frs (env::outer)->s.heap.get? b=a_ o->∀vs,o.data≠.fields vs:=λb o j q=>by obtain⟨_,o',J,n⟩:=B.mem j;rw[q]at J;cases J;exact n
 have U:e∉frs (env::outer):=λj=>Y e oe j D vs hd;refine b_ (wpAny_frameOf_fun k B O λh1 I=>?_);obtain⟨v,u,H⟩:=I;refine b_ (wpAny_entryPlaceOf λpl N=>?_);refine b_ (mkEntry N λo ts y F l=>?_);have e1:h1.get? e=a_ oe:=by rw[u e U];exact D
 have g:h1.objs.size≠e:=λz=>DD (mf e1) (by rw[z];exact EB _);have e2:(h1.push o).get? e=a_ oe:=d_ o e1;have K:(h1.push o).get? h1.objs.size=a_ o:=l_ h1 l;refine ED e2 hd i ?_;have t:=Ft hd (·.setIfInBounds 1 (w_ h1.objs.size));have e3:=Ef (h:=h1.push o) (Fn (·.setIfInBounds 1 (w_ h1.objs.size))) e2 (F7 t);have w:((h1.push o).update e (Fn (·.setIfInBounds 1 (w_ h1.objs.size)))).get? h1.objs.size=a_ o:=by rw[Dw _ _ (Em g)];exact K
 unfold JF;refine b_ (E9 e3 t (x:=.ref h1.objs.size) (by simp[i]) ?_);rw[s_ ad];refine ED w y F ?_;have G:=Ft y (·.setIfInBounds 3 ((g_:Option i_).elim Er λf=>EL f));refine h _ h1.objs.size ⟨⟨_,_,by rw[Dw _ _ g];exact e3,by rw[IP];exact P,by rw[dictMapF];exact m,t,by simp[i]⟩,λT R=>?_⟩ (by rw[v];exact t_ _) ⟨λb o' q r p _=>?_,λb o' q r=>?_,?_⟩
 .cases R;exact⟨g,_,_,Ef _ w (F7 G),G,by simp[F]⟩
 .have q1:h1.get? b=a_ o':=by rw[u b r];exact q
  have d:h1.objs.size≠b:=λz=>DD (mf q1) (by rw[z];exact EB _);rw[Dw _ _ d,Dw _ _ (Em p)];exact d_ o q1
 .obtain⟨sl,q1⟩:=H b o' q;have d:h1.objs.size≠b:=λz=>DD (mf q1) (by rw[z];exact EB _);have c:e≠b:=λz=>U (z▸r);refine⟨sl,?_⟩
  rw[Dw _ _ d,Dw _ _ c];exact d_ o q1
 .rw[Hj,Hj,DZ,v];exact FT _
def BY{base:Eg}{e:i_}{C:h_}{hd:Option i_}{Q:Unit->k_->Prop}(g:A.frames=a_ (env::outer))(m:s.heap.FunFrames base (env::outer))(p:env.frame=a_ L)(x:ExA s.heap e C dx hd)(h:∀h' T,ExA h' e C dx (a_ T)->s.heap.objs.size<=T->Left (frs (env::outer)) e hd s.heap h'->Q () {s with heap:=h'}):o_ M A (Lx (.ref e) env) (λ_ s'=>o_ M A (JF (.ref e) g_) Q E s') E s:=by
 obtain⟨oe,vs,j,y,i,U,h1⟩:=x.ob;have w:1<vs.size:=(FK.mp h1).1;unfold Lx;simp only[p];cases hd with
 |none=>refine b_ (E9 j U h1 ?_);rw[q_ ag];exact entry_at g m p j y i U w λh' T a b c=>h h' T a b c
 |some T=>
  obtain⟨k,F,ts,u,Y,B⟩:=x.tb T rfl;have l:3<ts.size:=(FK.mp B).1;refine b_ (E9 j U h1 ?_);rw[s_ ad];refine b_ (E9 (x:=.none) u Y B ?_);rw[q_ (by simp[EL])];refine b_ (ED u Y l ?_);have J:∀b,b≠T->(s.heap.update T (Fn (·.setIfInBounds 3 Er))).get? b=s.heap.get? b:=λb d=>Dw _ _ (Em d);have v:∀b o,s.heap.get? b=a_ o->(∀vs,o.data≠.fields vs)->b≠T:=λb o q n z=>by subst z;rw[u]at q;cases q;exact n ts Y
  refine entry_at g (m.of_keeps λb o q n=>⟨o,by rw[J b (v b o q n)];exact q,rfl⟩) p (by rw[J e (Em k)];exact j) y i U w λh' D a b c=>?_;refine h h' D a (by rw[Hj]at b;exact b) ⟨λb' o q d r t=>c.keep b' o (by rw[J b' (t T rfl)];exact q) d r (λ_ z=>nomatch z),λb' o q d=>?_,?_⟩
  .obtain⟨_,o',f,n⟩:=m.mem d;rw[q]at f;cases f;exact c.slot b' o (by rw[J b' (v b' o q n)];exact q) d
  .have:=c.size;rw[Hj]at this;exact this
def leave_at{base:Eg}{e:i_}{C:h_}{hd:Option i_}{Q:Unit->k_->Prop}(J:A.frames=a_ (env::outer))(U:s.heap.FunFrames base (env::outer))(Y:env.frame=a_ L)(x:ExA s.heap e C dx hd)(h:∀h' T,ExA h' e C dx (a_ T)->s.heap.objs.size<=T->Left (frs (env::outer)) e hd s.heap h'->Q () {s with heap:=h'}):o_ M A (OZ env (.ref e)) Q E s:=by unfold OZ;exact b_ (BY J U Y x h)
end
structure CXs(P:EC)(w:Fe)(outer:List LH)(H:Hp)(s:k_)(E:XK)(a T:i_)(C:h_)(dx:Option i_)(H':Hp)(s':k_):Prop where
 ex:ExA s'.heap a C dx (a_ T)
 na:s.heap.get? a=g_
 nT:s.heap.get? T=g_
 fa:H' a=g_
 fT:H' T=g_
 os:s'.os=s.os
 bare:Jn s'.gens
 un:Un (frs outer) [] H H' s.heap s'.heap
 hok:HOk P w H' s'.heap
 want:E C dx H'
def CXd(P:EC)(w:Fe):CXT:=λouter H s E e s'=>∃(a T:i_) (C:h_) (dx:Option i_) (H':Hp),e=.ref a/\CXs P w outer H s E a T C dx H' s'
def get_none(z:h.objs.size<=a):h.get? a=g_:=by
 cases e:h.get? a with
 |none=>rfl|some o=>exact DD (mf e) (Kw.mpr z)
def B6.gR{s:k_}(I:B6 X B4 σ H s)(J:X.ex=[])(e:s.heap.get? a=g_):X.s₀.heap.get? a=g_:=by
 cases q:X.s₀.heap.get? a with
 |none=>rfl|some o=>obtain⟨o',z⟩:=I.base.there a o q (by rw[J];exact λz=>nomatch z);rw[e]at z;cases z
def cz.is{o:HO}(x:cz P w H h a o):∃u,h.get? a=a_ u:=by
 cases o with
 |lst xs=>obtain⟨_,_,_,_,e⟩:=x;exact⟨_,e⟩
 |tup xs=>obtain⟨_,_,_,U,e,_⟩:=x;exact⟨_,e⟩
 |dK J=>obtain⟨_,_,_,_,o,_,_,e,_⟩:=x;exact⟨_,e⟩
 |dT J=>obtain⟨_,_,_,_,o,_,_,e,_⟩:=x;exact⟨_,e⟩
 |set S n=>obtain⟨o,_,_,_,e,_⟩:=x;exact⟨_,e⟩
 |ins C dx fs=>obtain⟨_,_,_,e,_⟩:=x;exact⟨_,e⟩
 |own y=>exact x|xd fs=>obtain⟨_,⟨_,_,_,e,_⟩,_⟩:=x;exact⟨_,e⟩
 |rng lo hi=>obtain⟨_,_,_,e⟩:=x;exact⟨_,e⟩
 |frz U u=>obtain⟨e,_⟩:=x;exact⟨_,e⟩
 |tbl ps=>exact⟨_,show h.get? a=a_ _ from x⟩|met f y=>exact⟨_,show h.get? a=a_ _ from x⟩|ext Y=>obtain⟨_,e,_⟩:=x;exact e
def HOk.off(x:HOk P w H h)(e:h.get? a=g_):H a=g_:=by
 cases q:H a with
 |none=>rfl|some o=>obtain⟨u,z⟩:=(x a o q).is;rw[e]at z;cases z
section
variable{base:Eg}{f:i_}{s:k_}{E:XK}
def xe_of{s':k_}{C:h_}{hd:Option i_}(J:B6 (uY (CXd P w) P w K mg base N qual scope f cd A outer s H E) B4 σ H' s')(x:ExA s'.heap a C dx hd)(r:s.heap.get? a=g_)(G:∀T,hd=a_ T->s.heap.get? T=g_/\H' T=g_)(fa:H' a=g_)(q:E C dx H'):(uY (CXd P w) P w K mg base N qual scope f cd A outer s H E).xe (.ref a) s':=by
 have B:=J.env0;have y:∀b∈frs (He qual scope s.z f cd::outer),H' b=g_:=B.frf;have p:∀b o,s.heap.get? b=a_ o->b≠a/\(∀T,hd=a_ T->b≠T)/\b<s.z:=λb o e=>by have Y:=mf e;exact⟨λz=>(by subst z;rw[e]at r;cases r),λT i z=>(by subst z;have:=(G _ i).1;rw[e]at this;cases this),Y⟩
 have j:∀b,b<s.z->b∈frs (He qual scope s.z f cd::outer)->b∈frs outer:=λb Y t=>by
  rcases GO.mp t with⟨v,hv,e⟩
  rcases p_.mp hv with z|z
  .subst z;have:s.z=b:=by simpa[He] using e
   omega
  .exact GO.mpr ⟨v,z,e⟩
 have d:∀b,b∈frs outer->b∈frs (He qual scope s.z f cd::outer):=λb t=>by
  rcases GO.mp t with⟨v,hv,e⟩
  exact GO.mpr ⟨v,DQ _ hv,e⟩
 have U:Un (frs outer) [] H H' s.heap s'.heap:=J.base;show o_ (u_ P w) (A.deeper (He qual scope s.z f cd)) (OZ (He qual scope s.z f cd) (.ref a)) (λ_ g=>CXd P w outer H s E (.ref a) g) (λD g=>CXd P w outer H s E D g) s';refine leave_at (base:=base) B.frames B.rO rfl x λh' T Q i l=>⟨a,T,C,dx,H',rfl,Q,r,get_none (Ee (show s.z<=s'.z from J.sz) i),fa,?_,J.os,J.bare,?_,?_,q⟩
 .exact J.hok.fresh i
 .have F:∀b o,s.heap.get? b=a_ o->∀o',s'.heap.get? b=a_ o'->b∉frs outer->h'.get? b=a_ o':=λb o e o' D Y=>by
   obtain⟨O,L,I⟩:=p b o e;exact l.keep b o' D (λz=>Y (j b I z)) O L
  refine⟨λb o e n Y k=>F b o e o (U.keep b o e n Y k) Y,λb o e n Y k=>?_,U.free,λb o e k=>?_,U.tups,U.frzs,U.tbls⟩
  .obtain⟨sl,e1⟩:=U.slot b o e n Y k;obtain⟨m,e2⟩:=l.slot b _ e1 (d b Y);exact⟨m,e2⟩
  .obtain⟨o',e1⟩:=U.there b o e k;by_cases Y:b∈frs outer
   .obtain⟨sl,e2⟩:=l.slot b o' e1 (d b Y);exact⟨_,e2⟩
   .exact⟨o',F b o e o' e1 Y⟩
 .intro b o e;refine(J.hok b o e).v8 (λc u R e1=>?_) (λ_ z=>z) λ_ _ z=>z;have h:H' c≠g_:=by
   rcases R with z|z
   .rw[z,e];exact λz=>nomatch z
   .rw[z];exact λz=>nomatch z
  exact l.keep c u e1 (λz=>h (y c z)) (λz=>h (by rw[z];exact fa)) λT i z=>h (by rw[z];exact(G T i).2)
def passD:Passes (CXd P w) (uY (CXd P w) P w K mg base N qual scope f cd A outer s H E) E:=by rintro B4 σ H1 Y e s' I ⟨a,T,C,dx,H',rfl,z⟩;have J:=I.call' z.os z.un z.hok z.bare (λ_ h=>nomatch h);exact xe_of J z.ex (I.gR rfl z.na) (λb U=>by cases U;exact⟨I.gR rfl z.nT,z.fT⟩) z.fa z.want
end
def exc_obj(X:K.In h)(q:HM K C bmB newId=e_):
  ∃tl N nm c bs hdct sn sub ab col dd k0 k1 k2 k3 k5 mN,h.get? C=a_ (Jl nm c C N bs tl hdct sn sub ab col dd k0 k1 k2 k3 k5 newId)/\h.Ns N mN/\mN "__init__"=g_/\Nr h bmB tl:=by
 unfold HM at q;split at q
 next dd cd sl e=>
  split at q
  next b tl k0 k1 k2 k3 n k5 f d=>
   obtain⟨r,p,U,o,m,k,j,i,g,Y,J⟩:=cd;obtain⟨l⟩:=sl;simp only[r_]at q;obtain⟨⟨⟨⟨⟨B,A⟩,z⟩,y⟩,a⟩,x⟩:=q;have w:b=C:=FU.mp B;have v:n=newId:=FU.mp A;have u:J=c_:=by cases J<;>first|rfl|cases z
   have t:U=w_ b::tl:=f;have s:l=[k0,k1,k2,k3,a_ (.builtin n),k5]:=d;subst w v u t s;exact⟨tl,o,r,m,p,k,j,i,g,Y,dd,k0,k1,k2,k3,k5,_,X _ _ e,.of_isNs (JV X a),PySem.W.nsMap_none_of_in X a (FU.mp x),Ml X y⟩
  next=>cases q
 next=>cases q
def XEq(X:Cx)(E:XK)(C:i_):Prop:=∀(B4:Pn) (σ:St) (H:Hp) (s':k_) (a:i_),B6 X B4 σ H s'->ExA s'.heap a (.ref C) g_ g_->X.s₀.heap.get? a=g_->H a=g_->E (.ref C) g_ H->X.xe (.ref a) s'
noncomputable def tRaise(te:TE)(C:i_)(E:XK):TS:=λ_ σ H=>te σ H λ_ H1=>E (.ref C) g_ H1
section
variable{E:XK}
def ps_raise(FB:G3 B newId initId bmB)(m:XEq X E C)(p:PE X e te)(o:Gl X x)(U:X.mg x=a_ (.ref C))(u:HM X.K C bmB newId=e_)(hh:X.A.handled=g_)(b: ~~~(X.ex=[]))(c:((x==("__debug__":Dy))=c_)⁻¹)(a: ~~~(j_ [e] X.env=[(c_,DC e X.env)])):PS X (.Raise (a_ (.Call (.Name x np) [e] [] cpos)) g_ pos) (tRaise te C E):=by
 intro B4 s σ H D I h;obtain⟨tl,N,nm,i,bs,hdct,sn,sub,ab,col,dd,k0,k1,k2,k3,k5,mN,l,k,j,f⟩:=exc_obj I.mod.kin u;refine wpAny_Raise_call_subT FB (C:=C) (nm:=nm) (q:=i) (N:=N) (bs:=bs) (bm:=tl) (hdct:=hdct) (sn:=sn) (sub:=sub) (ab:=ab) (col:=col) (dd:=dd) (k0:=k0) (k1:=k1) (k2:=k2) (k3:=k3) (k5:=k5) (mN:=mN)
  (f.hasType FB.hasBase) hh (by rw[a];rfl) j (fH I o U ⟨rfl,?_⟩ c)
 rw[a];refine JJ (GN (HH (p B4 s σ H _ I h) λv d n=>?_));obtain⟨y,H1,Y,A,q1⟩:=n;refine Ku ⟨rfl,?_,Y.bk _ _ l,k.keeps Y.bk,f.keeps Y.bk,λh' e U=>?_⟩
 .have:=Ey;show 1<=n_;omega
 .obtain⟨t,g,z,w⟩:=U.there;have J:B6 X B4 σ H1 {d with heap:=h'}:=Y.kept (t':=d.toks) U.keeps;exact m B4 σ H1 _ e J ⟨⟨_,_,g,rfl,rfl,rfl,rfl⟩,λT r=>nomatch r⟩ (Y.gR b U.new) (Y.hok.off U.new) q1
end
section
variable{base:Eg}{f:i_}{s:k_}{E:XK}
def xeqD:XEq (uY (CXd P w) P w K mg base N qual scope f cd A outer s H E) E C:=λ_ _ _ _ _ J x U fa q=>xe_of J x U (λT Y=>nomatch Y) fa q
end
def WE(K:Fg)(E:XK):cn where
 p:=λe F H=>match e with
  |.stuck=>False|.exc C fs=>∀F' H',B5 F H F' H'->match fs with
   |[]=>E (.ref C) g_ H'|fs=>∀d gs,F' d=a_ (.xd gs)->i3 K F' fs gs->E (.ref C) (a_ d) H'
 mono:=λ{e F H F' H'} h s=>by
  cases e with
  |stuck=>exact h|exc C fs=>exact λF2 H2 J=>h F2 H2 (s.trans J)
 ns:=λh=>h
noncomputable def noX{α:Type}:M α->M α
 |.ok d=>.ok d|.error _=>.error .stuck
@[simp]def noX_ok{α:Type}(d:α):noX (.ok d:M α)=.ok d:=id rfl
def Cr{α:Type}(f:aa->M α):aa->M α:=λρ=>noX (f ρ)
@[simp]def e_fNoX{α:Type}(f:aa->M α)(ρ:aa):Cr f ρ=noX (f ρ):=id rfl
section
variable{W:cn}{own:Bool}
def de_lift{f:aa->M A'}(h:DE K J3 own X.nox e f):DE K W own X e (Cr f):=PE.imp (PE.nox h) λσ H Q ⟨F,ρ,r,s,p⟩=>by
 refine⟨F,ρ,r,s,?_⟩
 have p:aH K W own F H (noX (f ρ)) Q:=p;cases e:f ρ with
 |ok d=>rw[e]at p;exact p|error x=>rw[e]at p;exact(W.ns p).elim
def dt_lift{f:aa->M Bool}(h:DT K J3 X.nox e f):DT K W X e (Cr f):=PT.imp (PT.nox h) λσ H Q ⟨F,ρ,r,s,p⟩=>by
 refine⟨F,ρ,r,s,?_⟩
 have p:match noX (f ρ)with
  |.ok b=>∀F' H',B5 F H F' H'->Q b H'|.error e=>W.p e F H:=p
 cases e:f ρ with
 |ok d=>rw[e]at p;exact p|error x=>rw[e]at p;exact(W.ns p).elim
def y0{st:List E6}(h:DSs K J3 ro X.nox OL O O' st g):DSs K W ro X OL O O' st (Cr g):=λF0 H0=>PSs.imp (PSs.nox (h F0 H0)) λD σ H ⟨FB,F,ρ,r,p⟩=>by
 refine⟨FB,F,ρ,r,?_⟩
 have p:ck K W ro F0 H0 FB OL O' D (noX (g ρ)):=p;unfold ck at p ⊢;cases e:g ρ with
 |ok fl=>rw[e]at p;cases fl<;>exact p
 |error x=>rw[e]at p;exact(W.ns p).elim
end
noncomputable def sExc(C:i_):aa->M C':=λ_=>.error (.exc C [])
@[simp]def e_sExc(C:i_)(ρ:aa):sExc C ρ=.error (.exc C []):=id rfl
section
variable{E:XK}{t:Dy}{j1:Nat}
def ds_raise{j1}(FB:G3 B newId initId bmB)(a:XEq X E C)(b:X.mg x=a_ (.ref C))(d:HM X.K C bmB newId=e_)(hh:X.A.handled=g_)(c: ~~~(Gl X x))(U: ~~~(X.ex=[]))(Y:((x==("__debug__":Dy))=c_)⁻¹)(J: ~~~(j_ [.Constant (.str t) j1 p1] X.env=[(c_,DC (.Constant (.str t) j1 p1) X.env)])):
  DS K (WE K E) ro X OL O O' (.Raise (a_ (.Call (.Name x np) [.Constant (.str t) j1 p1] [] cpos)) g_ pos) (sExc C):=λF0 H0=>PS.imp (ps_raise FB a pe_str c b d hh U Y J) λD σ H ⟨e,F,ρ,r,p⟩=>by
 have q:(WE K E).p (.exc C []) F0 H0:=p;exact q F H r.st
end
def spX(K:Fg)(ro:Bool)(g:List A'->M A')(n:Nat):Sp:=λvs H Q E=>∃F ds,aO F H/\ax K F ds vs/\ds.length=n/\aH K (WE K E) ro F H (g ds) Q
section
variable{fr:aa->M (List A')}{E:XK}
def yk(F:eJ X.prog X.w X.K X.mg X.base CX k fad fd ps (spX K ro (b6 nN n g) n))(d:Passes CX X E)(f:eW k X.A)(i:X.mg x=a_ (.ref fad))(j:Gw X.K (.ref fad)=e_)(m:Binds X.K fd ps [])(o:DA K (WE K E) X (e::es) fr)(l: ~~~(Gl X x))(a:((x==("__debug__":Dy))=c_)⁻¹)(U: ~~~(j_ (e::es) X.env=(c_,DC e X.env)::j_ es X.env))(Y: ~~~((EG pos (j_ es X.env)).any (·.1)=c_)):
  DE K (WE K E) ro X (.Call (.Name x p) (e::es) [] pos) (fL (b6 nN n g) fr):=by
 refine PE.imp (n5 F f l i j m .nil d o a U Y) λσ H Q h=>?_;obtain⟨F,ρ,r,s,p⟩:=rd_L h;refine⟨F,ρ,r,s,?_⟩
 cases e1:fr ρ with
 |error z=>rw[e1]at p;exact p|ok ds=>
  rw[e1]at p;intro vs F' H' st q;obtain⟨F1,J,c,q1,z⟩:=p vs F' H' st q;show spX K ro (b6 nN n g) n (vs++[]) H' Q E;rw[Fc];by_cases b:J.length=n
  .exact⟨F1,J,c,q1,b,z⟩
  .rw[jM b]at z;exact aH.stuck z
end
section
variable{base:Eg}
theorem fn_X{f:i_}(F:Fun K x qual st f fd)(S:eR N ps (aB st))(ro:Bool)(g:aa->M C')(m:∀(cdv:h_) (A:Fu) (outer:List LH) (s:k_) (H:Hp) (E:XK),eW k (A.deeper (He qual (aB st) s.heap.objs.size f cdv)) ->
   DSs K (WE K E) ro (uY (CXd P w) P w K mg base N qual (aB st) f cdv A outer s H E) [] [] O' (bF st) g):eJ P w K mg base (CXd P w) (k+1) f fd ps (spX K ro (b6 N.length ps.length g) ps.length):=by
 obtain⟨oc,od,kV,doc,pm,an,cdv,ct,osl,rfl,Y,J⟩:=F.ex;refine fn_of Y J S (λvs H Q E ⟨F,ds,s,q,l,p⟩=>by rw[q.length,l]) λA outer s H vs Q E b c=>?_;obtain⟨F1,ds,U,q,l,p⟩:=c;refine⟨_,m cdv A outer s H E b F1 H,F1,F1,ds.map a_++Eh (N.length-ds.length) g_,?_,?_⟩
 .refine⟨B5.refl U,aO.refl _,?_,λi d e _=>t6 q e,(λi d e h=>nomatch h),(λi j ds es a h=>nomatch h)⟩
  unfold start;rw[Eb,Eb,y_,y_,FZ,FZ,q.length]
 .have e1:b6 N.length ps.length g ds=(g (ds.map a_++Eh (N.length-ds.length) g_)).bind λfl=>match fl with
   |.nx _=>.ok .non|.rt d=>.ok d|_=>stk:=by unfold b6;exact s_ l
  rw[e1]at p;cases e2:g (ds.map a_++Eh (N.length-ds.length) g_)with
  |error z=>rw[e2]at p;exact p|ok fl=>
   rw[e2]at p;cases fl with
   |nx ρ=>exact λσ F H r=>p .non F H r.st (by cases ro<;>rfl)
   |rt d=>exact λv F H st q=>p v F H st q|bk ρ=>exact aH.stuck p|ct ρ=>exact aH.stuck p
end
section
variable{s:k_}{C:h_}{hd:Option i_}
structure Apart(X:Cx)(B4:Pn)(H:Hp)(s:k_)(a:i_)(hd:Option i_):Prop where
 na:X.s₀.heap.get? a=g_
 fa:H a=g_
 pa:∀p∈X.pn++B4,p.1≠a
 nT:∀T,hd=a_ T->X.s₀.heap.get? T=g_/\H T=g_/\∀p∈X.pn++B4,p.1≠T
def B6.left(I:B6 X B4 σ H s)(hx:X.ex=[])(x:ExA s.heap a C dx hd)(g:Apart X B4 H s a hd)(Y:Left (frs X.stack) a hd s.heap h'):B6 X B4 σ H {s with heap:=h'}:=by
 have W:=I.env0;obtain⟨oe,vs,Q,_,_,E,_⟩:=x.ob;have B:∀b o,s.heap.get? b=a_ o->(∀vs,o.data≠.fields vs)->b≠a/\∀T,hd=a_ T->b≠T:=λb o e n=>by
  refine⟨λz=>?_,λT f z=>?_⟩
  .subst z;rw[Q]at e;cases e;exact n vs E
  .subst z;obtain⟨_,oT,ts,h1,h2,_⟩:=x.tb _ f;rw[h1]at e;cases e;exact n ts h2
 have A:∀b∈frs X.stack,H b=g_:=W.frf;have y:∀b o,s.heap.get? b=a_ o->(∀vs,o.data≠.fields vs)->∃sl,h'.get? b=a_ {o with slots:=sl}:=λb o e n=>by
  obtain⟨j,h⟩:=B b o e n;by_cases U:b∈frs X.stack
  .exact Y.slot b o e U
  .exact⟨o.slots,Y.keep b o e U j h⟩
 have l:∀b o,X.s₀.heap.get? b=a_ o->b≠a/\∀T,hd=a_ T->b≠T:=λb o e=>⟨λz=>(by subst z;rw[g.na]at e;cases e),λT f z=>(by subst z;rw[(g.nT _ f).1]at e;cases e)⟩
 have K:s.heap.UpToSlots h':=y;have t:X.s₀.heap.get? X.env.locals=g_:=get_none I.ok.above;have out:∀b,b≠X.env.locals->b∉X.fs->b∉frs X.stack:=λb h1 h2 S=>by
  rcases p_.mp (I.pG b S)with z|z
  .exact h1 z
  .exact h2 z
 have w:∀c v,s.heap.IsCell c v->h'.IsCell c v:=λc v ⟨o,h1,h2⟩=>by obtain⟨sl,z⟩:=y c o h1 (λvs q=>by rw[h2]at q;cases q);exact⟨_,z,h2⟩
 refine⟨I.ok,I.os,I.bare,?_,?_,λx c e=>?_,I.free,I.freeC,λp D=>?_,?_,I.len⟩
 .have F:∀b o,X.s₀.heap.get? b=a_ o->∀o',s.heap.get? b=a_ o'->∃sl,h'.get? b=a_ {o' with slots:=sl}:=λb o e o' G=>by
   obtain⟨j,h⟩:=l b o e;by_cases U:b∈frs X.stack
   .exact Y.slot b o' G U
   .exact⟨o'.slots,Y.keep b o' G U j h⟩
  refine⟨λb o e n U J=>?_,λb o e n U J=>?_,I.base.free,λb o e J=>?_,I.base.tups,I.base.frzs,I.base.tbls⟩
  .obtain⟨j,h⟩:=l b o e;exact Y.keep b o (I.base.keep b o e n U J) (out b (λz=>by rw[z,t]at e;cases e) U) j h
  .obtain⟨sl,e1⟩:=I.base.slot b o e n U J;obtain⟨k,e2⟩:=F b o e _ e1;exact⟨k,e2⟩
  .obtain⟨o',e1⟩:=I.base.there b o e J;obtain⟨k,e2⟩:=F b o e _ e1;exact⟨_,e2⟩
 .obtain⟨m,O,P⟩:=I.loc;refine⟨m,K.ns O,λi x v e1 e2 e3=>?_⟩
  obtain⟨u,r,N⟩:=P i x v e1 e2 e3;refine⟨u,r,?_⟩
  rcases N with z|⟨z,c,c1,Z⟩
  .exact .inl z
  .exact .inr ⟨z,c,c1,w c _ Z⟩
 .obtain⟨v,z⟩:=I.cell x c e;exact⟨v,w c v z⟩
 .obtain⟨p1,p2,p3,p4,L⟩:=I.pin p D;exact⟨Y.keep p.1 p.2 p1 (out p.1 p3 p4) (g.pa p D) λT f=>(g.nT T f).2.2 p D,p2,p3,p4,L⟩
 .intro b o e;refine(I.hok b o e).v8 (λc u R e1=>?_) (λ_ z=>z) λ_ _ z=>z;have d:H c≠g_:=by
   rcases R with z|z
   .rw[z,e];exact λz=>nomatch z
   .rw[z];exact λz=>nomatch z
  exact Y.keep c u e1 (λz=>d (A c z)) (λz=>d (by rw[z];exact g.fa)) λT f z=>d (by rw[z];exact(g.nT T f).2.1)
end
def PEat(X:Cx)(B4:Pn)(σ:St)(e:EM)(t:TE):Prop:=∀(s:k_) (H:Hp) (Q:VK),B6 X B4 σ H s->t σ H Q->o_ (u_ X.prog X.w) X.A (DC e X.env) (EP X B4 σ Q) X.xe s
def PSat(X:Cx)(B4:Pn)(σ:St)(st:E6)(t:TS):Prop:=∀(s:k_) (H:Hp) (D:Ends),B6 X B4 σ H s->t D σ H->o_ (u_ X.prog X.w) X.A (exec st X.env) (SP X B4 D) X.xe s
def PSsAt(X:Cx)(B4:Pn)(σ:St)(st:List E6)(t:TS):Prop:=∀(s:k_) (H:Hp) (D:Ends),B6 X B4 σ H s->t D σ H->o_ (u_ X.prog X.w) X.A (execs st X.env) (SP X B4 D) X.xe s
def gu(CX:CXT)(X:Cx)(B4:Pn)(σ:St)(E:XK):Prop:=∀(H:Hp) (s:k_) (e:h_) (s':k_),B6 X B4 σ H s->CX X.stack H s E e s'->X.xe e s'
section
variable{t:TS}
def at_one(h:PSat X B4 σ st t):PSsAt X B4 σ [st] t:=λs H D I q=>by
 refine Lr (HH (h s H D I q) λf J z=>?_);cases f with
 |next=>exact G7 z|_=>exact z
def at_expr(U:PEat X B4 σ e te)(J: ~~~(Fd e g_ pos.line X.env=Ff c_)):PSat X B4 σ (.Expr e pos) (yK te):=λs H D I q=>wpAny_Expr_any (HH (U s H _ I q) λv a ⟨x,H1,Y,b,q1⟩=>⟨σ,H1,Y,q1⟩) I.quiet J
end
section
variable{f:i_}{ds:List h_}{E:XK}{t:TA}
theorem at_run{s:k_}{Q:VK}{vs:am}(F:eJ X.prog X.w X.K X.mg X.base CX k f fd ps sp)(a:eW k X.A)(b:Binds X.K fd ps ds)(hd:Ds dvs ds)(Y:gu CX X B4 σ E)(I:B6 X B4 σ H s)(r:Ds vs us)(h:sp (vs++dvs) H Q E):o_ (u_ X.prog X.w) X.A (HG (.ref f) us) (EP X B4 σ Q) X.xe s:=by
 have U:=r.append hd;refine JS (Gd (F.run _ _ s H ⟨us,[]⟩ _ _ Q E a I.env0 (b s us I.kIn (U.length.symm.trans (F.len _ _ _ _ h))) U h) λz s' J=>?_);cases z with
 |error e=>exact Y H s e s' I J|ok fl=>
  cases fl with
  |ret u=>exact I.after J|_=>exact Ej J
def at_call(F:eJ X.prog X.w X.K X.mg X.base CX k f fd ps sp)(a:gu CX X B4 σ E)(b:eW k X.A)(c:X.mg x=a_ (.ref f))(d:Gw X.K (.ref f)=e_)(i:Binds X.K fd ps ds)(hd:Ds dvs ds)(j:PA X (e::es) t)(g: ~~~(Gl X x))(U:((x==("__debug__":Dy))=c_)⁻¹)(h: ~~~(j_ (e::es) X.env=(c_,DC e X.env)::j_ es X.env))(J: ~~~((EG pos (j_ es X.env)).any (·.1)=c_)):
  PEat X B4 σ (.Call (.Name x p) (e::es) [] pos) (tCall sp dvs E t):=λs H Q I q=>
 FD (fH I g c (IW (h₀:=X.base) I.ok.mod.kin d (HH (j pos B4 s σ H _ I q) λus l ⟨vs,H1,Y,r,q1⟩=>⟨Y.kIn,at_run F b i hd a Y r q1⟩) h J) U)
end
section
variable{s:k_}
def B6.names{m:Mq}(I:B6 X B4 σ H s)(k:h'.Ns X.env.locals m)(U:FN X.env.locals s.heap h')(l:σ'.length=X.N.length)(hv:∀(i:Nat) (x:Dy) (v:V),X.N[i]?=a_ x->σ'[i]?=a_ (a_ v)->Vis X.env.scope x->∃u,D' v u/\Look X.env s.heap m x u):B6 X B4 σ' H {s with heap:=h'}:=by
 have J:∀b o,X.s₀.heap.get? b=a_ o->b≠X.env.locals:=λb o e z=>by subst z;exact DD (mf e) (Kw.mpr I.ok.above)
 have a:∀x c v,X.env.cells.lookup x=a_ c->s.heap.IsCell c v->h'.IsCell c v:=λx c v e z=>z.sameBut U (I.cne x c e);refine⟨I.ok,I.os,I.bare,⟨λb o e n d Y=>?_,λb o e n d Y=>?_,I.base.free,λb o e Y=>?_,I.base.tups,I.base.frzs,I.base.tbls⟩,⟨m,k,λi x v e1 e2 e3=>?_⟩,λx c e=>?_,I.free,I.freeC,λp j=>?_,λb o e=>?_,l⟩
 .show h'.get? b=_;rw[U.2 b (J b o e)];exact I.base.keep b o e n d Y
 .obtain⟨sl,z⟩:=I.base.slot b o e n d Y;refine⟨sl,?_⟩
  show h'.get? b=_;rw[U.2 b (J b o e)];exact z
 .obtain⟨o',z⟩:=I.base.there b o e Y;refine⟨o',?_⟩
  show h'.get? b=_;rw[U.2 b (J b o e)];exact z
 .obtain⟨u,r,h⟩:=hv i x v e1 e2 e3;refine⟨u,r,?_⟩
  rcases h with z|⟨z,c,f,t⟩
  .exact .inl z
  .exact .inr ⟨z,c,f,a x c _ f t⟩
 .obtain⟨v,z⟩:=I.cell x c e;exact⟨v,a x c v e z⟩
 .obtain⟨p1,p2,p3,p4,g⟩:=I.pin p j;refine⟨?_,p2,p3,p4,g⟩
  show h'.get? p.1=_;rw[U.2 p.1 p3];exact p1
 .refine(I.hok b o e).v8 (λc u q e1=>?_) (λ_ z=>z) λ_ _ z=>z;show h'.get? c=_;rw[U.2 c λz=>?_]
  .exact e1
  .rcases q with y|y
   .rw[<- y,z,I.free]at e;cases e
   .rw[z,I.free]at y;cases y
def iI{M:Ld}{Q:Unit->k_->Prop}(I:B6 X B4 σ H s)(k:X.N.Nodup)(hi:X.N[i]?=a_ x)(U:X.env.scope.names.lookup x=a_ .local)(h:∀s',B6 X B4 (σ.set i g_) H s'->Q () s'):o_ M A (do bindName X.env x .none;NY X.env x pos) Q E s:=by
 have a:(X.env.scope.kind==.class||(X.env.scope.kind==.module&&X.env.locals != X.env.globals))=c_:=by rw[I.ok.kind];rfl
 have Y:i<σ.length:=by rw[I.len];exact(v_.mp hi).1
 refine b_ (wpAny_bindName (jI I k hi (.inl U) (v:=.non) rfl (λB l=>?_) (.inr U)));unfold NY;refine Ik ?_;obtain⟨m,q,g⟩:=id l.loc;obtain⟨u,_,b⟩:=g i x .non hi (by rw[vw Y]) (.inl U);have e:m x=a_ u:=by
  rcases b with z|⟨z,_⟩
  .exact z.2
  .have f:X.env.kindOf x=a_ .local:=U;rw[f]at z;rcases z with z|z<;>cases z
 refine wpAny_unbindName_local U q e a λh' t d p=>h _ (l.names d p (by rw[DM];exact I.len) λj y v e1 e2 e3=>?_);have J:i≠j:=λz=>by subst z;rw[vw Y]at e2;cases e2
 rw[m_ J]at e2;obtain⟨w,r,b⟩:=g j y v e1 (by rw[m_ J];exact e2) e3;refine⟨w,r,?_⟩
 rcases b with⟨o,n⟩|z
 .have c:y≠x:=λz=>J (rC k hi (z▸e1));exact .inl ⟨o,by simp[c,n]⟩
 .exact .inr z
end
def uV(K:Fg)(C:i_)(bmB:as):Prop:=∀h:Eg,K.In h->∃tl N nm J bs hdct sn sub ab col dd k0 k1 k2 k3 k5 newId,h.get? C=a_ (Jl nm J C N bs tl hdct sn sub ab col dd k0 k1 k2 k3 k5 newId)/\Nr h bmB tl
noncomputable abbrev Cx.hand(X:Cx)(a:i_)(oe:H9):Cx:={X with A:=X.A.mark (a_ (.ref a)),calm:=c_,xe:=λ_ _=>False,pn:=(a,oe)::X.pn}
section
variable{s:k_}{T:i_}{C:h_}
theorem B6.hand{vs:Array h_}(I:B6 X B4 σ H s)(U:s.heap.get? a=a_ oe)(hd:oe.data=.fields vs)(Y:X.s₀.heap.get? a=g_)(fa:H a=g_):B6 (X.hand a oe) B4 σ H s:=by
 have J:=I.ok;refine⟨⟨J.mod,J.kind,J.glob,J.blt,J.above,J.inj,J.has,J.cab,(λz=>nomatch z),J.frames,J.stk,J.exf,J.bs,J.bsz,J.noex,J.exfs,J.rO,J.frf⟩,I.os,I.bare,I.base,I.loc,I.cell,I.free,I.freeC,λp b=>?_,I.hok,I.len⟩
 rcases p_.mp (show p∈(a,oe)::(X.pn++B4)from b)with z|z
 .subst z;refine⟨U,fa,λz=>?_,λc=>?_,λv z=>?_⟩
  .obtain⟨m,⟨o,es,ep,h1,h2,_⟩,_⟩:=I.loc;have z:a=X.env.locals:=z;rw[<- z,U]at h1;cases h1;rw[hd]at h2;cases h2
  .obtain⟨_,o,h1,_⟩:=J.rO.mem c;have h1:X.s₀.heap.get? a=a_ o:=h1;rw[Y]at h1;cases h1
  .have z:oe.data=.cell v:=z;rw[hd]at z;cases z
 .exact I.pin p z
def B6.lg(J:B6 (X.hand a oe) B4 σ H s)(U:X.Ok):B6 X B4 σ H s:=
 ⟨U,J.os,J.bare,J.base,J.loc,J.cell,J.free,J.freeC,λp Y=>J.pin p (DQ _ Y),J.hok,J.len⟩
def um{M:Ld}{base:Eg}{l:List LH}{Q:Unit->k_->Prop}(t:s.heap.FunFrames base l)(x:ExA s.heap a C dx (a_ T))(h:∀h',ExA h' a C dx (a_ T)->Left (frs l) a (a_ T) s.heap h'->h'.get? a=s.heap.get? a->Q () {s with heap:=h'}):o_ M A (JF (.ref a) g_) Q E s:=by
 obtain⟨o,vs,p,u,i,d,h1⟩:=x.ob;obtain⟨g,w,ts,m,U,v⟩:=x.tb T rfl;have Y:3<ts.size:=(FK.mp v).1;unfold JF;refine b_ (E9 p d (x:=.ref T) h1 ?_);rw[s_ ad];refine ED m U Y ?_;have J:∀b,b≠T->(s.heap.update T (Fn (·.setIfInBounds 3 ((g_:Option i_).elim Er λf=>EL f)))).get? b=s.heap.get? b:=λb e=>Dw _ _ (Em e);have r:=Ft U (·.setIfInBounds 3 ((g_:Option i_).elim Er λf=>EL f));refine h _ ⟨⟨o,vs,by rw[J a (Em g)];exact p,u,i,d,h1⟩,λB k=>?_⟩ ⟨λb o' q _ _ e=>by rw[J b (e T rfl)];exact q,λb o' q e=>?_,?_⟩ (J a (Em g))
 .cases k;exact⟨g,_,_,Ef _ m (F7 r),r,by simp[Y]⟩
 .obtain⟨_,y,c,n⟩:=t.mem e;have j:b≠T:=λz=>by
   subst z;rw[m]at c;cases c;exact n ts U
  exact⟨o'.slots,by rw[J b j];exact q⟩
 .rw[Hj];exact t_ _
end
def Ends.less(D:Ends)(i:Nat):Ends:={nx:=λσ H=>D.nx (σ.set i g_) H,rt:=D.rt,bk:=λσ H=>D.bk (σ.set i g_) H,ct:=λσ H=>D.ct (σ.set i g_) H}
section
variable{s:k_}{T:i_}{c n:Dy}{ts:TS}
def Dm(I:B6 X B4 σ H s)(x:ExA s.heap a (.ref C) dx (a_ T))(k:Apart X B4 H s a (a_ T))(o:X.ex=[])(O:uV X.K C bmB)(P:bmB.contains (.type "BaseException")=e_)(L:Gl X c)(K:X.mg c=a_ (.ref C))(j:X.N.Nodup)(hi:X.N[i]?=a_ n)(g:X.env.scope.names.lookup n=a_ .local)(G:∀oe:H9,oe.cls=.ref C->oe.dict=dx->(∃vs,oe.data=.fields vs)->PSs (X.hand a oe) (b₀::suite) ts)(q:ts (D.less i) (σ.set i (a_ (.ref a))) H)(y:((c==("__debug__":Dy))=c_)⁻¹):
  o_ (u_ X.prog X.w) X.A (N2 (.ref a) X.env [.ExceptHandler (a_ (.Name c np)) (a_ n) (b₀::suite) pos]) (SP X B4 D) X.xe s:=by
 obtain⟨oe,vs,t,h,w,Y,h1⟩:=x.ob;have J:=I.hand t Y k.na k.fa;refine Ov (NH (fH (X:=X.hand a oe) J L K ?_ y)) (by intro z;cases z);obtain⟨tl,N,nm,qn,bs,hdct,sn,sub,ab,col,dd,k0,k1,k2,k3,k5,newId,E,B⟩:=O _ I.kIn;have Q:=I.env0;obtain⟨hh,gg,d,tk,os⟩:=s;refine wpAny_excMatches_sub_self E t h (B.hasType P) (Mx ?_);refine um (base:=X.base) (l:=X.stack) Q.rO x λh' Z F ea=>?_;have W:=I.left o x k F;have p:h'.get? a=a_ oe:=by rw[ea];exact t
 have S:=W.hand p Y k.na k.fa;refine jI (X:=X.hand a oe) S j hi (.inl g) (v:=.ref a) rfl (λA R=>?_) (.inr g);refine Ew (G oe h w ⟨vs,Y⟩ B4 A _ H (D.less i) R q) (λf s4 z=>?_) λ_ _ z=>z.elim;cases f with
 |next=>obtain⟨σ',H',b,U⟩:=z;exact iI (b.lg I.ok) j hi g λm e=>⟨_,H',e,U⟩
 |brk=>obtain⟨σ',H',b,U⟩:=z;exact iI (b.lg I.ok) j hi g λm e=>⟨_,H',e,U⟩
 |cont=>obtain⟨σ',H',b,U⟩:=z;exact iI (b.lg I.ok) j hi g λm e=>⟨_,H',e,U⟩
 |ret u=>obtain⟨v,σ',H',b,r,U⟩:=z;exact iI (b.lg I.ok) j hi g λm e=>⟨v,_,H',e,r,U⟩
end
def EH(i:Nat)(C:i_)(ts:i_->Option i_->TS)(D:Ends)(σ:St):XK:=λJ dx H'=>J=.ref C/\∀a,H' a=g_->ts a dx (D.less i) (σ.set i (a_ (.ref a))) H'
def tTry(tb:XK->TS)(i:Nat)(C:i_)(ts:i_->Option i_->TS):TS:=λD σ H=>tb (EH i C ts D σ) D σ H
section
variable{c n:Dy}{tb:XK->TS}
def ps_try(R:∀(B4:Pn) (σ:St) (E:XK) (A:Vp),gu (CXd X.prog X.w) (X.lO A) B4 σ E->PSsAt (X.lO A) B4 σ body (tb E))(N:∀(a:i_) (oe:H9),oe.cls=.ref C->(∃vs,oe.data=.fields vs)->PSs (X.hand a oe) (b₀::suite) (ts a oe.dict))(W:uV X.K C bmB)(Z:bmB.contains (.type "BaseException")=e_)(O:X.mg c=a_ (.ref C))(S:X.N.Nodup)(hi: ~~~(X.N[i]?=a_ n))(P: ~~~(X.env.scope.names.lookup n=a_ .local))(Q: ~~~(Gl X c))(U: ~~~(X.ex=[]))(Y: ~~~(X.stack=X.env::X.outer))(t: ~~~(X.env.frame=a_ X.env.locals))(u:((c==("__debug__":Dy))=c_)⁻¹):
  PS X (.Try body [.ExceptHandler (a_ (.Name c np)) (a_ n) (b₀::suite) hpos] [] [] pos) (tTry tb i C ts):=by
 intro B4 s σ H D I h;refine Pe (HH (R B4 σ (EH i C ts D σ) (λe j=>o_ (u_ X.prog X.w) X.A (Lx e X.env) (λ_ g=>o_ (u_ X.prog X.w) X.A (JF e g_) (λ_ d=>o_ (u_ X.prog X.w) X.A (N2 e X.env [.ExceptHandler (a_ (.Name c np)) (a_ n) (b₀::suite) hpos]) (SP X B4 D) X.xe d) X.xe g) X.xe j) ?_ s H D (I.lO _) h) λf B z=>?_)
 .rintro H1 B e s' y ⟨a,T,Cv,dx,H',rfl,z⟩;have o:=y.fD;obtain⟨rfl,q⟩:=z.want;have J:B6 X B4 σ H' s':=o.call' z.os z.un z.hok z.bare (λ_ h=>nomatch h);have k:∀b,B.heap.get? b=g_->∀p∈X.pn++B4,p.1≠b:=λb e p r w=>by
   have:=(o.pin p r).1;rw[w,e]at this;cases this
  have m:Apart X B4 H' s' a (a_ T):=⟨o.gR U z.na,z.fa,k a z.na,λT' l=>by cases l;exact⟨o.gR U z.nT,z.fT,k T z.nT⟩⟩
  have K:=J.env0;have f1:=K.frames;have G:=K.rO;rw[Y]at f1 G;refine BY (base:=X.base) f1 G t z.ex λh' T2 L l F=>?_;rw[<- Y]at F;have I2:=J.left U z.ex m F;have x:Apart X B4 H' {s' with heap:=h'} a (a_ T2):=⟨m.na,m.fa,m.pa,λT' v=>by
   cases v;refine⟨get_none (Ee J.sz l),J.hok.fresh l,λp r w=>?_⟩
   have:=mf (J.pin p r).1;rw[w]at this;exact DD this (Kw.mpr l)⟩
  exact Dm I2 L x U W Z Q O S hi P (λoe h1 h2 h3=>by rw[<- h2];exact N a oe h1 h3) (q a z.fa) u
 .have z:=SP.fD z;cases f with
  |next=>exact G7 z|_=>exact z
end
section
open PySem.W
variable{g:Array Le}{d:N_}{t:Nat}{od:Option H9}{K:N7}
def xcls_by{Q:Vp}(FB:G1 B bmB)(J:K.In h)(I:Ge h a oe C od)(e1:DB K (.ref C) "__getattribute__"=a_ (a_ (.builtin "BaseException.__getattribute__")))(e3:DB K (.ref C) "__getattr__"=a_ g_)(b:∀R:K0->k_->Prop,R (.ok (.ret (.ref C))) ⟨h,g,d,t,os⟩->Hi (u_ prog w) A (.call (.builtin "BaseException.__getattribute__") ⟨[.ref a,.str "__class__" tk],[]⟩) R ⟨h,g,d,t,os⟩)(q:Q (.ref C) ⟨h,g,d,t,os⟩):
  o_ (u_ prog w) A (Pj (.ref a) (.str "__class__" tk) c_) Q E ⟨h,g,d,t,os⟩:=by
 have Y:=I.type (M:=u_ prog w);have U:=Hx (M:=u_ prog w) J e1;have c:=Hx (M:=u_ prog w) J e3;have e:=FB.ga.bind (.ref a);have nx:(Hm "BaseException.__getattribute__"==Hm "object.__getattribute__")=c_:=by decide +kernel
 unfold Pj
 repeat (any_goals (first|assumption|with_reducible refine Y.at ?_|with_reducible refine U.at ?_|with_reducible refine c.at ?_|wp_step))
 all_goals (refine b _ ?_)
 repeat (any_goals (first|wp_step|assumption))
theorem pB{M:Ld}{J:h_}{Q:Unit->k_->Prop}(c:K.In h)(I:Ge h a oe C od)(i:Fl K C (.type "BaseException")=a_ e_)(f:Q () ⟨h,g,d,t,os⟩):
  o_ M A (Lz "BaseException.__getattribute__" ⟨[.ref a,J],[]⟩) Q E ⟨h,g,d,t,os⟩:=by
 have b:builtinKind "BaseException.__getattribute__"=a_ .slot:=by decide +kernel
 have e:splitId "BaseException.__getattribute__"=a_ ("BaseException","__getattribute__"):=by decide +kernel
 have Y:=I.type (M:=M);have U:=LJ (M:=M) c i;have j:=F.args_bexc_ga (.ref a) J;simp only[Lz,e,b];refine b_ ?_;unfold JU
 repeat (first|with_reducible refine Y.at ?_|with_reducible refine U.at ?_|wp_step)
 exact f
theorem yD{Q:Mn->k_->Prop}(J:K.In h)(I:Ge h a oe C od)(e2:DB K (.ref C) "__class__"=a_ (a_ (.builtin "object.__class__")))(b:Fl K C (.type "object")=a_ e_)(f:Q (.done (.ret (.ref C))) ⟨h,g,d,t,os⟩):
  o_ (u_ prog w) A (Builtin.«object.__getattribute__» ⟨[.ref a,.str "__class__" tk],[]⟩) Q E ⟨h,g,d,t,os⟩:=by
 have tc:GR ⟨h,g,d,t,os⟩ (.builtin "object.__class__") "getset_descriptor":=M8;have Y:=I.type (M:=u_ prog w);have U:=Hx (M:=u_ prog w) J e2;have e:=M8;have c:=F.slot_gs_get.lookup;have p7:=F.slot_gs_set.lookup
 repeat (any_goals (first|assumption|with_reducible refine Y.at ?_|with_reducible refine U.at ?_|wp_step))
 refine W.class_get (s:=⟨h,g,d,t,os⟩) J I b ?_
 repeat (any_goals (first|wp_step|assumption))
def Az(FB:G1 B bmB)(J:K.In h)(I:Ge h a oe C od)(e1:DB K (.ref C) "__getattribute__"=a_ (a_ (.builtin "BaseException.__getattribute__")))(e2:DB K (.ref C) "__class__"=a_ (a_ (.builtin "object.__class__")))(e3:DB K (.ref C) "__getattr__"=a_ g_)(b:Fl K C (.type "BaseException")=a_ e_)(Y:Fl K C (.type "object")=a_ e_)(U:Q (a_ (.ref C)) ⟨h,g,d,t+1,os⟩):o_ (u_ prog w) A (getAttr? (.ref a) "__class__") Q E ⟨h,g,d,t,os⟩:=by unfold getAttr? getAttrBy?;refine b_ (wpAny_mkText (b_ (F_ (xcls_by FB J I e1 e3 (λR c=>Iq FB.ga.plain Pb (pB J I b (yD J I e2 Y c))) ?_))));exact f_ U
structure As(K:N7)(C:i_):Prop where
 ga:DB K (.ref C) "__getattribute__"=a_ (a_ (.builtin "BaseException.__getattribute__"))
 cl:DB K (.ref C) "__class__"=a_ (a_ (.builtin "object.__class__"))
 gt:DB K (.ref C) "__getattr__"=a_ g_
 bs:Fl K C (.type "BaseException")=a_ e_
 ob:Fl K C (.type "object")=a_ e_
 is:∃cd,JH K C=a_ cd
def mz(FB:G1 B bmB)(Z:As K C):KitX K (.ref a) (.ref C) (λh=>Ge h a oe C od) where
 ty:=λ_ _ _ I=>I.type
 it:=λ_ _ X _=>by
  obtain⟨cd,J⟩:=Z.is;unfold JH at J;split at J
  .next Y=>intro m j l s' k q;unfold isType loadHead;refine b_ (Ma (k C _ (X C _ Y)) ?_);exact f_ q
  .cases J
 ne:=λhh b i is f c X U=>by
  obtain⟨cd,J⟩:=Z.is;refine Bool.eq_false_iff.mpr (λq=>?_);have e:C=b:=Value.ref.inj (FU.mp q);subst e;unfold JH at J;split at J
  .next Y=>cases(X C _ Y).symm.trans U
  .cases J
 ca:=λ{_ _ _ _ _ s} X I k=>by obtain⟨h,g,d,t,os⟩:=s;exact Az FB X I Z.ga Z.cl Z.gt Z.bs Z.ob k
end
theorem qY:∀{ys:List i_} {its:as},Ds (ys.map V.ref) its->its=ys.map w_
 |[],_,.nil=>rfl|y::ys,_,.cons r rs=>by rw[qY rs,show _=w_ y from r];rfl
def c_isiX(FB:G1 B bmB)(Z:As X.K C)(F:oe.cls=.ref C)(hd:∃vs,oe.data=.fields vs)(E:oe.dict=g_):cK (X.hand a oe) (.builtin "isinstance") (λxs H Q=>∃v b,xs=[.ref a,v] /\
  ((∃c,D' v c/\(∀u,D' v u->u=c)/\EE X.K (.ref C) c=a_ b)\/∃(U:i_) (ys:List i_),v=.ref U/\H U=a_ (.tup (ys.map V.ref))/\OO X.K (.ref C) (ys.map w_)=a_ b)/\Q (.bl b) H):=by
 intro B4 s σ H xs us Q I r h;obtain⟨v,b,rfl,h1,q⟩:=h;obtain⟨u,w,rfl,t,d⟩:=r.two;cases(show u=w_ a from t);have x:=(I.pin (a,oe) (Ea ..)).1;obtain⟨vs,g⟩:=hd;have J:Ge s.heap a oe C g_:=⟨x,F,by unfold KZ;rw[g],by rw[E];trivial⟩
 rcases h1 with⟨c,K,Y,e⟩|⟨U,ys,rfl,D,e⟩
 .cases Y w d;exact KG (mz FB Z) I.kIn J e (λz=>nomatch z) λtk=>⟨.bl b,H,I.tok tk,rfl,q⟩
 .cases(show w=w_ U from d);obtain⟨_,its,p,A,o,m⟩:=(show cz X.prog X.w H s.heap U (.tup (ys.map V.ref))from I.hok U _ D)
  obtain⟨l,n,k⟩:=m;have G:its=ys.map w_:=qY p;subst G;obtain⟨oc,y,f,osl⟩:=A;have j:oc=Gf "tuple":=l;have i:f=.seq (ys.map w_).toArray n:=k;subst j i;exact M5 (mz FB Z) I.kIn J o e (λz=>nomatch z) λtk=>⟨.bl b,H,I.tok tk,rfl,q⟩
def tRefs(ys:List i_):TA:=λ_ H Q=>Q (ys.map V.ref) H
section
variable{D:i_}{y:Dy}{ys:List i_}
def pa_refs0:PA X [] (tRefs []):=bR
def kA(U:PA X es (tRefs ys))(a:X.mg y=a_ (.ref D))(Y: ~~~(Gl X y))(hd:((y==("__debug__":Dy))=c_)⁻¹)(J: ~~~(j_ (.Name y p::es) X.env=(c_,DC (.Name y p) X.env)::j_ es X.env)):PA X (.Name y p::es) (tRefs (D::ys)):=
 λps B4 s σ H Q I h=>aN (Bx (v:=.ref D) Y a rfl hd) U J ps B4 s σ H Q I h
end
def DEat(K:Fg)(E:XK)(own:Bool)(X:Cx)(B4:Pn)(σ:St)(e:EM)(f:aa->M A'):Prop:=PEat X B4 σ e (tD K (WE K E) own f)
def DSat(K:Fg)(E:XK)(ro:Bool)(X:Cx)(OL O O':aF)(B4:Pn)(σ:St)(st:List E6)(g:aa->M C'):Prop:=∀F0 H0,PSsAt X B4 σ st (tS K (WE K E) ro F0 H0 OL O O' g)
def PEat.imp{t u:TE}(h:PEat X B4 σ e t)(k:∀H Q,u σ H Q->t σ H Q):PEat X B4 σ e u:=λs H Q I q=>h s H Q I (k H Q q)
def PSat.imp{t u:TS}(h:PSat X B4 σ st t)(k:∀D H,u D σ H->t D σ H):PSat X B4 σ st u:=λs H D I q=>h s H D I (k D H q)
section
variable{fr:aa->M (List A')}{E:XK}
def yh(F:eJ X.prog X.w X.K X.mg X.base CX k fad fd ps (spX K ro (b6 nN n g) n))(d:gu CX X B4 σ E)(f:eW k X.A)(i:X.mg x=a_ (.ref fad))(j:Gw X.K (.ref fad)=e_)(m:Binds X.K fd ps [])(o:DA K (WE K E) X (e::es) fr)(l: ~~~(Gl X x))(a:((x==("__debug__":Dy))=c_)⁻¹)(U: ~~~(j_ (e::es) X.env=(c_,DC e X.env)::j_ es X.env))(Y: ~~~((EG pos (j_ es X.env)).any (·.1)=c_)):
  DEat K E ro X B4 σ (.Call (.Name x p) (e::es) [] pos) (fL (b6 nN n g) fr):=by
 refine PEat.imp (at_call F d f i j m .nil o l a U Y) λH Q h=>?_;obtain⟨F,ρ,r,s,p⟩:=rd_L h;refine⟨F,ρ,r,s,?_⟩
 cases e1:fr ρ with
 |error z=>rw[e1]at p;exact p|ok ds=>
  rw[e1]at p;intro vs F' H' st q;obtain⟨F1,J,c,q1,z⟩:=p vs F' H' st q;show spX K ro (b6 nN n g) n (vs++[]) H' Q E;rw[Fc];by_cases b:J.length=n
  .exact⟨F1,J,c,q1,b,z⟩
  .rw[jM b]at z;exact aH.stuck z
end
def i5(O:aF)(f:aa->M A'):aa->M C':=λρ=>(f (erase O ρ)).bind λ_=>.ok (.nx ρ)
@[simp]def e_dropB(O:aF)(f:aa->M A')(ρ:aa):i5 O f ρ=(f (erase O ρ)).bind λ_=>.ok (.nx ρ):=id rfl
section
variable{own:Bool}{E:XK}{f:aa->M A'}
def ya(h:DEat K E own X B4 σ e f)(U: ~~~(Fd e g_ pos.line X.env=Ff c_)):DSat K E ro X OL O O B4 σ [.Expr e pos] (i5 O f):=λF0 H0=>at_one (PSat.imp (at_expr h U) λD H ⟨FB,F,ρ,r,p⟩=>by
 refine aK r.gU r.st.fh (λe Y=>p.fO r.st (by unfold i5;rw[Y];rfl)) λd hd v F1 H1 J q=>?_;have z:i5 O f ρ=.ok (.nx ρ):=by unfold i5;rw[hd];rfl
 rw[z]at p;exact p σ F1 H1 (r.step J))
end
theorem Rep.back{K:Fg}{F0 H0 F1 H1 FB F H:Hp}{O:aF}{σ:St}{ρ:aa}(r:Rep K F1 H1 FB O F H σ ρ)(s:B5 F0 H0 F1 H1):Rep K F0 H0 FB O F H σ ρ:=
 ⟨s.trans r.st,r.fb,r.len,r.fz,λi d e h=>let ⟨v,z,q⟩:=r.ow i d e h;⟨v,z,q.back s.hh⟩,r.ap⟩
noncomputable abbrev xArgs(vs:as):H9:={cls:=.type "tuple",data:=.seq vs.toArray}
noncomputable abbrev AB(C t:i_):H9:={cls:=.ref C,data:=.fields #[.ref t,.none,.none,.none,.bool c_,.none]}
abbrev qE(h:Eg)(C:i_)(vs:as):Eg:=(h.push (xArgs vs)).push (AB C h.objs.size)
section
variable{g:Array Le}{d:N_}{t:Nat}
variable{q:Dy}{N:i_}{bs:List h_}{mN:Mq}{oI:H9}
def mO{o:H9}(e:h.get? b=a_ o):(qE h C us).get? b=a_ o:=d_ _ (d_ _ e)
def sR:(qE h C us).get? (h.objs.size+1)=a_ (AB C h.objs.size):=by
 have z:=l_ (h.push (xArgs us)) (o:=AB C h.objs.size) rfl
 rwa [DZ]at z
theorem x_type(F:G3 B newId initId bmB)(T:Nr h bmB tl)(J:h.get? C=a_ (Jl nm q C N bs tl hdct sn sub ab col dd k0 k1 k2 k3 k5 newId))(a:h.Ns N mN)(hi:mN "__init__"=a_ (.ref fI))(i:h.get? fI=a_ oI)(U:oI.cls=.type "function")(j:us.length<=n_){Q:Mn->k_->Prop}(z:o_ (u_ prog w) A (HG (.ref fI) (.ref (h.objs.size+1)::us)) (λr s'=>r=.none/\Q (.done (.ret (.ref (h.objs.size+1)))) s') E ⟨qE h C us,g,d,t,os⟩):
  o_ (u_ prog w) A (Builtin.«type.__call__» ⟨.ref C::us,[]⟩) Q E ⟨h,g,d,t,os⟩:=by
 have k:∀b o,h.get? b=a_ o->(qE h C us).get? b=a_ o:=λb o e=>mO e;have Y:=k _ _ J;have f:(w_ C::tl).contains (.ref C)=e_:=by simp
 have c:(qE h C us).get? (h.objs.size+1)=a_ (AB C h.objs.size):=sR
 repeat (first|with_reducible refine wpAny_madeBy_exc J ?_|with_reducible refine GF J ?_|wp_step)
 refine codeAny_call_builtin_code (Ke _ F.quiet) (wpAny_check_new_subT F T J (codeAny_exc_new_subT F T J ?_ j));show o_ _ _ _ _ _ (⟨qE h C us,g,d,t,os⟩:k_);unfold JU
 repeat (first|(with_reducible refine Ou Y ?_;rw[f])|with_reducible refine GF c ?_|wp_step)
 refine wpAny_typeLookup_tail Y (a.keeps k) (T.keeps k) F.mroIs F.init.lookup ?_;rw[hi];unfold bindSpecial;refine Ex (b_ (b_ (II (T:="function") ⟨_,k _ _ i,U⟩ ?_)));rw[s_ ag];refine f_ (b_ (HH z λr s' y=>?_));obtain⟨e,y⟩:=y;subst e
 wp_walk
 exact y
def x_call(F:G3 B newId initId bmB)(T:Nr h bmB tl)(J:h.get? C=a_ (Jl nm q C N bs tl hdct sn sub ab col dd k0 k1 k2 k3 k5 newId))(Y:h.Ns N mN)(hi:mN "__init__"=a_ (.ref fI))(a:h.get? fI=a_ oI)(U:oI.cls=.type "function")(b:us.length<=n_){Q:Vp}(z:o_ (u_ prog w) (A.under (.builtin "type.__call__" ⟨.ref C::us,[]⟩)) (HG (.ref fI) (.ref (h.objs.size+1)::us)) (λr s'=>r=.none/\Q (.ref (h.objs.size+1)) s') E ⟨qE h C us,g,d,t,os⟩):
  o_ (u_ prog w) A (HG (.ref C) us) Q E ⟨h,g,d,t,os⟩:=by
 have l1:=tc_lookup;have c:=tc_bind (.ref C);have ty:(⟨h,g,d,t,os⟩:k_).TypeIs (.ref C) "type":=⟨_,J,rfl⟩
 refine JS (LO ?_);show o_ _ _ (callAny (.ref C) _) _ _ _
 (repeat (any_goals (first|assumption|with_reducible refine GF J ?_|wp_step)));exact⟨rfl,codeAny_call_builtin_at (Ke _ dkK) entry_typeCall (wpAny_check_type_call_sub J (x_type F T J Y hi a U b z))⟩
end
def ns_some{N:i_}{m:Mq}{n:Dy}(X:K.In h)(G:h.Ns N m)(e:Nn K N n=a_ (a_ v)):m n=a_ v:=by
 obtain⟨o,es,ep,U,g2,_,J⟩:=G;unfold Nn at e;cases q:K.lookup N with
 |none=>rw[q]at e;exact nomatch e
 |some a=>
  have z:=X _ _ q;rw[U]at z;cases z;obtain⟨c,d,Y,sl⟩:=o;cases(show Y=.dict es ep from g2);rw[q]at e;dsimp only at e;cases f:es.toList.find? (·.key.isStr n)with
  |none=>rw[f]at e;dsimp only at e;split at e<;>cases e
  |some b=>rw[f]at e;cases e;rw[<- J];unfold nsFind findBy;rw[<- MW,f];rfl
noncomputable def Kzc:Data->Option ClassData
 |.cls c=>a_ c|_=>g_
def Kzd{d:Data}{c:ClassData}(h:Kzc d=a_ c):d=.cls c:=by cases d<;>cases h;rfl
def jm(K:Fg)(C:i_)(bmB:as)(newId:String)(f:i_):Bool:=(K.lookup C).any λo=>(Kzc o.data).any λc=>c.mro.head? ==a_ (.ref C)&&(o.cls==.type "type"&&(!c.hasDel&&(PySem.W.nsOkIn K c.ns&&(PySem.W.tailIn K bmB c.mro.tail&&(Nn K c.ns "__init__"==a_ (a_ (.ref f))&&(o.slots.toList.length==6&&o.slots.toList[4]?==a_ (a_ (.builtin newId))))))))
def Kz6{l:List α}{x:α}(h:l.length=6)(J:l[4]?=a_ x):∃a b c d e,l=[a,b,c,d,x,e]:=by obtain⟨k0,l,rfl⟩:=EF (n:=5) h;obtain⟨k1,l,rfl⟩:=EF (n:=4) (FC h);obtain⟨k2,l,rfl⟩:=EF (n:=3) (FC (FC h));obtain⟨k3,l,rfl⟩:=EF (n:=2) (FC (FC (FC h)));have b:=FC (FC (FC (FC h)));obtain⟨U,l,rfl⟩:=EF (n:=1) b;obtain⟨k5,l,rfl⟩:=EF (n:=0) (FC b);cases J;rw[List.eq_nil_of_length_eq_zero (FC (FC b))];exact⟨_,_,_,_,_,rfl⟩
def rP{f:i_}(X:K.In h)(q:jm K C bmB newId f=e_):
  ∃tl N nm Y bs hdct sn sub ab col dd k0 k1 k2 k3 k5 mN,h.get? C=a_ (Jl nm Y C N bs tl hdct sn sub ab col dd k0 k1 k2 k3 k5 newId)/\h.Ns N mN/\mN "__init__"=a_ (.ref f)/\Nr h bmB tl:=by
 obtain⟨⟨oc,dd,v,⟨l⟩⟩,d,q⟩:=(Mz _ _).mp q;obtain⟨⟨o,n,a,m,k,j,i,g,c,J,b⟩,e,q⟩:=(Mz _ _).mp q;cases Kzd e;simp only[r_,FU,Bool.not_eq_true']at q;obtain⟨u,rfl,rfl,U,t,s,r,p⟩:=q;obtain⟨tl,rfl⟩:=List.head?_eq_some_iff.mp u;obtain⟨k0,k1,k2,k3,k5,rfl⟩:=Kz6 r p;exact⟨tl,m,o,k,n,j,i,g,c,J,dd,k0,k1,k2,k3,k5,_,X _ _ d,.of_isNs (JV X U),ns_some X (.of_isNs (JV X U)) s,Ml X t⟩
def xnamed2{f:i_}(q:jm K C bmB newId f=e_):uV K C bmB:=λ_ X=>by obtain⟨tl,N,nm,J,bs,hdct,sn,sub,ab,col,dd,k0,k1,k2,k3,k5,mN,Y,b,a,U⟩:=rP X q;exact⟨tl,N,nm,J,bs,hdct,sn,sub,ab,col,dd,k0,k1,k2,k3,k5,newId,Y,U⟩
noncomputable def Ozi:h_->Bool
 |.ref _=>e_|_=>c_
def sS(l:as):Bool:=l.dropWhile Ozi==[.type "ValueError",.type "Exception",.type "BaseException",.type "object"]
def Ozj{P:as->Prop}(U:P [.type "ValueError",.type "Exception",.type "BaseException",.type "object"])(h1:∀a l,P l->P (.ref a::l)):∀l:as,sS l=e_->P l:=λl=>by
 induction l with
 |nil=>exact λe=>nomatch (FU.mp e:([]:as)=_)
 |cons v r J=>
  intro e;unfold sS at e;rw[List.dropWhile_cons]at e;cases v with
  |ref a=>exact h1 a r (J e)|_=>rw[show(_::r)=_ from FU.mp e];exact U
def ve_pass(J:h_){l:as}:sS l=e_->refuseLoop J "__setattr__" l=Ff ():=Ozj (P:=λl=>refuseLoop J "__setattr__" l=Ff ()) (PySem.F.store_ValueError.passes J) (λ_ _ h=>by rw[refuseLoop_ref];exact h) l
def ve_obj{l:as}:sS l=e_->l.contains (.type "object")=e_:=Ozj (P:=λl=>l.contains (.type "object")=e_) dkK (λ_ _ h=>by rw[Nf,h,L8]) l
structure yA(K:Fg)(C:i_)(f:Dy):Prop where
 sa:DB K (.ref C) "__setattr__"
   =a_ (a_ (.builtin "object.__setattr__"))
 no:DB K (.ref C) f=a_ g_
 cd:((JH K C).any λcd=>sS cd.mro&&cd.hasDict)=e_
section
open PySem.W
variable{s:k_}{od:Option H9}{K:N7}{f:Dy}
def x_open{R:K0->k_->Prop}(X:K.In s.heap)(I:Ge s.heap a oe C od)(Z:yA K C f)(z:∀b,o_ (u_ prog w) A.in1 (NL (.ref a) (.ref C) (.str f tk) f v b)
   (λY s'=>match Y with|.done y=>R (.ok y) s'|.again d=>d.quiet=e_/\Hi (u_ prog w) A d R s') (λe s'=>R (.error e) s') s):
  Hi (u_ prog w) A (.call (.builtin "object.__setattr__") ⟨[.ref a,.str f tk,v],[]⟩) R s:=by
 have U:=PySem.F.store_object;obtain⟨cd,c,J⟩:=LQ Z.cd;rw[r_]at J;have h:cd.mro.isEmpty=c_:=by cases q:cd.mro with|nil=>rw[q]at J;cases J.1|cons _ _=>rfl
 have g:Looks (u_ prog w) s.heap (JU (.ref a) (.type "object")) e_:=I.type.andThen (LJ X (by unfold Fl;rw[c,Nb,q_ (by rw[h];decide),ve_obj J.1]));refine Iq U.slot.plain U.entry (@check_slot (u_ prog w) _ _ s "object.__setattr__" "object" "__setattr__" (.ref a) [.str f tk,v] [] _ U.kind U.split g (U.args (.ref a) (.str f tk) v) ?_);rw[osa_eq,refuse_eq];have i:Looks (u_ prog w) s.heap (mroOf (.ref C)) cd.mro:=(LP X c).andThen .now;refine b_ (b_ (I.type.here (b_ (i.here ?_))));rw[ve_pass _ J.1];exact f_ (b_ (I.type.here (b_ ((Hx X Z.no).here (b_ (f_ (z _)))))))
def x_set1{vs:Array h_}{Q:Unit->k_->Prop}(X:K.In s.heap)(Z:yA K C f)(J:s.heap.get? a=a_ ⟨.ref C,g_,.fields vs,#[]⟩)(z:∀h',h'.get? a=a_ ⟨.ref C,a_ s.heap.objs.size,.fields vs,#[]⟩->h'.Ns1 s.heap.objs.size (λy=>if y=f then a_ v else g_)->(∀b o,b≠a->s.heap.get? b=a_ o->h'.get? b=a_ o)->Q () {s with heap:=h',toks:=s.toks+2}):
  o_ (u_ prog w) A (OY (.ref a) f v) Q E s:=by
 have I:Ge s.heap a ⟨.ref C,g_,.fields vs,#[]⟩ C g_:=⟨J,rfl,rfl,trivial⟩
 refine O5 X I Z.sa (x_open (s:={s with toks:=s.toks+1}) X I Z λb=>?_);obtain⟨cd,g,d⟩:=LQ Z.cd;rw[r_]at d;refine b_ (f_ (b_ (b_ (Ma J (b_ (MN (s:={s with toks:=s.toks+1}) (LP X g) ?_))))));rw[d.2];have Y:a≠s.z:=Dx (mf J);have h1:(s.heap.push ET).get? a=a_ ⟨.ref C,g_,.fields vs,#[]⟩:=d_ _ J;refine b_ (wpAny_alloc' (b_ (wpAny_update' h1 (f_ ?_))));have h2:((s.heap.push ET).update a λo=>{o with dict:=a_ s.z}).get? s.z=a_ ET:=by rw[Dw _ _ Y];exact l_ s.heap rfl
 have i:((s.heap.push ET).update a λo=>{o with dict:=a_ s.z}).get? a=a_ ⟨.ref C,a_ s.z,.fields vs,#[]⟩:=Ef _ h1 rfl;refine b_ (f_ (b_ (wpAny_nsSet1 (m:=λ_=>g_) (Mm ⟨ET,#[],_,h2,rfl,(λe J=>DD J ad),λ_=>rfl⟩) λh' c U=>?_)));obtain⟨r,j,k,p,n,l⟩:=c.count (ML f v Within.nil);refine b_ (Pd p (by rw[n];exact Ph (Ee l (by rw[B_,Ie,Ey];omega))) (f_ ?_));exact z h' ((U.2 a Y).trans i) c λb o h q=>(U.2 b (Dx (mf q))).trans (by rw[Dw _ _ (Em h)];exact d_ _ q)
end
section
open PySem.W
variable{s:k_}{od:H9}{K:N7}{f:Dy}
def yA.hd(Z:yA K C f):GW K C=e_:=by obtain⟨cd,U,J⟩:=LQ Z.cd;rw[r_]at J;unfold GW;rw[U];exact J.2
def x_ga{Q:Mn->k_->Prop}(X:K.In s.heap)(I:Ge s.heap a oe C (a_ od))(Y:yA K C f)(b:IB f od=a_ (a_ v))(q:Q (.done (.ret v)) s):
  o_ (u_ prog w) A (Builtin.«object.__getattribute__» ⟨[.ref a,.str f tk],[]⟩) Q E s:=by
 have U:=I.type (M:=u_ prog w);have J:=looks_find (M:=u_ prog w) X I (Ox Y.hd Y.no rfl b);unfold Builtin.«object.__getattribute__»;exact b_ (f_ (b_ (f_ (b_ (U.here (b_ (J.here (f_ q))))))))
def x_get{ex:Bool}{Q:Vp}(FB:G1 B bmB)(X:K.In s.heap)(I:Ge s.heap a oe C (a_ od))(Z:As K C)(Y:yA K C f)(i:IB f od=a_ (a_ v))(hh:LA v=e_)(q:Q v {s with toks:=s.toks+1}):
  o_ (u_ prog w) A (Nm (.ref a) f ex) Q E s:=by
 obtain⟨h,g,d,t,os⟩:=s;have e:=I.type (M:=u_ prog w);have c:=Hx (M:=u_ prog w) X Z.ga;have b:=Hx (M:=u_ prog w) X Z.gt;have k:=FB.ga.bind (.ref a);have nx:(Hm "BaseException.__getattribute__"==Hm "object.__getattribute__")=c_:=by decide +kernel
 have J:∀{U:Fu} (R:K0->k_->Prop),R (.ok (.ret v)) ⟨h,g,d,t+1,os⟩->Hi (u_ prog w) U (.call (.builtin "BaseException.__getattribute__") ⟨[.ref a,.str f t],[]⟩) R ⟨h,g,d,t+1,os⟩:=λ{U} R j=>Iq FB.ga.plain Pb (pB X I Z.bs (x_ga (s:=⟨h,g,d,t+1,os⟩) X I Y i j))
 have ho:=handedOut_of hh;unfold Nm Pj;refine b_ (wpAny_mkText ?_);repeat (any_goals (first|assumption|with_reducible refine e.at ?_|with_reducible refine c.at ?_|with_reducible refine b.at ?_|wp_step))
 rw[show(ex&&onTheHeap (Hm "BaseException.__getattribute__"))=c_ by rw[show onTheHeap (Hm "BaseException.__getattribute__")=c_ from rfl,JQ],q_ Dz]
 repeat (any_goals (first|wp_step|assumption))
 all_goals (refine J _ ?_)
 repeat (any_goals (first|wp_step|assumption))
 all_goals (first|(rw[ho];exact wpAny_pure q)|exact q)
end
noncomputable def XO(a C:i_)(dx:Option i_):HO:=.ext λh=>∃vs:Array h_,vs[1]?=a_ .none/\h.get? a=a_ ⟨.ref C,dx,.fields vs,#[]⟩
def XD(d:i_)(fs:List (Dy×V)):HO:=.ext λh=>∃mA,h.Ns1 d mA/\(∀f,pq (fs.lookup f) (mA f))/\Ih mA (fs.map (·.1))
section
variable{d:i_}{fs:List (Dy×V)}
def xo_ok{vs:Array h_}(h1:vs[1]?=a_ .none)(e:h.get? a=a_ ⟨.ref C,dx,.fields vs,#[]⟩):cz P w H h a (XO a C dx):=⟨⟨vs,h1,e⟩,⟨_,e⟩,λ_ _ ⟨vs,q,e⟩ k=>⟨vs,q,k _ e⟩⟩
def xd_ok{mA:Mq}(n:h.Ns1 d mA)(r:∀f,pq (fs.lookup f) (mA f))(wi:Ih mA (fs.map (·.1))):cz P w H h d (XD d fs):=
 ⟨⟨mA,n,r,wi⟩,(let ⟨o,_,_,e,_⟩:=n;⟨o,e⟩),λ_ _ ⟨m,q,z⟩ k=>⟨m,q.at k,z⟩⟩
def Ay(x:cz P w H h a (XO a C dx)):∃vs:Array h_,vs[1]?=a_ .none/\h.get? a=a_ ⟨.ref C,dx,.fields vs,#[]⟩:=x.1
def xd_get(x:cz P w H h d (XD d fs)):∃mA,h.Ns1 d mA/\(∀f,pq (fs.lookup f) (mA f))/\Ih mA (fs.map (·.1)):=x.1
end
section
variable{s:k_}
def B6.turn{t':Nat}(I:B6 X B4 σ H s)(S:i_->Prop)(k:∀b o,¬S b->s.heap.get? b=a_ o->h'.get? b=a_ o)(J:∀b,¬S b->H' b=H b)(U:∀b,S b->(∃d,H b=a_ (.ext d))\/s.heap.get? b=g_)(Y:∀b o,S b->s.heap.get? b=a_ o->∃o',h'.get? b=a_ o')(f:∀b o,S b->H' b=a_ o->cz X.prog X.w H' h' b o):
  B6 X B4 σ H' {s with heap:=h',toks:=t'}:=by
 have out:∀b u,H b=a_ u->(∀d,u≠.ext d)->¬S b:=λb u e n z=>by
  rcases U b z with⟨d,q⟩|q
  .rw[e]at q;cases q;exact n d rfl
  .obtain⟨o,r⟩:=(I.hok b u e).is;rw[r]at q;cases q
 have a:∀b o,s.heap.get? b=a_ o->H b=g_->¬S b:=λb o e n z=>by
  rcases U b z with⟨d,q⟩|q
  .rw[n]at q;cases q
  .rw[e]at q;cases q
 refine I.un ⟨λb o e n _ _=>k b o (a b o e n) e,λb o e n _ _=>⟨o.slots,k b o (a b o e n) e⟩,λb o e n _=>by rw[J b (a b o e n)];exact n,λb o e _=>?_,λb xs e=>?_,λb o u e=>?_,λb ps e=>?_⟩ λb u e=>?_
 .by_cases z:S b
  .exact Y b o z e
  .exact⟨o,k b o z e⟩
 .rw[J b (out b _ e λ_ z=>nomatch z)];exact e
 .rw[J b (out b _ e λ_ z=>nomatch z)];exact e
 .exact⟨#[],by rw[J b (out b _ e λ_ z=>nomatch z),Array.append_empty];exact e⟩
 .by_cases z:S b
  .exact f b u z e
  .rw[J b z]at e;refine(I.hok b u e).v8 (λc v g q=>k c v ?_ q) (λc q=>?_) λc xs q=>?_
   .rcases g with rfl|g
    .exact z
    .exact out c _ g λ_ z=>nomatch z
   .rw[J c (out c _ q λ_ z=>nomatch z)];exact q
   .rw[J c (out c _ q λ_ z=>nomatch z)];exact q
end
section
variable{s:k_}{d:i_}{f:Dy}
def xset1_ok{Q:Unit->k_->Prop}(I:B6 X B4 σ H s)(e:H a=a_ (XO a C g_))(Z:yA X.K C f)(i:D' y u)(z:∀d s',H d=g_->d≠a->B6 X B4 σ (upd (upd H d (XD d [(f,y)])) a (XO a C (a_ d))) s'->Q () s'):o_ (u_ X.prog X.w) A (OY (.ref a) f u) Q E s:=by
 obtain⟨vs,h,m⟩:=Ay (I.hok a _ e);have fr:=I.hok.fresh (t_ s.z);have c:s.z≠a:=λq=>by rw[q,e]at fr;cases fr
 refine x_set1 I.kIn Z m λh' e1 j k=>z s.z _ fr c ?_;refine I.turn (λb=>b=a\/b=s.z) (λb o Y q=>k b o (λr=>Y (.inl r)) q) (λb Y=>by rw[aq λr=>Y (.inl r),aq λr=>Y (.inr r)]) (λb U=>?_) (λb o U q=>?_) λb o U q=>?_
 .rcases U with rfl|rfl
  .exact .inl ⟨_,e⟩
  .exact .inr (get_none (t_ _))
 .rcases U with rfl|rfl
  .exact⟨_,e1⟩
  .rw[get_none (t_ _)]at q;cases q
 .rcases U with rfl|rfl
  .rw[ak]at q;cases q;exact xo_ok h e1
  .rw[aq c,ak]at q;cases q;refine xd_ok j (λg=>?_) λg l=>?_
   .show pq (DF g [(f,y)]) (if g=f then a_ u else g_);rw[A_];by_cases J:g=f
    .rw[s_ J,show(g==f)=e_ from FU.mpr J];exact i
    .rw[q_ J,show(g==f)=c_ from GB.mpr J];trivial
   .by_cases J:g=f
    .exact p_.mpr (.inl J)
    .exact DD (show(if g=f then a_ u else g_)=g_ from q_ J) l
end
def sX1(C:i_)(ta tv:TE)(f:Dy):TS:=λD σ H=>tv σ H λy H1=>ta σ H1 λx H2=>∃a,x=.ref a/\H2 a=a_ (XO a C g_)/\∀d,H2 d=g_->d≠a->D.nx σ (upd (upd H2 d (XD d [(f,y)])) a (XO a C (a_ d)))
section
variable{o:EM}{f:Dy}
def ps_x1(g:PE X o ta)(hv:PE X value tv)(Z:yA X.K C f)(e: ~~~(Fd value (a_ (.Attribute o f pos')) pos.line X.env=Ff c_)):PS X (.Assign [.Attribute o f pos'] value pos) (sX1 C ta tv f):=by intro B4 s σ H D I h;refine Lm (HH (hv B4 s σ H _ I h) λu U J=>?_) e;obtain⟨y,H1,k,Y,q⟩:=J;refine HH (g B4 U σ H1 _ k q) λc m J=>?_;obtain⟨x,H2,j,b,a,ex,ea,q2⟩:=J;subst ex;cases(show c=w_ a from b);exact xset1_ok j ea Z Y λd l h1 h2 i=>⟨σ,_,i,q2 d h1 h2⟩
end
def fn_at{f:i_}(X:K.In h)(e:FP K (.ref f)=a_ (.type "function")):∃o,h.get? f=a_ o/\o.cls=.type "function":=by
 unfold FP at e;cases q:K.lookup f with
 |none=>simp only[q]at e;cases e|some o=>simp only[q]at e;exact⟨o,X _ _ q,by simpa using e⟩
def v5{M:Ld}{q:Dy}{N:i_}{bs:as}{s:k_}{x:NI h_}{Q:Flow->k_->Prop}(j:tl.contains (.type "BaseException")=e_)(hh:A.handled=g_)(z:o_ M A x (λv J=>∃e oe,v=.ref e/\J.heap.get? C=a_ (Jl nm q C N bs tl hdct sn sub ab col dd k0 k1 k2 k3 k5 newId)/\J.heap.get? e=a_ oe/\oe.cls=.ref C/\(∃vs,oe.data=.fields vs/\vs[1]?=a_ .none)/\E (.ref e) J) E s):
  o_ M A
    (raiseStmt env (a_ x) g_) Q E s:=by
 have k:(w_ C::tl).contains (.type "BaseException")=e_:=by rw[Nf,j,L8]
 unfold raiseStmt;refine b_ (HH z λv J U=>?_);obtain⟨e,oe,rfl,b,h,a,⟨vs,hd,Y⟩,i⟩:=U;obtain⟨oc,c,f,osl⟩:=oe;dsimp only at a hd;subst a hd;obtain⟨l,g,d,tk,os⟩:=J;repeat (first|(with_reducible refine Ou b ?_;rw[k])|with_reducible refine GF h ?_|with_reducible refine GF b ?_|wp_step)
 rw[Y];refine f_ ?_;rw[q_ ag];exact f_ (wpAny_raiseNew_none hh i)
def XEq2(X:Cx)(E:XK)(C:i_):Prop:=∀(B4:Pn) (σ:St) (H:Hp) (s':k_) (a d:i_),B6 X B4 σ H s'->ExA s'.heap a (.ref C) (a_ d) g_->X.s₀.heap.get? a=g_->H a=g_->E (.ref C) (a_ d) H->X.xe (.ref a) s'
section
variable{base:Eg}{f:i_}{s:k_}{E:XK}
def xeqD2:XEq2 (uY (CXd P w) P w K mg base N qual scope f cd A outer s H E) E C:=λ_ _ _ _ _ _ J x U fa q=>xe_of J x U (λT Y=>nomatch Y) fa q
end
def tFldX(i:Nat)(a d:i_)(f:Dy):TE:=λσ H Q=>σ[i]?=a_ (a_ (.ref a))/\∃gs v,H d=a_ (.xd gs)/\gs.lookup f=a_ v/\Q v H
section
variable{d:i_}{n f:Dy}
def pe_xfld(FB:G1 B bmB)(Z:As X.K C)(Y:yA X.K C f)(E:oe.cls=.ref C)(hd:∃vs,oe.data=.fields vs)(t:oe.dict=a_ d)(G: ~~~(X.N[i]?=a_ n))(hv:autoParam (Vis X.env.scope n) Jq4)(g:((n==("__debug__":Dy))=c_)⁻¹)(e:((n==("__classdict__":Dy))=c_)⁻¹)(F: ~~~(E5 (.Name n p1) f X.env (DC (.Name n p1) X.env)=DC (.Name n p1) X.env)):PE (X.hand a oe) (.Attribute (.Name n p1) f pos) (tFldX i a d f):=by
 intro B4 s σ H Q I h;obtain⟨e1,gs,v,D,A,q⟩:=h;refine wF (env:=(X.hand a oe).env) F (HH (pv (X:=X.hand a oe) i G hv g e B4 s σ H (λx H1=>x=.ref a/\H1=H) I ⟨.ref a,e1,rfl,rfl⟩) λu j y=>?_);obtain⟨x,H1,U,l,ex,K⟩:=y;subst ex K;cases(show u=w_ a from l);have m:=(U.pin (a,oe) (Ea ..)).1;obtain⟨mA,p,r⟩:=(show cz X.prog X.w H1 j.heap d (.xd gs)from U.hok d _ D)
 obtain⟨od,z,b⟩:=nk p;obtain⟨L,w,k⟩:=pq.some_of (v:=v) (o:=mA f) (by rw[<- A];exact r f);obtain⟨vs,c⟩:=hd;have J:Ge j.heap a oe C (a_ od):=⟨m,E,by unfold KZ;rw[c],by rw[t];exact z⟩
 exact x_get FB U.kIn J Z Y (by rw[b,w]) (nE k) ⟨v,H1,U.tok _,k,q⟩
end
def mV(O:aF)(C:i_)(fb:aa->M C')(fx:List (Dy×A')->aa->M aa):aa->M C':=λρ=>match fb (erase O ρ)with
 |.ok fl=>.ok fl|.error (.exc J (f::fs))=>if J=C then(fx (f::fs) ρ).bind λρ'=>.ok (.nx ρ')else .error .stuck
 |.error _=>.error .stuck
def Cz{fb:aa->M C'}{fl:C'}(h:fb (erase O ρ)=.ok fl):mV O C fb fx ρ=.ok fl:=by unfold mV;rw[h]
def qm{fb:aa->M C'}{f:Dy×A'}{fs:List (Dy×A')}(h:fb (erase O ρ)=.error (.exc C (f::fs))):mV O C fb fx ρ=(fx (f::fs) ρ).bind λρ'=>.ok (.nx ρ'):=by unfold mV;rw[h];exact s_ rfl
section
variable{fb:aa->M C'}
def rs_tryF(Y:∀(a d:i_) (gs:List (Dy×V)) (fs:List (Dy×A')) (FB F H:Hp) (ρ:aa),Rep K F0 H0 FB O F H σ ρ->F d=a_ (.xd gs)->i3 K F fs gs->ck K J3 ro F0 H0 FB OL O D ((fx fs ρ).bind λρ'=>.ok (.nx ρ'))->ts a (a_ d) (D.less i) (σ.set i (a_ (.ref a))) H)(t:tS K J3 ro F0 H0 OL O O (mV O C fb fx) D σ H):tTry (λE D σ H=>∃F1 H1,tS K (WE K E) ro F1 H1 OL [] O fb D σ H) i C ts D σ H:=by
 obtain⟨FB,F,ρ,r,p⟩:=t;have J:=r.gU;refine⟨F,H,FB,F,erase O ρ,⟨B5.refl r.st.fh,r.fb,J.len,λm d e _=>J.sl m d e,(λm d e h=>nomatch h),(λm n k j c h=>nomatch h)⟩,?_⟩
 cases e:fb (erase O ρ)with
 |ok fl=>
  rw[Cz e]at p;cases fl with
  |nx ρ'=>exact λσ' F' H' r'=>p σ' F' H' (r'.back r.st)|rt d=>exact λv F' H' s' q=>p v F' H' (r.st.trans s') (q.back r.st.hh)|bk ρ'=>exact λσ' F' H' r'=>p σ' F' H' (r'.back r.st)|ct ρ'=>exact λσ' F' H' r'=>p σ' F' H' (r'.back r.st)
 |error x=>
  cases x with
  |stuck=>exact p.stuck (by unfold mV;rw[e])|exc g fs=>
   cases fs with
   |nil=>exact p.stuck (by unfold mV;rw[e])|cons f fs=>
    by_cases U:g=C
    .subst U;rw[qm e]at p;exact λF' H' s' d gs hd b=>⟨rfl,λa _=>Y a d gs _ FB F' H' ρ (r.step s') hd b p⟩
    .exact p.stuck (by unfold mV;rw[e];exact q_ U)
end
section
variable{c n:Dy}{fb:aa->M C'}
def ds_tryF(l:∀(B4:Pn) (σ:St) (E:XK) (U:Vp),gu (CXd X.prog X.w) (X.lO U) B4 σ E->DSat K E ro (X.lO U) OL [] O B4 σ body fb)(f:∀(a:i_) (oe:H9),oe.cls=.ref C->(∃vs,oe.data=.fields vs)->PSs (X.hand a oe) (b₀::suite) (ts a oe.dict))(m:∀(F0 H0:Hp) (D:Ends) (σ:St) (a d:i_) (gs:List (Dy×V)) (fs:List (Dy×A')) (FB F H:Hp) (ρ:aa),σ.length=X.N.length->Rep K F0 H0 FB O F H σ ρ->F d=a_ (.xd gs)->i3 K F fs gs->ck K J3 ro F0 H0 FB OL O D ((fx fs ρ).bind λρ'=>.ok (.nx ρ'))->ts a (a_ d) (D.less i) (σ.set i (a_ (.ref a))) H)(t:uV X.K C bmB)(u:bmB.contains (.type "BaseException")=e_)(h:X.mg c=a_ (.ref C))(o:X.N.Nodup)(hi: ~~~(X.N[i]?=a_ n))(j: ~~~(X.env.scope.names.lookup n=a_ .local))(k: ~~~(Gl X c))(b: ~~~(X.ex=[]))(J: ~~~(X.stack=X.env::X.outer))(Y: ~~~(X.env.frame=a_ X.env.locals))(e:((c==("__debug__":Dy))=c_)⁻¹):
  DS K J3 ro X OL O O (.Try body [.ExceptHandler (a_ (.Name c np)) (a_ n) (b₀::suite) hpos] [] [] pos) (mV O C fb fx):=λF0 H0 B4 s σ H D I z=>
 ps_try (tb:=λE D σ H=>∃F1 H1,tS K (WE K E) ro F1 H1 OL [] O fb D σ H) (λB4 σ E U g s H D I ⟨F1,H1,q⟩=>l B4 σ E U g F1 H1 s H D I q) f t u h o hi j k b J Y e B4 s σ H D I (rs_tryF (λa d gs fs FB F H ρ r h1 h2 p=>m F0 H0 D σ a d gs fs FB F H ρ I.len r h1 h2 p) z)
end
section
variable{fr:aa->M (List A')}{W:cn}
def noM(g:List A'->M A'):List A'->M A':=λds=>noX (g ds)
@[simp]def e_noM(g:List A'->M A')(ds:List A'):noM g ds=noX (g ds):=id rfl
def passN:Passes (CXd X.prog X.w) X (λ_ _ _=>False):=by rintro B4 σ H1 J e s' I ⟨a,T,C,dx,H',rfl,z⟩;exact z.want.elim
def de_callN(F:eJ X.prog X.w X.K X.mg X.base (CXd X.prog X.w) k fad fd ps (spX K ro (b6 nN n g) n))(i:eW k X.A)(j:X.mg x=a_ (.ref fad))(l:Gw X.K (.ref fad)=e_)(o:Binds X.K fd ps [])(t:DA K W X (e::es) fr)(m: ~~~(Gl X x))(b:((x==("__debug__":Dy))=c_)⁻¹)(Y: ~~~(j_ (e::es) X.env=(c_,DC e X.env)::j_ es X.env))(a: ~~~((EG pos (j_ es X.env)).any (·.1)=c_)):
  DE K W ro X (.Call (.Name x p) (e::es) [] pos) (fL (noM (b6 nN n g)) fr):=by
 refine PE.imp (n5 F i m j l o .nil passN t b Y a) λσ H Q h=>?_;obtain⟨F,ρ,r,s,p⟩:=rd_L h;refine⟨F,ρ,r,s,?_⟩
 cases e1:fr ρ with
 |error z=>rw[e1]at p;exact p|ok ds=>
  rw[e1]at p;intro vs F' H' st q;obtain⟨F1,J,f,q1,z⟩:=p vs F' H' st q;show spX K ro (b6 nN n g) n (vs++[]) H' Q (λ_ _ _=>False);rw[Fc];have z:aH K W ro F1 H' (noX (b6 nN n g J)) Q:=z;by_cases c:J.length=n
  .refine⟨F1,J,f,q1,c,?_⟩
   cases U:b6 nN n g J with
   |ok d=>rw[U]at z;exact z|error x=>rw[U]at z;exact(W.ns z).elim
  .rw[jM c]at z;exact(W.ns z).elim
end
section
variable{W:cn}
def ps_nox{t:TS}(h:PS X.nox st t):PS X st t:=λB4 s σ H D I z=>Ew (h B4 s σ H D (I.lO _) z) (λ_ _ q=>q.fD) λ_ _ y=>(show False from y).elim
def yc(h:DS K J3 ro X.nox OL O O' st g):DS K W ro X OL O O' st (Cr g):=λF0 H0=>PS.imp (ps_nox (h F0 H0)) λD σ H ⟨FB,F,ρ,r,p⟩=>by
 refine⟨FB,F,ρ,r,?_⟩
 have p:ck K W ro F0 H0 FB OL O' D (noX (g ρ)):=p;unfold ck at p ⊢;cases e:g ρ with
 |ok fl=>rw[e]at p;cases fl<;>exact p
 |error x=>rw[e]at p;exact(W.ns p).elim
end
structure XMk(K:Fg)(mg:Mq)(x:Dy)(C f:i_):Prop where
 mg:mg x=a_ (.ref C)
 ex:jm K C [.type "ValueError",.type "Exception",.type "BaseException",.type "object"] "ValueError.__new__" f=e_
 fn:FP K (.ref f)=a_ (.type "function")
 kp:Gw K (.ref C)
   =e_
structure XTry(K:Fg)(mg:Mq)(x:Dy)(C:i_):Prop where
 mg:mg x=a_ (.ref C)
 nm:uV K C [.type "ValueError",.type "Exception",.type "BaseException",.type "object"]
 isi:As K C
noncomputable def isK(k:Int):h_->Bool
 |.int i _=>i==k|_=>c_
theorem pD:∀{is:aj} {us:as},Ds (is.map V.int) us->∀(m:Nat) (i:Int),is[m]?=a_ i->∃t,us[m]?=a_ (.int i t)
 |[],_,_,m,i,h=>by simp at h|a::is,_,.cons r rs,0,i,h=>by
  obtain⟨t,e⟩:=(show ∃t,_=Hv a t from r)
  simp at h;subst h e;exact⟨t,rfl⟩
 |a::is,_,.cons r rs,m+1,i,h=>by simpa using pD rs m i (by simpa using h)
def rIsi(K:Fg)(C a:i_)(R:Hp->Prop):am->Hp->VK->Prop:=λxs H Q=>R H/\∃v b,xs=[.ref a,v] /\
  ((∃c,D' v c/\(∀u,D' v u->u=c)/\EE K (.ref C) c=a_ b)\/∃(J:i_) (ys:List i_),v=.ref J/\H J=a_ (.tup (ys.map V.ref))/\OO K (.ref C) (ys.map w_)=a_ b)/\Q (.bl b) H
def XDk(d:i_):Hp->Prop:=λH=>∃gs,H d=a_ (.xd gs)
noncomputable def t4(i:Nat)(a:i_)(R:Hp->Prop)(b:Bool):TE:=λσ H Q=>σ[i]?=a_ (a_ (.ref a))/\R H/\Q (.bl b) H
def AQ(i:Nat)(a:i_)(R:Hp->Prop)(ys:List i_)(b:Bool):TE:=λσ H Q=>σ[i]?=a_ (a_ (.ref a))/\∀p,H p=g_->R (upd H p (.tup (ys.map V.ref)))/\Q (.bl b) (upd H p (.tup (ys.map V.ref)))
section
variable{d:i_}
def c_isiD(FB:G1 B bmB)(Z:As X.K C)(N:oe.cls=.ref C)(hd:∃vs,oe.data=.fields vs)(F:oe.dict=a_ d):cK (X.hand a oe) (.builtin "isinstance") (rIsi X.K C a (XDk d)):=by
 intro B4 s σ H xs us Q I r h;obtain⟨⟨gs,L⟩,v,b,rfl,h1,q⟩:=h;obtain⟨u,w,rfl,y,Y⟩:=r.two;cases(show u=w_ a from y);have A:=(I.pin (a,oe) (Ea ..)).1;obtain⟨vs,j⟩:=hd;obtain⟨mA,⟨od,es,ep,K,i⟩,_⟩:=(show cz X.prog X.w H s.heap d (.xd gs)from I.hok d _ L)
 have J:Ge s.heap a oe C (a_ od):=⟨A,N,by unfold KZ;rw[j],by rw[F];exact K⟩
 rcases h1 with⟨c,P,U,e⟩|⟨f,ys,rfl,G,e⟩
 .cases U w Y;exact KG (mz FB Z) I.kIn J e (λz=>nomatch z) λtk=>⟨.bl b,H,I.tok tk,rfl,q⟩
 .cases(show w=w_ f from Y);obtain⟨_,its,x,E,t,p⟩:=(show cz X.prog X.w H s.heap f (.tup (ys.map V.ref))from I.hok f _ G)
  obtain⟨o,n,m⟩:=p;have O:its=ys.map w_:=qY x;subst O;obtain⟨oc,D,g,osl⟩:=E;have l:oc=Gf "tuple":=o;have k:g=.seq (ys.map w_).toArray n:=m;subst l k;exact M5 (mz FB Z) I.kIn J t e (λz=>nomatch z) λtk=>⟨.bl b,H,I.tok tk,rfl,q⟩
end
section
variable{D:i_}{R:Hp->Prop}{n y:Dy}{b:Bool}{ys:List i_}
def pe_isO(g:cK (X.hand a oe) (.builtin "isinstance") (rIsi X.K C a R))(l:X.mg "isinstance"=g_)(v:X.mg y=a_ (.ref D))(o:EE X.K (.ref C) (.ref D)=a_ b)(t: ~~~(X.N[i]?=a_ n))(hv:autoParam (Vis X.env.scope n) Jq4)(f:((n==("__debug__":Dy))=c_)⁻¹)(e:((n==("__classdict__":Dy))=c_)⁻¹)(m: ~~~(Gl (X.hand a oe) "isinstance"))(c: ~~~(Gl (X.hand a oe) y))(d:((y==("__debug__":Dy))=c_)⁻¹)(U: ~~~(j_ [.Name n p1,.Name y p2] X.env=[(c_,DC (.Name n p1) X.env),(c_,DC (.Name y p2) X.env)]))(J: ~~~(j_ [.Name y p2] X.env=[(c_,DC (.Name y p2) X.env)]))(Y: ~~~((EG pos (j_ [.Name y p2] X.env)).any (·.1)=c_)):
  PE (X.hand a oe) (.Call (.Name "isinstance" p) [.Name n p1,.Name y p2] [] pos) (t4 i a R b):=by
 have j:PE (X.hand a oe) (.Name y p2) (tC (.ref D)):=λB4 s σ H Q I h=>fH I c v ⟨.ref D,H,I,rfl,h⟩ d;refine PE.imp (gd (X:=X.hand a oe) g m l J7 (aN (pv i t hv f e) (aN j bR J) (by rw[U,J])) ag ag (by rw[U,J]) Y) λσ H Q h=>?_;obtain⟨e1,r,q⟩:=h;exact⟨.ref a,e1,r,.ref D,b,rfl,.inl ⟨.ref D,rfl,λu k=>k,o⟩,q⟩
def pe_isB(k:cK (X.hand a oe) (.builtin "isinstance") (rIsi X.K C a R))(o:X.mg "isinstance"=g_)(d:X.mg y=g_)(Y:FV y=a_ (.type T))(s:EE X.K (.ref C) (.type T)=a_ b)(v: ~~~(X.N[i]?=a_ n))(hv:autoParam (Vis X.env.scope n) Jq4)(j:((n==("__debug__":Dy))=c_)⁻¹)(g:((n==("__classdict__":Dy))=c_)⁻¹)(r: ~~~(Gl (X.hand a oe) "isinstance"))(e: ~~~(Gl (X.hand a oe) y))(l:(y≠"__name__")⁻¹)(f:((y==("__debug__":Dy))=c_)⁻¹)(U: ~~~(j_ [.Name n p1,.Name y p2] X.env=[(c_,DC (.Name n p1) X.env),(c_,DC (.Name y p2) X.env)]))(J: ~~~(j_ [.Name y p2] X.env=[(c_,DC (.Name y p2) X.env)]))(c: ~~~((EG pos (j_ [.Name y p2] X.env)).any (·.1)=c_)):
  PE (X.hand a oe) (.Call (.Name "isinstance" p) [.Name n p1,.Name y p2] [] pos) (t4 i a R b):=by
 refine PE.imp (gd (X:=X.hand a oe) k r o J7 (aN (pv i v hv j g) (aN (pe_tyN (X:=X.hand a oe) (pos:=p2) e d Y l f) bR J) (by rw[U,J])) ag ag (by rw[U,J]) c) λσ H Q h=>?_;obtain⟨e1,t,q⟩:=h;exact⟨.ref a,e1,t,.ty T,b,rfl,.inl ⟨.type T,rfl,λu m=>m,s⟩,q⟩
def pe_isT{j}(g:cK (X.hand a oe) (.builtin "isinstance") (rIsi X.K C a R))(k:X.mg "isinstance"=g_)(r:PA (X.hand a oe) es (tRefs ys))(l:ys.length<=n_)(o:OO X.K (.ref C) (ys.map w_)=a_ b)(s: ~~~(X.N[i]?=a_ n))(hv:autoParam (Vis X.env.scope n) Jq4)(f:((n==("__debug__":Dy))=c_)⁻¹)(e:((n==("__classdict__":Dy))=c_)⁻¹)(m: ~~~(Gl (X.hand a oe) "isinstance"))(Y: ~~~(j_ [.Name n p1,.Tuple es j p2] X.env=[(c_,DC (.Name n p1) X.env),(c_,DC (.Tuple es j p2) X.env)]))(J: ~~~(j_ [.Tuple es j p2] X.env=[(c_,DC (.Tuple es j p2) X.env)]))(d: ~~~((EG pos (j_ [.Tuple es j p2] X.env)).any (·.1)=c_)):
  PE (X.hand a oe) (.Call (.Name "isinstance" p) [.Name n p1,.Tuple es j p2] [] pos) (AQ i a R ys b):=by
 refine PE.imp (gd (X:=X.hand a oe) g m k J7 (aN (pv i s hv f e) (aN (pe_tup r) bR J) (by rw[Y,J])) ag ag (by rw[Y,J]) d) λσ H Q h=>?_;obtain⟨e1,q⟩:=h;exact⟨.ref a,e1,by rw[y_];exact l,λc U=>⟨(q c U).1,.ref c,b,rfl,.inr ⟨c,ys,rfl,ak,o⟩,(q c U).2⟩⟩
end
def Rep.toldG{ds:List A'}{vs:am}(r:Rep K F0 H0 FB O F H σ ρ)(q:i≠j)(hi:i<σ.length)(h:j<σ.length)(b:i∉O)(Y:j∉O)(st:B5 F H (upd F l (.lst vs)) H')(p:F l=g_)(t:ax K F ds vs):
  Rep K F0 H0 FB O (upd F l (.lst vs)) H' (((σ.set i (a_ (.ref a))).set j (a_ (.ref l))).set i g_) ((ρ.set j (a_ (.lst ds))).set i g_):=by
 have s:aO F (upd F l (.lst vs)):=aO.upd p;have d:=r.step st;have out:∀m,m≠i->m≠j->(((σ.set i (a_ (.ref a))).set j (a_ (.ref l))).set i g_)[m]?=σ[m]?:=λm h1 h2=>by rw[m_ (Em h1),m_ (Em h2),m_ (Em h1)]
 have J:∀m,m≠i->m≠j->((ρ.set j (a_ (.lst ds))).set i g_)[m]?=ρ[m]?:=λm h1 h2=>by rw[m_ (Em h1),m_ (Em h2)]
 have f:∀dd,((ρ.set j (a_ (.lst ds))).set i g_)[i]?≠a_ (a_ dd):=λdd e=>by rw[vw (by rw[DM,r.len];exact hi)]at e;cases e
 refine⟨d.st,d.fb,by simp only[DM];exact r.len,λm dd e U=>?_,λm dd e U=>?_,λm n v u c U g e1 e2 e3 e4=>?_⟩
 .by_cases h1:m=i
  .subst h1;exact(f _ e).elim
  .by_cases h2:m=j
   .subst h2;rw[m_ (Em h1),vw (by rw[r.len];exact h)]at e;cases e;refine⟨.ref l,by rw[m_ (Em h1),vw (by rw[DM];exact h)],l,vs,rfl,SqL.of ak,ax.mono s t⟩
   .rw[J m h1 h2]at e;rw[out m h1 h2];exact d.fz m dd e U
 .have h1:m≠i:=λz=>b (z▸U);have h2:m≠j:=λz=>Y (z▸U);rw[J m h1 h2]at e;rw[out m h1 h2];exact d.ow m dd e U
 .have h1:m≠i:=λz=>b (z▸U);have h2:m≠j:=λz=>Y (z▸U);have o:n≠i:=λz=>b (z▸g);have k:n≠j:=λz=>Y (z▸g);rw[J m h1 h2]at e1;rw[J n o k]at e2;rw[out m h1 h2]at e3;rw[out n o k]at e4;exact d.ap m n v u c U g e1 e2 e3 e4
def step_app{p:i_}{xs:am}{Y:HO}(a:aO F H)(U:H l=g_)(b:H p=g_)(d:p≠l):B5 F H (upd F l (.lst (xs++[y]))) (upd (upd (upd H l (.lst xs)) p Y) l (.lst (xs++[y]))):=by
 have hh:aO H (upd (upd (upd H l (.lst xs)) p Y) l (.lst (xs++[y]))):=λc o e=>by rw[aq (az e U),aq (az e b),aq (az e U)];exact e
 refine⟨aO.upd (a.free U),hh,λc o e=>?_,λc o e=>?_⟩
 .by_cases J:c=l
  .subst J;rw[ak]at e ⊢;exact e
  .rw[aq J]at e;exact hh c o (a c o e)
 .by_cases J:c=l
  .subst J;exact .inr U
  .rw[aq J]at e;exact .inl e
structure Yd(P:EC)(w:Fe)(K:Fg)(mg:Mq)(base:Eg)(CX:CXT)(k:Nat)(x:Dy)(st:E6)(ps:List Dy)(sp:Sp)(f:i_)(fd:Gi):Prop where
 d:Def K mg x st ps f fd
 o:eJ P w K mg base CX k f fd ps sp
section
open PySem.W
variable{M:Ld}{g:Array Le}{d:N_}{t:Nat}{K:N7}
def AA{Q:Bool->k_->Prop}(b:K.In h)(p:h.get? a=a_ oe)(r:oe.cls=.ref C)(U:FP K (.ref Cb)=a_ (.type "type"))(J:Fl K Cb (.type "BaseException")=a_ e_)(s:Fl K C (.ref Cb)=a_ e_)(n:Q e_ ⟨h,g,d,t,os⟩):
  o_ M A (excMatches (.ref a) (.ref Cb)) Q E ⟨h,g,d,t,os⟩:=by
 have f:=tc_notTuple;have m:=LJ (M:=M) b J;have l:=LJ (M:=M) b s;have k:=looks_typeIn (M:=M) b U;obtain⟨Y,i,e⟩:∃Y,h.get? Cb=a_ Y/\Y.cls=.type "type":=by
  unfold FP at U;cases q:K.lookup Cb with
  |none=>simp only[q]at U;cases U|some o=>simp only[q]at U;exact⟨o,b _ _ q,by simpa using U⟩
 have u:∃cd,Y.data=.cls cd:=by
  unfold Fl JH at J;cases q:K.lookup Cb with
  |none=>simp only[q]at J;cases J|some o=>
   have:=b _ _ q;rw[i]at this;cases this;simp only[q]at J;split at J
   .next z=>cases z;exact⟨_,rfl⟩
   .cases J
 obtain⟨cd,c⟩:=u;obtain⟨oc,od,j,osl⟩:=Y;dsimp only at e c;subst e c;unfold excMatches
 repeat (first|(with_reducible refine GF p ?_;rw[r])|with_reducible refine GF i ?_|with_reducible refine m.at ?_|with_reducible refine l.at ?_|with_reducible refine k.at ?_|wp_step)
 exact n
end
structure qA(K:Fg)(C Cb:i_):Prop where
 sub:Fl K C (.ref Cb)=a_ e_
 isi:As K C
structure XBase(K:Fg)(mg:Mq)(x:Dy)(Cb:i_):Prop where
 mg:mg x=a_ (.ref Cb)
 ty:FP K (.ref Cb)=a_ (.type "type")
 bs:Fl K Cb (.type "BaseException")=a_ e_
section
variable{s:k_}{T:i_}{c n:Dy}{ts:TS}
def Ah(I:B6 X B4 σ H s)(x:ExA s.heap a (.ref C) dx (a_ T))(k:Apart X B4 H s a (a_ T))(o:X.ex=[])(L:qA X.K C Cb)(A:XBase X.K X.mg c Cb)(K:Gl X c)(j:X.N.Nodup)(hi:X.N[i]?=a_ n)(g:X.env.scope.names.lookup n=a_ .local)(G:∀oe:H9,oe.cls=.ref C->oe.dict=dx->(∃vs,oe.data=.fields vs)->PSs (X.hand a oe) (b₀::suite) ts)(q:ts (D.less i) (σ.set i (a_ (.ref a))) H)(y:((c==("__debug__":Dy))=c_)⁻¹):
  o_ (u_ X.prog X.w) X.A (N2 (.ref a) X.env [.ExceptHandler (a_ (.Name c np)) (a_ n) (b₀::suite) pos]) (SP X B4 D) X.xe s:=by
 obtain⟨oe,vs,t,h,w,Y,h1⟩:=x.ob;have J:=I.hand t Y k.na k.fa;refine Ov (NH (fH (X:=X.hand a oe) J K A.mg ?_ y)) (by intro z;cases z);have N:=I.env0;have F:=I.kIn;obtain⟨hh,W,d,tk,os⟩:=s;refine AA F t h A.ty A.bs L.sub (Mx ?_);refine um (base:=X.base) (l:=X.stack) N.rO x λh' R E ea=>?_;have Q:=I.left o x k E;have p:h'.get? a=a_ oe:=by rw[ea];exact t
 have P:=Q.hand p Y k.na k.fa;refine jI (X:=X.hand a oe) P j hi (.inl g) (v:=.ref a) rfl (λB O=>?_) (.inr g);refine Ew (G oe h w ⟨vs,Y⟩ B4 B _ H (D.less i) O q) (λf S z=>?_) λ_ _ z=>z.elim;cases f with
 |next=>obtain⟨σ',H',b,U⟩:=z;exact iI (b.lg I.ok) j hi g λm e=>⟨_,H',e,U⟩
 |brk=>obtain⟨σ',H',b,U⟩:=z;exact iI (b.lg I.ok) j hi g λm e=>⟨_,H',e,U⟩
 |cont=>obtain⟨σ',H',b,U⟩:=z;exact iI (b.lg I.ok) j hi g λm e=>⟨_,H',e,U⟩
 |ret u=>obtain⟨v,σ',H',b,r,U⟩:=z;exact iI (b.lg I.ok) j hi g λm e=>⟨v,_,H',e,r,U⟩
end
def EHB(K:Fg)(i:Nat)(Cb:i_)(ts:i_->i_->Option i_->TS)(D:Ends)(σ:St):XK:=λJ dx H'=>∃C,J=.ref C/\qA K C Cb/\∀a,H' a=g_->ts a C dx (D.less i) (σ.set i (a_ (.ref a))) H'
section
variable{c n:Dy}{ts:i_->i_->Option i_->TS}{tb:XK->TS}
def ps_tryB(R:∀(B4:Pn) (σ:St) (E:XK) (A:Vp),gu (CXd X.prog X.w) (X.lO A) B4 σ E->PSsAt (X.lO A) B4 σ body (tb E))(O:∀(a C:i_) (oe:H9),oe.cls=.ref C->As X.K C->(∃vs,oe.data=.fields vs)->PSs (X.hand a oe) (b₀::suite) (ts a C oe.dict))(W:XBase X.K X.mg c Cb)(S:X.N.Nodup)(hi: ~~~(X.N[i]?=a_ n))(P: ~~~(X.env.scope.names.lookup n=a_ .local))(Q: ~~~(Gl X c))(U: ~~~(X.ex=[]))(Y: ~~~(X.stack=X.env::X.outer))(t: ~~~(X.env.frame=a_ X.env.locals))(u:((c==("__debug__":Dy))=c_)⁻¹):
  PS X (.Try body [.ExceptHandler (a_ (.Name c np)) (a_ n) (b₀::suite) hpos] [] [] pos) (λD σ H=>tb (EHB X.K i Cb ts D σ) D σ H):=by
 intro B4 s σ H D I h;refine Pe (HH (R B4 σ (EHB X.K i Cb ts D σ) (λe j=>o_ (u_ X.prog X.w) X.A (Lx e X.env) (λ_ g=>o_ (u_ X.prog X.w) X.A (JF e g_) (λ_ d=>o_ (u_ X.prog X.w) X.A (N2 e X.env [.ExceptHandler (a_ (.Name c np)) (a_ n) (b₀::suite) hpos]) (SP X B4 D) X.xe d) X.xe g) X.xe j) ?_ s H D (I.lO _) h) λf B z=>?_)
 .rintro H1 B e s' y ⟨a,T,Cv,dx,H',rfl,z⟩;have o:=y.fD;obtain⟨C,rfl,G,q⟩:=z.want;have J:B6 X B4 σ H' s':=o.call' z.os z.un z.hok z.bare (λ_ h=>nomatch h);have k:∀b,B.heap.get? b=g_->∀p∈X.pn++B4,p.1≠b:=λb e p r w=>by
   have:=(o.pin p r).1;rw[w,e]at this;cases this
  have m:Apart X B4 H' s' a (a_ T):=⟨o.gR U z.na,z.fa,k a z.na,λT' l=>by cases l;exact⟨o.gR U z.nT,z.fT,k T z.nT⟩⟩
  have L:=J.env0;have f1:=L.frames;have K:=L.rO;rw[Y]at f1 K;refine BY (base:=X.base) f1 K t z.ex λh' T2 N l F=>?_;rw[<- Y]at F;have I2:=J.left U z.ex m F;have x:Apart X B4 H' {s' with heap:=h'} a (a_ T2):=⟨m.na,m.fa,m.pa,λT' v=>by
   cases v;refine⟨get_none (Ee J.sz l),J.hok.fresh l,λp r w=>?_⟩
   have:=mf (J.pin p r).1;rw[w]at this;exact DD this (Kw.mpr l)⟩
  exact Ah I2 N x U G W Q S hi P (λoe h1 h2 Z=>by rw[<- h2];exact O a C oe h1 G.isi Z) (q a z.fa) u
 .have z:=SP.fD z;cases f with
  |next=>exact G7 z|_=>exact z
end
def XR:Option i_->Hp->Prop
 |none=>λ_=>True|some d=>XDk d
def c_isiA(FB:G1 B bmB)(Z:As X.K C)(U:oe.cls=.ref C)(hd:∃vs,oe.data=.fields vs):cK (X.hand a oe) (.builtin "isinstance") (rIsi X.K C a (XR oe.dict)):=by
 cases J:oe.dict with
 |none=>exact λB4 s σ H xs us Q I r h=>c_isiX FB Z U hd J B4 s σ H xs us Q I r h.2|some d=>exact c_isiD FB Z U hd J
def qV(i j:Nat)(tb:List (i_×List Bool))(fb:aa->M C'):aa->M C':=λρ=>match fb ρ with
 |.ok fl=>.ok fl|.error (.exc C _)=>match tb.lookup C with
  |some bs=>.ok (.nx ((ρ.set j (a_ (.lst (bs.map A'.bl)))).set i g_))|none=>.error .stuck
 |.error _=>.error .stuck
def CA{fb:aa->M C'}{fl:C'}(h:fb ρ=.ok fl):qV i j tb fb ρ=.ok fl:=by unfold qV;rw[h]
def kS{fb:aa->M C'}{fs:List (Dy×A')}{bs:List Bool}(h:fb ρ=.error (.exc C fs))(J:tb.lookup C=a_ bs):qV i j tb fb ρ=.ok (.nx ((ρ.set j (a_ (.lst (bs.map A'.bl)))).set i g_)):=by unfold qV;rw[h];simp only[J]
structure XTxt(K:Fg)(mg:Mq)(x:Dy)(C:i_):Prop where
 mg:mg x=a_ (.ref C)
 ex:HM K C [.type "ValueError",.type "Exception",.type "BaseException",.type "object"] "ValueError.__new__"=e_
section
open PySem.W
end
def zL:OG (.type "list_reverseiterator") "__len__"=Ff g_:=by rw[J1,Ib];kernel_rfl
def lri_hint:OG (.type "list_reverseiterator") "__length_hint__"=Ff (a_ (.builtin "list_reverseiterator.__length_hint__")):=by rw[J1,Ib];kernel_rfl
def lri_self:isSubtype (.type "list_reverseiterator") (.type "list_reverseiterator")=Ff e_:=by rw[Mh];kernel_rfl
def boot_reversed:FV "reversed"=a_ (.type "reversed"):=by decide +kernel
section
variable{Q:Vp}{s:k_}{R:i_}
theorem su(hh:A.handled=g_)(p:s.heap.IsRevIter R l ((items.size:Int)-1))(r:s.heap.IsList l items)(j:l≠R)(y:items.size<=n_)(n:∀h' tk acc c,(∀b o,b≠R->s.heap.get? b=a_ o->h'.get? b=a_ o)->h'.get? s.heap.objs.size=a_ {cls:=.type "list",dict:=g_,data:=.seq acc c,slots:=#[]}->L5 (λi v=>items[items.size-1-i]?=a_ v) acc items.size->Q (.ref s.heap.objs.size) {s with heap:=h',toks:=tk}):
  o_ (u_ P w) A (HG (.type "list") [.ref R]) Q E s:=by
 have lo:∀{b o},s.heap.get? b=a_ o->s.z≠b:=λe z=>EB _ (z▸mf e);have x:s.z≠R:=p.elim λ_ t=>lo t.1;have C:s.z≠l:=r.elim λ_ t=>lo t.1;refine callType_codes (Q₁:=λu J=>u=.ref s.z/\J={s with heap:=s.heap.push {cls:=.type "list",data:=.seq #[]}}) F.called_list (F.typeCall_list_1 _) F.entry_list_init (code_list_new _ ⟨rfl,rfl⟩) λu J a=>?_;obtain⟨rfl,rfl⟩:=a;have g:(s.heap.push {cls:=.type "list",data:=.seq #[]}).get? s.z=a_ {cls:=.type "list",data:=.seq #[]}:=l_ _ rfl;refine⟨⟨_,g,rfl⟩,F.args_list_init_2 _ _,?_⟩
 refine b_ (b_ (EK g rfl (f_ ?_)));refine b_ (Hz g rfl ?_);have e1:=Ef (ES λ_=>(#[]:Array h_)) g rfl;have h:∀b o,s.heap.get? b=a_ o->((s.heap.push {cls:=.type "list",data:=.seq #[]}).update s.z (ES λ_=>(#[]:Array h_))).get? b=a_ o:=λb o e=>(Dw _ _ (lo e)).trans (d_ _ e);have Y:=p.at (h R)
 have k:=r.at (h l)
 have ty:GR {s with heap:=(s.heap.push {cls:=.type "list",data:=.seq #[]}).update s.z (ES λ_=>(#[]:Array h_))} (.ref R) "list_reverseiterator":=Y.typeIs;have U:G5 (.ref s.z) (.ref R)=c_:=by simpa[G5] using x
 refine b_ (HK (b_ (II ty ?_)));rw[U,q_ ag];refine b_ (wpAny_pyIter_revIter Y (b_ (Ex ?_)));refine b_ (HA ty zL (b_ (HA (name:=Fq "__length_hint__") ty lri_hint ?_)))
 wp_delta
 refine b_ (FF (T:="list_reverseiterator") (b:=e_) ty lri_self ?_);refine f_ ?_;rw[q_ ag];refine f_ ⟨Ga NJ _,N3 (Walks.listRev (A:=A.in1.in1) hh R l j items).toS y _ (by simp only[p_,DK,FO,L9];exact⟨x,C⟩) _ items.size 0 _ _ _ rfl (E1 _) ⟨E1 _,by simpa using Y,k⟩ e1 (Oz _) λs' f D q m d=>⟨rfl,?_⟩⟩;rw[Oy q];refine n s'.heap s'.toks f D (λb o B e=>q.heap b o (λz=>?_) (h b o e)) m d;simp only[p_,DK,FO]at z;exact z.elim (λz=>lo e z.symm) B
end
def rev_vals{xs:am}(r:Ds xs its)(h:L5 (λi v=>its.toArray[its.toArray.size-1-i]?=a_ v) acc its.toArray.size):Ds xs.reverse acc.toList:=by
 have Y:=r.length;have e:acc.toList=its.reverse:=by
  refine KJ λi=>?_;by_cases hi:i<its.length
  .have h2:i<acc.size:=by rw[h.1];simpa using hi
   have J:=h.2 i acc[i] (by simp[h2]);rw[List.getElem?_reverse hi];simp only[Dv,JC]at J;rw[J];simp[h2]
  .rw[E2 (by rw[DO,h.1];simpa using hi),E2 (by rw[MS];omega)]
 rw[e];clear e h Y
 induction r with
 |nil=>exact .nil|cons a b U=>rw[IL,IL];exact U.append (.cons a .nil)
section
variable{W:cn}{a:EM}
def de_lrev(m:X.mg "list"=g_)(R:X.mg "reversed"=g_)(ha:DE K W c_ X a fa)(hc: ~~~(X.calm=e_))(n: ~~~(Gl X "list"))(T: ~~~(Gl X "reversed"))(y: ~~~(j_ [a] X.env=[(c_,DC a X.env)]))(g: ~~~(j_ [.Call (.Name "reversed" p1) [a] [] pos1] X.env=[(c_,DC (.Call (.Name "reversed" p1) [a] [] pos1) X.env)]))(hK: ~~~(X.K=K)):
  DE K W e_ X (.Call (.Name "list" p) [.Call (.Name "reversed" p1) [a] [] pos1] [] pos) (f1 revD fa):=by
 subst hK;intro B4 s σ H Q I h;obtain⟨F,ρ,r,E,J⟩:=h;refine FD (fJ I n m Fs ?_ ag ag);refine DY ?_ g rfl;rw[g];have f:o_ (u_ X.prog X.w) X.A (DC (.Call (.Name "reversed" p1) [a] [] pos1) X.env) (λt U=>∃Y H2 l xs vs,t=.ref Y.z/\U={Y with heap:=Y.heap.push (revObj l ((vs.toArray.size:Int)-1))}/\B6 X B4 σ H2 Y/\SqL X.K H2 l xs/\Ds xs vs/\Y.heap.IsList l vs.toArray/\xs.length<=n_/\∀S,H2 S=g_->Q (.ref S) (upd H2 S (.lst xs.reverse))) X.xe s:=by
  refine LM (fJ I T R boot_reversed (DY (HH (aN ha bR y pos1 B4 s σ H (λus H2=>∃l xs,us=[.ref l]/\SqL X.K H2 l xs/\∀S,H2 S=g_->Q (.ref S) (upd H2 S (.lst xs.reverse))) I ?_) λus U ⟨vs,H1,C,L,q1⟩=>?_) y rfl))
  .refine aK r E (λe Z=>?_) λd hd v F1 H1 U q1=>?_
   .have z:f1 revD fa ρ=.error e:=by unfold f1;rw[Z];rfl
    rw[z]at J;exact J
   .have z:f1 revD fa ρ=revD d:=by unfold f1;rw[hd];rfl
    rw[z]at J;have J:=J.step U;cases d with
    |lst ds=>obtain⟨c,xs,e,t,D⟩:=q1;exact⟨c,xs,by rw[e],U.fh.lst t,λS q=>J _ F1 _ (B5.grow U.fh q) ⟨S,xs.reverse,rfl,ak,U.fh.free q,q,D.reverse⟩⟩
    |_=>exact(W.ns J).elim
  .obtain⟨l,xs,e,k,w⟩:=q1;subst e;obtain⟨u,rfl,G⟩:=L.one;cases(show u=w_ l from G);obtain⟨its,i,pl,j⟩:=C.list k;exact call_reversed_list pl.isList ⟨U,H1,l,xs,its,rfl,rfl,C,k,i,pl.isList,j,w⟩
 refine GN (HH f λt U P=>?_);obtain⟨Y,H2,l,xs,vs,et,es,B,k,i,A,j,w⟩:=P;refine f_ ?_;subst et es;have lt:l<Y.z:=A.elim λ_ t=>mf t.1;refine su (items:=vs.toArray) (I.ok.hd hc) ⟨_,l_ _ rfl,rfl,rfl⟩ (A.at λo e=>d_ _ e) (Dx lt) (by rw[Dv,<- i.length];exact j) λh' tk acc c N e2 O=>?_;have x:Y.z<(Y.heap.push (revObj l ((vs.toArray.size:Int)-1))).objs.size:=by rw[DZ];exact Fz _
 refine⟨.ref _,_,B.laid (t':=tk) (λb o e=>N b o (λz=>?_) (d_ _ e)) (Gr x) (show cz X.prog X.w _ h' _ (.lst xs.reverse)from⟨by rw[MS];exact j,acc.toList,c,rev_vals i O,by simpa using e2⟩),rfl,w _ (B.hok.fresh (Gr x))⟩
 have:=mf e;rw[z]at this;exact EB _ this
end
section
open PySem.SetTable
def wL(xs:aF):Prop:=xs.Pairwise (·<·)
def wL.get{xs:aF}(h:wL xs){x y:Nat}(J:i<j)(Y:xs[i]?=a_ x)(U:xs[j]?=a_ y):x<y:=by obtain⟨h1,e1⟩:=v_.mp Y;obtain⟨h2,e2⟩:=v_.mp U;have:=List.pairwise_iff_getElem.mp h i j h1 h2 J;omega
def wL.arr{xs:Array Nat}(h:wL xs.toList){x y:Nat}(J:i<j)(Y:xs[i]?=a_ x)(U:xs[j]?=a_ y):x<y:=
 h.get J (by rw[EZ];exact Y) (by rw[EZ];exact U)
theorem sE{xs:Array Nat}{j:Nat}(h:wL xs.toList):∀(f lo hi:Nat),hi-lo<=f->lo<=hi->hi<=xs.size->(∀i x,i<lo->xs[i]?=a_ x->x<j)->(∀i x,hi<=i->xs[i]?=a_ x->j<=x) ->
  Lb xs j f lo hi<=xs.size/\(∀i x,i<Lb xs j f lo hi->xs[i]?=a_ x->x<j)/\∀i x,Lb xs j f lo hi<=i->xs[i]?=a_ x->j<=x
 |0,lo,hi,h1,h2,d,c,b=>by
  unfold Lb;have:lo=hi:=ac
  subst this;exact⟨d,c,b⟩
 |f+1,lo,hi,h1,h2,d,c,b=>by
  unfold Lb;by_cases a:lo<hi
  .rw[s_ a];dsimp only;have Y:(lo+hi)/2<xs.size:=ac
   have e:xs[(lo+hi)/2]?=a_ (xs[(lo+hi)/2]'Y):=EN Y;have l:xs.getD ((lo+hi)/2) j=xs[(lo+hi)/2]'Y:=by simp[Array.getD,Y]
   rw[l];by_cases k:xs[(lo+hi)/2]'Y<j
   .rw[s_ k];refine sE h f _ hi ac ac d (λi x g J=>?_) b;by_cases U:i=(lo+hi)/2
    .subst U;rw[e]at J;cases J;exact k
    .have:=h.arr (i:=i) (j:=(lo+hi)/2) ac J e;omega
   .rw[q_ k];refine sE h f lo _ ac ac ac c (λi x g J=>?_);by_cases U:i=(lo+hi)/2
    .subst U;rw[e]at J;cases J;omega
    .have:=h.arr (i:=(lo+hi)/2) (j:=i) ac e J;omega
  .rw[q_ a];have:lo=hi:=ac
   subst this;exact⟨d,c,b⟩
def mL{xs:Array Nat}(h:wL xs.toList)(j:Nat):FH xs j<=xs.size/\(∀i x,i<FH xs j->xs[i]?=a_ x->x<j)/\∀i x,FH xs j<=i->xs[i]?=a_ x->j<=x:=
 sE h xs.size 0 xs.size ac ac ac (λi x hi=>by omega) λi x hi J=>by have:=(FK.mp J).1;omega
def no_place{xs:Array Nat}(h:wL xs.toList)(U:xs[FH xs j]?≠a_ j):j∉xs.toList:=λY=>by
 obtain⟨i,hi,e⟩:=J8 Y;obtain⟨h1,h2,c⟩:=mL h j;have J:xs[i]?=a_ j:=by rw[<- EZ,C_ hi,e]
 have a:FH xs j<=i:=by
  rcases Pw i (FH xs j)with z|z
  .have:=h2 i j z J;omega
  .exact z
 by_cases b:FH xs j=i
 .rw[b]at U;exact U J
 .have d:=(FK.mp J).1;have eb:xs[FH xs j]?=a_ (xs[FH xs j]' ac):=EN ac;have f:=c _ _ (t_ _) eb;have g2:=h.arr (i:=FH xs j) (j:=i) ac eb J;omega
def vT{xs:Array Nat}{p x:Nat}:(insertAt xs p x).toList=xs.toList.take p++x::xs.toList.drop p:=by unfold insertAt;simp[Array.toList_append,HD]
def vS{xs:Array Nat}(h:wL xs.toList)(c:j∉xs.toList):wL (insertAt xs (FH xs j) j).toList:=by
 obtain⟨h1,h2,U⟩:=mL h j;rw[vT];refine JO.mpr ⟨h.sublist (Nz _ _),List.pairwise_cons.mpr ⟨λa J=>?_,h.sublist (List.drop_sublist _ _)⟩,λa J b d=>?_⟩
 .obtain⟨i,e⟩:=JA.mp J;rw[Kh]at e;have:=U (FH xs j+i) a ac (by simpa using e);have Y:a≠j:=λz=>c (z▸List.mem_of_mem_drop J);omega
 .have f:a<j:=by
   obtain⟨i,e⟩:=JA.mp J;rw[List.getElem?_take]at e;by_cases hi:i<FH xs j
   .rw[s_ hi]at e;exact h2 i a hi (by simpa using e)
   .rw[q_ hi]at e;cases e
  rcases p_.mp d with z|z
  .omega
  .obtain⟨i,e⟩:=JA.mp z;rw[Kh]at e;have:=U (FH xs j+i) b ac (by simpa using e);omega
def TOk(b:Bool)(t:Ks):Prop:=wL t.place.toList/\t.led=b
def slot_no(h:t.place[FH t.place j]?=a_ j):∃i,t.slot j=.live i:=by unfold SetTable.slot;dsimp only;rw[h];simp
theorem kz{t:Ks}{g:Nat->Int}{h:Int}:∀(f:Nat) (p:Probe) (j:Nat) (d:Option Nat),(∀x,p.dummy=a_ x->t.slot x=.dummy)->N9 t g h f p=a_ (.empty j d)->t.slot j=.empty/\∀x,d=a_ x->t.slot x=.dummy
 |0,p,j,d,a,e=>by unfold N9 at e;cases e|f+1,p,j,d,a,e=>by
  unfold N9 at e;have Y:∀q:Probe,(t.advance q).dummy=q.dummy:=λq=>by
   unfold SetTable.advance;split
   .rfl
   .rfl
  cases U:t.slot p.j with
  |empty=>rw[U]at e;simp only[F8,Met.empty.injEq]at e;obtain⟨rfl,rfl⟩:=e;exact⟨U,a⟩
  |dummy=>rw[U]at e;refine kz f _ j d (λx J=>?_) e;rw[Y]at J;simp only[F8]at J;subst J;exact U|live i=>
   rw[U]at e;dsimp only at e;split at e
   .cases e
   .exact kz f _ j d (λx J=>a x (by rw[Y]at J;exact J)) e
def free_no(c:wL t.place.toList){h:Int}{a:Bool}(e:t.freeSlot h=a_ (j,a)):j∉t.place.toList:=by
 unfold SetTable.freeSlot at e;have key:∃J d,t.probe (λ_=>h+1) h (t.probeStart h)=a_ (.empty J d)/\j=d.getD J:=by
  cases Y:t.probe (λ_=>h+1) h (t.probeStart h)with
  |none=>rw[Y]at e;cases e|some m=>
   rw[Y]at e;cases m with
   |empty J d=>simp only[F8,HP]at e;exact⟨J,d,rfl,e.1.symm⟩|candidate _ _ _=>cases e
 obtain⟨J,d,f,rfl⟩:=key;obtain⟨h1,h2⟩:=kz _ _ _ _ (λx b=>by simp[SetTable.probeStart]at b) f;refine no_place c λz=>?_;obtain⟨i,U⟩:=slot_no z;cases d with
 |none=>rw[show(g_:Option Nat).getD J=J from rfl,h1]at U;cases U|some x=>rw[show(a_ x:Option Nat).getD J=x from rfl,h2 x rfl]at U;cases U
def iR{b:Bool}(h:TOk b t):TOk b (t.standIn n):=by
 refine⟨?_,h.2⟩
 show wL (Array.range n).toList;rw[Array.toList_range];exact L7
def BZ{b:Bool}(h:TOk b t)(es:Array (Int×h_))(g:Int)(x:h_):TOk b (layNew t es g x).2.1:=by
 unfold layNew;cases e:t.freeSlot g with
 |none=>exact iR h|some p=>
  obtain⟨j,U⟩:=p;have J:TOk b (t.put j).1:=⟨vS h.1 (free_no h.1 e),h.2⟩
  dsimp only;unfold SetTable.orStandIn;split
  .exact J
  .exact iR J
theorem rF(g:Nat->Option Nat):∀l:aF,((l.filterMap λj=>(g j).map (j,·)).map (·.1)).Sublist l
 |[]=>by simp|j::l=>by
  cases e:g j with
  |none=>simp only[GH,e,Option.map_none];exact(rF g l).trans (List.sublist_cons_self _ _)|some k=>simp only[GH,e,HY,x_];exact(rF g l).cons_cons _
def Bf{b:Bool}{t':Ks}(h:TOk b t){J:Array Int}{o:Array Nat}(e:t.relaid J n=a_ (t',o)):TOk b t':=by
 unfold SetTable.relaid SetTable.laid at e;cases U:layClean (sizeAbove n-1) J with
 |none=>rw[U]at e;cases e|some Y=>
  rw[U]at e;simp only[Option.bind_eq_bind,Nb,Option.pure_def,F8,HP]at e;obtain⟨rfl,_⟩:=e;refine⟨?_,h.2⟩
  show wL _;rw[MR];exact L7.sublist (rF (λj=>Y.getD j g_) _)
def vn{b:Bool}(h:TOk b t)(es:Array (Int×h_))(n:Nat):TOk b (K5 t es n).2.1:=by
 unfold K5;cases e:t.relaid (es.map (·.1)) n with
 |none=>exact iR h|some p=>
  obtain⟨t',o⟩:=p;dsimp only;split
  .exact Bf h e
  .exact iR h
end
section
open PySem
variable{s:k_}
noncomputable def mC:h_->Int
 |.int k _=>k|_=>0
def sP(prog:EC)(w:Fe)(b:Bool)(h:Eg)(a:i_)(ks:aj):Prop:=
 ∃o es ep t,h.get? a=a_ o/\o.ExactSet/\o.data=.set es ep t/\Nt (Gb prog w) es.toList/\(es.toList.map λe=>mC e.2).Perm ks/\ks.Nodup/\es.size<HL/\t.fits es.size=e_/\TOk b t
def sP.at{b:Bool}(H:sP prog w b h a ks)(e:∀o,h.get? a=a_ o->h'.get? a=a_ o):sP prog w b h' a ks:=
 let ⟨o,es,ep,t,J,r⟩:=H;⟨o,es,ep,t,e _ J,r⟩
def sP.ty{b:Bool}(H:sP prog w b s.heap a ks):s.TypeIs (.ref a) "set":=let ⟨o,_,_,_,U,J,_⟩:=H;⟨o,U,J.1⟩
def key_is{k:Int}(h:(Gb prog w).is k v=e_):∃t,v=.int k t:=Kr h
def is_key{k:Int}(h:∃j,(Gb prog w).is j v=e_):(Gb prog w).is k v=z_ (k=mC v):=by
 obtain⟨j,h⟩:=h;obtain⟨t,rfl⟩:=key_is h;show HU k (.int j t)=_;by_cases e:k=j
 .subst e;simp[HU,mC]
 .rw[show z_ (k=mC (.int j t))=c_ from Eu e];cases J:HU k (.int j t)with
  |false=>rfl|true=>obtain⟨U,e2⟩:=Kr J;cases e2;exact DD rfl e
noncomputable def mh(ks:aj)(k:Int):aj:=if k∈ks then ks else ks++[k]
def l8{k:Int}(h:ks.Nodup):(mh ks k).Nodup:=by
 unfold mh;split
 .exact h
 .next U=>exact NB.mpr ⟨h,ad,λa Y b J=>by simp at J;intro e;subst e;subst J;exact U Y⟩
def pX{b:Bool}{o:H9}{es fs:Array (Int×h_)}{u:Ks}(c:h.get? a=a_ o)(J:o.ExactSet)(hd:o.data=.set es ep t)(i:Nt (Gb prog w) fs.toList)(Y:(fs.toList.map λe=>mC e.2).Perm ks)(d:ks.Nodup)(j:fs.size<HL)(f:u.fits fs.size=e_)(U:TOk b u):
  (h.update a (Kt fs u)).get? a=a_ {o with data:=.set fs (ep+1) u}/\sP prog w b (h.update a (Kt fs u)) a ks:=by
 have g:(h.update a (Kt fs u)).get? a=a_ {o with data:=.set fs (ep+1) u}:=by have:=Ef (Kt fs u) c (by rw[putSet_of fs u hd];rfl);rw[putSet_of fs u hd]at this;exact this
 exact⟨g,_,fs,ep+1,u,g,J,rfl,i,Y,d,j,f,U⟩
def ud{b:Bool}{g:Bool->NI Unit}(x:∀(c:Bool) (J:k_) (q:Unit->k_->Prop),q () J->o_ (u_ prog w) A (g c) q E J){o:H9}{es fs:Array (Int×h_)}{u:Ks}(j:s.heap.get? a=a_ o)(d:o.ExactSet)(hd:o.data=.set es ep t)(l:Nt (Gb prog w) fs.toList)(i:(fs.toList.map λe=>mC e.2).Perm ks)(k:ks.Nodup)(m:fs.size<HL)(y:u.fits fs.size=e_)(f:TOk b u){r:Bool}{R:Option Bool->k_->Prop}(h:∀h',FN a s.heap h'->sP prog w b h' a ks->R (a_ e_) {s with heap:=h'}):
  o_ (u_ prog w) A (do
    storeSet a fs u
    if (!r&&u.tooFull)=e_ then do
      g (K5 u fs (G0 fs.size)).2.2
      storeSet a (K5 u fs (G0 fs.size)).1 (K5 u fs (G0 fs.size)).2.1
      Ff (a_ e_)
     else Ff (a_ e_)) R E s:=by
 refine b_ (OS j hd ?_ (O1 m));obtain⟨n,B⟩:=pX (prog:=prog) (w:=w) j d hd l i k m y f;have p:=Ep s.heap a (Kt fs u);split
 .have p2:=relayAll_perm u fs (G0 fs.size);have Y:=relayAll_fits u fs (G0 fs.size);have U:=vn f fs (G0 fs.size);generalize K5 u fs (G0 fs.size)=Z at p2 Y U ⊢;obtain⟨gs,v,D⟩:=Z;dsimp only at p2 Y U ⊢;have C:gs.size=fs.size:=by rw[<- DO,p2.length_eq,DO]
  refine b_ (x _ _ _ (b_ (OS n rfl ?_ (O1 ac))));obtain⟨_,z⟩:=pX (prog:=prog) (w:=w) (es:=fs) (t:=u) (ep:=ep+1) n d rfl (l.perm p2) ((p2.map _).trans i) k ac Y U;exact f_ (h _ (p.trans (Ep _ a _)) z)
 .exact f_ (h _ p B)
def iset_add{b:Bool}{k:Int}{Q:Bool->k_->Prop}(H:sP prog w b s.heap a ks)(S:ks.length+1<HL)(h:∀r h',FN a s.heap h'->sP prog w b h' a (mh ks k)->Q r {s with heap:=h'}):o_ (u_ prog w) A (setAddHashed a (.int k tk) ((Gb prog w).hash k)) Q E s:=by
 obtain⟨o,es,ep,t,f,p,hd,i,d,q,K,x,F⟩:=H;have U:(Gb prog w).is k (.int k tk)=e_:=by show HU k (.int k tk)=e_;simp[HU]
 have hsz:es.size=ks.length:=by have:=d.length_eq;simpa using this
 have g:∀e∈es.toList,(Gb prog w).is k e.2=z_ (k=mC e.2):=λe m=>is_key (i.keys e m);unfold setAddHashed setAddHashedIn;refine Ex (b_ (Hf f hd x ?_));dsimp only;rw[byScan_of rfl K i];simp only[↓reduceIte];unfold setAddByScan;refine b_ (b_ (G2 (b_ (wpAny_setScan_of U f hd x i ?_))));cases G:List.findIdx? (λe=>(Gb prog w).is k e.2) es.toList with
 |some j=>
  dsimp only;obtain⟨I,C,_⟩:=List.findIdx?_eq_some_iff_getElem.mp G;have v:k∈ks:=by rw[g _ (EX I),DX]at C;refine d.mem_iff.mp (Ed.mpr ⟨_,EX I,C.symm⟩)
  refine f_ (f_ ?_);exact h _ s.heap (Heap.SameBut.refl a s.heap) ⟨o,es,ep,t,f,p,hd,i,by unfold mh;rw[s_ v];exact d,l8 q,K,x,F⟩
 |none=>
  dsimp only;have v:k∉ks:=λm=>by obtain⟨e,D,O⟩:=Ed.mp (d.mem_iff.mpr m);have:=List.findIdx?_eq_none_iff.mp G e D;rw[g e D,O]at this;simp at this
  have P:∀(c:Bool) {J:k_} {l:Unit->k_->Prop},l () J->o_ (u_ prog w) A (match c with|true=>rule "set.scan.the-table-gave-way"|false=>Ff ()) l E J:=λc J l z=>by cases c<;>first|exact f_ z|exact G2 z
  have p1:=layNew_perm t es ((Gb prog w).hash k) (.int k tk);have f1:=layNew_fits t es ((Gb prog w).hash k) (.int k tk);have Y:=BZ F es ((Gb prog w).hash k) (.int k tk);generalize layNew t es ((Gb prog w).hash k) (.int k tk)=L at p1 f1 Y ⊢;obtain⟨fs,u,R,N⟩:=L;dsimp only at p1 f1 Y ⊢;rw[Ky]at p1;have e1:Nt (Gb prog w) fs.toList:=(i.push U rfl).perm p1;have q1:(fs.toList.map λe=>mC e.2).Perm (mh ks k):=by unfold mh;rw[q_ v];refine(p1.map _).trans ?_;rw[Ot];exact d.append (Gm _)
  have B:fs.size<HL:=by rw[<- DO,p1.length_eq,Eb,DO];simp;omega
  refine b_ (P _ ?_);split
  .refine b_ ?_;rw[hashByValue_scannable 8 rfl];refine f_ (ud (b:=b) ?_ f p hd e1 q1 (l8 q) B ?_ ?_ ?_)
   .intro c J l z;cases c<;>first|exact f_ z|exact G2 z
   .split
    .exact f1
    .exact SetTable.fits_plain_off f1
   .split
    .exact Y
    .exact Y
   .intro h' n y;exact f_ (h _ h' n y)
  .refine b_ (f_ ?_);simp only[↓reduceIte];refine ud (b:=b) ?_ f p hd e1 q1 (l8 q) B f1 Y ?_
   .intro c J l z;cases c<;>first|exact f_ z|exact G2 z
   .intro h' n y;exact f_ (h _ h' n y)
end
def keysOf(is:aj):aj:=is.foldl mh []
theorem rH:∀(is ks:aj),(is.foldl mh ks).length<=ks.length+is.length
 |[],ks=>by simp|i::is,ks=>by
  have:=rH is (mh ks i);have h2:(mh ks i).length<=ks.length+1:=by unfold mh;split<;>simp
  simp only[D_,B_];omega
def C7(J:Nat->Int)(i:Nat):keysOf ((DR (i+1)).map J)=mh (keysOf ((DR i).map J)) (J i):=by unfold keysOf;rw[Oo,Ot,NC];rfl
section
open PySem
variable{R:K0->k_->Prop}{G:Array Le->Array Le->Prop}{P:Nat->h_->Prop}{St:Nat->k_->Prop}{b:Bool}
def Ce(W:WalksS prog w A.in1 I fp wr G n P St)(S:i_)(j:S∉fp)(J:Nat->Int)(d:∀i v,P i v->∃t,v=.int (J i) t)(H:n+1<HL):
  ∀(k i:Nat) (s:k_),n-i=k->i<=n->St i s->sP prog w b s.heap S (keysOf ((DR i).map J)) ->
   (∀s',Moved (S::wr) G s s'->sP prog w b s'.heap S (keysOf ((DR n).map J))->R (.ok (.ret .none)) s')->Hi (u_ prog w) A (.builtin "set.update.loop" ⟨[.ref S,.ref I],[]⟩) R s:=by
 have a:S∉wr:=λh=>j (W.sub _ h);have U:∀c∈wr,c∈S::wr:=λc g=>DQ _ g;intro k
 induction k with
 |zero=>
  intro i s D hi st q Y;obtain rfl:i=n:=ac
  refine E3 IQ ?_;rw[Et GU _];refine b_ (W.done s _ _ st λs' f=>f_ (Y s' (f.mono U) (q.at λo e=>f.heap S _ a e)))
 |succ k C=>
  intro i s D hi st q Y;refine E3 IQ ?_;rw[Et GU _];refine b_ (W.item i s _ _ ac st λv s' E l f=>?_);obtain⟨t,rfl⟩:=d i v E;have p:=q.at λo e=>f.heap S _ a e;refine b_ (Ex ?_);unfold setAdd;refine Ex (b_ ((Gb prog w).pyHash (k:=J i) (Mi _ _ _ _) ?_));have x:=rH ((DR i).map J) [];rw[y_,G4]at x;refine iset_add (s:={s' with toks:=s'.toks+1}) p (by unfold keysOf;simp at x ⊢;omega) λr h' u y=>?_;rw[<- C7]at y;refine f_ ⟨Ga GU _,C (i+1) _ ac ac (W.frame _ s' _ _ l (FT _) λc g o e=>?_) y λB m F=>?_⟩
  .rw[u.2 c (λz:c=S=>j (z▸g))];exact e
  .refine Y B (Moved.trans W.gtrans ((f.mono U).then_heap (FT _) λc o g e=>?_) m) F;rw[u.2 c (λz:c=S=>g (by rw[z];exact Ea))];exact e
end
section
open PySem
variable{s:k_}
noncomputable abbrev kJ(w:Fe):Bool:= !w.params.followText "set-order"
theorem new_iset(v:h_){Q₁:Vp}(h:Q₁ (.ref s.heap.objs.size) {s with heap:=s.heap.push {cls:=.type "set",dict:=g_,data:=.set #[] 0 (.fresh 0 0 (kJ w))}}):
  Hi (u_ prog w) A (.call (.builtin "set.__new__") ⟨[.type "set",v],[]⟩) (wants Q₁ E) s:=by
 refine LO ?_;show o_ (u_ prog w) A.in1 (do Lz "set.__new__" ⟨[.type "set",v],[]⟩;again (.builtin "set.__new__" ⟨[.type "set",v],[]⟩)) _ _ s;refine b_ (GD (F.newCall_set_1 v) (f_ ⟨Ga Pa _,E3 F.entry_set_new ?_⟩));rw[Et Pa _];unfold Builtin.«set.__new__» Od;have q:=sub_set_self;obtain⟨J,g,d,tk,os⟩:=s;dsimp only;wp_walk;refine Hr (f_ ?_);dsimp only;simp only[newObj];exact b_ (wpAny_alloc (f_ (f_ h)))
theorem Df{Q:Vp}(hh:A.handled=g_)(Z:s.heap.IsList l items)(hi:G9 items.toList ns)(hb:items.size+1<HL)(h:∀(h':Eg) (tk:Nat),sP prog w (kJ w) h' s.heap.objs.size (keysOf ns)->(∀c o,c<s.heap.objs.size->s.heap.get? c=a_ o->h'.get? c=a_ o)->Q (.ref s.heap.objs.size) {s with heap:=h',toks:=tk}):
  o_ (u_ prog w) A (HG (.type "set") [.ref l]) Q E s:=by
 obtain⟨c,tl,O⟩:=Hn.mro;have L:=Hn.made;have sub:=Hn.sub;refine JS (LO ?_);show o_ (u_ prog w) A.in1 (callAny (.type "set") _) _ _ _;refine f_ ⟨Ke _ dkK,E3 (F.entry_type_call) ?_⟩;rw[Around.under_plain (weight_type_call_type "set" [.ref l] []) rfl];have g1:=Hn.notType;have g2:=Hn.canCreate;have g3:=F.typeCall_set_1 (.ref l)
 repeat (any_goals (first|assumption|wp_step))
 generalize z:({cls:=.type "set",dict:=g_,data:=.set #[] 0 (.fresh 0 0 (kJ w))}:H9)=a at *;refine Gd (new_iset (.ref l) (E:=E) (Q₁:=λu Y=>u=.ref s.z/\Y={s with heap:=s.heap.push a}) (by rw[z];exact⟨rfl,rfl⟩)) λr Y H=>?_;cases r with
 |error e=>exact H|ok fl=>
  cases fl with
  |ret u=>
   obtain⟨rfl,rfl⟩:=H;have y:a.cls=.type "set":=by rw[<- z]
   have hf:a.isFreed=c_:=by rw[<- z];rfl
   have P:(s.heap.push a).get? s.z=a_ a:=l_ _ hf;have hT:GR {s with heap:=s.heap.push a} (.ref s.z) "set":=⟨_,P,y⟩
   have li:=Hn.init.lookup;have bi:=Hn.init.bind (.ref s.z)
   repeat (any_goals (first|assumption|wp_step))
   refine Gd (Iq (R:=wants (λr U=>r=.none/\∃h' tk,U={s with heap:=h',toks:=tk}/\sP prog w (kJ w) h' s.z (keysOf ns)/\(∀c o,c<s.z->s.heap.get? c=a_ o->h'.get? c=a_ o)) E) Hn.init.plain F.entry_set_init (check_set_init_1 hT ?_)) λf U J=>?_
   .obtain⟨S,j,p,K,n⟩:=Z;obtain⟨k1,k2,k3,W⟩:=S;simp only at p n;subst p;subst n;have g:(s.heap.push a).get? l=a_ {cls:=.type "list",dict:=k2,data:=.seq items K,slots:=W}:=d_ _ j;have z1:=F.sub_list_set;have z2:=F.sub_list_frozenset;have z3:(Gf "list"==Gf "dict")=c_:=by decide
    have k:(s.heap.push a).IsList l items:=⟨_,g,rfl,K,rfl⟩
    subst z;unfold Builtin.«set.__init__» noKeywords Oa;generalize I:Lw=PI;wp_walk;subst I;refine Jk (k) ?_;refine b_ (m:=runValue _) (Kl ?_);have N:l<s.z:=mf j;have T:l≠(s.heap.push {cls:=.type "set",dict:=g_,data:=.set #[] 0 (.fresh 0 0 (kJ w))}).objs.size:=by rw[DZ];exact Dx (Gg N)
    have G:s.z∉[(s.heap.push {cls:=.type "set",dict:=g_,data:=.set #[] 0 (.fresh 0 0 (kJ w))}).objs.size,l]:=by rw[DZ];simp only[p_,DK,FO,L9];exact⟨Dx (Fz _),E7 N⟩
    have hv:∀(i:Nat) (v:h_),items[i]?=a_ v->∃t,v=.int ((λi=>ns.getD i 0) i) t:=λi v q=>M_ hi i v (by rw[EZ];exact q);have en:(DR items.size).map (λi=>ns.getD i 0)=ns:=by
     have X:items.size=ns.length:=by have:=M9 hi;simpa using this
     rw[X];apply List.ext_getElem
     .simp
     .intro i h3 h4;simp[h4]
    refine Ce (b:=kJ w) ((K9 (by simp[hh]) _ l T items).toS) s.z G (λi=>ns.getD i 0) hv hb (items.size-0) 0 _ ac (E1 _) ⟨⟨_,l_ _ rfl,rfl,rfl⟩,k.push _⟩ ⟨_,#[],0,.fresh 0 0 (kJ w),d_ _ P,⟨rfl,rfl,rfl⟩,rfl,λe he=>by simp at he,Gm _,Jx,ag,rfl,Jx,rfl⟩ λs' x B=>?_;rw[en]at B;obtain⟨h',g',d',C,D⟩:=s';obtain rfl:g'=s.gens:=x.gens;obtain rfl:d'=s.drawn:=x.drawn;obtain rfl:D=s.os:=x.os;refine f_ (f_ ⟨rfl,h',C,rfl,B,λc o y e=>x.heap c o ?_ (d_ _ (d_ _ e))⟩);rw[DZ];simp only[p_,DK,FO,L9];exact⟨Dx y,Dx (Gg y)⟩
   .cases f with
    |error e=>exact J|ok d=>
     cases d with
     |ret r=>
      obtain⟨rfl,h',tk,rfl,B,k'⟩:=J
      repeat (any_goals (first|assumption|wp_step))
      exact h _ _ B k'
     |_=>exact J.elim
  |_=>exact H.elim
end
section
open PySem
def xu:Manifest.owners.lookup (String.ofList ['r','o','t','a','r','e','t','i','_','t','e','s'].reverse)=a_ Manifest.sig_set_iterator:=by kernel_rfl
def aZ:Slot "set_iterator" "__next__" "set_iterator.__next__":=.of (owner:="set_iterator") (n:="__next__") (by rw[J1,Ib];kernel_rfl) dkK dkK dkK (by first|exact .inl dkK|exact .inr dkK) (by rw[Mh];kernel_rfl)
def lj:Slot "set_iterator" "__iter__" "set_iterator.__iter__":=.of (owner:="set_iterator") (n:="__iter__") (by rw[J1,Ib];kernel_rfl) dkK dkK dkK (by first|exact .inl dkK|exact .inr dkK) (by rw[Mh];kernel_rfl)
def f9:entryFor table "set_iterator.__next__"=a_ Builtin.«set_iterator.__next__»:=entryFor_of_tree (by kernel_rfl)
def rQ:entryFor table "set_iterator.__iter__"=a_ Builtin.«dict_keyiterator.__iter__»:=entryFor_alias (id':="dict_keyiterator.__iter__") (by kernel_rfl) (by first|rfl|decide +kernel|(unfold String.splitOn;simp +decide [String.splitOnAux])) dkK (by kernel_rfl)
def uw:entryFor table "set.__iter__"=a_ Builtin.«frozenset.__iter__»:=entryFor_alias (id':="frozenset.__iter__") (by kernel_rfl) rfl dkK (by kernel_rfl)
def gp(v:h_):argsOk "set_iterator.__next__" ⟨[v],[]⟩:=by unfold argsOk;rw[signature?_of (id:="set_iterator.__next__") (n:=['_','_','t','x','e','n','_','_']) (o:=['r','o','t','a','r','e','t','i','_','t','e','s']) (by kernel_rfl) xu];kernel_rfl
def uU(v:h_):argsOk "set_iterator.__iter__" ⟨[v],[]⟩:=by unfold argsOk;rw[signature?_of (id:="set_iterator.__iter__") (n:=['_','_','r','e','t','i','_','_']) (o:=['r','o','t','a','r','e','t','i','_','t','e','s']) (by kernel_rfl) xu];kernel_rfl
noncomputable abbrev jJ(first:h_)(i:Nat)(a:i_)(n ep:Nat):H9:={cls:=.type "set_iterator",data:=.fields #[first,EL i,.ref a,EL n,EL ep]}
def ml(h:Eg)(a:i_)(es:Array (Int×h_))(ep:Nat)(t:Ks):Prop:=∃o,h.get? a=a_ o/\o.data=.set es ep t
def tj{vs:Array h_}(e:h.get? I=a_ {cls:=.type "set_iterator",data:=.fields vs})(k:Nat)(v:h_):(h.update I (Fn (·.setIfInBounds k v))).get? I=a_ {cls:=.type "set_iterator",data:=.fields (vs.setIfInBounds k v)}:=by have:=Ef (Fn (·.setIfInBounds k v)) e rfl;exact this
section
variable{s:k_}{es:Array (Int×h_)}
def si_step(e:s.heap.get? I=a_ (jJ first i a n ep))(v:h_):((s.heap.update I (Fn (·.setIfInBounds 0 v))).update I (Fn (·.setIfInBounds 1 (EL k)))).get? I=a_ (jJ v k a n ep):=by have e1:=tj e 0 v;have e2:=tj e1 1 (EL k);exact e2
def si_step1(e:s.heap.get? I=a_ (jJ first i a n ep)):(s.heap.update I (Fn (·.setIfInBounds 1 (EL k)))).get? I=a_ (jJ first k a n ep):=tj e 1 (EL k)
def AY{x:h_}{nx:Nat}(e:s.heap.get? I=a_ (jJ (EL sl) i a es.size ep))(b:ml s.heap a es ep t)(Y:t.fits es.size=e_)(c:∀{f:Fu} {d:Vp} {J:Option (h_×Nat)->k_->Prop},J (a_ (x,nx)) s->o_ (u_ prog w) f (L1 a sl i ep) J d s)(h:∀h',h'.get? I=a_ (jJ (EL nx) (i+1) a es.size ep)->FN I s.heap h'->Q (a_ x) {s with heap:=h'}):o_ (u_ prog w) A (Gv (.ref I)) Q E s:=by
 obtain⟨o,U,hd⟩:=b;have ty:s.TypeIs (.ref I) "set_iterator":=⟨_,e,rfl⟩
 unfold Gv;refine b_ (F_ (Ek (name:=Fq "__next__") ty aZ (DU aZ ty f9 ?_ (gp _))));unfold Builtin.«set_iterator.__next__»;refine b_ (GD (a:=(w_ I,[])) rfl (b_ (GQ e rfl ?_)));refine b_ (Hw U hd Y ?_);rw[q_ ad];refine b_ (c ?_);refine b_ (ED e rfl ad (b_ (ED (tj e 0 (EL nx)) rfl ad (f_ ⟨x,rfl,f_ (h _ (si_step e (EL nx)) ?_)⟩))));exact(Ep ..).trans (Ep ..)
def mS(hh:A.handled=g_)(e:s.heap.get? I=a_ (jJ (EL sl) i a es.size ep))(c:ml s.heap a es ep t)(Y:t.fits es.size=e_)(d:∀{g:Fu} {f:Vp} {J:Option (h_×Nat)->k_->Prop},J g_ s->o_ (u_ prog w) g (L1 a sl i ep) J f s)(h:∀h',EY I s.heap h'->Q g_ {s with heap:=h'}):o_ (u_ prog w) A (Gv (.ref I)) Q E s:=by
 obtain⟨o,U,hd⟩:=c;have ty:s.TypeIs (.ref I) "set_iterator":=⟨_,e,rfl⟩
 unfold Gv;refine b_ (F_ (Ek (name:=Fq "__next__") ty aZ (DU aZ ty f9 ?_ (gp _))));unfold Builtin.«set_iterator.__next__»;refine b_ (GD (a:=(w_ I,[])) rfl (b_ (GQ e rfl ?_)));refine b_ (Hw U hd Y ?_);rw[q_ ad];refine b_ (d ?_);refine b_ (ED e rfl ad (b_ ?_));simp only[Mg,Me];refine b_ (DH ?_ (by size_fits));refine b_ (m:=IV _ _) (GD (a:=Er) (by first|rfl|(simp only[firstArgMember];rfl)) ?_);refine DH ?_ (by size_fits);simp only[Md];refine b_ (Jr ?_);rw[show A.in1.handled=g_ from hh];refine b_ (f_ (Kk ?_));refine b_ (FF (T:="StopIteration") (b:=e_) ⟨_,l_ _ rfl,rfl⟩ IU (f_ (h _ ?_)));exact(((Ep ..).extBut).push _).push _
end
end
section
open PySem
variable{s:k_}{T:i_}{es:Array (Int×h_)}
def si_drawn{ps:Array h_}{p:Nat}{k:Int}{x:h_}(e:s.heap.get? I=a_ (jJ (.ref T) i a es.size ep))(f:ml s.heap a es ep t)(Y:t.fits es.size=e_)(d:s.heap.get? T=a_ {cls:=.type "tuple",data:=.seq ps m})(c:ps[i]?=a_ (.int p tk))(b:es[p]?=a_ (k,x))(h:∀h',h'.get? I=a_ (jJ (.ref T) (i+1) a es.size ep)->FN I s.heap h'->Q (a_ x) {s with heap:=h'}):o_ (u_ prog w) A (Gv (.ref I)) Q E s:=by
 obtain⟨o,U,hd⟩:=f;have ty:s.TypeIs (.ref I) "set_iterator":=⟨_,e,rfl⟩
 unfold Gv;refine b_ (F_ (Ek (name:=Fq "__next__") ty aZ (DU aZ ty f9 ?_ (gp _))));unfold Builtin.«set_iterator.__next__»;refine b_ (GD (a:=(w_ I,[])) rfl (b_ (GQ e rfl ?_)));refine b_ (Hw U hd Y ?_);rw[q_ ad];refine b_ (EK d rfl ?_);show o_ _ _ (match ps[(i:Int).toNat]? with|some (.int J _)=>_|some _=>_|none=>_) _ _ _;rw[E8,c];refine b_ (m:=setNextDrawn a (p:Int).toNat (ep:Int).toNat) ?_;rw[E8,E8];unfold setNextDrawn;refine b_ (Hf U hd Y ?_);dsimp only;rw[q_ ad,b];refine f_ (b_ (ED e rfl ad (f_ ⟨x,rfl,f_ (h _ (si_step1 e) (Ep ..))⟩)))
def tm{ps:Array h_}(hh:A.handled=g_)(e:s.heap.get? I=a_ (jJ (.ref T) i a es.size ep))(f:ml s.heap a es ep t)(c:t.fits es.size=e_)(d:s.heap.get? T=a_ {cls:=.type "tuple",data:=.seq ps m})(U:ps[i]?=g_)(h:∀h',EY I s.heap h'->Q g_ {s with heap:=h'}):o_ (u_ prog w) A (Gv (.ref I)) Q E s:=by
 obtain⟨o,Y,hd⟩:=f;have ty:s.TypeIs (.ref I) "set_iterator":=⟨_,e,rfl⟩
 unfold Gv;refine b_ (F_ (Ek (name:=Fq "__next__") ty aZ (DU aZ ty f9 ?_ (gp _))));unfold Builtin.«set_iterator.__next__»;refine b_ (GD (a:=(w_ I,[])) rfl (b_ (GQ e rfl ?_)));refine b_ (Hw Y hd c ?_);rw[q_ ad];refine b_ (EK d rfl ?_);show o_ _ _ (match ps[(i:Int).toNat]? with|some (.int J _)=>_|some _=>_|none=>_) _ _ _;rw[E8,U];refine b_ (ED e rfl ad (b_ (ED (tj e 0 (EL 0)) rfl ad (b_ ?_))));simp only[Mg,Me];refine b_ (DH ?_ (by size_fits));refine b_ (m:=IV _ _) (GD (a:=Er) (by first|rfl|(simp only[firstArgMember];rfl)) ?_);refine DH ?_ (by size_fits);simp only[Md];refine b_ (Jr ?_);rw[show A.in1.handled=g_ from hh];refine b_ (f_ (Kk ?_));refine b_ (FF (T:="StopIteration") (b:=e_) ⟨_,l_ _ rfl,rfl⟩ IU (f_ (h _ ?_)));exact((((Ep ..).trans (Ep ..)).extBut).push _).push _
def v9{Q:Vp}(e:s.heap.get? I=a_ (jJ first i a n ep))(h:Q (.ref I) s):o_ (u_ prog w) A (Lw (.ref I)) Q E s:=by
 have ty:s.TypeIs (.ref I) "set_iterator":=⟨_,e,rfl⟩
 refine Jj ty lj (DU lj ty rQ ?_ (uU _));show o_ (u_ prog w) A.in1 (ret (.ref I)) _ _ s;exact f_ ⟨.ref I,rfl,"set_iterator",_,ty,aZ.lookup,h⟩
def ml.at(H:ml h a es ep t)(e:∀o,h.get? a=a_ o->h'.get? a=a_ o):ml h' a es ep t:=let ⟨o,J,hd⟩:=H;⟨o,e _ J,hd⟩
theorem tT{α:Type}(f:Nat->Nat):∀(m k:Nat) (J:List α) (out:Array α),J.length=m->(K6 f m k J out).toList.Perm (out.toList++J)
 |0,k,J,out,h=>by unfold K6;rw[Fv.mp h,Fc]|m+1,k,J,out,h=>by
  unfold K6;have U:f k%J.length<J.length:=Nat.mod_lt _ ac;rw[C_ U];dsimp only;refine(tT f m (k+1) _ _ (by rw[Hb,s_ U];omega)).trans ?_;rw[Ky,E4];refine List.Perm.append (Gm _) ?_;have key:∀{β:Type} {l:List β} {i:Nat} (h:i<l.length),(l[i]::l.eraseIdx i).Perm l:=by
   intro β l
   induction l with
   |nil=>intro i h;simp at h|cons x xs Y=>
    intro i h;cases i with
    |zero=>simp|succ i=>simp only[Jp,LY];exact(KR _ _ _).trans ((Y (by simpa using h)).cons _)
  exact key U
def u0{Q:Option (h_×Nat)->k_->Prop}(Y:w.params.followText "set-order"=e_)(b:ml s.heap a es ep t)(U:t.fits es.size=e_)(h:Q (((KA (w.params.setOrder a ep) es)[i]?).map λe=>(e.2,sl)) s):o_ (u_ prog w) A (L1 a sl i ep) Q E s:=by obtain⟨o,J,hd⟩:=b;unfold L1 Mc;refine b_ (Hf J hd U (b_ (b_ (Hr (f_ ?_)))));dsimp only;rw[s_ (show(u_ prog w).w.params.followText "set-order"=e_ from Y),q_ ad];unfold setWalk Mc;refine b_ (b_ (Hf J hd U (b_ (b_ (Hr (f_ ?_))))));dsimp only;rw[s_ (show(u_ prog w).w.params.followText "set-order"=e_ from Y)];exact b_ (Hr (f_ (f_ h)))
def u3{Q:Option (h_×Nat)->k_->Prop}(c:w.params.followText "set-order"=c_)(U:(!t.plain&&z_ (es.size>1))=c_)(J:t.led=e_)(d:ml s.heap a es ep t)(b:t.fits es.size=e_)(h:Q (match es[FH t.place sl]?,t.place[FH t.place sl]? with|some (_,x),a_ j=>a_ (x,j+1)|_,_=>g_) s):o_ (u_ prog w) A (L1 a sl i ep) Q E s:=by
 obtain⟨o,Y,hd⟩:=d;unfold L1 Mc;refine b_ (Hf Y hd b (b_ (b_ (Hr (f_ ?_)))));dsimp only;rw[q_ (show ¬(u_ prog w).w.params.followText "set-order"=e_ from by rw[show(u_ prog w).w.params.followText "set-order"=c_ from c];exact Dz)];refine(?_:o_ (u_ prog w) A (if (!t.plain&&z_ (es.size>1))=e_ then _ else _) Q E s)
 rw[U,q_ Dz];refine b_ (Q:=Q) (m:=if (!t.led&& !es.isEmpty)=e_ then unsupported "set:maker-not-led" else Ff ()) ?_;rw[J,GC,Iy,q_ Dz];exact f_ (f_ h)
end
section
open PySem
variable{s:k_}{T:i_}{es:Array (Int×h_)}
def AD(hh:A.handled=g_)(J:w.params.followText "set-order"=e_)(Y:t.fits es.size=e_)(c:a≠I)(g:(KA (w.params.setOrder a ep) es).toList=ord)(j:ord.length=es.size):
  Mj prog w A I [I,a] [I] es.size (λi v=>(ord[i]?).map (·.2)=a_ v) (λi h=>ml h a es ep t/\h.get? I=a_ (jJ (EL 0) i a es.size ep)) where
 sub:=λb J=>by simp at J;simp[J]
 frame:=λ_ _ _ x k=>⟨x.1.at λo e=>k a ad o e,k I ad _ x.2⟩
 item:=λi s Q E hi x U=>by
  obtain⟨v,ev⟩:∃v,ord[i]?=a_ v:=⟨_,C_ ac⟩
  have d:(KA (w.params.setOrder a ep) es)[i]?=a_ v:=by rw[<- EZ,g];exact ev
  refine AY (sl:=0) (x:=v.2) (nx:=0) x.2 x.1 Y (λ{r p n} q=>u0 J x.1 Y (by rw[d];exact q)) λh' m f=>?_;exact U v.2 h' s.toks (by rw[ev];rfl) ⟨x.1.at λo e=>(f.2 a c).trans e,m⟩ λb o J e=>f.extBut b o (λz=>J (by simp[z])) e
 done:=λs Q E x U=>by
  have d:(KA (w.params.setOrder a ep) es)[es.size]?=g_:=by rw[<- EZ,g];exact E2 ac
  exact mS (sl:=0) hh x.2 x.1 Y (λ{r p n} q=>u0 J x.1 Y (by rw[d];exact q)) λh' e=>U h' s.toks λb o J l=>e b o (λz=>J (by simp[z])) l
 self:=λ_ _ _ _ x U=>v9 x.2 U
def Af{xs:Array Nat}(h:wL xs.toList):FH xs 0=0:=by
 obtain⟨h1,h2,_⟩:=mL h 0;rcases Nat.eq_zero_or_pos (FH xs 0)with z|z
 .exact z
 .have:=h2 0 (xs[0]' ac) z (EN ac);omega
def Ag{xs:Array Nat}(h:wL xs.toList)(e:xs[i]?=a_ j):FH xs (j+1)=i+1:=by
 obtain⟨h1,h2,J⟩:=mL h (j+1);have hi:=(FK.mp e).1;rcases KP (FH xs (j+1)) (i+1)with z|z|z
 .have:=J i j ac e;omega
 .exact z
 .have e2:xs[i+1]?=a_ (xs[i+1]' ac):=EN ac;have U:=h2 (i+1) _ z e2;have g2:=h.arr (i:=i) (j:=i+1) ac e e2;omega
def AE(hh:A.handled=g_)(J:w.params.followText "set-order"=c_)(f:(!t.plain&&z_ (es.size>1))=c_)(j:TOk e_ t)(c:t.fits es.size=e_)(l:a≠I):
  Mj prog w A I [I,a] [I] es.size (λi v=>(es.toList[i]?).map (·.2)=a_ v) (λi h=>ml h a es ep t/\∃sl:Nat,h.get? I=a_ (jJ (EL sl) i a es.size ep)/\FH t.place sl=i) where
 sub:=λb J=>by simp at J;simp[J]
 frame:=λ_ _ _ x k=>⟨x.1.at λo e=>k a ad o e,let ⟨sl,e,h⟩:=x.2;⟨sl,k I ad _ e,h⟩⟩
 item:=λi s Q E hi x g=>by
  obtain⟨Y,sl,d,U⟩:=x;have n:t.place.size=es.size:=by simp only[SetTable.fits,r_,FU]at c;exact c.1
  have e1:es[i]?=a_ (es[i]'hi):=EN hi;have e2:t.place[i]?=a_ (t.place[i]' ac):=EN ac;refine AY (sl:=sl) (x:=(es[i]'hi).2) (nx:=t.place[i]' ac+1) d Y c (λ{B y u} q=>u3 J f j.2 Y c (by rw[U,e1,e2];exact q)) λh' r m=>?_;exact g _ h' s.toks (by rw[EZ,e1];rfl) ⟨Y.at λo e=>(m.2 a l).trans e,_,r,Ag j.1 e2⟩ λb o J e=>m.extBut b o (λz=>J (by simp[z])) e
 done:=λs Q E x g=>by obtain⟨Y,sl,d,U⟩:=x;have e1:es[es.size]?=g_:=Fh (t_ _);exact mS (sl:=sl) hh d Y c (λ{B y u} q=>u3 J f j.2 Y c (by rw[U,e1];exact q)) λh' e=>g h' s.toks λb o J p=>e b o (λz=>J (by simp[z])) p
 self:=λ_ _ _ _ x g=>by obtain⟨_,sl,d,_⟩:=x;exact v9 d g
def yG(hh:A.handled=g_)(r:t.fits es.size=e_)(n:a≠I)(d:T≠I){ps:aF}(J:ps.Perm (DR es.size)){m:Nat}:
  Mj prog w A I [I,a,T] [I] es.size (λi v=>((ps.filterMap (es[·]?))[i]?).map (·.2)=a_ v) (λi h=>ml h a es ep t/\h.get? I=a_ (jJ (.ref T) i a es.size ep)/\h.get? T=a_ {cls:=.type "tuple",data:=.seq (ps.map λ(i:Nat)=>EL i).toArray m}) where
 sub:=λb c=>by simp at c;simp[c]
 frame:=λ_ _ _ x k=>⟨x.1.at λo e=>k a ad o e,k I ad _ x.2.1,k T ad _ x.2.2⟩
 item:=λi s Q E hi x g=>by
  have U:=J.length_eq;rw[G4]at U;have f:∀p∈ps,p<es.size:=λp Y=>EV.mp (J.mem_iff.mp Y);have Y:ps[i]' ac<es.size:=f _ (EX _);have C:∀l:aF,(∀p∈l,p<es.size)->∀i (h:i<l.length),(l.filterMap (es[·]?))[i]?=es[l[i]]?:=by
   intro l
   induction l with
   |nil=>intro _ i h;simp at h|cons p l u=>
    intro U i h;have h1:es[p]?=a_ (es[p]'(U p ad)):=EN _;rw[GH,h1];cases i with
    |zero=>simp[h1]|succ i=>simp only[Fw,Jp];exact u (λq y=>U q (by simp[y])) i (by simpa using h)
  have e1:es[ps[i]' ac]?=a_ (es[ps[i]' ac]'Y):=EN Y;refine si_drawn (p:=ps[i]' ac) (tk:=0) (k:=(es[ps[i]' ac]'Y).1) (x:=(es[ps[i]' ac]'Y).2) x.2.1 x.1 r x.2.2 (by simp[show i<ps.length by omega,EL]) e1 λh' D j=>?_;exact g _ h' s.toks (by rw[C ps f i ac,e1];rfl) ⟨x.1.at λo e=>(j.2 a n).trans e,D,(j.2 T d).trans x.2.2⟩ λb o c e=>j.extBut b o (λz=>c (by simp[z])) e
 done:=λs Q E x g=>by have U:=J.length_eq;rw[G4]at U;exact tm hh x.2.1 x.1 r x.2.2 (by simp[U]) λh' e=>g h' s.toks λb o c B=>e b o (λz=>c (by simp[z])) B
 self:=λ_ _ _ _ x g=>v9 x.2.1 g
def A6{Q:Nat->k_->Prop}(U:m≠0)(h:Q (w.draws .order (s.drawn.get .order)%m) {s with drawn:=s.drawn.bump .order}):o_ (u_ prog w) A (choose .order m) Q E s:=λY p J=>by unfold choose;rw[Sem.wp_choose];exact⟨U,h⟩
theorem uz{α:Type}:∀(m:Nat) (xs:List α) (s:k_) {Q:List α->k_->Prop},xs.length=m->(∀ys d,ys.Perm xs->Q ys {s with drawn:=d})->o_ (u_ prog w) A (Pk m xs) Q E s
 |0,xs,s,Q,h,q=>by unfold Pk;rw[Fv.mp h]at q;exact f_ (q [] s.drawn (Gm _))|m+1,[],s,Q,h,q=>by simp at h|m+1,x::xs,s,Q,h,q=>by
  unfold Pk;refine b_ (A6 ad ?_);have J:w.draws .order (s.drawn.get .order)%(x::xs).length<(x::xs).length:=Nat.mod_lt _ ad;generalize w.draws .order (s.drawn.get .order)%(x::xs).length=i at J ⊢;rw[C_ J];dsimp only;refine b_ (uz m ((x::xs).eraseIdx i) _ (by rw[Hb,s_ J];simp at h ⊢;omega) λys d Y=>f_ (q _ d ?_));have key:∀{β:Type} {l:List β} {i:Nat} (h:i<l.length),(l[i]::l.eraseIdx i).Perm l:=by
   intro β l
   induction l with
   |nil=>intro i h;simp at h|cons x xs U=>
    intro i h;cases i with
    |zero=>simp|succ i=>simp only[Jp,LY];exact(KR _ _ _).trans ((U (by simpa using h)).cons _)
  exact(Y.cons _).trans (key J)
end
section
open PySem
variable{s:k_}
def Begun(prog:EC)(w:Fe)(I a:i_)(vs:as)(J:Nat)(h:Eg):Prop:=
 ∃(fp:List i_) (St:Nat->Eg->Prop),(∀A:Fu,A.handled=g_->Mj prog w A I fp [I] vs.length (λi v=>vs[i]?=a_ v) St)/\St 0 h/\∀c∈fp,c=a\/J<=c
def AX:((ord.map (·.2))[i]?=a_ v)=((ord[i]?).map (·.2)=a_ v):=by rw[El]
theorem Walks.by{I:i_}{fp wr:List i_}{n m:Nat}{P J:Nat->h_->Prop}{St:Nat->Eg->Prop}(W:Mj prog w A I fp wr n P St)(U:n=m)(Y:∀i v,J i v=P i v):Mj prog w A I fp wr m J St:=by subst U;have:J=P:=funext λi=>funext λv=>Y i v;rw[this];exact W
def perm_keys{es:Array (Int×h_)}(J:(es.toList.map λe=>mC e.2).Perm ks)(h:ord.Perm es.toList):((ord.map (·.2)).map mC).Perm ks:=by rw[En];exact(h.map _).trans J
def vR{es:Array (Int×h_)}(U:Nt (Gb prog w) es.toList)(h:ord.Perm es.toList):∀v∈ord.map (·.2),∃t,v=.int (mC v) t:=λv hv=>by obtain⟨e,m,rfl⟩:=Ed.mp hv;obtain⟨k,J⟩:=U.keys e (h.mem_iff.mp m);obtain⟨t,Y⟩:=key_is J;rw[Y];exact⟨t,rfl⟩
theorem Cc{Q:Vp}(H:sP prog w (kJ w) s.heap a ks)(h:∀I vs h' d,(∀c o,s.heap.get? c=a_ o->h'.get? c=a_ o)->s.heap.objs.size<=I->Begun prog w I a vs s.heap.objs.size h'->(vs.map mC).Perm ks->(∀v∈vs,∃t,v=.int (mC v) t)->Q (.ref I) {s with heap:=h',drawn:=d}):o_ (u_ prog w) A (Lw (.ref a)) Q E s:=by
 have ty:=H.ty;obtain⟨o,es,ep,t,U,y,hd,m,l,B,C,Y,k⟩:=H;have p:a<s.z:=mf U;refine Jj ty O_ (DU O_ ty uw ?_ (F.args_set_iter_1 _));unfold Builtin.«frozenset.__iter__» Ob slotArgs Oc;simp only[List.isEmpty_nil,GC,Ec,↓reduceIte,bind_assoc,Ie,MD];unfold Oe;refine b_ (f_ ?_);dsimp only;refine b_ (f_ (b_ (Hw U hd Y (b_ (f_ ?_)))));unfold setDrawn Mc;simp only[bind_assoc];refine b_ (Hf U hd Y (b_ (Hr ?_)));simp only[pure_bind];cases J:w.params.followText "set-order" with
 |true=>
  have ord:=tT (w.params.setOrder a ep) es.size 0 es.toList #[] ad;refine(?_:o_ (u_ prog w) A.in1 (if (!(w.params.followText "set-order")&&_)=e_ then _ else _) _ _ s)
  rw[J,GC,Iy,q_ Dz];refine b_ (K4 U hd Y (b_ (DH (f_ ⟨_,rfl,"set_iterator",_,⟨_,l_ _ rfl,rfl⟩,aZ.lookup,?_⟩) (by size_fits))));have op:(KA (w.params.setOrder a ep) es).toList.Perm es.toList:=ord;refine h _ ((KA (w.params.setOrder a ep) es).toList.map (·.2)) _ s.drawn (λc o e=>d_ _ e) (t_ _) ⟨_,_,λq hh=>Walks.by (AD (t:=t) (ep:=ep) hh J Y (Dx p) rfl (by have:=op.length_eq;simpa using this)) (by have:=op.length_eq;simp at this ⊢;omega) (λi v=>AX),⟨⟨o,d_ _ U,hd⟩,l_ _ rfl⟩,λc b=>?_⟩ (perm_keys l op) (vR m op);simp only[p_,DK,FO]at b;rcases b with z|z
  .exact .inr (by rw[z];exact t_ _)
  .exact .inl z
 |false=>
  have u:t.led=e_:=by rw[k.2];show(!w.params.followText "set-order")=e_;rw[J];rfl
  refine(?_:o_ (u_ prog w) A.in1 (if (!(w.params.followText "set-order")&&(!t.plain&&z_ (es.size>1)))=e_ then _ else _) _ _ s)
  rw[J,Lq,HW];cases n:(!t.plain&&z_ (es.size>1))with
  |false=>
   rw[q_ Dz];refine b_ (K4 U hd Y (b_ (DH (f_ ⟨_,rfl,"set_iterator",_,⟨_,l_ _ rfl,rfl⟩,aZ.lookup,?_⟩) (by size_fits))));refine h _ (es.toList.map (·.2)) _ s.drawn (λc o e=>d_ _ e) (t_ _) ⟨_,_,λq hh=>Walks.by (AE (ep:=ep) hh J n ⟨k.1,u⟩ Y (Dx p)) ad (λi v=>AX),⟨⟨o,d_ _ U,hd⟩,0,l_ _ rfl,Af k.1⟩,λc b=>?_⟩ (perm_keys l (Gm _)) (vR m (Gm _));simp only[p_,DK,FO]at b;rcases b with z|z
   .exact .inr (by rw[z];exact t_ _)
   .exact .inl z
  |true=>
   rw[s_ rfl];have D:HL=4096:=rfl;have x:=Ey;refine b_ (uz es.size (DR es.size) s ad λps d f=>?_);have r:ps.length=es.size:=by have:=f.length_eq;simpa using this
   refine b_ (L_ ?_ (by rw[y_];omega));have g:(s.heap.push {cls:=.type "tuple",data:=.seq (ps.map λ(i:Nat)=>EL i).toArray}).get? a=a_ o:=d_ _ U;refine b_ (K4 (s:={s with heap:=s.heap.push {cls:=.type "tuple",data:=.seq (ps.map λ(i:Nat)=>EL i).toArray},drawn:=d}) g hd Y (b_ (DH (f_ ⟨_,rfl,"set_iterator",_,⟨_,l_ _ rfl,rfl⟩,aZ.lookup,?_⟩) (by size_fits))));have op:(ps.filterMap (es[·]?)).Perm es.toList:=(f.filterMap _).trans (by rw[filterMap_getElem?_range]);have j:(s.heap.push {cls:=.type "tuple",data:=.seq (ps.map λ(i:Nat)=>EL i).toArray}).objs.size=s.z+1:=DZ ..;refine h _ ((ps.filterMap (es[·]?)).map (·.2)) _ d (λc o e=>d_ _ (d_ _ e)) (by rw[j];exact FT _) ⟨_,_,λq hh=>Walks.by (yG (T:=s.z) (ep:=ep) hh Y (by rw[j];exact Dx (Gg p)) (by rw[j];exact Dx (Fz _)) f) (by have:=op.length_eq;simp at this ⊢;omega) (λi v=>AX),⟨⟨o,d_ _ g,hd⟩,l_ _ rfl,d_ _ (l_ _ rfl)⟩,λc b=>?_⟩ (perm_keys l op) (vR m op);simp only[p_,DK,FO]at b;rcases b with z|z|z
   .exact .inr (by rw[z,j];exact FT _)
   .exact .inl z
   .exact .inr (by rw[z];exact t_ _)
theorem uM{Q:as->k_->Prop}(hh:A.handled=g_)(H:sP prog w (kJ w) s.heap a ks)(h:∀vs h' d tk,(∀c o,s.heap.get? c=a_ o->h'.get? c=a_ o)->s.heap.objs.size<=h'.objs.size->(vs.map mC).Perm ks->(∀v∈vs,∃t,v=.int (mC v) t)->Q vs {s with heap:=h',drawn:=d,toks:=tk}):o_ (u_ prog w) A (L3 (.ref a)) Q E s:=by
 have S:=Ey;have L:ks.length<4096:=by obtain⟨o,es,ep,t,n,y,hd,he,m,Z,hb,hf,X⟩:=H;have:=m.length_eq;have h4:HL=4096:=rfl;simp at this;omega
 have C:a<s.z:=by obtain⟨o,_,_,_,n,_⟩:=H;exact mf n
 unfold L3;refine b_ (Kl (E3 (JX) ?_));rw[Et (JW) _];show o_ (u_ prog w) A.in1 (Nj [] >>=λl=>again (.builtin "list.__iadd__" ⟨[l,.ref a],[]⟩)) _ _ s;refine b_ (DH ?_);refine f_ ⟨Ga G_ _,E3 (K1) ?_⟩;rw[Et (G_) _];have H1:sP prog w (kJ w) (s.heap.push {cls:=.type "list",data:=.seq ([]:as).toArray}) a ks:=H.at λo e=>d_ _ e;have ty:GR {s with heap:=s.heap.push {cls:=.type "list",data:=.seq ([]:as).toArray}} (.ref a) "set":=H1.ty;have P:(s.heap.push {cls:=.type "list",data:=.seq ([]:as).toArray}).get? s.z=a_ {cls:=.type "list",data:=.seq ([]:as).toArray}:=l_ _ rfl;have x:(s.heap.push {cls:=.type "list",data:=.seq ([]:as).toArray}).objs.size=s.z+1:=DZ ..;show o_ (u_ prog w) A.in1 (HN (.ref s.z) (.ref a) (.ref s.z)) _ _ _;unfold HN;refine b_ (II ty ?_);have k1:G5 (.ref s.z) (.ref a)=c_:=by simpa[G5] using E7 C
 have k2:(Gf "set"==Gf "list")=c_:=by decide
 have k3:(Gf "set"==Gf "tuple")=c_:=by decide
 simp only[k1,k2,k3,OR,Ec,Fy];refine b_ (Cc (s:={s with heap:=s.heap.push {cls:=.type "list",data:=.seq ([]:as).toArray}}) H1 λI vs h1 d r G R m hi=>?_);have f:GR {s with heap:=h1,drawn:=d} (.ref a) "set":=by obtain⟨o,_,_,_,n,y,_⟩:=H1;exact⟨o,r _ _ n,y.1⟩
 refine b_ (Ex ?_);unfold Builtin.List.listLengthHint;refine b_ (HA f F.slot_set_len.lookup ?_)
 wp_delta
 refine b_ (FF (T:="set") (b:=e_) f sub_set_self ?_);refine b_ (II f (f_ ?_));rw[s_ ag];refine b_ (G2 (b_ ?_));have K:=r _ _ P;show o_ (u_ prog w) A.in1 (Lu s.z (·.push .none) >>=λ_=>Lu s.z (·.pop)) _ _ {s with heap:=h1,drawn:=d};refine b_ (Hz K rfl ?_);have g2:=Ef (ES (·.push Er)) K rfl;refine Hz g2 rfl ?_;have O:=Ef (ES (·.pop)) g2 rfl;have g:∀c o,c≠s.z->h1.get? c=a_ o->((h1.update s.z (ES (·.push Er))).update s.z (ES (·.pop))).get? c=a_ o:=λc o Y e=>(Dw _ _ (Em Y)).trans ((Dw _ _ (Em Y)).trans e);obtain⟨fp,St,W,st,p⟩:=R;have D:s.z∉fp:=λz=>by
  rcases p _ z with q|q
  .exact E7 C q
  .rw[x]at q;exact Nat.not_succ_le_self _ q
 have u:vs.length<=n_:=by have:=m.length_eq;simp at this;omega
 refine f_ ⟨Ga NJ _,N3 (W A.in1 (by simp[hh])).toS u _ D _ vs.length 0 _ _ _ rfl (E1 _) ((W A hh).frame 0 _ _ st λc Y o e=>g c o (λz=>D (z▸Y)) e) O (Oz _) λs' U c' B j J=>?_⟩;show o_ (u_ prog w) A (load s.z >>= _) _ _ s';refine b_ (JR j (f_ ?_));have ev:U.toList=vs:=by
  apply KJ;intro i;by_cases hi:i<vs.length
  .have h2:i<U.size:=by rw[J.1];exact hi
   have N:=J.2 i U[i] (by simp[h2]);rw[N];simp[h2]
  .rw[E2 (by rw[DO,J.1];omega),E2 ac]
 have k:=Oy B;dsimp only at k;rw[k,ev];refine h vs _ d _ (λc o e=>?_) ?_ m hi
 .have Y:c<s.z:=mf e;refine B.heap c o (λz=>?_) (g c o (Dx Y) (r c o (d_ _ e)));rcases p_.mp z with z|z
  .exact Dx Y z
  .simp at z;subst z;rw[x]at G;exact DD Y (Kw.mpr (NP G))
 .exact Gr (mf j)
end
def B6.draws{s:k_}{d:N_}(I:B6 X B4 σ H s):B6 X B4 σ H {s with drawn:=d}:=⟨I.ok,I.os,I.bare,I.base,I.loc,I.cell,I.free,I.freeC,I.pin,I.hok,I.len⟩
def boot_set:FV "set"=a_ (.type "set"):=by decide +kernel
section
open PySem.W
theorem xK:∀{vs:as},(∀v∈vs,∃t,v=.int (mC v) t)->G9 vs (vs.map mC)
 |[],_=>.nil|v::vs,h=>by obtain⟨t,e⟩:=h v ad;rw[x_,e];exact .cons _ _ (xK λu J=>h u (by simp[J]))
theorem AG:∀{vs:as} {is:aj},G9 vs is->Ds (is.map V.int) vs
 |_,_,.nil=>.nil|_,_,.cons n t r=>.cons ⟨t,rfl⟩ (AG r)
end
theorem yg{F:Hp}:∀is:aj,ax K F (is.map .int) (is.map V.int)
 |[]=>rfl|i::is=>⟨.int i,is.map V.int,rfl,rfl,yg is⟩
def qp:A'->A'->M A'
 |.lst ds,.int k=>(bD ds).bind λxs=>.ok (.int (xs.countP (·==k):Nat))|_,_=>stk
@[simp]def e_countD(ds:List A')(k:Int):qp (.lst ds) (.int k)=(bD ds).bind λxs=>.ok (.int (xs.countP (·==k):Nat)):=id rfl
def qk(fo fe:aa->M A'):aa->M A':=λρ=>(fo ρ).bind λa=>if isL a=e_ then(fe ρ).bind λb=>qp a b else stk
@[simp]def e_fCount(fo fe:aa->M A')(ρ:aa):qk fo fe ρ=(fo ρ).bind λa=>if isL a=e_ then(fe ρ).bind λb=>qp a b else stk:=id rfl
def rCount(K:Fg):V->am->Hp->VK->Prop:=λx vs H Q=>∃(l:i_) (is:aj) (k:Int),x=.ref l/\vs=[.int k]/\SqL K H l (is.map V.int)/\Q (.int (is.countP (·==k):Nat)) H
section
variable{W:cn}
theorem qo{k:Int}:∀{is:aj} {us:as},Ds (is.map V.int) us->us.countP (isK k)=is.countP (·==k)
 |[],_,.nil=>rfl|a::is,_,.cons r rs=>by
  obtain⟨t,rfl⟩:=(show ∃t,_=Hv a t from r)
  rw[KW,KW,qo rs];rfl
def mt_count(E:X.A.units+64<Ez):MtR X "list.count" (rCount X.K):=by
 intro B4 s σ H x vs v us Q I g i h;obtain⟨l,is,k,rfl,rfl,B,q⟩:=h;cases g;obtain⟨u,rfl,j⟩:=i.one;obtain⟨its,r,pl,D⟩:=I.list B;obtain⟨o,n,e,J,c,U⟩:=id pl;obtain⟨t,rfl⟩:=(show ∃t,u=Hv k t from j)
 have f:is.length=its.length:=by rw[<- r.length,y_]
 obtain⟨oc,a,Y,osl⟩:=o;refine OM Ln ⟨_,e,J⟩ PySem.F.entry_list_count (PySem.F.args_list_count_2 _ _) (SeqAt.list_countAt l its.toArray n a osl (.int k t) (isK k)) ⟨?_,λy p=>?_,?_⟩
 .rw[e];cases(show oc=.type "list" from J);cases(show Y=.seq its.toArray n from U);rfl
 .have w:y∈its:=by simpa using p
  obtain⟨m,b,rfl⟩:=J8 w;obtain⟨t',C⟩:∃t,its[m]=.int (is[m]' ac) t:=by obtain⟨t,d⟩:=pD r m (is[m]' ac) (C_ _);rw[C_ b]at d;exact⟨t,DV d⟩
  rw[C];have z:=Ct (F:=H) (x:=.int (is[m]' ac)) (y:=.int k) (A:=X.A.in1) I (aO.refl H) (.int (is[m]' ac)) (.int k) (by simp[HS]) (by simp[HS]) rfl rfl ⟨t',rfl⟩ ⟨t,rfl⟩ (by show X.A.units+1+40<Ez;omega);rw[show eqD (.int (is[m]' ac)) (.int k)=isK k (.int (is[m]' ac) t') by simp[eqD,isK]]at z;exact z
 .rw[MR,qo r];exact⟨.int (is.countP (·==k):Nat),H,I.tok _,⟨_,rfl⟩,q⟩
variable{o:EM}
def de_count(m:X.A.units+64<Ez)(n:DE K W c_ X o fo)(d:DE K W c_ X e fe)(v: ~~~(X.K=K))(Y: ~~~(E5 o "count" X.env (DC o X.env)=DC o X.env))(c: ~~~(((EG cpos (j_ [e] X.env)).all (λx=> !x.1)&&(Ir cpos (GZ [] X.env)).all (λx=>x.1.isSome)&&z_ ([e].length+([]:List Io).length+(if ([]:List Io).isEmpty then 0 else 1)<30))=e_))(U: ~~~((apos.endLine==cpos.line)=e_))(i: ~~~(j_ [e] X.env=(c_,DC e X.env)::j_ [] X.env))(J: ~~~((EG cpos (j_ [] X.env)).any (·.1)=c_)):
  DE K W c_ X (.Call (.Attribute o "count" apos) [e] [] cpos) (qk fo fe):=by
 subst v;refine PE.imp (pe_bm Ho Ln PySem.F.type_list_count (mt_count m) n (aN d bR (by rw[i])) Y c U i J) λσ H Q h=>?_;obtain⟨F,ρ,r,s,p⟩:=h;refine aK r s (λe d=>p.err (by unfold qk;rw[d];rfl)) λa u x F1 H1 g q1=>?_;have w:qk fo fe ρ=if isL a=e_ then(fe ρ).bind λb=>qp a b else stk:=by unfold qk;rw[u];rfl
 rw[w]at p;have p:=p.step g;cases a with
 |lst ds=>
  have p:aH X.K W c_ F1 H1 ((fe ρ).bind λb=>qp (.lst ds) b) Q:=p;obtain⟨l,xs,ex,t,z⟩:=id q1;subst ex;refine⟨.inl ⟨rfl,_,g.fh.lst t⟩,?_⟩
  refine aK (r.mono g.ff) g.fh (λe d=>p.err (by rw[d];rfl)) λb q y F2 H2 f q2=>?_;rw[q]at p;have p:aH X.K W c_ F1 H1 (qp (.lst ds) b) Q:=p;have p:=p.step f;cases b with
  |int k=>
   have p:aH X.K W c_ F2 H2 ((bD ds).bind λxs=>.ok (.int (xs.countP (·==k):Nat))) Q:=p;cases hi:bD ds with
   |error e=>rw[hi]at p;rw[dA hi]at p;exact aH.stuck p|ok is=>rw[hi]at p;have j:=dw z hi;subst j;cases(show y=V.int k from q2);exact⟨l,is,k,rfl,rfl,f.fh.lst (f.ff.lst t),p (.int (is.countP (·==k):Nat)) F2 H2 (B5.refl f.fh) rfl⟩
  |_=>exact aH.stuck p
 |_=>exact aH.stuck p
end
structure Abt(p:i_)(F H F' H':Hp):Prop where
 ff:aO F F'
 fh:aO F' H'
 fp:F' p=g_
 nw:∀b o,F' b=a_ o->F b=a_ o\/H b=g_
 hh:∀c o,H c=a_ o->c≠p->H' c=a_ o
def Abt.step{x dx:i_}(Y:H x=g_)(J:H dx=g_)(z:Abt x F (upd (upd H dx (.own x)) x (.ins C dx [])) F' H'):B5 F H F' H' where
 ff:=z.ff
 hh:=λc o e=>by
  have U:c≠x:=λh=>by rw[h,Y]at e;cases e
  have hd:c≠dx:=λh=>by rw[h,J]at e;cases e
  exact z.hh c o (by rw[aq U,aq hd];exact e) U
 fh:=z.fh
 nw:=λc o e=>by
  rcases z.nw c o e with q|q
  .exact .inl q
  .refine .inr ?_;by_cases U:c=x
   .subst U;exact Y
   .by_cases hd:c=dx
    .subst hd;exact J
    .rw[aq U,aq hd]at q;exact q
noncomputable abbrev AO(P:EC)(w:Fe):HeapKind P w aj:=tupleKind (Gb P w)
theorem sY{P:EC}{w:Fe}:∀{k:aj} {us:as},Ds (k.map V.int) us->ItemsAre (Gb P w) k us
 |[],_,.nil=>.nil|i::k,_,.cons r t=>by
  obtain⟨t',rfl⟩:=(show ∃t,_=Hv i t from r)
  exact .cons (by simp[Gb,HU]) (sY t)
def pA.at{xs:List jd}(z:pA h a xs ep)(e:∀o,h.get? a=a_ o->h'.get? a=a_ o):pA h' a xs ep:=
 let ⟨vs,r,hd,U,J,o,es,h1,h2⟩:=z;⟨vs,r,hd,U,J,o,es,e o h1,h2⟩
def we{xs:List jd}(z:pA h a xs ep):cz P w H h a (oz a xs ep):=
 ⟨z,let ⟨_,_,_,_,_,o,_,e,_⟩:=z;⟨o,e⟩,λ_ _ z e=>z.at e⟩
def ou(K:Fg)(H:Hp)(xs:List jd):Prop:=∀x∈xs,SqT K H x.2.1 (x.1.map V.int)
def ou.mono{xs:List jd}(z:ou K H xs)(s:aO H H'):ou K H' xs:=λx J=>s.tup (z x J)
theorem bO.key{K:Fg}{F:Hp}:∀{ks:List (aj×A')} {xs:List jd},bO K F ks xs->ou K F xs
 |[],_,h,x,J=>by rw[show _=[]from h]at J;cases J|(k,d)::ks,_,⟨b,v,r,e,t,q,z⟩,x,J=>by
  subst e;rcases p_.mp J with rfl|J
  .exact t
  .exact bO.key z x J
theorem bO.length{K:Fg}{F:Hp}:∀{ks:List (aj×A')} {xs:List jd},bO K F ks xs->xs.length=ks.length
 |[],_,h=>by rw[show _=[]from h];rfl|(k,d)::ks,_,⟨b,v,r,e,t,q,z⟩=>by rw[e,B_,B_,bO.length z]
noncomputable def vV(ks:List (aj×A'))(k:aj):Option A':=(ks.find? λp=>z_ (p.1=k)).map (·.2)
def uf(xs:List jd)(k:aj):Option V:=(xs.find? λp=>z_ (p.1=k)).map (·.2.2)
def j9(ks:List (aj×A'))(k:aj)(d:A'):List (aj×A'):=if (vV ks k).isSome=e_ then ks.map (λp=>if p.1=k then(p.1,d)else p)else ks++[(k,d)]
def putR(xs:List jd)(k:aj)(b:i_)(v:V):List jd:=if (uf xs k).isSome=e_ then xs.map (λx=>if x.1=k then(x.1,x.2.1,v)else x)else xs++[(k,b,v)]
def nu(xs:List jd)(k:aj)(b:i_)(v:V):(putR xs k b v).length<=xs.length+1:=by
 unfold putR;split
 .rw[y_];omega
 .rw[Eb];exact t_ _
theorem qW{k:aj}:∀{xs:List jd} {vs:List (aj×i_×h_)},HI iQ xs vs->pq (uf xs k) ((N5 vs k).map (·.2))
 |_,_,.nil=>Hu|x::xs,q::vs,.cons h t=>by
  obtain⟨h1,h2,U⟩:=h;by_cases e:x.1=k
  .have J:q.1=k:=h1.symm.trans e;simp only[uf,N5,GV,e,J,decide_true,HY];exact U
  .have J:¬q.1=k:=λz=>e (h1.trans z);have:=qW (k:=k) t;simpa only[uf,N5,GV,e,J,KY] using this
theorem bO.at{K:Fg}{F:Hp}{k:aj}:∀{ks:List (aj×A')} {xs:List jd},bO K F ks xs->(vV ks k=g_/\uf xs k=g_)\/∃d v,vV ks k=a_ d/\uf xs k=a_ v/\aU K F d v
 |[],_,h=>by rw[show _=[]from h];exact .inl ⟨rfl,rfl⟩|(k',d)::ks,_,⟨b,v,r,e,t,q,z⟩=>by
  subst e;by_cases e:k'=k
  .exact .inr ⟨d,v,by simp[vV,e],by simp[uf,e],q⟩
  .have:=bO.at (k:=k) z;simpa only[vV,uf,GV,e,KY] using this
theorem bO.isSome{K:Fg}{F:Hp}{k:aj}{ks:List (aj×A')}{xs:List jd}(z:bO K F ks xs):(uf xs k).isSome=(vV ks k).isSome:=by rcases z.at (k:=k)with⟨e1,e2⟩|⟨d,v,e1,e2,_⟩<;>rw[e1,e2]<;>rfl
theorem bO.repl{K:Fg}{F:Hp}{k:aj}{d:A'}{v:V}(q:aU K F d v):∀{ks:List (aj×A')} {xs:List jd},bO K F ks xs->bO K F (ks.map λp=>if p.1=k then(p.1,d)else p) (xs.map λx=>if x.1=k then(x.1,x.2.1,v)else x)
 |[],_,h=>by rw[show _=[]from h];rfl|(k',d')::ks,_,⟨b,J,r,e,t,U,z⟩=>by
  subst e;rw[x_,x_];by_cases e:k'=k
  .rw[s_ e,s_ e];exact⟨b,v,_,rfl,t,q,bO.repl q z⟩
  .rw[q_ e,q_ e];exact⟨b,J,_,rfl,t,U,bO.repl q z⟩
theorem bO.snoc{K:Fg}{F:Hp}{k:aj}{b:i_}{d:A'}{v:V}(t:SqT K F b (k.map V.int))(q:aU K F d v):∀{ks:List (aj×A')} {xs:List jd},bO K F ks xs->bO K F (ks++[(k,d)]) (xs++[(k,b,v)])
 |[],_,h=>by rw[show _=[]from h];exact⟨b,v,[],rfl,t,q,rfl⟩|(k',d')::ks,_,⟨b',J,r,e,t',U,z⟩=>by subst e;exact⟨b',J,_,rfl,t',U,bO.snoc t q z⟩
def bO.put{k:aj}{v:V}{ks:List (aj×A')}{xs:List jd}(z:bO K F ks xs)(t:SqT K F b (k.map V.int))(q:aU K F d v):bO K F (j9 ks k d) (putR xs k b v):=by
 unfold j9 putR;rw[z.isSome];by_cases h:(vV ks k).isSome=e_
 .rw[s_ h,s_ h];exact z.repl q
 .rw[q_ h,q_ h];exact z.snoc t q
theorem tJ{k:aj}{v:V}{u:h_}(J:D' v u):∀{xs:List jd} {vs:List (aj×i_×h_)},HI iQ xs vs->HI iQ (xs.map λx=>if x.1=k then(x.1,x.2.1,v)else x) (vs.map (putAt k u))
 |_,_,.nil=>.nil|x::xs,q::vs,.cons h t=>by
  rw[x_,x_];refine .cons ?_ (tJ J t);obtain⟨h1,h2,U⟩:=h;unfold putAt;by_cases e:x.1=k
  .rw[s_ e,s_ (h1.symm.trans e)];exact⟨h1,h2,J⟩
  .rw[q_ e,q_ (λz=>e (h1.trans z))];exact⟨h1,h2,U⟩
def mx{k:aj}{v:V}(J:D' v u){xs:List jd}{vs:List (aj×i_×h_)}(r:HI iQ xs vs):HI iQ (putR xs k b v) (OV vs k b u):=by
 have e:(uf xs k).isSome=(N5 vs k).isSome:=by rw[(qW r).Ci,MQ]
 unfold putR OV;rw[e];by_cases h:(N5 vs k).isSome=e_
 .rw[s_ h,s_ h];exact tJ J r
 .rw[q_ h,q_ h];exact Paired.snoc r ⟨rfl,rfl,J⟩
theorem xf:∀{xs:List jd} {vs:List (aj×i_×h_)},HI iQ xs vs->∀q∈vs,∃x∈xs,x.1=q.1/\x.2.1=q.2.1
 |_,_,.nil,_,h=>nomatch h
 |x::xs,q::vs,.cons h t,y,J=>by
  rcases p_.mp J with rfl|J
  .exact⟨x,ad,h.1,h.2.1⟩
  .obtain⟨U,h1,h2⟩:=xf t y J;exact⟨U,by simp[h1],h2⟩
section
variable{s:k_}{xs:List jd}{k:List Int}
def qL(I:B6 X B4 σ H s)(h:SqT X.K H b (k.map V.int)):(AO X.prog X.w).is s.heap k b:=by obtain⟨its,r,⟨o,h1,h2,n,J⟩,_⟩:=I.tuple h;exact⟨o,its.toArray,n,h1,h2,J,by simpa using sY r⟩
def CJ(I:B6 X B4 σ H s)(e:H a=a_ (oz a xs ep)):pA s.heap a xs ep:=(show pA s.heap a xs ep/\_ from I.hok a _ e).1
def CK(I:B6 X B4 σ H s)(e:H a=a_ (oz a xs ep))(z:ou X.K H xs):∃vs,HI iQ xs vs/\(a==Fm)=c_/\xs.length<=n_/\s.heap.DictOfH (AO X.prog X.w) a vs:=by
 obtain⟨vs,r,hd,b,Y,o,es,h1,h2,d,c⟩:=CJ I e;refine⟨vs,r,hd,b,o,es,ep,h1,h2,d,c,λq U=>?_,Y⟩
 obtain⟨x,J,e1,e2⟩:=xf r q U;rw[<- e1,<- e2];exact qL I (z x J)
def dic_ty(I:B6 X B4 σ H s)(e:H a=a_ (oz a xs ep)):s.TypeIs (.ref a) "dict"/\(∀b,w_ a=.ref b->∃J,s.heap.get? b=a_ J/\J.dict=g_):=by obtain⟨_,_,_,_,_,o,_,h1,h2,_⟩:=CJ I e;exact⟨⟨o,h1,h2.1⟩,λc q=>by cases q;exact⟨o,h1,h2.2.1⟩⟩
def yf{vs:List (aj×i_×h_)}(dd:h.DictOfH (AO P w) a vs)(r:HI iQ xs vs)(hd:(a==Fm)=c_)(J:xs.length<=n_):∃ep,pA h a xs ep:=by obtain⟨o,es,ep,h1,h2,b,Y,_,U⟩:=dd;exact⟨ep,vs,r,hd,J,U,o,es,h1,h2,b,Y⟩
end
def sPut(K:Fg)(td ty tv:TE):TS:=λD σ H=>tv σ H λv H1=>td σ H1 λx H2=>ty σ H2 λy J=>∃a b k xs ep,x=.ref a/\y=.ref b/\J a=a_ (oz a xs ep)/\ou K J xs/\SqT K J b (k.map V.int)/\xs.length<n_/\∀ep',D.nx σ (upd J a (oz a (putR xs k b v) ep'))
def tGet2(K:Fg)(td ty tx:TE):TE:=λσ H Q=>td σ H λx H1=>∃a xs ep,x=.ref a/\H1 a=a_ (oz a xs ep)/\ty σ H1 λy H2=>tx σ H2 λz J=>∃b k,y=.ref b/\J a=a_ (oz a xs ep)/\ou K J xs/\SqT K J b (k.map V.int)/\Q ((uf xs k).getD z) J
def tNewK:TE:=λ_ H Q=>∀p,H p=g_->Q (.ref p) (upd H p (oz p [] 0))
section
variable{o i f:EM}{ty tx:TE}
def uB(h:Eg)(J:Fm<h.objs.size):pA (h.push {cls:=.type "dict",data:=.dict #[]}) h.objs.size [] 0:=
 ⟨[],.nil,GB.mpr (Em (Dx J)),E1 _,OC,_,#[],l_ _ rfl,⟨rfl,rfl,rfl⟩,rfl,rfl⟩
def pe_newK:PE X (.Dict [] [] pos) tNewK:=λB4 s σ H Q I h=>Pf ⟨.ref s.heap.objs.size,_,I.laid (a:=s.heap.objs.size) (o:=oz s.heap.objs.size [] 0) (t':=s.toks) (λ_ _ q=>d_ _ q) (t_ _) (we (uB s.heap I.big)),rfl,h _ (I.hok.fresh (t_ _))⟩
def B6.dic{s:k_}{xs ys:List jd}{t':Nat}(I:B6 X B4 σ H s)(e:H a=a_ (oz a xs ep))(J:FN a s.heap h')(z:pA h' a ys ep'):B6 X B4 σ (upd H a (oz a ys ep')) {s with heap:=h',toks:=t'}:=
 I.write (x:=a) (e:=a) (by rw[e];exact Hu) (.inl rfl) (λc q U w=>(J.2 c U).trans w) (let ⟨_,_,_,_,_,o,_,w,_⟩:=z;⟨o,w⟩) (we z)
def ps_put(w:X.A.units+1<Ez)(B:PE X o td)(hi:PE X i ty)(hv:PE X value tv)(A:Fd value (a_ (.Subscript o i pos')) pos.line X.env=Ff c_):PS X (.Assign [.Subscript o i pos'] value pos) (sPut X.K td ty tv):=by
 intro B4 s σ H D I h;refine Nh (HH (hv B4 s σ H _ I h) λr g J=>?_) A;obtain⟨v,H1,G,m,q1⟩:=J;refine HH (B B4 g σ H1 _ G q1) λu f J=>?_;obtain⟨x,H2,F,l,q2⟩:=J;refine HH (hi B4 f σ H2 _ F q2) λp K J=>?_;obtain⟨y,N,d,j,a,b,k,xs,ep,ex,E,ea,C,t,L,n⟩:=J;subst ex E;cases(show u=w_ a from l);cases(show p=w_ b from j);obtain⟨vs,e,hd,q,dd⟩:=CK d ea C;have U:vs.length<=n_:=by rw[<- IF e];exact q
 refine OD (hsz:=U) (OH w) (qL d t) dd λh' c Y=>?_;obtain⟨ep',z⟩:=yf c (mx m e) hd (by have:=nu xs k b v;omega);exact⟨σ,_,d.dic ea Y z,n ep'⟩
def pe_get2(v:X.A.units+1<Ez)(A:PE X o td)(D:PE X e ty)(C:PE X f tx)(m:M2 X o "get" apos e f cpos):PE X (.Call (.Attribute o "get" apos) [e,f] [] cpos) (tGet2 X.K td ty tx):=by
 intro B4 s σ H Q I h;refine wpAny_Call_method m.base m.few m.line Lo LL PySem.F.type_dict_get (HH (A B4 s σ H _ I h) λu i w=>?_);obtain⟨x,H1,Y,n,a,xs,ep,ex,ea,q1⟩:=w;subst ex;cases(show u=w_ a from n);obtain⟨d,c⟩:=dic_ty Y ea;refine⟨d,c,?_⟩
 rw[m.trees];refine Jg rfl (JJ (GN (HH (D B4 i σ H1 _ Y q1) λr g ⟨y,H2,F,l,q2⟩=>GN (HH (C B4 g σ H2 _ F q2) λfv K ⟨z,G,U,j,b,k,E,J,B,t,q⟩=>Ku ?_))))
 subst E;cases(show r=w_ b from l);obtain⟨vs,p,hd,L,dd⟩:=CK U J B;exact call_meetsIn LL dd.typeIs PySem.F.entry_dict_get (PySem.F.args_dict_get_3 _ _ _) (meetsH_dict_get_default (AO X.prog X.w) a b hd fv) ⟨OH v,k,vs,qL U t,dd,_,G,U.tok _,(qW p).getD j,q⟩
end
def nB:A'->M aj
 |.tup ds=>bD ds|_=>stk
noncomputable def kT(ρ:aa)(i:Nat):M (List (aj×A')):=match ρ[i]? with
 |some (a_ (.dic ks))=>.ok ks|_=>.error .stuck
def yT(i:Nat)(fk fv:aa->M A'):aa->M C':=λρ=>(fv ρ).bind λd=>(kT ρ i).bind λks=>(fk ρ).bind λJ=>(nB J).bind λk=>if (fN d&&z_ (ks.length<n_))=e_ then .ok (.nx (ρ.set i (a_ (.dic (j9 ks k d)))))else .error .stuck
noncomputable def vQ:A'->Bool
 |.dic _=>e_|_=>c_
def zS:A'->A'->A'->M A'
 |.dic ks,J,x=>(nB J).bind λk=>.ok ((vV ks k).getD x)|_,_,_=>stk
def oU(fd fk fx:aa->M A'):aa->M A':=λρ=>(fd ρ).bind λd=>if vQ d=e_ then(fk ρ).bind λk=>(fx ρ).bind λx=>zS d k x else stk
def mD{e:Err}(h:nB d=.error e):e=.stuck:=by
 cases d with
 |tup ds=>exact dA h|_=>cases h;rfl
def rJ{v:V}{k:aj}(h:nB d=.ok k)(q:aU K F d v):∃b,v=.ref b/\SqT K F b (k.map V.int):=by
 cases d with
 |tup ds=>obtain⟨b,xs,e,t,z⟩:=q;have:=dw z h;subst this;exact⟨b,e,t⟩
 |_=>cases h
section
variable{W:cn}{fd fx:aa->M A'}{Q:VK}
def kg{ks:List (aj×A')}(h:kT ρ i=.ok ks):ρ[i]?=a_ (a_ (.dic ks)):=by
 unfold kT at h;split at h
 .cases h;assumption
 .cases h
def uC{e:Err}(h:kT ρ i=.error e):e=.stuck:=by
 unfold kT at h;split at h
 .cases h
 .cases h;rfl
def rs_putD(hi:i∈O)(t:tS K W ro F0 H0 OL O O (yT i fk fv) D σ H):sPut K (Am i) (tD K W c_ fk) (tD K W c_ fv) D σ H:=by
 obtain⟨FB,F,ρ,r,p⟩:=t;refine aK r.gI r.dj (λe j=>p.fO (r.freeze (O2:=[]) ad).st (by unfold yT;rw[j];rfl)) λd hd v F1 H1 n q=>?_;have A:yT i fk fv ρ=(kT ρ i).bind λks=>(fk ρ).bind λY=>(nB Y).bind λk=>if (fN d&&z_ (ks.length<n_))=e_ then .ok (.nx (ρ.set i (a_ (.dic (j9 ks k d)))))else .error .stuck:=by unfold yT;rw[hd];rfl
 rw[A]at p;cases f:kT ρ i with
 |error e=>have:=uC f;subst this;exact p.stuck (by rw[f];rfl)|ok ks=>
  rw[f]at p;have p:ck K W ro F0 H0 FB OL O D ((fk ρ).bind λY=>(nB Y).bind λk=>if (fN d&&z_ (ks.length<n_))=e_ then .ok (.nx (ρ.set i (a_ (.dic (j9 ks k d)))))else .error .stuck):=p;have U:=r.eK n;obtain⟨B,e2,a,xs,ev,⟨ep,u⟩,_,_,z⟩:=U.ow i _ (kg f) hi;subst ev;refine⟨.ref a,e2,?_⟩
  refine aK U.gI U.dj (λe j=>p.fO (U.freeze (O2:=[]) ad).st (by rw[j];rfl)) λY s w F2 H2 c q2=>?_;rw[s]at p;have p:ck K W ro F0 H0 FB OL O D ((nB Y).bind λk=>if (fN d&&z_ (ks.length<n_))=e_ then .ok (.nx (ρ.set i (a_ (.dic (j9 ks k d)))))else .error .stuck):=p;cases J:nB Y with
  |error e=>have:=mD J;subst this;exact p.stuck (by rw[J];rfl)|ok k=>
   rw[J]at p;have p:ck K W ro F0 H0 FB OL O D (if (fN d&&z_ (ks.length<n_))=e_ then .ok (.nx (ρ.set i (a_ (.dic (j9 ks k d)))))else .error .stuck):=p;by_cases g:(fN d&&z_ (ks.length<n_))=e_
   .rw[s_ g]at p;simp only[r_,DX]at g;obtain⟨b,rfl,t⟩:=rJ J q2;have h:=U.eK c;have o:aU K (minus F1 (j8 O [] σ ρ)) d v:=aU.flat (r.jg n) g.1 q;have l:=z.mono (U.dQ c);have m:=U.jg c b _ t;exact⟨a,b,k,xs,ep,rfl,rfl,c.hh _ _ u,l.key.mono h.st.fh,h.st.fh.tup m,by rw[z.length];exact g.2,λep'=>p σ _ _ (h.wR hi (kg f) rfl e2 λy x=>⟨a,_,rfl,⟨ep',ak⟩,y,x,l.put m (o.mono (U.dQ c))⟩)⟩
   .rw[q_ g]at p;exact p.stuck rfl
def rd_getD(h:tD K W c_ (oU fd fk fx) σ H Q):tGet2 K (tD K W c_ fd) (tD K W c_ fk) (tD K W c_ fx) σ H Q:=by
 obtain⟨F,ρ,r,s,p⟩:=h;refine aK r s (λe i=>p.err (by unfold oU;rw[i];rfl)) λd hd x F1 H1 f q1=>?_;have C:oU fd fk fx ρ=if vQ d=e_ then(fk ρ).bind λk=>(fx ρ).bind λx=>zS d k x else stk:=by unfold oU;rw[hd];rfl
 rw[C]at p;cases d with
 |dic ks=>
  have p:aH K W c_ F H ((fk ρ).bind λk=>(fx ρ).bind λx=>zS (.dic ks) k x) Q:=p;obtain⟨a,xs,e,⟨ep,n⟩,z⟩:=q1;refine⟨a,xs,ep,e,f.fh _ _ n,?_⟩
  refine aK (r.mono f.ff) f.fh (λe i=>(p.step f).err (by rw[i];rfl)) λl A y F2 H2 j q2=>?_;rw[A]at p;have p:aH K W c_ F H ((fx ρ).bind λx=>zS (.dic ks) l x) Q:=p;have J:=f.trans j;refine aK (r.mono J.ff) J.fh (λe i=>(p.step J).err (by rw[i];rfl)) λc B w o D Y u=>?_;rw[B]at p;have p:aH K W c_ F H ((nB l).bind λk=>.ok ((vV ks k).getD c)) Q:=p;cases U:nB l with
  |error e=>rw[U]at p;have:=mD U;subst this;exact aH.stuck p|ok k=>
   rw[U]at p;obtain⟨b,rfl,t⟩:=rJ U q2;have g:=J.trans Y;have m:=(z.mono j.ff).mono Y.ff;refine⟨b,k,rfl,Y.hh _ _ (j.hh _ _ (f.fh _ _ n)),m.key.mono Y.fh,Y.fh.tup (Y.ff.tup t),p _ o D g ?_⟩
   show aU K o _ _;rcases m.at (k:=k)with⟨e1,e2⟩|⟨d,v,e1,e2,q⟩
   .rw[e1,e2];exact u
   .rw[e1,e2];exact q
 |_=>exact aH.stuck p
end
section
variable{W:cn}{o ex:EM}{fd fx:aa->M A'}
def CO:DE K W e_ X (.Dict [] [] pos) (fC (.dic [])):=pe_newK.imp λσ H Q h=>by obtain⟨F,ρ,r,s,q⟩:=h;exact λa J=>q (.ref a) F _ (B5.grow s J) ⟨a,[],rfl,⟨0,ak⟩,s.free J,J,rfl⟩
def rZ(e:X.A.units+64<Ez)(U:DE K W c_ X o fd)(b:DE K W c_ X ek fk)(a:DE K W c_ X ex fx)(d: ~~~(X.K=K))(c: ~~~(E5 o "get" X.env (DC o X.env)=DC o X.env))(hw: ~~~(((EG cpos (j_ [ek,ex] X.env)).all (λx=> !x.1)&&(Ir cpos (GZ [] X.env)).all (λx=>x.1.isSome)&&z_ (([ek,ex]:List EM).length+([]:List Io).length+(if ([]:List Io).isEmpty then 0 else 1)<30))=e_))(Y: ~~~((apos.endLine==cpos.line)=e_))(J: ~~~(EG cpos (j_ [ek,ex] X.env)=[(c_,DC ek X.env),(c_,DC ex X.env)])):DE K W c_ X (.Call (.Attribute o "get" apos) [ek,ex] [] cpos) (oU fd fk fx):=by subst d;exact(pe_get2 ac U b a ⟨c,hw,Y,J⟩).imp λ_ _ _=>rd_getD
def ds_putD(e:X.A.units+64<Ez)(a:DE K W c_ X ek fk)(b:DE K W c_ X ev fv)(Y:(i∈O)⁻¹)(c: ~~~(X.N[i]?=a_ x))(hv:autoParam (Vis X.env.scope x) Jq4)(hd:((x==("__debug__":Dy))=c_)⁻¹)(J:((x==("__classdict__":Dy))=c_)⁻¹)(d: ~~~(X.K=K))(U: ~~~(Fd ev (a_ (.Subscript (.Name x p) ek pos')) pos.line X.env=Ff c_)):DS K W ro X OL O O (.Assign [.Subscript (.Name x p) ek pos'] ev pos) (yT i fk fv):=λF0 H0=>by subst d;exact PS.imp (ps_put ac (pv i c hv hd J) a b U) λ_ _ _=>rs_putD Y
end
def tDisp1(K:Fg)(ty tv:TE):TE:=λσ H Q=>∀p,H p=g_->AN [(ty,tv)] σ (upd H p (oz p [] 0)) λps H2=>∃b k v,ps=[(.ref b,v)]/\H2 p=a_ (oz p [] 0)/\SqT K H2 b (k.map V.int)/\∀ep,Q (.ref p) (upd H2 p (oz p [(k,b,v)] ep))
section
variable{f:EM}{ty:TE}
def pe_disp1(l:X.A.units<Ez)(p:PE X e ty)(hv:PE X f tv):PE X (.Dict [a_ e] [f] pos) (tDisp1 X.K ty tv):=by
 intro B4 s σ H Q I q;have n:=I.hok.fresh (t_ s.z);have u:=I.laid (a:=s.z) (o:=oz s.z [] 0) (h':=s.heap.push {cls:=.type "dict",data:=.dict #[]}) (t':=s.toks) (λ_ _ q=>d_ _ q) (t_ _) (we (uB s.heap I.big));refine wpAny_Dict_any rfl rfl ad ad (HH (pps_cons p hv pps_nil B4 _ σ _ _ u (q _ n)) λw B m=>?_);obtain⟨ps,H2,c,J,b,k,v,ep,e2,t,q2⟩:=m;subst ep;cases J with
 |@cons x y xs ys r rs=>cases rs;obtain⟨d,A⟩:=y;obtain⟨h,g⟩:=r;cases(show d=w_ b from h);obtain⟨vs,i,hd,C,dd⟩:=CK c e2 (λx j=>nomatch j);cases i;unfold storeAll;rw[Jw];refine b_ (b_ (wpAny_dictSet_heap (hsz:=E1 _) (knd:=AO X.prog X.w) l (qL c t) dd λh' Y U=>f_ ?_));show o_ _ _ (forIn [] PUnit.unit _) _ _ _;rw[Iv];obtain⟨ep',z⟩:=yf Y (mx (xs:=[]) g .nil) hd (Ee (nu _ _ _ _) (show 1<=n_ by decide));exact f_ ⟨.ref s.z,_,c.dic e2 U z,rfl,q2 ep'⟩
end
def mkD1(J d:A'):M A':=(nB J).bind λk=>.ok (.dic [(k,d)])
def rd_disp1{W:cn}{Q:VK}(h:tD K W e_ (f2 mkD1 fa fb) σ H Q):tDisp1 K (tD K W c_ fa) (tD K W c_ fb) σ H Q:=by
 obtain⟨F,ρ,r,s,p⟩:=h;intro a f;have g:B5 F H F (upd H a (oz a [] 0)):=B5.grow s f;refine aK r g.fh (λe j=>(p.step g).err (by unfold f2;rw[j];rfl)) λl m x F1 H1 U q1=>?_;have i:=g.trans U;refine aK (r.mono U.ff) U.fh (λe j=>(p.step i).err (by unfold f2;rw[m];show(fb ρ).bind _=_;rw[j];rfl)) λd hd v F2 H2 J q2=>?_;have e:f2 mkD1 fa fb ρ=(nB l).bind λk=>.ok (.dic [(k,d)]):=by unfold f2;rw[m];show(fb ρ).bind _=_;rw[hd];rfl
 rw[e]at p;cases Y:nB l with
 |error e=>rw[Y]at p;have:=mD Y;subst this;exact aH.stuck p|ok k=>
  rw[Y]at p;obtain⟨b,rfl,t⟩:=rJ Y q1;have h2:H2 a=a_ (oz a [] 0):=J.hh _ _ (U.hh _ _ ak);have f2:F2 a=g_:=by
   cases e2:F2 a with
   |none=>rfl|some o=>
    rcases J.nw a o e2 with z|z
    .rcases U.nw a o z with z|z
     .rw[s.free f]at z;cases z
     .rw[ak]at z;cases z
    .rw[U.hh _ _ ak]at z;cases z
  refine⟨b,k,v,rfl,h2,J.fh.tup (J.ff.tup t),λep=>p (.ref a) F2 _ ⟨U.ff.trans J.ff,λc o z=>?_,λc o z=>?_,λc o z=>?_⟩ ⟨a,_,rfl,⟨ep,ak⟩,f2,f,b,v,[],rfl,J.ff.tup t,q2,rfl⟩⟩
  .rw[aq (az z f)];exact J.hh _ _ (U.hh _ _ (by rw[aq (az z f)];exact z))
  .rw[aq (az z f2)];exact J.fh _ _ z
  .exact(g.trans (U.trans J)).nw c o z
def de_disp1{W:cn}{f:EM}(a:X.A.units+64<Ez)(U:DE K W c_ X e fa)(J:DE K W c_ X f fb)(Y: ~~~(X.K=K)):DE K W e_ X (.Dict [a_ e] [f] pos) (f2 mkD1 fa fb):=by subst Y;exact(pe_disp1 ac U J).imp λ_ _ _=>rd_disp1
def sO(h:Eg)(d:i_)(es:Array FJ)(ep:Nat):Prop:=∃o,h.get? d=a_ o/\o.ExactDict/\o.data=.dict es ep
def sO.ty{s:k_}{d:i_}{es:Array FJ}(z:sO s.heap d es ep):s.TypeIs (.ref d) "dict":=let ⟨o,h,c,_⟩:=z;⟨o,h,c.1⟩
def sO.at{d:i_}{es:Array FJ}(z:sO h d es ep)(e:∀o,h.get? d=a_ o->h'.get? d=a_ o):sO h' d es ep:=let ⟨o,h,c⟩:=z;⟨o,e o h,c⟩
section
variable{s:k_}{d v q:i_}{es:Array FJ}
def zv(d:i_)(es:Array FJ)(ep:Nat)(hd:(d==Fm)=c_):MeetsIn prog w (Builtin.«dict.values» ⟨[.ref d],[]⟩) (λ_ R s=>sO s.heap d es ep/\R (.ok (.ret (.ref s.heap.objs.size))) {s with heap:=s.heap.push {cls:=.type "dict_values",data:=.fields #[.ref d]}}):=
 .of_wp λA R s ⟨z,h⟩=>by
  have J:Gj d=Ff ():=by unfold Gj;rw[hd];rfl
  refine b_ ?_;unfold Builtin.Dict.noArgs;refine b_ (NF z.ty ?_);show o_ _ _ (Ff d) _ _ s;refine f_ ?_;show o_ _ _ (Gj d >>= _) _ _ s;rw[J];exact b_ (f_ (b_ (DH (f_ ⟨_,rfl,h⟩))))
def zM{Q:Vp}(hv:s.heap.IsValuesView v d)(z:sO s.heap d es ep)(k:Q (.ref s.heap.objs.size) {s with heap:=s.heap.push {cls:=.type "dict_valueiterator",data:=.fields #[.ref d,.int 0 0,.int es.size 0,.int ep 0]}}):o_ (u_ prog w) A (Lw (.ref v)) Q E s:=by obtain⟨c,a,b,Y⟩:=id hv;obtain⟨od,U,e,J⟩:=z;refine Jj hv.typeIs KH (DU KH hv.typeIs PySem.F.entry_dict_values_iter ?_ (PySem.F.args_dict_values_iter_1 _));unfold Builtin.«dict_values.__iter__»;refine b_ (f_ (b_ ?_));unfold NO;refine b_ (E9 a Y (x:=.ref d) rfl (f_ (b_ ?_)));unfold NM;refine b_ (Hg U J (b_ (HB U J ?_)));simp only[show FQ "dict_valueiterator"=c_ by decide,Ec,Fy];exact DH (f_ ⟨_,rfl,"dict_valueiterator",_,⟨_,l_ _ rfl,rfl⟩,Fi.lookup,by simpa[EL] using k⟩)
def zt{e:FJ}(J:s.heap.IsValIter q d i es.size ep)(z:sO s.heap d es ep)(f:es[i]?=a_ e)(k:∀h',h'.IsValIter q d (i+1) es.size ep->FN q s.heap h'->Q (a_ e.val) {s with heap:=h'}):o_ (u_ prog w) A (Gv (.ref q)) Q E s:=by
 obtain⟨g,q1,q2,U⟩:=id J;obtain⟨od,c,h,b⟩:=z;unfold Gv;refine b_ (F_ (Ek (name:=Fq "__next__") J.typeIs Fi (DU Fi J.typeIs Jz ?_ (Js _))));refine b_ (f_ (b_ (b_ (b_ (GX J.typeIs (f_ ?_))))));refine b_ (GQ q1 U ?_);simp only[show FQ "dict_valueiterator"=c_ by decide,Ec,Fy];show o_ _ _ (if (w_ d==Er)=e_ then _ else _) _ _ s;rw[q_ (show ¬((w_ d==Er)=e_)from Dz)];refine b_ (f_ (b_ (Hg c b ?_)));rw[q_ ad];refine b_ (f_ (b_ (HB c b ?_)));rw[q_ ad];refine f_ ?_;simp only[show ¬((i:Int)<0)from by omega,Fy,E8,f];refine b_ (b_ (GX J.typeIs (f_ (b_ (J_ J.typeIs ?_)))));show o_ _ _ (Km (.ref q) 1 (EL ((i:Int)+1)) >>= _) _ _ s;refine b_ (ED q1 U ad ?_);have a:(s.heap.update q (Fn (·.setIfInBounds 1 (EL ((i:Int)+1))))).IsValIter q d (i+1) es.size ep:=⟨_,Ef _ q1 (F7 (Ft U _)),(IP ..).trans q2,by rw[Ft U];simp[EL]⟩
 have Y:GR {s with heap:=s.heap.update q (Fn (·.setIfInBounds 1 (EL ((i:Int)+1))))} (.ref q) "dict_valueiterator":=a.typeIs;refine b_ (Ex (b_ (J_ Y (b_ (J_ Y ?_)))));show o_ _ _ (Ff e.val) _ _ _;exact f_ (f_ ⟨_,rfl,f_ (k _ a (Ep ..))⟩)
def Cw(hh:A.handled=g_)(J:s.heap.IsValIter q d i es.size ep)(z:sO s.heap d es ep)(e:es.size<=i)(k:∀h',EY q s.heap h'->Q g_ {s with heap:=h'}):o_ (u_ prog w) A (Gv (.ref q)) Q E s:=by
 obtain⟨f,q1,q2,U⟩:=id J;obtain⟨od,c,g,Y⟩:=z;unfold Gv;refine b_ (F_ (Ek (name:=Fq "__next__") J.typeIs Fi (DU Fi J.typeIs Jz ?_ (Js _))));refine b_ (f_ (b_ (b_ (b_ (GX J.typeIs (f_ ?_))))));refine b_ (GQ q1 U ?_);simp only[show FQ "dict_valueiterator"=c_ by decide,Ec,Fy];show o_ _ _ (if (w_ d==Er)=e_ then _ else _) _ _ s;rw[q_ (show ¬((w_ d==Er)=e_)from Dz)];refine b_ (f_ (b_ (Hg c Y ?_)));rw[q_ ad];refine b_ (f_ (b_ (HB c Y ?_)));rw[q_ ad];refine f_ ?_;simp only[show ¬((i:Int)<0)from by omega,Fy,E8,Fh e];refine b_ (b_ (GX J.typeIs (f_ ?_)));show o_ _ _ (Km (.ref q) 0 .none >>= _) _ _ s;refine b_ (ED q1 U ad ?_);show o_ _ _ (Mg (.type "StopIteration") [] >>= _) _ _ _;refine b_ ?_;simp only[Mg,Me];refine b_ (DH (b_ (m:=IV _ _) (GD (a:=Er) (by first|rfl|(simp only[firstArgMember];rfl)) (DH ?_ (by size_fits)))) (by size_fits));simp only[Md];refine b_ (Jr ?_);first|rw[show A.in1.handled=g_ from hh]|rw[hh]
 refine b_ (f_ (Kk ?_));refine b_ (FF (T:="StopIteration") (b:=e_) ⟨_,l_ _ rfl,rfl⟩ IU ?_);exact f_ (k _ (((Ep ..).extBut.push _).push _))
end
def VwO(T:String)(p d:i_):HO:=.ext λh=>∃o,h.get? p=a_ o/\o.cls=.type T/\o.data=.fields #[.ref d]
def vw_obj{p d:i_}(z:∃o,h.get? p=a_ o/\o.cls=.type T/\o.data=.fields #[.ref d]):cz P w H h p (VwO T p d):=⟨z,let ⟨o,e,_⟩:=z;⟨o,e⟩,λ_ _ ⟨o,e,r⟩ k=>⟨o,k o e,r⟩⟩
def tView(T:String)(td:TE):TE:=λσ H Q=>td σ H λx H1=>∃a xs ep,x=.ref a/\H1 a=a_ (oz a xs ep)/\∀p,H1 p=g_->Q (.ref p) (upd H1 p (VwO T p a))
def rSumV:am->Hp->VK->Prop:=λvs H Q=>∃(p a:i_) (xs:List jd) (ep:Nat) (is:aj),vs=[.ref p]/\H p=a_ (VwO "dict_values" p a)/\H a=a_ (oz a xs ep)/\xs.map (·.2.2)=is.map V.int/\Q (.int is.sum) H
theorem Bd:∀{xs:List jd} {vs:List (aj×i_×h_)} {i:Nat} {e:FJ},HI iQ xs vs->(vs.map rowE)[i]?=a_ e->∃x,xs[i]?=a_ x/\e.key=.ref x.2.1/\D' x.2.2 e.val
 |_,_,_,_,.nil,h=>by simp at h|x::_,q::_,0,e,.cons r _,h=>by simp only[x_,LW,F8]at h;subst h;exact⟨x,rfl,by rw[r.2.1];rfl,r.2.2⟩|_::_,_::_,i+1,e,.cons _ t,h=>by obtain⟨x,h1,h2⟩:=Bd (i:=i) (e:=e) t (by simpa using h);exact⟨x,by simpa using h1,h2⟩
def pre_sum:∀is:aj,preSum (λi=>(is[i]?).getD 0) is.length=is.sum:=by
 have key:∀(is:aj) (n:Nat),n<=is.length->preSum (λi=>(is[i]?).getD 0) n=(is.take n).sum:=by
  intro is n
  induction n with
  |zero=>intro _;rfl|succ n J=>intro h;have U:n<is.length:=h;rw[preSum,J (NP h),List.take_succ,List.sum_append];simp[C_ U]
 intro is;rw[key is _ (t_ _),NQ]
def yF(hh:A.handled=g_)(q d:i_)(J:d≠q)(es:Array FJ)(ep:Nat):Mj prog w A q [q,d] [q] es.size (λi v=>∃e,es[i]?=a_ e/\v=e.val) (λi h=>h.IsValIter q d i es.size ep/\sO h d es ep) where
 sub:=λb Y=>by simp at Y;simp[Y]
 frame:=λ_ _ _ st k=>⟨let ⟨o,e,r⟩:=st.1;⟨o,k q ad o e,r⟩,st.2.at λo e=>k d ad o e⟩
 item:=λi s Q E hi st k=>zt st.1 st.2 (e:=es[i]) (by simp[hi]) λh' z b=>k _ h' s.toks ⟨_,by simp[hi],rfl⟩ ⟨z,st.2.at λo e=>(b.2 d J).trans e⟩ λc o U e=>b.extBut c o (λz=>U (by simp[z])) e
 done:=λs Q E st k=>Cw hh st.1 st.2 (t_ _) λh' b=>k h' s.toks λc o U e=>b c o (λz=>U (by simp[z])) e
 self:=λ_ _ _ _ st k=>wpAny_pyIter_valiter st.1 k
section
variable{s:k_}{xs:List jd}{o:EM}
def raw_of(I:B6 X B4 σ H s)(e:H a=a_ (oz a xs ep)):∃(vs:List (aj×i_×h_)) (es:Array FJ),HI iQ xs vs/\(a==Fm)=c_/\xs.length<=n_/\sO s.heap a es ep/\es.toList=vs.map rowE/\es.size=xs.length:=by obtain⟨vs,r,hd,U,b,u,es,h1,h2,Y,J⟩:=CJ I e;exact⟨vs,es,r,hd,U,⟨u,h1,h2,Y⟩,J,by rw[<- DO,J,y_,IF r]⟩
def pe_vals(e:PE X o td)(g: ~~~(E5 o "values" X.env (DC o X.env)=DC o X.env))(f: ~~~((apos.endLine==cpos.line)=e_)):PE X (.Call (.Attribute o "values" apos) [] [] cpos) (tView "dict_values" td):=by
 intro B4 s σ H Q I h;refine wpAny_Call_method0_late g f (HH (e B4 s σ H _ I h) λv J d=>?_);obtain⟨x,H1,U,c,a,xs,ep,ex,ea,q1⟩:=d;subst ex;cases(show v=w_ a from c);obtain⟨Y,b⟩:=dic_ty U ea;obtain⟨vs,es,_,hd,_,z,_⟩:=raw_of U ea;exact⟨"dict","dict.values",Lo,Lg,PySem.F.type_dict_values,Y,b,Jg rfl (PySem.evalArgs_none (call_meetsIn Lg Y PySem.F.entry_dict_values (PySem.F.args_dict_values_1 _) (zv a es ep hd)
  ⟨z,.ref J.z,_,U.laid (a:=J.z) (o:=VwO "dict_values" J.z a) (t':=J.toks) (λ_ _ q=>d_ _ q) (t_ _) (vw_obj ⟨_,l_ _ rfl,rfl,rfl⟩),rfl,q1 _ (U.hok.fresh (t_ _))⟩))⟩
def D7(C:X.calm=e_):cK X (.builtin "sum") rSumV:=by
 intro B4 s σ H vs us Q I r h;obtain⟨p,a,xs,ep,is,rfl,w,D,hi,q⟩:=h;obtain⟨u,rfl,l⟩:=r.one;cases(show u=w_ p from l);obtain⟨vs,es,m,hd,F,z,B,hsz⟩:=raw_of I D;have hv:s.heap.IsValuesView p a:=(show(∃o,s.heap.get? p=a_ o/\o.cls=.type "dict_values"/\o.data=.fields #[.ref a])/\_ from I.hok p _ w).1;have g:a<s.z:=let ⟨o,e,_⟩:=z;mf e;have y:is.length=es.size:=by rw[hsz,<- y_ (f:=λx:jd=>x.2.2),hi,y_]
 refine O3 (zM hv z ⟨_,_,_,_,_,_,_,λi=>(is[i]?).getD 0,rfl,(yF (A:=X.A.in1) (I.ok.hd C) s.z a (Dx g) es ep).toS,⟨⟨_,l_ _ rfl,rfl,rfl⟩,z.at λo e=>d_ _ e⟩,λb Y=>?_,λi v E=>?_,λs' t' U=>?_⟩)
 .show b<(s.heap.push _).objs.size;rw[DZ];simp only[p_,DK,FO]at Y;rcases Y with rfl|rfl
  .exact Fz _
  .exact Gg g
 .obtain⟨e,h1,rfl⟩:=E;obtain⟨x,h2,_,k⟩:=Bd (i:=i) (e:=e) m (by rw[<- B];simpa using h1);have J:(xs.map (·.2.2))[i]?=a_ x.2.2:=by rw[El,h2];rfl
  rw[hi,El]at J;cases d:is[i]? with
  |none=>rw[d]at J;cases J|some j=>
   rw[d]at J;have e4:V.int j=x.2.2:=by simpa using J
   rw[<- e4]at k;obtain⟨t,e⟩:=(show ∃t,e.val=Hv j t from k)
   exact⟨t,by simp only[d];exact e⟩
 .obtain⟨h',g',d',c,n⟩:=s';have e1:=U.gens;have e2:=U.drawn;have e3:=U.os;have e4:=U.heap;simp only at e1 e2 e3;subst e1 e2 e3;refine⟨.int _,H,I.kept (t':=c) λb o e=>e4 b o (λY=>?_) (d_ _ e),⟨t',rfl⟩,?_⟩
  .have:b=s.z:=by simpa using Y
   exact DD (mf e) (by rw[this];exact EB _)
  .rw[<- y,pre_sum];exact q
end
def AU:A'->M A'
 |.dic ks=>(bD (ks.map (·.2))).bind λis=>.ok (.int is.sum)|_=>stk
theorem bO.vals{K:Fg}{F:Hp}:∀{ks:List (aj×A')} {xs:List jd},bO K F ks xs->ax K F (ks.map (·.2)) (xs.map (·.2.2))
 |[],_,h=>by rw[show _=[]from h];rfl|(k,d)::ks,_,⟨b,v,r,e,t,q,z⟩=>by subst e;exact⟨v,_,rfl,q,bO.vals z⟩
section
variable{W:cn}{fd:aa->M A'}
def rd_sumV{Q:VK}(h:tD K W c_ (f1 AU fd) σ H Q):tCB rSumV (gT (tView "dict_values" (tD K W c_ fd)) wX) σ H Q:=by
 obtain⟨F,ρ,r,s,p⟩:=h;refine aK r s (λe b=>p.err (by unfold f1;rw[b];rfl)) λd hd x F1 H1 J q1=>?_;have z:f1 AU fd ρ=AU d:=by unfold f1;rw[hd];rfl
 rw[z]at p;cases d with
 |dic ks=>
  obtain⟨a,xs,e,⟨ep,U⟩,Y⟩:=q1;have p:aH K W c_ F H ((bD (ks.map (·.2))).bind λis=>.ok (.int is.sum)) Q:=p;cases hi:bD (ks.map (·.2))with
  |error e=>rw[hi]at p;have:=dA hi;subst this;exact aH.stuck p|ok is=>rw[hi]at p;exact⟨a,xs,ep,e,J.fh _ _ U,λv hv=>⟨v,a,xs,ep,is,rfl,ak,by rw[aq (az (J.fh _ _ U) hv)];exact J.fh _ _ U,dw Y.vals hi,p (.int is.sum) F1 _ (J.trans (B5.grow J.fh hv)) rfl⟩⟩
 |_=>exact aH.stuck p
end
section
variable{W:cn}{o:EM}{fd:aa->M A'}
def de_sumV(d:X.calm=e_)(a:X.mg "sum"=g_)(b:DE K W c_ X o fd)(e: ~~~(E5 o "values" X.env (DC o X.env)=DC o X.env))(Y: ~~~((apos.endLine==cpos.line)=e_))(c: ~~~(Gl X "sum"))(J: ~~~(j_ [.Call (.Attribute o "values" apos) [] [] cpos] X.env=(c_,DC (.Call (.Attribute o "values" apos) [] [] cpos) X.env)::j_ [] X.env))(U: ~~~((EG pos (j_ [] X.env)).any (·.1)=c_)):
  DE K W c_ X (.Call (.Name "sum" p) [.Call (.Attribute o "values" apos) [] [] cpos] [] pos) (f1 AU fd):=
 (gd (D7 d) c a boot_sum (aN (pe_vals b e Y) bR J) ag ag J U).imp λ_ _ _=>rd_sumV
end
section
variable{fd fx:aa->M A'}
@[simp]def e_getD:oU fd fk fx ρ=(fd ρ).bind λd=>if vQ d=e_ then(fk ρ).bind λk=>(fx ρ).bind λx=>zS d k x else stk:=id rfl
@[simp]def e_getDD(ks:List (aj×A'))(J x:A'):zS (.dic ks) J x=(nB J).bind λk=>.ok ((vV ks k).getD x):=id rfl
end
section
open PySem
end
theorem bO.fold{K:Fg}{F:Hp}:∀{ps acc:List (aj×A')} {xs J:List jd},bO K F ps xs->bO K F acc J->bO K F (ps.foldl (λa p=>j9 a p.1 p.2) acc) (xs.foldl (λa x=>putR a x.1 x.2.1 x.2.2) J)
 |[],_,_,_,h,z=>by rw[show _=[]from h];exact z|(k,d)::ps,_,_,_,⟨b,v,r,e,t,q,y⟩,z=>by subst e;rw[D_,D_];exact bO.fold y (z.put t q)
section
variable{s:k_}{d q:i_}{es:Array FJ}
def zN{Q:Vp}(hd:(d==Fm)=c_)(z:sO s.heap d es ep)(k:Q (.ref s.heap.objs.size) {s with heap:=s.heap.push {cls:=.type "dict_keyiterator",data:=.fields #[.ref d,.int 0 0,.int es.size 0,.int ep 0]}}):o_ (u_ prog w) A (Lw (.ref d)) Q E s:=by
 have ty:=z.ty;have Y:Gj d=Ff ():=by unfold Gj;rw[hd];rfl
 obtain⟨od,U,a,J⟩:=z;refine Jj ty LF (DU LF ty PySem.F.entry_dict_iter ?_ (PySem.F.args_dict_iter_1 _));unfold Builtin.«dict.__iter__»;refine b_ ?_;unfold Builtin.Dict.dictSlotNone;refine b_ (NF ty ?_);show o_ _ _ (Ff (w_ d)) _ _ s;refine f_ ?_;show o_ _ _ (Gj d >>= _) _ _ s;rw[Y];refine b_ (f_ (b_ (Hg U J (b_ (HB U J ?_)))));exact b_ (DH (f_ ⟨_,rfl,"dict_keyiterator",_,⟨_,l_ _ rfl,rfl⟩,Fo.lookup,by simpa[EL] using k⟩))
def zu{e:FJ}(J:s.heap.IsKeyIter q d i es.size ep)(z:sO s.heap d es ep)(f:es[i]?=a_ e)(k:∀h',h'.IsKeyIter q d (i+1) es.size ep->FN q s.heap h'->Q (a_ e.key) {s with heap:=h'}):o_ (u_ prog w) A (Gv (.ref q)) Q E s:=by
 obtain⟨g,q1,q2,U⟩:=id J;obtain⟨od,b,h,a⟩:=z;unfold Gv;refine b_ (F_ (Ek (name:=Fq "__next__") J.typeIs Fo (DU Fo J.typeIs JM ?_ (JI _))));refine b_ (f_ (b_ (b_ (b_ (GY J.typeIs (f_ ?_))))));refine b_ (GQ q1 U ?_);simp only[show FQ "dict_keyiterator"=c_ by decide,Ec,Fy];show o_ _ _ (if (w_ d==Er)=e_ then _ else _) _ _ s;rw[q_ (show ¬((w_ d==Er)=e_)from Dz)];refine b_ (f_ (b_ (Hg b a ?_)));rw[q_ ad];refine b_ (f_ (b_ (HB b a ?_)));rw[q_ ad];refine f_ ?_;simp only[show ¬((i:Int)<0)from by omega,Fy,E8,f];refine b_ (b_ (GY J.typeIs (f_ (b_ (NG J.typeIs ?_)))));show o_ _ _ (Km (.ref q) 1 (EL ((i:Int)+1)) >>= _) _ _ s;refine b_ (ED q1 U ad ?_);have Y:(s.heap.update q (Fn (·.setIfInBounds 1 (EL ((i:Int)+1))))).IsKeyIter q d (i+1) es.size ep:=⟨_,Ef _ q1 (F7 (Ft U _)),(IP ..).trans q2,by rw[Ft U];simp[EL]⟩
 have c:GR {s with heap:=s.heap.update q (Fn (·.setIfInBounds 1 (EL ((i:Int)+1))))} (.ref q) "dict_keyiterator":=Y.typeIs;refine b_ (Ex (b_ (NG c ?_)));show o_ _ _ (Ff e.key) _ _ _;exact f_ (f_ ⟨_,rfl,f_ (k _ Y (Ep ..))⟩)
def Cy(hh:A.handled=g_)(J:s.heap.IsKeyIter q d i es.size ep)(z:sO s.heap d es ep)(e:es.size<=i)(k:∀h',EY q s.heap h'->Q g_ {s with heap:=h'}):o_ (u_ prog w) A (Gv (.ref q)) Q E s:=by
 obtain⟨f,q1,q2,U⟩:=id J;obtain⟨od,c,g,Y⟩:=z;unfold Gv;refine b_ (F_ (Ek (name:=Fq "__next__") J.typeIs Fo (DU Fo J.typeIs JM ?_ (JI _))));refine b_ (f_ (b_ (b_ (b_ (GY J.typeIs (f_ ?_))))));refine b_ (GQ q1 U ?_);simp only[show FQ "dict_keyiterator"=c_ by decide,Ec,Fy];show o_ _ _ (if (w_ d==Er)=e_ then _ else _) _ _ s;rw[q_ (show ¬((w_ d==Er)=e_)from Dz)];refine b_ (f_ (b_ (Hg c Y ?_)));rw[q_ ad];refine b_ (f_ (b_ (HB c Y ?_)));rw[q_ ad];refine f_ ?_;simp only[show ¬((i:Int)<0)from by omega,Fy,E8,Fh e];refine b_ (b_ (GY J.typeIs (f_ ?_)));show o_ _ _ (Km (.ref q) 0 .none >>= _) _ _ s;refine b_ (ED q1 U ad ?_);show o_ _ _ (Mg (.type "StopIteration") [] >>= _) _ _ _;refine b_ ?_;simp only[Mg,Me];refine b_ (DH (b_ (m:=IV _ _) (GD (a:=Er) (by first|rfl|(simp only[firstArgMember];rfl)) (DH ?_ (by size_fits)))) (by size_fits));simp only[Md];refine b_ (Jr ?_);first|rw[show A.in1.handled=g_ from hh]|rw[hh]
 refine b_ (f_ (Kk ?_));refine b_ (FF (T:="StopIteration") (b:=e_) ⟨_,l_ _ rfl,rfl⟩ IU ?_);exact f_ (k _ (((Ep ..).extBut.push _).push _))
end
section
open PySem.W hiding kindOf
variable{key:Nat->Int}
def Srt(key:Nat->Int)(l:aF):Prop:=l.Pairwise λx y=>key x<=key y
structure MI(key:Nat->Int)(all out xs ys:aF):Prop where
 perm:(out++(xs++ys)).Perm all
 so:Srt key out
 sx:Srt key xs
 sy:Srt key ys
 ox:∀x∈out,∀y∈xs,key x<=key y
 oy:∀x∈out,∀y∈ys,key x<=key y
def MI.left{Y out u xs ys:aF}(h:MI key Y out (u++xs) ys)(d:∀a∈u,∀y∈ys,key a<=key y):MI key Y (out++u) xs ys:=by
 obtain⟨h1,h2,b,g,c,f⟩:=h;unfold Srt at *;rw[JO]at b;refine⟨by rw[E4,<- E4 u];exact h1,?_,b.2.1,g,λx U y J=>?_,λx U y J=>?_⟩
 .exact JO.mpr ⟨h2,b.1,λx U y J=>c x U y (HZ _ J)⟩
 .rcases FR.mp U with e|e
  .exact c x e y (EA _ J)
  .exact b.2.2 x e y J
 .rcases FR.mp U with e|e
  .exact f x e y J
  .exact d x e y J
def qB(st J:Mu):Prop:=∃g,J=My (kindOf st) (arrOf st) (Ij st) g (Mr st)
def qB.trans{a b c:Mu}(h:qB a b)(k:qB b c):qB a c:=by obtain⟨g,rfl⟩:=h;obtain⟨g',rfl⟩:=k;exact⟨g',rfl⟩
def qB.kind{a b:Mu}(h:qB a b):kindOf b=kindOf a:=by obtain⟨g,rfl⟩:=h;rfl
end
section
open PySem.W hiding kindOf
variable{κ:Oj}{f:Nat->Keyed}
structure SS(κ:Oj)(f:Nat->Keyed)(n:Nat)(st:Mu)(p:aF):Prop where
 kind:kindOf st=κ
 ok:Mr st=g_
 arr:arrOf st=(p.map f).toArray
 perm:p.Perm (DR n)
end
section
open PySem.W hiding kindOf
variable{key:Nat->Int}
noncomputable def kG(key:Nat->Int)(p:aF)(i:Nat):Int:=key (p.getD i 0)
def Sg(key:Nat->Int)(p:aF)(lo hi:Nat):Prop:=∀i j,lo<=i->i<=j->j<hi->kG key p i<=kG key p j
def Dg(key:Nat->Int)(p:aF)(lo hi:Nat):Prop:=∀i j,lo<=i->i<=j->j<hi->kG key p j<=kG key p i
def Fx(lo:Nat)(p J:aF):Prop:=∀i,i<lo->J.getD i 0=p.getD i 0
theorem Fx.trans{lo:Nat}{p q r:aF}(h:Fx lo p q)(k:Fx lo q r):Fx lo p r:=λi hi=>(k i hi).trans (h i hi)
def Sg.step{p:aF}{lo:Nat}(h:Sg key p lo (lo+m))(h1:1<=m)(b:¬kG key p (lo+m)<kG key p (lo+m-1)):Sg key p lo (lo+(m+1)):=λi j hi U c=>by
 by_cases J:j<lo+m
 .exact h i j hi U J
 .have a:j=lo+m:=ac
  subst a;by_cases Y:i=lo+m
  .subst Y;exact GP _
  .have:=h i (lo+m-1) hi ac ac;omega
def Dg.step{p:aF}{lo:Nat}(h:Dg key p lo (lo+m))(h1:1<=m)(b:kG key p (lo+m)<=kG key p (lo+m-1)):Dg key p lo (lo+(m+1)):=λi j hi U c=>by
 by_cases J:j<lo+m
 .exact h i j hi U J
 .have a:j=lo+m:=ac
  subst a;by_cases Y:i=lo+m
  .subst Y;exact GP _
  .have:=h i (lo+m-1) hi ac ac;omega
end
section
open PySem.W hiding kindOf
variable{s:k_}{κ:Oj}{f:Nat->Keyed}{key:Nat->Int}
noncomputable def mkP:Nat->List (aF×Nat)->List (Nat×Nat×Nat)
 |_,[]=>[]|a,(l,w)::r=>(a,l.length,w)::mkP (a+l.length) r
noncomputable def flt(gs:List (aF×Nat)):aF:=(gs.map HX).flatten
def flt_cons(g:aF×Nat)(y:List (aF×Nat)):flt (g::y)=g.1++flt y:=by simp[flt]
theorem vK:∀(x:List (aF×Nat)) (a:Nat) (y:List (aF×Nat)),mkP a (x++y)=mkP a x++mkP (a+(flt x).length) y
 |[],a,y=>by simp[mkP,flt]|(l,w)::x,a,y=>by
  show(a,l.length,w)::mkP (a+l.length) (x++y)=(a,l.length,w)::(mkP (a+l.length) x++_)
  rw[vK x,flt_cons,Eb,Kf]
theorem vJ:∀(x:List (aF×Nat)) (a:Nat),(mkP a x).length=x.length
 |[],_=>rfl|(l,w)::x,a=>by simp[mkP,vJ x]
structure RI(κ:Oj)(f:Nat->Keyed)(key:Nat->Int)(n:Nat)(st:Mu)(gs:List (aF×Nat))(rest:aF):Prop where
 ss:SS κ f n st (flt gs++rest)
 pd:Ij st=(mkP 0 gs).toArray
 ok:∀g∈gs,Srt key g.1/\0<g.1.length
theorem RI.size{st:Mu}{gs:List (aF×Nat)}{rest:aF}(h:RI κ f key n st gs rest):(Ij st).size=gs.length:=by rw[h.pd];simp[vJ]
def rePw(J:Nat):Nat×Nat×Nat->Nat×Nat×Nat
 |(s,l,_)=>(s,l,J)
def RI.last{st:Mu}{gs:List (aF×Nat)}{rest:aF}{Y:Nat}(h:RI κ f key n st gs rest):∃U,U.length=gs.length/\flt U=flt gs/\RI κ f key n (setPending st ((Ij st).modify ((Ij st).size-1) (rePw Y))) U rest:=by
 by_cases e:gs=[]
 .subst e;refine⟨[],rfl,rfl,⟨h.ss.kind,h.ss.ok,h.ss.arr,h.ss.perm⟩,?_,h.ok⟩
  show(Ij st).modify ((Ij st).size-1) (rePw Y)=_;rw[h.pd];rfl
 .obtain⟨J,b,eb⟩:∃J b,gs=J++[b]:=⟨gs.dropLast,gs.getLast e,(List.dropLast_concat_getLast e).symm⟩
  subst eb;obtain⟨b,j⟩:=b;have a:flt (J++[(b,Y)])=flt (J++[(b,j)]):=by simp[flt]
  refine⟨J++[(b,Y)],ad,a,⟨h.ss.kind,h.ss.ok,?_,?_⟩,?_,λg l=>?_⟩
  .rw[a];exact h.ss.arr
  .rw[a];exact h.ss.perm
  .show(Ij st).modify ((Ij st).size-1) (rePw Y)=_;rw[h.size,h.pd,vK,vK];have k:=vJ J 0;apply Array.ext_getElem?;intro i;rw[Array.getElem?_modify];simp only[Eb,JB,Nat.add_sub_cancel,JC,mkP];by_cases c:J.length=i
   .subst c;rw[s_ rfl,<- k,Hc (t_ _),Hc (t_ _),Nat.sub_self];rfl
   .rw[q_ c];rcases Pw i J.length with d|d
    .rw[EO ac,EO ac]
    .rw[E2 (by simp;omega),E2 (by simp;omega)]
  .rcases FR.mp l with e|e
   .exact h.ok g (HZ _ e)
   .have:=ER.mp e;subst this;exact h.ok (b,j) ad
end
section
open PySem.W hiding kindOf
end
section
open PySem SetTable
end
section
open PySem
end
section
open PySem SetTable
end
section
open PySem.W
end
section
open PySem
structure IK(prog:EC)(w:Fe)(κ:Type)[HJ κ] where
 is:Eg->κ->h_->Prop
 hash:κ->Int
 draws:κ->Nat
 up:Nat
 fuel:Nat
 inj:∀{h:Eg} {v:h_} {x y:κ},is h x v->is h y v->x=y
 keeps:∀{h h':Eg} {k:κ} {v:h_},is h k v->(∀(a:i_) (o:H9) (us:Array h_) (n:Nat),h.get? a=a_ o->o.data=.seq us n->h'.get? a=a_ o)->is h' k v
 pyHash:∀{A:Fu} {E:Vp} {s:k_} {k:κ} {v:h_} {Q:Int->k_->Prop},A.units+up<Ez->is s.heap k v->Q (hash k) {s with toks:=s.toks+draws k}->o_ (u_ prog w) A (Ko v) Q E s
 eqBool:∀{A:Fu} {E:Vp} {s:k_} {x y:κ} {u v:h_} {Q:Bool->k_->Prop},A.units+up<Ez->is s.heap x u->is s.heap y v->Q (z_ (x=y)) s->o_ (u_ prog w) A (Ig u v) Q E s
 quiet:∀{A:Fu} {E:Vp} {s:k_} {k:κ} {v:h_} {Q:Bool->k_->Prop} (n:Nat),fuel<=n->is s.heap k v->Q e_ s->o_ (u_ prog w) A (MZ n v) Q E s
variable{s:k_}
def TupAt(h:Eg)(a:i_)(us:as):Prop:=∃o n,h.get? a=a_ o/\o.cls=.type "tuple"/\o.data=.seq us.toArray n
def TupAt.ty(h:TupAt s.heap a us):s.TypeIs (.ref a) "tuple":=let ⟨o,_,J,U,_⟩:=h;⟨o,J,U⟩
def TupAt.inj{h:Eg}{a:i_}{us vs:as}(x:TupAt h a us)(y:TupAt h a vs):us=vs:=by
 obtain⟨o,n,Y,_,hd⟩:=x;obtain⟨o',b,U,_,J⟩:=y;have e:=DV (Y.symm.trans U);subst e;rw[hd]at J;injection J with h1 _
 simpa using h1
def TupAt.keep(x:TupAt h a us)(k:∀(a:i_) (o:H9) (us:Array h_) (n:Nat),h.get? a=a_ o->o.data=.seq us n->h'.get? a=a_ o):TupAt h' a us:=
 let ⟨o,n,J,U,hd⟩:=x;⟨o,n,k _ _ _ _ J hd,U,hd⟩
inductive Hs(prog:EC)(w:Fe)(A:Fu)(h:Eg):List h_->List Int->Nat->Prop
 |nil:Hs prog w A h [] [] 0
 |cons {v:h_} {vs:List h_} {i:Int} {is:List Int} {d n:Nat} (hv:∀(E:Vp) (s:k_) (Q:Int->k_->Prop),s.heap=h->Q i {s with toks:=s.toks+d}->o_ (u_ prog w) A (Ko v) Q E s) (r:Hs prog w A h vs is n):Hs prog w A h (v::vs) (i::is) (d+n)
theorem xO{is:aj}{Q:Int->k_->Prop}(p:A.units<Ez)(g:TupAt s.heap a us)(hi:Hs prog w A.in1 s.heap us is n)(h:Q (IT (Ei is)) {s with toks:=s.toks+(n+1)}):
  o_ (u_ prog w) A (Ko (.ref a)) Q E s:=by
 have Y:=g.ty;obtain⟨o,m,q,_,hd⟩:=g;unfold Ko
 first|unfold pyHashByItsType|skip
 first|refine b_ (wpAny_cRoomFor_or (.inr p) ?_)|skip
 refine b_ (HA Y IZ.lookup ?_);show o_ _ _ (ite ((a_ (Hm "tuple.__hash__")==a_ Er)=e_) _ _) Q E s;rw[q_ (by rw[beq_builtin_none];exact Dz)];refine b_ (HA Y IZ.lookup ?_);show o_ _ _ (callSpecialIfBoundUnlessNone? (.ref a) "__hash__" _ >>= _) Q E s;refine b_ (wpAny_callSpecialIfBoundUnlessNone?_slot Y IZ (DU IZ Y F.entry_tuple_hash ?_ (F.args_tuple_hash_1 _)));show o_ _ _ (Kc (.ref a) >>= _) _ _ s;refine b_ (HE q hd ?_);refine b_ ?_;rw[<- MV];refine JE _ (λrest (b:Array Int) s'=>∃J m k,Hs prog w A.in1 s.heap rest J m/\b.toList++J=is/\k+m=n/\s'={s with toks:=s.toks+k}) _ ?_ ?_ _ _ ⟨is,n,0,hi,rfl,ac,rfl⟩
 .rintro x rest b s' ⟨J,m,k,e,U,t,rfl⟩;cases e with
  |@cons _ _ i c d l hv r=>refine b_ (hv _ _ _ rfl (f_ ⟨c,l,k+d,r,by rw[<- U];simp,ac,?_⟩));simp[Kf]
 .rintro b s' ⟨J,m,k,e,U,t,rfl⟩;cases e;rw[Fc]at U;have f:k=n:=ac
  subst f;show o_ _ _ (retInt (Ei b.toList)) _ _ _;rw[U];refine wpAny_ret_mkInt ?_;refine(?_:o_ _ _ (ite ((z_ (-(2:Int)^63<=Ei is)&&z_ (Ei is<2^63))=e_) _ _) Q E _)
  unfold IT at h;by_cases j:(z_ (-(2:Int)^63<=Ei is)&&z_ (Ei is<2^63))=e_
  .rw[s_ j]at h ⊢;exact f_ (by simpa[Kf] using h)
  .rw[q_ j]at h ⊢;exact b_ (G2 (f_ (by simpa[Kf] using h)))
inductive Es(prog:EC)(w:Fe)(A:Fu)(h:Eg):List h_->List h_->Bool->Prop
 |nil {us vs:List h_} (e:us=[]\/vs=[]):Es prog w A h us vs e_
 |cons {u v:h_} {us vs:List h_} {b c:Bool} (hv:∀(E:Vp) (s:k_) (Q:Bool->k_->Prop),s.heap=h->Q b s->o_ (u_ prog w) A (Ig u v) Q E s) (r:Es prog w A h us vs c):Es prog w A h (u::us) (v::vs) (b&&c)
def w9{c:Bool}{P:Mn->k_->Prop}(x:TupAt s.heap a us)(t:TupAt s.heap b vs)(B:Es prog w A s.heap us vs c)(h:P (.done (.ret (.bool (c&&us.length==vs.length)))) s):
  o_ (u_ prog w) A (Builtin.«tuple.__eq__» ⟨[.ref a,.ref b],[]⟩) P E s:=by
 have p:=t.ty;obtain⟨K,N,m,_,o⟩:=x;obtain⟨I,L,l,_,n⟩:=t;show o_ _ _ (JU (.ref b) (.type "tuple") >>= _) _ _ s;refine b_ (FF p Ka ?_);simp only[GC,Ec,Fy];refine b_ (HE m o (b_ (HE l n (b_ ?_))));refine JE _ (λrest r s'=>r.1=g_/\s'=s/\∃U J g,rest=List.zip U J/\Es prog w A s.heap U J g/\g=c) _ ?_ ?_ _ _ ⟨rfl,rfl,us,vs,c,ad,B,rfl⟩
 .rintro⟨u,v⟩ rest r s' ⟨k,rfl,U,J,g,d,Y,f⟩;cases Y with
  |nil e=>
   rcases e with e|e
   .subst e;simp at d
   .subst e;simp at d
  |@cons G F j i D C hv q=>
   simp only[Kg,Gs,HP]at d;obtain⟨⟨rfl,rfl⟩,rfl⟩:=d;refine b_ (hv _ _ _ rfl ?_);cases D with
   |true=>simp only[GC,Ec,Fy];exact f_ ⟨rfl,rfl,j,i,C,rfl,q,by rw[<- f,HW]⟩|false=>
    simp only[Lq,Ia];have z:c=c_:=by rw[<- f];rfl
    rw[z,Iy]at h;exact b_ (f_ (f_ (f_ h)))
 .rintro⟨q,H⟩ s' ⟨k,rfl,U,J,g,d,Y,f⟩;simp only at k;subst k;have y:c=e_:=by
   cases Y with
   |nil e=>exact f.symm|cons _ _=>simp at d
  rw[y,HW]at h;refine f_ ?_;show P (.done (.ret (.bool (us.toArray.size==vs.toArray.size)))) s';exact h
theorem eq_tup{c:Bool}{Q:Bool->k_->Prop}(d:A.units<Ez)(U:TupAt s.heap a us)(Y:TupAt s.heap b vs)(g:Es prog w A.in1 s.heap us vs c)(f:a=b->(c&&us.length==vs.length)=e_)(h:Q (c&&us.length==vs.length) s):
  o_ (u_ prog w) A (Ig (.ref a) (.ref b)) Q E s:=by
 unfold Ig
 try with_reducible refine Ex ?_
 show o_ _ _ (ite ((w_ a==w_ b)=e_) _ _) Q E s;by_cases J:(w_ a==w_ b)=e_
 .rw[s_ J];have e:a=b:=by have:=Gn J;injection this
  rw[f e]at h;exact b_ (G2 (f_ h))
 .rw[q_ J];exact b_ (LZ (op:=.Eq) U.ty Y.ty LD (DU LD U.ty F.entry_tuple_eq (w9 U Y g ⟨_,rfl,(λe=>nomatch e),Fp h⟩) (F.args_tuple_eq_2 _ _)) d)
def tN{Q:Bool->k_->Prop}(n:Nat)(b:TupAt s.heap a us)(d:∀v∈us,∀(E:Vp) (Q:Bool->k_->Prop),Q e_ s->o_ (u_ prog w) A (MZ n v) Q E s)(h:Q e_ s):o_ (u_ prog w) A (MZ (n+1) (.ref a)) Q E s:=by
 have c:=b.ty;obtain⟨o,m,e,_,hd⟩:=b;unfold MZ;refine b_ (HA c LD.lookup ?_);show o_ _ _ (JU (.ref a) (.type "tuple") >>= _) _ _ s;refine b_ (FF c Ka ?_);simp only[GC,Ec,Fy];refine b_ (EK e hd (b_ ?_));show o_ _ _ (forIn us.toArray _ _) _ _ s;rw[<- MV];refine JE _ (λrest r s'=>r.1=g_/\s'=s/\∀v∈rest,v∈us) _ ?_ ?_ _ _ ⟨rfl,rfl,λv hv=>by simpa using hv⟩
 .rintro v rest r s' ⟨Y,rfl,J⟩;refine b_ (d v (J v Ea) _ _ ?_);simp only[GC,Ec,Fy];exact f_ ⟨rfl,rfl,λu U=>J u (DQ _ U)⟩
 .rintro⟨g,f⟩ s' ⟨Y,rfl,_⟩;simp only at Y;subst Y;exact f_ h
end
section
open PySem
variable{μ:Type}[HJ κ][HJ μ]
inductive oA{α β:Type}(R:α->β->Prop):List α->List β->Prop
 |nil:oA R [] []
 |cons {x:α} {y:β} {xs:List α} {ys:List β} (h:R x y) (t:oA R xs ys):oA R (x::xs) (y::ys)
def oA.imp{R S:α->β->Prop}(f:∀x y,R x y->S x y){xs:List α}{ys:List β}(h:oA R xs ys):oA S xs ys:=by
 induction h with
 |nil=>exact .nil|cons h _ J=>exact .cons (f _ _ h) J
def oA.mem{R:α->β->Prop}{xs:List α}{ys:List β}(h:oA R xs ys):∀y∈ys,∃x,R x y:=by
 induction h with
 |nil=>intro y J;simp at J|cons h _ U=>
  intro y J;rcases p_.mp J with e|e
  .subst e;exact⟨_,h⟩
  .exact U y e
def Ao(prog:EC)(w:Fe):IK prog w Int where
 is:=λ_ k v=>∃t,v=.int k t
 hash:=O0
 draws:=λ_=>1
 up:=0
 fuel:=0
 inj:=λ⟨t,e⟩ ⟨u,f⟩=>by rw[e]at f;cases f;rfl
 keeps:=λh _=>h
 pyHash:=λ_ ⟨t,e⟩ h=>by subst e;exact(Gb prog w).pyHash (Mi _ _ _ _) h
 eqBool:=λ_ ⟨t,e⟩ ⟨u,f⟩ h=>by subst e f;exact(Gb prog w).eqBool (Mi _ _ _ _) (Mi _ _ _ _) h
 quiet:=λn _ ⟨t,e⟩ h=>by subst e;rw[eqIsQuiet_byValue n rfl];exact f_ h
theorem hs_all(I:IK prog w κ){A:Fu}{h:Eg}(J:A.units+I.up<Ez):∀{ks:List κ} {us:as},oA (I.is h) ks us->Hs prog w A h us (ks.map I.hash) ((ks.map I.draws).sum)
 |_,_,.nil=>.nil|_,_,.cons q t=>.cons (λE s Q e U=>I.pyHash J (by rw[e];exact q) U) (hs_all I J t)
theorem es_all(I:IK prog w κ){A:Fu}{h:Eg}(U:A.units+I.up<Ez):∀{ks J:List κ} {us vs:as},oA (I.is h) ks us->oA (I.is h) J vs->∃c,Es prog w A h us vs c/\(c&&us.length==vs.length)=z_ (ks=J)
 |_,_,_,_,.nil,.nil=>⟨e_,.nil (.inl rfl),ad⟩|_,_,_,_,.nil,.cons q t=>⟨e_,.nil (.inl rfl),ad⟩|_,_,_,_,.cons q t,.nil=>⟨e_,.nil (.inr rfl),ad⟩|k::ks,l::J,_,_,.cons q t,.cons a t'=>by
  obtain⟨c,e,d⟩:=es_all I U t t';refine⟨z_ (k=l)&&c,.cons (λE s Q e b=>I.eqBool U (by rw[e];exact q) (by rw[e];exact a) b) e,?_⟩
  by_cases Y:k=l
  .subst Y;simp only[decide_true,HW,B_];rw[show(∀m n:Nat,(m+1==n+1)=(m==n))from λm n=>by simp,d];simp
  .simp[Y]
theorem wI(I:IK prog w κ){h:Eg}:∀{ks J:List κ} {us:as},oA (I.is h) ks us->oA (I.is h) J us->ks=J
 |_,_,_,.nil,.nil=>rfl|_,_,_,.cons q t,.cons U t'=>by rw[I.inj q U,wI I t t']
def tupI(I:IK prog w κ):IK prog w (List κ) where
 is:=λh ks v=>∃a us,v=.ref a/\TupAt h a us/\oA (I.is h) ks us
 hash:=λks=>IT (Ei (ks.map I.hash))
 draws:=λks=>(ks.map I.draws).sum+1
 up:=I.up+1
 fuel:=I.fuel+1
 inj:=λ⟨a,us,e,t,q⟩ ⟨b,vs,f,t',J⟩=>by rw[e]at f;cases f;have:=t.inj t';subst this;exact wI I q J
 keeps:=λ⟨a,us,e,t,q⟩ k=>⟨a,us,e,t.keep k,q.imp λ_ _ z=>I.keeps z k⟩
 pyHash:=λ{A E s k v Q} d ⟨a,us,e,t,q⟩ h=>by subst e;exact xO ac t (hs_all I (A:=A.in1) (by show A.units+1+I.up<Ez;omega) q) h
 eqBool:=λ{A E s x y u v Q} d ⟨a,us,e,t,q⟩ ⟨b,vs,f,t',J⟩ h=>by subst e f;obtain⟨c,es,Y⟩:=es_all I (A:=A.in1) (by show A.units+1+I.up<Ez;omega) q J;rw[<- Y]at h;refine eq_tup ac t t' es (λe=>?_) h;subst e;have:=t.inj t';subst this;rw[Y,wI I q J];simp
 quiet:=λ{A E s k v Q} n i ⟨a,us,e,t,q⟩ h=>by
  subst e;obtain⟨m,rfl⟩:∃m,n=m+1:=⟨n-1,ac⟩
  refine tN m t (λv hv E Q g=>?_) h;obtain⟨k',U⟩:=q.mem v hv;exact I.quiet m ac U g
def pairI(I:IK prog w κ)(J:IK prog w μ):IK prog w (κ×μ) where
 is:=λh k v=>∃a c Y,v=.ref a/\TupAt h a [c,Y]/\I.is h k.1 c/\J.is h k.2 Y
 hash:=λk=>IT (Ei [I.hash k.1,J.hash k.2])
 draws:=λk=>I.draws k.1+(J.draws k.2+0)+1
 up:=max I.up J.up+1
 fuel:=max I.fuel J.fuel+1
 inj:=λ{h v x y} ⟨a,c,Y,e,t,q1,q2⟩ ⟨b,g,d,f,t',p1,p2⟩=>by rw[e]at f;cases f;have:=t.inj t';simp only[Gs,and_true]at this;obtain⟨rfl,rfl⟩:=this;exact OB (I.inj q1 p1) (J.inj q2 p2)
 keeps:=λ⟨a,c,Y,e,t,q1,q2⟩ k=>⟨a,c,Y,e,t.keep k,I.keeps q1 k,J.keeps q2 k⟩
 pyHash:=λ{A E s k v Q} j ⟨a,c,Y,e,t,q1,q2⟩ h=>by subst e;exact xO ac t (.cons (λE s' Q e U=>I.pyHash (A:=A.in1) (by show A.units+1+I.up<Ez;omega) (by rw[e];exact q1) U) (.cons (λE s' Q e U=>J.pyHash (A:=A.in1) (by show A.units+1+J.up<Ez;omega) (by rw[e];exact q2) U) .nil)) h
 eqBool:=λ{A E s x y u v Q} j ⟨a,c,Y,e,t,q1,q2⟩ ⟨b,g,d,f,t',p1,p2⟩ h=>by
  subst e f;have i:((z_ (x.1=y.1)&&(z_ (x.2=y.2)&&e_))&&[c,Y].length==[g,d].length)=z_ (x=y):=by obtain⟨q,p⟩:=x;obtain⟨o,l⟩:=y;simp[HP]
  rw[<- i]at h;refine eq_tup ac t t' (.cons (λE s' Q e U=>I.eqBool (A:=A.in1) (by show A.units+1+I.up<Ez;omega) (by rw[e];exact q1) (by rw[e];exact p1) U) (.cons (λE s' Q e U=>J.eqBool (A:=A.in1) (by show A.units+1+J.up<Ez;omega) (by rw[e];exact q2) (by rw[e];exact p2) U) (.nil (.inl rfl)))) (λe=>?_) h;subst e;have:=t.inj t';simp only[Gs,and_true]at this;obtain⟨rfl,rfl⟩:=this;rw[i,OB (I.inj q1 p1) (J.inj q2 p2)];simp
 quiet:=λ{A E s k v Q} n r ⟨a,c,Y,e,t,q1,q2⟩ h=>by
  subst e;obtain⟨m,rfl⟩:∃m,n=m+1:=⟨n-1,ac⟩
  refine tN m t (λv hv E Q U=>?_) h;simp only[p_,DK,FO]at hv;rcases hv with e|e
  .subst e;exact I.quiet m ac q1 U
  .subst e;exact J.quiet m ac q2 U
def heapI(I:IK prog w κ)(l:I.fuel<=8):HeapKind prog w κ where
 is:=λh k a=>I.is h k (.ref a)
 hash:=I.hash
 draws:=I.draws
 room:=λA=>A.units+I.up<Ez
 inj:=λU J=>I.inj U J
 keeps:=λ{h h' k a d o es ep} x j hd i=>I.keeps x λb m us n f g=>by
  rw[i.2 b λe=>?_]
  .exact f
  .subst e;rw[j]at f;cases f;rw[hd]at g;cases g
 pyHash:=λY c h=>I.pyHash Y c h
 eqBool:=λY U J h=>I.eqBool Y U J h
 quiet:=λc h=>I.quiet 8 l c h
def labI(prog:EC)(w:Fe):IK prog w LK:=pairI (Ao prog w) (tupI (tupI (Ao prog w)))
end
abbrev lKind(P:EC)(w:Fe):HeapKind P w LK:=heapI (labI P w) (by show max 0 (0+1+1)+1<=8;decide)
def l9.map(s:∀b xs,SqT K F b xs->SqT K F' b xs){k:LK}(h:l9 K F b k):l9 K F' b k:=
 let ⟨r,bs,a,Y,l,U⟩:=h;⟨r,bs,s _ _ a,s _ _ Y,l,λj J c e1 e2=>s _ _ (U j J c e1 e2)⟩
noncomputable def putL(ks:aG)(k:LK):aG:=if k∈ks then ks else ks++[k]
def r6(xs:List (LK×i_))(k:LK)(b:i_):List (LK×i_):=if k∈xs.map (·.1)then xs else xs++[(k,b)]
def zb(xs:List (LK×i_))(k:LK)(b:i_):(r6 xs k b).map (·.1)=putL (xs.map (·.1)) k:=by unfold r6 putL;split<;>simp
def Bl{xs:List (LK×i_)}{k:LK}{x:LK×i_}(h:x∈r6 xs k b):x∈xs\/x=(k,b):=by
 unfold r6 at h;split at h
 .exact .inl h
 .simpa using h
def Bm(xs:List (LK×i_))(k:LK)(b:i_):(r6 xs k b).length<=xs.length+1:=by unfold r6;split<;>simp
noncomputable def enL(x:LK×i_):LK×i_×h_:=(x.1,x.2,.bool e_)
def xU(xs:List (LK×i_)):(xs.map enL).map (·.1)=xs.map (·.1):=by rw[En];rfl
def atL(xs:List (LK×i_))(k:LK):(N5 (xs.map enL) k).isSome=z_ (k∈xs.map (·.1)):=by
 unfold N5;rw[MQ,Ht,List.find?_isSome,DX];simp only[Ed,DX];constructor
 .rintro⟨x,⟨y,J,rfl⟩,e⟩;exact⟨y,J,e⟩
 .rintro⟨y,J,e⟩;exact⟨enL y,⟨y,J,rfl⟩,e⟩
def storedL(xs:List (LK×i_))(k:LK)(b:i_):OV (xs.map enL) k b (.bool e_)=(r6 xs k b).map enL:=by
 unfold OV r6;rw[atL];by_cases h:k∈xs.map (·.1)
 .rw[Gu h,s_ rfl,s_ h];rw[En];refine Hl λx _=>?_;show putAt k (.bool e_) (enL x)=enL x;unfold putAt;split<;>rfl
 .rw[Eu h,q_ ad,q_ h];simp[enL]
section
variable{s:k_}{xs:List (LK×i_)}{k:LK}
def AL(I:B6 X B4 σ H s){vs:am}(h:SqT X.K H b vs):∃us,Ds vs us/\TupAt s.heap b us:=by obtain⟨its,r,⟨o,h1,h2,n,J⟩,_⟩:=I.tuple h;exact⟨its,r,o,n,h1,h2,J⟩
theorem xN:∀{J:aj} {us:as} {h:Eg},Ds (J.map V.int) us->oA ((Ao X.prog X.w).is h) J us
 |[],_,_,.nil=>.nil|i::J,_,_,.cons r t=>.cons r (xN t)
def row_at(I:B6 X B4 σ H s){J:aj}(h:SqT X.K H b (J.map V.int)):(tupI (Ao X.prog X.w)).is s.heap J (.ref b):=by obtain⟨us,r,t⟩:=AL I h;exact⟨b,us,rfl,t,xN r⟩
theorem xh(I:B6 X B4 σ H s):∀{rows:List aj} {bs:List i_} {us:as},Ds (bs.map V.ref) us->bs.length=rows.length->(∀(j:Nat) (J:aj) (c:i_),rows[j]?=a_ J->bs[j]?=a_ c->SqT X.K H c (J.map V.int))->oA ((tupI (Ao X.prog X.w)).is s.heap) rows us
 |[],[],_,.nil,_,_=>.nil|[],_::_,_,_,l,_=>by simp at l|_::_,[],_,_,l,_=>by simp at l|J::rows,c::bs,_,.cons r t,l,h=>by cases(show _=w_ c from r);exact .cons (row_at I (h 0 J c rfl rfl)) (xh I t (by simpa using l) λj J c e1 e2=>h (j+1) J c e1 e2)
def nq(I:B6 X B4 σ H s)(h:l9 X.K H b k):(lKind X.prog X.w).is s.heap k b:=by obtain⟨r,bs,f,e,l,d⟩:=h;obtain⟨us,g,c⟩:=AL I f;obtain⟨vs,U,J⟩:=AL I e;obtain⟨a,Y,rfl,j,i⟩:=g.two;cases(show Y=w_ r from i);exact⟨b,a,.ref r,rfl,c,j,r,vs,rfl,J,xh I U l d⟩
def LabsAt(K:Fg)(H:Hp)(xs:List (LK×i_)):Prop:=∀x∈xs,l9 K H x.2 x.1
def CG{xs:List (LK×i_)}(z:wO h a xs ep):cz P w H h a (Du a xs ep):=by
 have U:=z;obtain⟨h1,h2,j,o,es,b,i⟩:=z;refine⟨U,⟨o,b⟩,λ_ _ Y e=>?_⟩
 obtain⟨g,g2,f,o',J,d,c⟩:=Y;exact⟨g,g2,f,o',J,e _ d,c⟩
def dil_ok(I:B6 X B4 σ H s)(e:H a=a_ (Du a xs ep)):wO s.heap a xs ep:=(show wO s.heap a xs ep/\_ from I.hok a _ e).1
def dil_at(I:B6 X B4 σ H s)(e:H a=a_ (Du a xs ep))(z:LabsAt X.K H xs):(a==Fm)=c_/\xs.length<=n_/\s.heap.DictOfH (lKind X.prog X.w) a (xs.map enL):=by
 obtain⟨hd,b,Y,o,es,h1,h2,d,c⟩:=dil_ok I e;refine⟨hd,b,o,es,ep,h1,h2,d,?_,λq U=>?_,by rw[xU];exact Y⟩
 .rw[c,En];rfl
 .obtain⟨x,J,rfl⟩:=Ed.mp U;exact nq I (z x J)
def dilOk_of(dd:h.DictOfH (lKind P w) a (xs.map enL))(hd:(a==Fm)=c_)(U:xs.length<=n_):∃ep,wO h a xs ep:=by
 obtain⟨o,es,ep,h1,h2,b,Y,_,J⟩:=dd;rw[xU]at J;refine⟨ep,hd,U,J,o,es,h1,h2,b,?_⟩
 rw[Y,En];rfl
def B6.dil{ys:List (LK×i_)}{t':Nat}(I:B6 X B4 σ H s)(e:H a=a_ (Du a xs ep))(J:FN a s.heap h')(z:wO h' a ys ep'):B6 X B4 σ (upd H a (Du a ys ep')) {s with heap:=h',toks:=t'}:=
 I.write (x:=a) (e:=a) (by rw[e];exact Hu) (.inl rfl) (λc q U w=>(J.2 c U).trans w) (let ⟨_,_,_,o,_,w,_⟩:=z;⟨o,w⟩) (CG z)
def lroom(J:A.units+64<Ez):(lKind X.prog X.w).room A.in1:=by show A.units+1+3<Ez;omega
end
def tNewL:TE:=λ_ H Q=>∀p,H p=g_->Q (.ref p) (upd H p (Du p [] 0))
def sPutT(K:Fg)(td ty tv:TE):TS:=λD σ H=>tv σ H λv H1=>td σ H1 λx H2=>ty σ H2 λy J=>∃a b k xs ep,v=.bl e_/\x=.ref a/\y=.ref b/\J a=a_ (Du a xs ep)/\LabsAt K J xs/\l9 K J b k/\xs.length<n_/\∀ep',D.nx σ (upd J a (Du a (r6 xs k b) ep'))
section
variable{o i:EM}{ty:TE}
def CH(h:Eg)(J:Fm<h.objs.size):wO (h.push {cls:=.type "dict",data:=.dict #[]}) h.objs.size [] 0:=
 ⟨GB.mpr (Em (Dx J)),E1 _,OC,_,#[],l_ _ rfl,⟨rfl,rfl,rfl⟩,rfl,rfl⟩
def pe_newL:PE X (.Dict [] [] pos) tNewL:=λB4 s σ H Q I h=>Pf ⟨.ref s.heap.objs.size,_,I.laid (a:=s.heap.objs.size) (o:=Du s.heap.objs.size [] 0) (t':=s.toks) (λ_ _ q=>d_ _ q) (t_ _) (CG (CH s.heap I.big)),rfl,h _ (I.hok.fresh (t_ _))⟩
def ps_putT(p:X.A.units+64<Ez)(w:PE X o td)(hi:PE X i ty)(hv:PE X value tv)(q:Fd value (a_ (.Subscript o i pos')) pos.line X.env=Ff c_):PS X (.Assign [.Subscript o i pos'] value pos) (sPutT X.K td ty tv):=by intro B4 s σ H D I h;refine Nh (HH (hv B4 s σ H _ I h) λr e J=>?_) q;obtain⟨v,H1,E,j,q1⟩:=J;refine HH (w B4 e σ H1 _ E q1) λu d J=>?_;obtain⟨x,H2,C,g,q2⟩:=J;refine HH (hi B4 d σ H2 _ C q2) λm F J=>?_;obtain⟨y,K,c,f,a,b,k,xs,ep,ev,ex,B,ea,A,t,G,l⟩:=J;subst ev ex B;cases(show u=w_ a from g);cases(show m=w_ b from f);cases(show r=La e_ from j);obtain⟨hd,n,dd⟩:=dil_at c ea A;refine OD (hsz:=by rw[y_];exact n) (lroom p) (nq c t) dd λh' U Y=>?_;rw[storedL]at U;obtain⟨ep',z⟩:=dilOk_of U hd (by have:=Bm xs k b;omega);exact⟨σ,_,c.dil ea Y z,l ep'⟩
end
def xG:A'->M LK
 |.tup [.int c,.tup rs]=>(il rs).bind λrows=>.ok (c,rows)|_=>stk
def bE(k:LK):A':=.tup [.int k.1,.tup (k.2.map cU)]
def C4{k:LK}(h:xG d=.ok k):d=bE k:=by
 unfold xG at h;split at h
 .rename_i c rs;cases e:il rs with
  |error x=>rw[e]at h;cases h|ok rows=>rw[e]at h;cases h;rw[sW e];rfl
 .cases h
def xE{e:Err}(h:xG d=.error e):e=.stuck:=by
 unfold xG at h;split at h
 .rename_i c rs;cases e1:il rs with
  |error x=>rw[e1]at h;cases h;exact sX e1|ok rows=>rw[e1]at h;cases h
 .cases h;rfl
theorem sV{K:Fg}{F:Hp}:∀{rows:List aj} {ys:am},ax K F (rows.map cU) ys->∃bs:List i_,ys=bs.map V.ref/\bs.length=rows.length/\∀(j:Nat) (J:aj) (c:i_),rows[j]?=a_ J->bs[j]?=a_ c->SqT K F c (J.map V.int)
 |[],_,h=>⟨[],h,rfl,λj J c e=>by simp at e⟩|J::rows,_,⟨v,vs,e,⟨b,xs,ev,t,z⟩,r⟩=>by
  obtain⟨bs,e1,l,h⟩:=sV r;have Y:=dw z (dz _);subst Y;refine⟨b::bs,by rw[e,ev,e1];rfl,by simp[l],λj U c q1 q2=>?_⟩
  cases j with
  |zero=>cases q1;cases q2;exact t|succ j=>exact h j U c q1 q2
def C5{v:V}{k:LK}(h:xG d=.ok k)(q:aU K F d v):∃b,v=.ref b/\l9 K F b k:=by have:=C4 h;subst this;obtain⟨b,xs,e,t,a,Y,e1,q1,i,J,e2,⟨r,ys,g,c,U⟩,e3⟩:=q;cases(show a=V.int k.1 from q1);subst g;cases(show J=[]from e3);subst e2 e1;obtain⟨bs,eb,l,f⟩:=sV U;subst eb;exact⟨b,e,r,bs,t,c,l,f⟩
noncomputable def uA(ρ:aa)(i:Nat):M aG:=match ρ[i]? with
 |some (a_ (.dil ks))=>.ok ks|_=>.error .stuck
def ye{ks:aG}(h:uA ρ i=.ok ks):ρ[i]?=a_ (a_ (.dil ks)):=by
 unfold uA at h;split at h
 .cases h;assumption
 .cases h
def CI{e:Err}(h:uA ρ i=.error e):e=.stuck:=by
 unfold uA at h;split at h
 .cases h
 .cases h;rfl
noncomputable def isTr:A'->Bool
 |.bl e_=>e_|_=>c_
def mW(i:Nat)(fk fv:aa->M A'):aa->M C':=λρ=>(fv ρ).bind λd=>(uA ρ i).bind λks=>(fk ρ).bind λJ=>(xG J).bind λk=>if (isTr d&&z_ (ks.length<n_))=e_ then .ok (.nx (ρ.set i (a_ (.dil (putL ks k)))))else .error .stuck
section
variable{W:cn}
def rs_putT(hi:i∈O)(t:tS K W ro F0 H0 OL O O (mW i fk fv) D σ H):sPutT K (Am i) (tD K W c_ fk) (tD K W c_ fv) D σ H:=by
 obtain⟨FB,F,ρ,r,p⟩:=t;refine aK r.gI r.dj (λe m=>p.fO (r.freeze (O2:=[]) ad).st (by unfold mW;rw[m];rfl)) λd hd v F1 H1 s q=>?_;have C:mW i fk fv ρ=(uA ρ i).bind λks=>(fk ρ).bind λY=>(xG Y).bind λk=>if (isTr d&&z_ (ks.length<n_))=e_ then .ok (.nx (ρ.set i (a_ (.dil (putL ks k)))))else .error .stuck:=by unfold mW;rw[hd];rfl
 rw[C]at p;cases f:uA ρ i with
 |error e=>have:=CI f;subst this;exact p.stuck (by rw[f];rfl)|ok ks=>
  rw[f]at p;have p1:ck K W ro F0 H0 FB OL O D ((fk ρ).bind λY=>(xG Y).bind λk=>if (isTr d&&z_ (ks.length<n_))=e_ then .ok (.nx (ρ.set i (a_ (.dil (putL ks k)))))else .error .stuck):=p;have U:=r.eK s;obtain⟨G,e2,a,xs,ev,⟨ep,y⟩,_,_,z⟩:=U.ow i _ (ye f) hi;subst ev;refine⟨.ref a,e2,?_⟩
  refine aK U.gI U.dj (λe m=>p1.fO (U.freeze (O2:=[]) ad).st (by rw[m];rfl)) λY u w F2 H2 h q2=>?_;rw[u]at p1;have p2:ck K W ro F0 H0 FB OL O D ((xG Y).bind λk=>if (isTr d&&z_ (ks.length<n_))=e_ then .ok (.nx (ρ.set i (a_ (.dil (putL ks k)))))else .error .stuck):=p1;cases J:xG Y with
  |error e=>have:=xE J;subst this;exact p2.stuck (by rw[J];rfl)|ok k=>
   rw[J]at p2;have p3:ck K W ro F0 H0 FB OL O D (if (isTr d&&z_ (ks.length<n_))=e_ then .ok (.nx (ρ.set i (a_ (.dil (putL ks k)))))else .error .stuck):=p2;by_cases g:(isTr d&&z_ (ks.length<n_))=e_
   .rw[s_ g]at p3;simp only[r_,DX]at g;have E:d=.bl e_:=by
     have h1:=g.1;unfold isTr at h1;split at h1
     .rfl
     .cases h1
    subst E;cases(show v=V.bl e_ from q);obtain⟨b,rfl,t⟩:=C5 J q2;have j:=U.eK h;have n:=z.mono (U.dQ h);have o:=t.map (U.jg h);have c:xs.length=ks.length:=by rw[<- z.1,y_]
    refine⟨a,b,k,xs,ep,rfl,rfl,rfl,h.hh _ _ y,λx l=>(n.2 x l).mono j.st.fh,o.mono j.st.fh,by rw[c];exact g.2,λep'=>p3 σ _ _ (j.wR hi (ye f) rfl e2 λB A=>⟨a,_,rfl,⟨ep',ak⟩,B,A,?_,λx l=>?_⟩)⟩
    .rw[zb,z.1]
    .rcases Bl l with e|e
     .exact n.2 x e
     .subst e;exact o
   .rw[q_ g]at p3;exact p3.stuck rfl
end
section
variable{W:cn}
def de_newL:DE K W e_ X (.Dict [] [] pos) (fC (.dil [])):=pe_newL.imp λσ H Q h=>by obtain⟨F,ρ,r,s,q⟩:=h;exact λa J=>q (.ref a) F _ (B5.grow s J) ⟨a,[],rfl,⟨0,ak⟩,s.free J,J,rfl,λx U=>DD U DK⟩
def ds_putT(U:X.A.units+64<Ez)(b:DE K W c_ X ek fk)(c:DE K W c_ X ev fv)(a:(i∈O)⁻¹)(d: ~~~(X.N[i]?=a_ x))(hv:autoParam (Vis X.env.scope x) Jq4)(hd:((x==("__debug__":Dy))=c_)⁻¹)(J:((x==("__classdict__":Dy))=c_)⁻¹)(e: ~~~(X.K=K))(Y: ~~~(Fd ev (a_ (.Subscript (.Name x p) ek pos')) pos.line X.env=Ff c_)):DS K W ro X OL O O (.Assign [.Subscript (.Name x p) ek pos'] ev pos) (mW i fk fv):=λF0 H0=>by subst e;exact PS.imp (ps_putT U (pv i d hv hd J) b c Y) λ_ _ _=>rs_putT a
end
section
open PySem
variable{s:k_}
inductive Ls(prog:EC)(w:Fe)(A:Fu)(h:Eg):List h_->List h_->Bool->Prop
 |nil {us vs:List h_} (e:us=[]\/vs=[]):Ls prog w A h us vs (z_ (us.length<vs.length))
 |eq {u v:h_} {us vs:List h_} {c:Bool} (hv:∀(E:Vp) (s:k_) (Q:Bool->k_->Prop),s.heap=h->Q e_ s->o_ (u_ prog w) A (Ig u v) Q E s) (r:Ls prog w A h us vs c):Ls prog w A h (u::us) (v::vs) c
 |ne {u v:h_} {us vs:List h_} {c:Bool} (hv:∀(E:Vp) (s:k_) (Q:Bool->k_->Prop),s.heap=h->Q c_ s->o_ (u_ prog w) A (Ig u v) Q E s) (hl:∀(E:Vp) (s:k_) (Q:Vp),s.heap=h->Q (.bool c) s->o_ (u_ prog w) A (Kn .Lt u v) Q E s):Ls prog w A h (u::us) (v::vs) c
def vM{c:Bool}{P:Mn->k_->Prop}(p:TupAt s.heap a us)(n:TupAt s.heap b vs)(t:Ls prog w A s.heap us vs c)(h:P (.done (.ret (.bool c))) s):
  o_ (u_ prog w) A (Builtin.«tuple.__lt__» ⟨[.ref a,.ref b],[]⟩) P E s:=by
 have l:=n.ty;obtain⟨C,F,i,_,k⟩:=p;obtain⟨B,D,g,_,j⟩:=n;show o_ _ _ (JU (.ref b) (.type "tuple") >>= _) _ _ s;refine b_ (FF l Ka ?_);simp only[GC,Ec,Fy];refine b_ (HE i k (b_ (HE g j (b_ ?_))));refine JE _ (λrest r s'=>r.1=g_/\s'=s/\∃U J,rest=List.zip U J/\Ls prog w A s.heap U J c/\U.length+vs.length=us.length+J.length) _ ?_ ?_ _ _ ⟨rfl,rfl,us,vs,ad,t,rfl⟩
 .rintro⟨u,v⟩ rest r s' ⟨f,rfl,U,J,Y,d,o⟩;cases d with
  |nil e=>
   rcases e with e|e
   .subst e;simp at Y
   .subst e;simp at Y
  |eq hv m=>simp only[Kg,Gs,HP]at Y;obtain⟨⟨rfl,rfl⟩,rfl⟩:=Y;refine b_ (hv _ _ _ rfl ?_);simp only[GC,Ec,Fy];exact f_ ⟨rfl,rfl,_,_,rfl,m,by simp only[B_]at o;omega⟩
  |ne hv x=>simp only[Kg,Gs,HP]at Y;obtain⟨⟨rfl,rfl⟩,rfl⟩:=Y;refine b_ (hv _ _ _ rfl ?_);simp only[Lq,Ia];show o_ _ _ (rule _ >>=λ_=>_) _ _ _;refine b_ (G2 (b_ (x _ _ _ rfl ?_)));exact b_ (f_ (f_ (f_ h)))
 .rintro⟨m,y⟩ s' ⟨f,rfl,U,J,Y,d,o⟩;simp only at f;subst f;have q:c=z_ (us.length<vs.length):=by
   cases d with
   |nil e=>exact decide_eq_decide.mpr ⟨λz=>by omega,λz=>by omega⟩|eq _ _=>simp at Y|ne _ _=>simp at Y
  rw[q]at h;refine f_ ?_;show P (.done (.ret (.bool (z_ (us.toArray.size<vs.toArray.size))))) s';exact h
theorem lt_tup{c:Bool}{Q:Vp}(Y:A.units<Ez)(J:TupAt s.heap a us)(U:TupAt s.heap b vs)(d:Ls prog w A.in1 s.heap us vs c)(h:Q (.bool c) s):
  o_ (u_ prog w) A (Kn .Lt (.ref a) (.ref b)) Q E s:=
 LZ (op:=.Lt) J.ty U.ty O9 (DU O9 J.ty F.entry_tuple_lt (vM J U d ⟨_,rfl,(λe=>nomatch e),h⟩) (F.args_tuple_lt_2 _ _)) Y
def LtI [HJ κ] (I:IK prog w κ) (lt:κ->κ->Bool):Prop:=∀{A:Fu} {E:Vp} {s:k_} {x y:κ} {u v:h_} {Q:Vp},A.units+I.up<Ez->I.is s.heap x u->I.is s.heap y v->Q (.bool (lt x y)) s->o_ (u_ prog w) A (Kn .Lt u v) Q E s
def oR{κ:Type}[HJ κ](lt:κ->κ->Bool):List κ->List κ->Bool
 |x::xs,y::ys=>if x=y then oR lt xs ys else lt x y
 |xs,ys=>z_ (xs.length<ys.length)
def int_lt:LtI (Ao prog w) λx y=>z_ (x<y):=λ_ ⟨t,e⟩ ⟨u,f⟩ h=>by subst e f;exact OA h
theorem ls_all{κ:Type}[HJ κ](I:IK prog w κ){lt:κ->κ->Bool}(b:LtI I lt){h:Eg}(Y:A.units+I.up<Ez):∀{ks a:List κ} {us vs:as},oA (I.is h) ks us->oA (I.is h) a vs->Ls prog w A h us vs (oR lt ks a)
 |_,_,_,_,.nil,.nil=>.nil (.inl rfl)|_,_,_,_,.nil,@oA.cons _ _ _ y v ys vs q t=>by
  have e:oR lt [] (y::ys)=z_ (([]:as).length<(v::vs).length):=by simp[oR]
  rw[e];exact .nil (.inl rfl)
 |_,_,_,_,@oA.cons _ _ _ x u xs us q t,.nil=>by
  have e:oR lt (x::xs) []=z_ ((u::us).length<([]:as).length):=by simp[oR]
  rw[e];exact .nil (.inr rfl)
 |_,_,_,_,@oA.cons _ _ _ x u xs us q t,@oA.cons _ _ _ y v ys vs q2 c=>by
  show Ls prog w A h _ _ (if x=y then oR lt xs ys else lt x y);by_cases e:x=y
  .rw[s_ e];exact .eq (λE s Q J U=>I.eqBool Y (by rw[J];exact q) (by rw[J];exact q2) (by rw[Gu e];exact U)) (ls_all I b Y t c)
  .rw[q_ e];exact .ne (λE s Q J U=>I.eqBool Y (by rw[J];exact q) (by rw[J];exact q2) (by rw[Eu e];exact U)) λE s Q J U=>b Y (by rw[J];exact q) (by rw[J];exact q2) U
def wV [HJ κ] {I:IK prog w κ} {lt:κ->κ->Bool} (e:LtI I lt):LtI (tupI I) (oR lt):=λ{A E s x y u v Q} J ⟨a,us,e1,d,Y⟩ ⟨b,vs,e2,c,U⟩ h=>by subst e1 e2;have J:A.units+(I.up+1)<Ez:=J;exact lt_tup ac d c (ls_all I e (by show A.units+1+I.up<Ez;omega) Y U) h
end
def BB [HJ κ] {lt:κ->κ->Bool} (o:Ord lt):Ord (oR lt):=by
 refine⟨λa=>?_,λa b c=>?_,λa b=>?_⟩
 .induction a with
  |nil=>rfl|cons x xs J=>simp[oR,J]
 .induction a generalizing b c with
  |nil=>
   cases b with
   |nil=>intro h;simp[oR]at h|cons y ys=>
    intro _ h2;cases c with
    |nil=>simp[oR]at h2|cons z Y=>simp[oR]
  |cons x xs J=>
   intro h1 h2;cases b with
   |nil=>simp[oR]at h1|cons y ys=>
    cases c with
    |nil=>simp[oR]at h2|cons z Y=>
     simp only[oR]at h1 h2 ⊢;by_cases e1:x=y
     .subst e1;rw[s_ rfl]at h1;by_cases e2:x=z
      .rw[s_ e2]at h2 ⊢;exact J _ _ h1 h2
      .rw[q_ e2]at h2 ⊢;exact h2
     .rw[q_ e1]at h1;by_cases e2:y=z
      .subst e2;rw[q_ e1];exact h1
      .rw[q_ e2]at h2;have U:=o.tr _ _ _ h1 h2;by_cases e3:x=z
       .subst e3;rw[o.irr]at U;cases U
       .rw[q_ e3];exact U
 .induction a generalizing b with
  |nil=>
   cases b with
   |nil=>intros;rfl|cons y ys=>intro h;simp[oR]at h
  |cons x xs J=>
   cases b with
   |nil=>intro _ h;simp[oR]at h|cons y ys=>
    simp only[oR];by_cases e:x=y
    .subst e;rw[s_ rfl,s_ rfl];intro h1 h2;rw[J _ h1 h2]
    .rw[q_ e,q_ (Em e)];intro h1 h2;exact DD (o.tot _ _ h1 h2) e
abbrev ltR:List aj->List aj->Bool:=oR (oR λx y=>z_ (x<y))
def ordR:Ord ltR:=BB (BB ⟨λa=>by simp,λa b c h1 h2=>by simp at *;omega,λa b h1 h2=>by simp at *;omega⟩)
def ltL(k l:LK):Bool:=if k.1=l.1 then ltR k.2 l.2 else z_ (k.1<l.1)
section
open PySem.W
end
section
open PySem PySem.W
variable{s:k_}
def walksR(hh:A.handled=g_)(I d:i_)(c:d≠I)(es:Array FJ)(ep:Nat):
  Mj prog w A I [I,d] [I] es.size (λi v=>∃e,es[i]?=a_ e/\v=e.key) (λi h=>h.IsKeyIter I d i es.size ep/\sO h d es ep) where
 sub:=λb J=>by simp at J;simp[J]
 frame:=λ_ _ _ st g=>⟨st.1.at λo e=>g I ad o e,st.2.at λo e=>g d ad o e⟩
 item:=λi s Q E hi st a=>by refine zu st.1 st.2 (e:=es[i]) (by simp[hi]) λh' Y U=>?_;exact a _ h' s.toks ⟨es[i],by simp[hi],rfl⟩ ⟨Y,st.2.at λo e=>U.extBut d o c e⟩ λb o J e=>U.extBut b o (λh=>J (by simp[h])) e
 done:=λs Q E st a=>Cy hh st.1 st.2 (t_ _) λh' f=>a h' s.toks λb o J e=>f b o (λh=>J (by simp[h])) e
 self:=λ_ _ _ _ st a=>wpAny_pyIter_keyiter st.1 a
def srcR{d:i_}{es:Array FJ}(lo:(d==Fm)=c_):KdlSrc prog w "dict" d d es.size (λi v=>∃e,es[i]?=a_ e/\v=e.key) (λh=>sO h d es ep) where
 type:=λ_ z=>z.ty
 there:=λ_ ⟨o,h,_⟩=>⟨mf h,mf h⟩
 keep:=λ_ _ z U=>z.at λo e=>U d (.inl rfl) o e
 notList:=by decide
 notTuple:=by decide
 hint:=λ_ _ _ _ z J=>kdl_hint_dict z.ty J
 iter:=λA s hh z=>⟨_,_,(λ_ _ J=>zN lo z J),walksR hh _ d (let ⟨o,h,_⟩:=z;Dx (mf h)) es ep,⟨⟨_,l_ _ rfl,rfl,rfl⟩,z.at λo e=>d_ _ e⟩⟩
def zP{es:Array FJ}(h:L5 (λi v=>∃e,es[i]?=a_ e/\v=e.key) acc es.size):acc.toList=es.toList.map (·.key):=by
 apply KJ;intro i;by_cases hi:i<es.size
 .have h2:i<acc.size:=by rw[h.1];exact hi
  obtain⟨e,U,J⟩:=h.2 i acc[i] (by simp[h2]);rw[El,EZ,EZ,U,HY,<- J];simp[h2]
 .rw[E2 (by rw[DO,h.1];omega),E2 (by rw[y_,DO];omega)]
def collectR{d:i_}{es:Array FJ}{Q:as->k_->Prop}(hh:A.handled=g_)(lo:(d==Fm)=c_)(z:sO s.heap d es ep)(p:es.size<=n_)(h:∀(h':Eg) (tk:Nat),(∀b o,s.heap.get? b=a_ o->h'.get? b=a_ o)->s.heap.objs.size<=h'.objs.size->Q (es.toList.map (·.key)) {s with heap:=h',toks:=tk}):o_ (u_ prog w) A (L3 (.ref d)) Q E s:=by
 have j:d<s.z:=by obtain⟨o,n,_⟩:=z;exact mf n
 unfold L3;refine b_ (Kl (E3 (JX) ?_));rw[Et (JW) _];show o_ (u_ prog w) A.in1 (Nj [] >>=λl=>again (.builtin "list.__iadd__" ⟨[l,.ref d],[]⟩)) _ _ s;refine b_ (DH ?_);refine f_ ⟨Ga G_ _,E3 (K1) ?_⟩;rw[Et (G_) _];have t:(s.heap.push {cls:=.type "list",data:=.seq ([]:as).toArray}).get? s.z=a_ {cls:=.type "list",data:=.seq #[]}:=l_ _ rfl;refine Ew (kdl_extend (A:=A) (s:={s with heap:=s.heap.push {cls:=.type "list",data:=.seq ([]:as).toArray}})
  (R:=λ(q:K0) (s':k_)=>∃(h':Eg) (tk:Nat) (acc:Array h_) (c:Nat),q=.ok (.ret (.ref s.z))/\s'={s with heap:=h',toks:=tk}/\(∀b o,s.heap.get? b=a_ o->h'.get? b=a_ o)/\h'.get? s.z=a_ {cls:=.type "list",dict:=g_,data:=.seq acc c,slots:=#[]}/\acc.toList=es.toList.map (·.key))
  (srcR (ep:=ep) lo) hh (z.at λo e=>d_ _ e) s.z (E7 j) (E7 j) (.ref s.z) 0 t
  (λh' tk acc c a J Y=>⟨h',tk,acc,c,rfl,rfl,λb o e=>a b o (Dx (mf e)) (d_ _ e),J,zP Y⟩) p) (λi s' x=>?_) λe s' x=>?_
 .have k:∀(s':k_),(∃(h':Eg) (tk:Nat) (acc:Array h_) (c:Nat),s'={s with heap:=h',toks:=tk}/\(∀b o,s.heap.get? b=a_ o->h'.get? b=a_ o)/\h'.get? s.z=a_ {cls:=.type "list",dict:=g_,data:=.seq acc c,slots:=#[]}/\acc.toList=es.toList.map (·.key))->∃(o:H9) (acc:Array h_) (c:Nat),s'.heap.get? s.z=a_ o/\o.data=.seq acc c/\Q acc.toList s':=λs' ⟨h',tk,acc,c,e,a,J,ea⟩=>by
   subst e;exact⟨_,acc,c,J,rfl,by rw[ea];exact h h' tk a (Gr (mf J))⟩
  cases i with
  |done f=>obtain⟨h',tk,acc,c,e,r⟩:=x;cases e;obtain⟨⟨D,C,B,v⟩,acc,c,J,hd,g⟩:=k s' ⟨h',tk,acc,c,r⟩;cases hd;show o_ _ A (load s.z >>= _) _ _ _;exact b_ (JR J (f_ g))
  |again m=>
   refine⟨x.1,Gd x.2 λq U y=>?_⟩
   obtain⟨h',tk,acc,c,rfl,r⟩:=y;obtain⟨⟨D,C,B,v⟩,acc,c,J,hd,g⟩:=k U ⟨h',tk,acc,c,r⟩;cases hd;show o_ _ A (load s.z >>= _) _ _ _;exact b_ (JR J (f_ g))
 .obtain⟨_,_,_,_,u,_⟩:=x;cases u
end
def xD{k:LK}(h:l9 K F b k):aU K F (bE k) (.ref b):=by
 obtain⟨r,bs,e,a,l,Y⟩:=h;refine⟨b,_,rfl,e,V.int k.1,_,rfl,rfl,.ref r,[],rfl,⟨r,_,rfl,a,?_⟩,rfl⟩
 refine ax.of_get (by rw[y_,y_,l]) λi d v e1 e2=>?_;rw[El]at e1 e2;cases f1:k.2[i]? with
 |none=>rw[f1]at e1;cases e1|some J=>
  cases U:bs[i]? with
  |none=>rw[U]at e2;cases e2|some c=>rw[f1]at e1;rw[U]at e2;simp only[HY,F8]at e1 e2;subst e1 e2;exact⟨c,_,rfl,Y i J c f1 U,kU J⟩
def lZ:List A'->M aG
 |[]=>.ok []|d::ds=>(xG d).bind λk=>(lZ ds).bind λks=>.ok (k::ks)
theorem ua:∀{ds:List A'} {e:Err},lZ ds=.error e->e=.stuck
 |[],_,h=>by cases h|d::ds,e,h=>by
  unfold lZ at h;cases e1:xG d with
  |error x=>rw[e1]at h;cases h;exact xE e1|ok k=>
   rw[e1]at h;cases e2:lZ ds with
   |error x=>rw[e2]at h;cases h;exact ua e2|ok ks=>rw[e2]at h;cases h
theorem u9:∀{ds:List A'} {ks:aG},lZ ds=.ok ks->ds=ks.map bE
 |[],_,h=>by cases h;rfl|d::ds,ks,h=>by
  unfold lZ at h;cases e1:xG d with
  |error x=>rw[e1]at h;cases h|ok k=>
   rw[e1]at h;cases e2:lZ ds with
   |error x=>rw[e2]at h;cases h|ok J=>rw[e2]at h;cases h;rw[u9 e2,C4 e1];rfl
theorem pE:∀ts:List aj,il (ts.map cU)=.ok ts
 |[]=>rfl|t::ts=>by show(bD (t.map .int)).bind _=_;rw[dz,av];show(il (ts.map cU)).bind _=_;rw[pE ts];rfl
def rG(k:LK):xG (bE k)=.ok k:=by show(il (k.2.map cU)).bind _=_;rw[pE];rfl
theorem C3{F:Hp}:∀{ks:aG} {xs:am},ax K F (ks.map bE) xs->∃rs:List (LK×i_),rs.map HX=ks/\xs=rs.map (λr=>V.ref r.2)/\∀r∈rs,l9 K F r.2 r.1
 |[],_,h=>⟨[],rfl,h,λr U=>nomatch U⟩
 |k::ks,_,⟨v,vs,e,q,r⟩=>by obtain⟨b,e1,t⟩:=C5 (rG k) q;obtain⟨rs,e2,e3,h⟩:=C3 r;exact⟨(k,b)::rs,by rw[<- e2];rfl,by rw[e,e1,e3];rfl,λx J=>(p_.mp J).elim (λz=>by rw[z];exact t) (h x)⟩
def AF{rs:List (LK×i_)}(h:Ds (rs.map λr=>V.ref r.2) us):us=rs.map λr=>w_ r.2:=by
 induction rs generalizing us with
 |nil=>cases h;rfl|cons r rs J=>
  cases h with
  |cons q t=>rw[J t];cases(show _=w_ r.2 from q);rfl
def vN{k:LK}(x:(labI prog w).is h k v)(e:∀b o,h.get? b=a_ o->h'.get? b=a_ o):(labI prog w).is h' k v:=(labI prog w).keeps x λa o us n q _=>e a o q
section
open PySem PySem.W
variable{s:k_}
def CmpAt(prog:EC)(w:Fe)(A:Fu)(Y:Eg)(P:Nat->h_->Prop)(bt:Nat->Nat->Bool):Prop:=
 ∀i j U J (s:k_) (Q:Vp) (E:Vp),(∀b o,Y.get? b=a_ o->s.heap.get? b=a_ o)->P i U->P j J->Q (.bool (bt i j)) s->o_ (u_ prog w) A (Kn .Lt U J) Q E s
variable{R:K0->k_->Prop}{P:Nat->h_->Prop}{St:Nat->Eg->Prop}
def min_go(W:Mj prog w A.in1 I fp wr n P St){f:Eg}{bt:Nat->Nat->Bool}(H:CmpAt prog w A.in1 f P bt)(S:i_)(p:S∉fp)(y:f.get? S=g_)(t:∀b∈wr,f.get? b=g_)(K:∀v (s':k_),P (Im bt (n-1)) v->(∀b o,f.get? b=a_ o->s'.heap.get? b=a_ o)->(∃h tk,s'={s with heap:=h,toks:=tk})->R (.ok (.ret v)) s'):
  ∀(k j:Nat) (h:Eg) (tk:Nat) (Y:h_) (c:Nat),n=j+1+k->St (j+1) h->P (Im bt j) Y->h.get? S=a_ {cls:=.type "list",dict:=g_,data:=.seq #[Y,Y] c,slots:=#[]}->(∀b o,f.get? b=a_ o->h.get? b=a_ o) ->
  Hi (u_ prog w) A (.builtin "min.loop" ⟨[.ref I,.none,.ref S],[]⟩) R {s with heap:=h,toks:=tk}:=by
 have m:S∉wr:=λh=>p (W.sub _ h);have C:∀{b:i_} {o:H9},f.get? b=a_ o->S≠b:=λe z=>by rw[<- z,y]at e;cases e
 have B:∀{b:i_} {o:H9},f.get? b=a_ o->b∉wr:=λe z=>by rw[t _ z]at e;cases e
 have J:(NX "min"++NX ".loop":String)="min.loop":=by decide
 intro k
 induction k with
 |zero=>intro j h tk Y c u i a q r;refine E3 Lh ?_;rw[Et GL _];show o_ _ A.in1 (Lv (.ref S) >>= _) _ _ _;refine b_ (EK q rfl ?_);show o_ _ A.in1 (Om (Gv (.ref I)) _ >>= _) _ _ _;refine b_ (Kj (W.done _ _ _ (show St n h from by rw[u];exact i) λh' tk U=>?_));show o_ _ A.in1 (Lu S (λ_=>#[]) >>= _) _ _ _;refine b_ (Hz (U S _ m q) rfl (b_ (HK (f_ ?_))));exact K Y _ (by rw[u];exact a) (λb o e=>(Dw _ _ (C e)).trans (U b o (B e) (r b o e))) ⟨_,_,rfl⟩|succ k D=>
  intro j h tk Y c u i a q r;refine E3 Lh ?_;rw[Et GL _];show o_ _ A.in1 (Lv (.ref S) >>= _) _ _ _;refine b_ (EK q rfl ?_);show o_ _ A.in1 (Om (Gv (.ref I)) _ >>= _) _ _ _;refine b_ (Kj (W.item (j+1) _ _ _ ac i λv h' tk G d U=>?_));have l:=U S _ m q;have g:∀b o,f.get? b=a_ o->h'.get? b=a_ o:=λb o e=>U b o (B e) (r b o e);show o_ _ A.in1 (Om (Hh [v,v] (Kn .Lt v Y >>= _)) _ >>= _) _ _ _;refine b_ (Kj (Ex (b_ (H (j+1) (Im bt j) v Y _ _ _ g G a ?_))));refine b_ (Ex (Fp (b_ (HK (f_ ?_)))));cases E:bt (j+1) (Im bt j)with
  |true=>simp only[Ia];refine b_ (Hz l rfl (b_ (HK ?_)));rw[J];exact f_ ⟨Ga GL _,D (j+1) _ _ v _ ac (W.frame _ _ _ d λb x o e=>(Dw _ _ (λz:S=b=>p (by rw[z];exact x))).trans e) (by simp only[Im,E,Ia];exact G) (Ef _ l rfl) λb o e=>(Dw _ _ (C e)).trans (g b o e)⟩|false=>simp only[Ec,Fy];refine b_ (HK ?_);rw[J];exact f_ ⟨Ga GL _,D (j+1) _ _ Y c ac d (by simp only[Im,E,Ec,Fy];exact a) l g⟩
theorem min_list{bt:Nat->Nat->Bool}{Q:Vp}(hh:A.handled=g_)(n:s.heap.IsList l items)(m:0<items.size)(C:CmpAt prog w A.in1 s.heap (λi v=>items[i]?=a_ v) bt)(h:∀v h' tk,items[Im bt (items.size-1)]?=a_ v->(∀b o,s.heap.get? b=a_ o->h'.get? b=a_ o)->Q v {s with heap:=h',toks:=tk}):
  o_ (u_ prog w) A (HG (.builtin "min") [.ref l]) Q E s:=by
 have J:(NX "min"++NX ".loop":String)="min.loop":=by decide
 refine PySem.call_function_tree F.kind_min F.plain_min F.entry_min (F.args_min1 _) ?_;show o_ _ A.in1 (JK "min" ["key","default"] 0 ⟨[],[]⟩ >>= _) _ _ s;refine b_ (GD (show JK "min" ["key","default"] 0 ⟨[],[]⟩=Ff [g_,g_]from rfl) (b_ (f_ ?_)));have f:l<s.z:=by obtain⟨_,e,_⟩:=n;exact mf e
 refine b_ (Jk n ?_);refine b_ (DH ?_);rw[J];have W:=K9 (prog:=prog) (w:=w) (A:=A.in1) hh s.z l (Dx f) items;have t:(s.heap.push {cls:=.type "list_iterator",data:=.fields #[.ref l,.int 0 0]}).objs.size=s.z+1:=DZ ..;have U:(s.heap.push {cls:=.type "list_iterator",data:=.fields #[.ref l,.int 0 0]}).objs.size∉[s.z,l]:=by rw[t];simp only[p_,DK,FO,L9];exact⟨Jh _,E7 (Gg f)⟩
 have a:∀b o,s.heap.get? b=a_ o->(s.heap.push {cls:=.type "list_iterator",data:=.fields #[.ref l,.int 0 0]}).get? b=a_ o:=λb o e=>d_ _ e;have Y:s.heap.get? (s.heap.push {cls:=.type "list_iterator",data:=.fields #[.ref l,.int 0 0]}).objs.size=g_:=JL (by rw[t];exact FT _);have c:∀b∈[s.z],s.heap.get? b=g_:=λb D=>by rw[ER.mp D];exact JL (t_ _)
 generalize p:s.heap.push {cls:=.type "list_iterator",data:=.fields #[.ref l,.int 0 0]}=h1 at U a Y ⊢;have k:h1.IsListIter s.z l 0/\h1.IsList l items:=by subst p;exact⟨⟨_,l_ _ rfl,rfl,rfl⟩,n.push _⟩
 refine f_ ⟨Ga GL _,E3 Lh ?_⟩;rw[Et GL _];show o_ _ A.in1 (Lv (.ref h1.objs.size) >>= _) _ _ _;have x:(h1.push {cls:=.type "list",data:=.seq ([]:as).toArray}).get? h1.objs.size=a_ {cls:=.type "list",data:=.seq ([]:as).toArray}:=l_ _ rfl;have r:h1.objs.size∉[s.z]:=λh=>U (W.sub _ h);refine b_ (EK x rfl ?_);show o_ _ A.in1 (Om (Gv (.ref s.z)) _ >>= _) _ _ _;refine b_ (Kj (W.item 0 _ _ _ m (W.frame _ _ _ k λb _ o e=>d_ _ e) λv h' tk G d g=>?_));have u:=g h1.objs.size _ r x;show o_ _ A.in1 (Lu h1.objs.size (λ_=>#[v,v]) >>= _) _ _ _;refine b_ (Hz u rfl ?_);rw[J];refine f_ ⟨Ga GL _,min_go (s:=s) (A:=A) W C h1.objs.size U Y c (λy s' hv B ⟨h2,j,e⟩=>?_) (items.size-1) 0 _ _ v _ ac (W.frame _ _ _ d λb q o e=>(Dw _ _ (λz:h1.objs.size=b=>U (by rw[z];exact q))).trans e) G (Ef _ u rfl) λb o e=>(Dw _ _ (λz=>by rw[<- z,Y]at e;cases e)).trans (g b o (λz=>by rw[c _ z]at e;cases e) (d_ _ (a b o e)))⟩;subst e;exact h y h2 j hv B
end
def jS(k:LK)(ks:aG):LK:=ks.foldl (λb x=>if ltL x b=e_ then x else b) k
theorem uS(bt:LK->LK->Bool)(J:aG)(d:LK):∀j,j<J.length->J.getD (Im (λi j=>bt (J.getD i d) (J.getD j d)) j) d=(J.drop 1 |>.take j).foldl (λb x=>if bt x b=e_ then x else b) (J.getD 0 d)
 |0,_=>by simp[Im]|j+1,h=>by
  have U:=uS bt J d j ac;have e:(J.drop 1).take (j+1)=(J.drop 1).take j++[J.getD (j+1) d]:=by rw[NA,Kh,C_ ac,DN,C_ h];simp[Nat.add_comm]
  rw[e,NC,<- U];simp only[Im,D_,List.foldl_nil];split<;>rfl
section
variable{W:cn}
def lab_lt:LtI (labI prog w) ltL:=λ{A E s x y u v Q} Y ⟨a,l,k,e1,d,p1,p2⟩ ⟨b,j,i,e2,c,q1,q2⟩ h=>by
 subst e1 e2;have Y:A.units+(max 0 (0+1+1)+1)<Ez:=Y;have g:A.units+3<Ez:=Y;refine lt_tup ac d c ?_ h;unfold ltL;by_cases e:x.1=y.1
 .rw[s_ e];refine .eq (λE s' Q J U=>(Ao prog w).eqBool (by show A.units+1+0<Ez;omega) (by rw[J];exact p1) (by rw[J];exact q1) (by rw[Gu e];exact U)) ?_;by_cases f:x.2=y.2
  .refine .eq (λE s' Q J U=>(tupI (tupI (Ao prog w))).eqBool (by show A.units+1+(0+1+1)<Ez;omega) (by rw[J];exact p2) (by rw[J];exact q2) (by rw[Gu f];exact U)) ?_;rw[f,ordR.irr];exact .nil (.inl rfl)
  .exact .ne (λE s' Q J U=>(tupI (tupI (Ao prog w))).eqBool (by show A.units+1+(0+1+1)<Ez;omega) (by rw[J];exact p2) (by rw[J];exact q2) (by rw[Eu f];exact U)) λE s' Q J U=>wV (wV int_lt) (by show A.units+1+(0+1+1)<Ez;omega) (by rw[J];exact p2) (by rw[J];exact q2) U
 .rw[q_ e];exact .ne (λE s' Q J U=>(Ao prog w).eqBool (by show A.units+1+0<Ez;omega) (by rw[J];exact p1) (by rw[J];exact q1) (by rw[Eu e];exact U)) λE s' Q J U=>int_lt (by show A.units+1+0<Ez;omega) (by rw[J];exact p1) (by rw[J];exact q1) U
def minLD:List A'->M A'
 |[.lst ds]=>(lZ ds).bind λks=>match ks with
  |[]=>stk|k::ks=>.ok (bE (jS k ks))
 |_=>stk
def c_minL(hu:X.A.units+64<Ez)(S: ~~~(X.calm=e_))(Y: ~~~(X.K=K)):mv K W c_ X (.builtin "min") minLD:=by
 subst Y;intro B4 s σ H xs us Q I E h;obtain⟨F,d,x,g,e,q,p⟩:=kB (λds=>by match ds with|[d]=>exact .inl ⟨d,rfl⟩|[]=>exact .inr rfl|a::b::c=>exact .inr (by cases a<;>rfl)) h;subst e;obtain⟨u,rfl,D⟩:=E.one;cases d with
 |lst ds=>
  obtain⟨a,ys,e1,t,r⟩:=q;subst e1;cases D;have p:aH X.K W c_ F H ((lZ ds).bind λks=>match ks with|[]=>stk|k::ks=>.ok (bE (jS k ks))) Q:=p;cases ek:lZ ds with
  |error z=>cases ua ek;rw[ek]at p;exact aH.stuck p|ok ks=>
   rw[ek,av]at p;cases ks with
   |nil=>exact aH.stuck p|cons k ks=>
    have p:aH X.K W c_ F H (.ok (bE (jS k ks))) Q:=p;rw[u9 ek]at r;obtain⟨rs,e2,e3,Y⟩:=C3 r;obtain⟨its,C,pl,hz⟩:=I.list (g.lst t);subst e3;have U:=AF C;subst U;have y:rs.length=ks.length+1:=by rw[<- y_ (f:=HX),e2];rfl
    have J:∀i v,(rs.map λr=>w_ r.2).toArray[i]?=a_ v->∃r∈rs,v=w_ r.2/\r.1=(rs.map HX).getD i (0,[]):=λi v e=>by
     rw[JC,El]at e;cases m:rs[i]? with
     |none=>rw[m]at e;cases e|some r=>rw[m]at e;cases e;exact⟨r,MC m,rfl,by rw[DN,El,m];rfl⟩
    refine min_list (bt:=λi j=>ltL ((rs.map HX).getD i (0,[])) ((rs.map HX).getD j (0,[]))) (I.ok.hd S) pl.isList (by simp[y]) (λi j B A s' Q' E' l hi R w=>?_) λv h' tk hv l=>?_
    .obtain⟨L,O,rfl,Z⟩:=J i B hi;obtain⟨G,N,rfl,T⟩:=J j A R;dsimp only at w;rw[<- Z,<- T]at w;exact lab_lt (by show X.A.units+1+3<Ez;omega) (vN (nq I ((Y L O).mono g)) l) (vN (nq I ((Y G N).mono g)) l) w
    .have hsz:(rs.map λr=>w_ r.2).toArray.size-1=ks.length:=by simp[y]
     rw[hsz]at hv;obtain⟨o,P,rfl,n⟩:=J _ _ hv;rw[uS ltL (rs.map HX) (0,[]) ks.length (by rw[y_,y];omega),e2]at n;have n:o.1=jS k ks:=by rw[n];simp[jS]
     refine⟨.ref o.2,H,I.kept (t':=tk) l,rfl,p _ F H (B5.refl g) ?_⟩
     rw[<- n];exact xD (Y o P)
 |_=>exact aH.stuck p
end
def upd_low2{d:i_}{x y z l:HO}(Y:L≠a):upd (upd (upd (upd H a x) L l) d y) a z=upd (upd (upd H L l) d y) a z:=by
 funext b
 by_cases J:b=a
 .subst J;rw[ak,ak]
 .rw[aq J,aq J];by_cases hd:b=d
  .subst hd;rw[ak,ak]
  .rw[aq hd,aq hd];by_cases U:b=L
   .subst U;rw[ak,ak]
   .rw[aq U,aq U,aq J]
def spXL(K:Fg)(C:i_)(f1:Dy):Sp:=λvs H Q _=>∃a l xs,vs=[.ref a,.ref l]/\H a=a_ (XO a C g_)/\SqL K H l xs/\∀L d,H L=g_->upd H L (.lst xs) d=g_->Q .non (upd (upd (upd H L (.lst xs)) d (XD d [(f1,.ref L)])) a (XO a C (a_ d)))
section
variable{s:k_}{f:i_}{f1:Dy}{xs:List V}
theorem new_xL(FB:G3 B newId initId bmB)(D:jm X.K C bmB newId f=e_)(y:FP X.K (.ref f)=a_ (.type "function"))(F:eJ X.prog X.w X.K X.mg X.base CX0 k f fd ps (spXL X.K C f1))(t:eW (k+1) X.A)(A:Binds X.K fd ps [])(I:B6 X B4 σ H s)(r:Ds [V.ref l] us)(U:SqL X.K H l xs):o_ (u_ X.prog X.w) X.A (HG (.ref C) us) (λv s'=>∃a d L,v=.ref a/\s.heap.objs.size<=a/\H L=g_/\L≠a/\H a=g_/\upd H L (.lst xs) d=g_/\d≠a/\B6 X B4 σ (upd (upd (upd H L (.lst xs)) d (XD d [(f1,.ref L)])) a (XO a C (a_ d))) s') X.xe s:=by
 obtain⟨tl,N,nm,R,bs,hdct,sn,sub,ab,col,dd,k0,k1,k2,k3,k5,mN,j,i,h,g⟩:=rP I.kIn D;obtain⟨oI,p,o⟩:=fn_at I.kIn y;obtain⟨hh,O,P,tk,os⟩:=s;have S:=Ey;have x:us.length<=n_:=by rw[<- r.length];show 1<=n_;omega
 refine x_call FB g j i h p o x ?_;have m:(qE hh C us).get? (hh.objs.size+1)=a_ (AB C hh.objs.size):=sR;have J:B6 X B4 σ (upd H (hh.objs.size+1) (XO (hh.objs.size+1) C g_)) {(⟨hh,O,P,tk,os⟩:k_)with heap:=qE hh C us,toks:=tk}:=
  I.laid (λb u q=>mO q) (FT _) (xo_ok (vs:=#[.ref hh.objs.size,.none,.none,.none,.bool c_,.none]) rfl m)
 have fa:H (hh.objs.size+1)=g_:=I.hok.fresh (FT _);have w:Ds [V.ref (hh.objs.size+1),V.ref l] (w_ (hh.objs.size+1)::us++[]):=by rw[Fc];exact .cons rfl r
 have q:spXL X.K C f1 [V.ref (hh.objs.size+1),V.ref l] (upd H (hh.objs.size+1) (XO (hh.objs.size+1) C g_)) (λv H2=>v=.non/\∃d L,H L=g_/\L≠hh.objs.size+1/\upd H L (.lst xs) d=g_/\d≠hh.objs.size+1/\H2=upd (upd (upd H L (.lst xs)) d (XD d [(f1,.ref L)])) (hh.objs.size+1) (XO (hh.objs.size+1) C (a_ d))) (λ_ _ _=>False):=by
  refine⟨_,l,xs,rfl,ak,(aO.upd fa).lst U,λL d Y hd=>?_⟩
  have e1:L≠hh.objs.size+1:=λz=>by rw[z,ak]at Y;cases Y
  rw[aq e1]at Y;have e2:d≠hh.objs.size+1:=λz=>by rw[z,aq (Em e1),ak]at hd;cases hd
  refine⟨rfl,d,L,Y,e1,?_,e2,upd_low2 e1⟩
  by_cases e3:d=L
  .subst e3;rw[ak]at hd;cases hd
  .rw[aq e3,aq e2]at hd;rw[aq e3];exact hd
 have n:(w_ (hh.objs.size+1)::us++[]).length=ps.length:=w.length.symm.trans (F.len _ _ _ _ q);refine JS (Gd (F.run _ X.stack _ _ ⟨.ref (hh.objs.size+1)::us,[]⟩ _ _ _ (λ_ _ _=>False) (t.make C us []) (J.env0.make C us []) (A _ (.ref (hh.objs.size+1)::us) J.kIn n) w q) λz s' U=>?_);cases z with
 |error e=>exact(show False from U).elim|ok fl=>
  cases fl with
  |ret u=>obtain⟨v,H',Q,c,ev,d,L,h1,h2,K,G,E⟩:=J.after U;subst ev E;exact⟨c,_,d,L,rfl,FT _,h1,h2,fa,K,G,Q⟩
  |_=>exact Ej U
end
def tRaiseL(K:Fg)(t:TA)(C:i_)(f1:Dy)(E:XK):TS:=λ_ σ H=>t σ H λvs H1=>∃l xs,vs=[.ref l]/\SqL K H1 l xs/\∀L d,H1 L=g_->upd H1 L (.lst xs) d=g_->E (.ref C) (a_ d) (upd (upd H1 L (.lst xs)) d (.xd [(f1,.ref L)]))
section
variable{E:XK}{f:i_}{t:TA}{f1:Dy}
def Bp(FB:G3 B newId initId bmB)(W:XEq2 X E C)(O:jm X.K C bmB newId f=e_)(hf:FP X.K (.ref f)=a_ (.type "function"))(hk:Gw X.K (.ref C)=e_)(F:eJ X.prog X.w X.K X.mg X.base CX0 k f fd ps (spXL X.K C f1))(G:eW (k+1) X.A)(Y:Binds X.K fd ps [])(hm:X.mg x=a_ (.ref C))(ha:PA X [e1] t)(hg: ~~~(Gl X x))(n:((x==("__debug__":Dy))=c_)⁻¹)(j: ~~~(j_ [e1] X.env=[(c_,DC e1 X.env)])):
  PS X (.Raise (a_ (.Call (.Name x np) [e1] [] cpos)) g_ pos) (tRaiseL X.K t C f1 E):=by
 intro B4 s σ H D I h;obtain⟨tl,N,nm,P,bs,hdct,sn,sub,ab,col,dd,k0,k1,k2,k3,k5,mN,R,o2,o3,Q⟩:=rP I.mod.kin O;rw[arm_exec_Raise];refine b_ (Jq (v5 (C:=C) (nm:=nm) (q:=P) (N:=N) (bs:=bs) (tl:=tl) (hdct:=hdct) (sn:=sn) (sub:=sub) (ab:=ab) (col:=col) (dd:=dd) (k0:=k0) (k1:=k1) (k2:=k2) (k3:=k3) (k5:=k5) (newId:=newId) (Q.hasType FB.hasBase) G.hd (b_ (HH ?_ λv A U=>b_ (Jq (f_ U))))));refine FD (fH I hg hm (IW (h₀:=X.base) I.ok.mod.kin hk (HH (ha cpos B4 s σ H _ I h) λus s1 m=>?_) j rfl) n);obtain⟨vs,H1,w,r,q1⟩:=m;refine⟨w.kIn,?_⟩
 obtain⟨l,xs,rfl,Z,q1⟩:=q1;refine HH (new_xL FB O hf F G Y w r Z) λv e m=>?_;obtain⟨a,d,L,ev,hn,hL,p,u,hd,g,J⟩:=m;subst ev;have fa:upd H1 L (.lst xs) a=g_:=by rw[aq (Em p)];exact u
 generalize hH:upd H1 L (.lst xs)=H2 at fa hd J;obtain⟨vs,y,K⟩:=Ay (J.hok a _ ak);have c:upd (upd H2 d (XD d [(f1,.ref L)])) a (XO a C (a_ d)) d=a_ (XD d [(f1,.ref L)]):=by rw[aq g];exact ak
 have J2:B6 X B4 σ (upd H2 d (.xd [(f1,.ref L)])) {e with heap:=e.heap,toks:=e.toks}:=by
  refine J.turn (λb=>b=a\/b=d) (λb o _ q=>q) (λb i=>?_) (λb Y=>?_) (λb o _ q=>⟨o,q⟩) λb o Y q=>?_
  .rw[aq λz=>i (.inr z),aq λz=>i (.inl z),aq λz=>i (.inr z)]
  .rcases Y with rfl|rfl
   .exact .inl ⟨_,ak⟩
   .exact .inl ⟨_,c⟩
  .rcases Y with rfl|rfl
   .rw[aq (Em g),fa]at q;cases q
   .rw[ak]at q;cases q;obtain⟨mA,S,n2,_⟩:=xd_get (J.hok _ _ c);exact⟨mA,S,n2⟩
 exact⟨a,_,rfl,J.bk _ _ R,K,rfl,⟨vs,rfl,y⟩,W B4 σ _ e a d J2 ⟨⟨_,vs,K,rfl,rfl,rfl,y⟩,λT hT=>nomatch hT⟩ (get_none (Ee w.sz hn)) (by rw[aq (Em g)];exact fa) (by subst hH;exact q1 L d hL hd)⟩
end
def yE(C:i_)(f1:Dy):List A'->M C'
 |[.lst ds]=>.error (.exc C [(f1,.lst ds)])|_=>.error .stuck
def yU(C:i_)(f1:Dy)(fr:aa->M (List A')):aa->M C':=λρ=>(fr ρ).bind (yE C f1)
@[simp]def e_sExcL(C:i_)(f1:Dy)(fr:aa->M (List A'))(ρ:aa):yU C f1 fr ρ=(fr ρ).bind (yE C f1):=id rfl
@[simp]def e_xResL(C:i_)(f1:Dy)(ds:List A'):yE C f1 [.lst ds]=.error (.exc C [(f1,.lst ds)]):=id rfl
section
variable{E:XK}{f:i_}{fr:aa->M (List A')}{f1:Dy}
def CF(FB:G3 B newId initId bmB)(m:XEq2 X E C)(P:jm X.K C bmB newId f=e_)(w:FP X.K (.ref f)=a_ (.type "function"))(u:Gw X.K (.ref C)=e_)(F:eJ X.prog X.w X.K X.mg X.base CX0 k f fd ps (spXL X.K C f1))(n:eW (k+1) X.A)(A:Binds X.K fd ps [])(s:X.mg x=a_ (.ref C))(G:DA K (WE K E) X [e1] fr)(v: ~~~(Gl X x))(c:((x==("__debug__":Dy))=c_)⁻¹)(b: ~~~(j_ [e1] X.env=[(c_,DC e1 X.env)]))(N: ~~~(X.K=K)):
  DS K (WE K E) ro X OL O O' (.Raise (a_ (.Call (.Name x np) [e1] [] cpos)) g_ pos) (yU C f1 fr):=λF0 H0=>PS.imp (Bp FB m P w u F n A s G v c b) λD σ H ⟨S,F,ρ,r,p⟩=>by
 subst N;have i:=r.freeze (O2:=[]) ad;refine gS r.gI r.dj (λe y=>p.fO i.st (by unfold yU;rw[y];rfl)) λds hd vs F1 H1 a q=>?_;have Q:yU C f1 fr ρ=yE C f1 ds:=by unfold yU;rw[hd];rfl
 rw[Q]at p;by_cases j:∃es,ds=[.lst es]
 .obtain⟨es,rfl⟩:=j;obtain⟨T,Y,rfl,⟨l,xs,R,t,z⟩,o⟩:=q;cases(show Y=[]from o);subst R;refine⟨l,xs,rfl,a.fh.lst t,λL d I g=>?_⟩
  have st:=i.st.trans a;have U:B5 F1 H1 (upd F1 L (.lst xs)) (upd H1 L (.lst xs)):=B5.lay a.fh I;have J:B5 (upd F1 L (.lst xs)) (upd H1 L (.lst xs)) (upd (upd F1 L (.lst xs)) d (.xd [(f1,.ref L)])) (upd (upd H1 L (.lst xs)) d (.xd [(f1,.ref L)])):=B5.lay U.fh g;exact p _ _ (st.trans (U.trans J)) d _ ak ⟨.ref L,[],rfl,⟨L,xs,rfl,SqL.of (J.ff _ _ ak),(z.mono U.ff).mono J.ff⟩,rfl⟩
 .have h:yE C f1 ds=.error .stuck:=by
   unfold yE;split
   .exact DD ⟨_,rfl⟩ j
   .rfl
  rw[h]at p;exact((WE X.K E).ns p).elim
end
def pC(i j:Nat)(f1:Dy)(g:A'->M A'):List (Dy×A')->aa->M aa:=λfs ρ=>match fs.lookup f1 with
 |some a=>(g a).bind λb=>.ok ((ρ.set j (a_ b)).set i g_)|_=>.error .stuck
noncomputable def idD(d:A'):M A':=.ok d
@[simp]def e_xTold1(i j:Nat)(f1:Dy)(g:A'->M A')(d:A')(fs:List (Dy×A'))(ρ:aa):pC i j f1 g ((f1,d)::fs) ρ=(g d).bind λb=>.ok ((ρ.set j (a_ b)).set i g_):=by unfold pC;rw[A_,Ng]
@[simp]def e_idD(d:A'):idD d=.ok d:=id rfl
section
variable{d:i_}{gs:List (Dy×V)}{fs:List (Dy×A')}{f1:Dy}
def Rep.told1{b:A'}{v:V}(r:Rep K F0 H0 FB O F H σ ρ)(o:i≠j)(hi:i<σ.length)(h:j<σ.length)(d:i∉O)(Y:j∉O)(q:aU K F b v):
  Rep K F0 H0 FB O F H (((σ.set i (a_ (.ref a))).set j (a_ v)).set i g_) ((ρ.set j (a_ b)).set i g_):=by
 have out:∀m,m≠i->m≠j->(((σ.set i (a_ (.ref a))).set j (a_ v)).set i g_)[m]?=σ[m]?:=λm h1 h2=>by rw[m_ (Em h1),m_ (Em h2),m_ (Em h1)]
 have J:∀m,m≠i->m≠j->((ρ.set j (a_ b)).set i g_)[m]?=ρ[m]?:=λm h1 h2=>by rw[m_ (Em h1),m_ (Em h2)]
 have f:∀dd,((ρ.set j (a_ b)).set i g_)[i]?≠a_ (a_ dd):=λdd e=>by rw[vw (by rw[DM,r.len];exact hi)]at e;cases e
 refine⟨r.st,r.fb,by simp only[DM];exact r.len,λm dd e U=>?_,λm dd e U=>?_,λm n s p c U g e1 e2 e3 e4=>?_⟩
 .by_cases h1:m=i
  .subst h1;exact(f _ e).elim
  .by_cases h2:m=j
   .subst h2;rw[m_ (Em h1),vw (by rw[r.len];exact h)]at e;cases e;exact⟨v,by rw[m_ (Em h1),vw (by rw[DM];exact h)],q⟩
   .rw[J m h1 h2]at e;rw[out m h1 h2];exact r.fz m dd e U
 .have h1:m≠i:=λz=>d (z▸U);have h2:m≠j:=λz=>Y (z▸U);rw[J m h1 h2]at e;rw[out m h1 h2];exact r.ow m dd e U
 .have h1:m≠i:=λz=>d (z▸U);have h2:m≠j:=λz=>Y (z▸U);have l:n≠i:=λz=>d (z▸g);have k:n≠j:=λz=>Y (z▸g);rw[J m h1 h2]at e1;rw[J n l k]at e2;rw[out m h1 h2]at e3;rw[out n l k]at e4;exact r.ap m n s p c U g e1 e2 e3 e4
def rs_told1{g:A'->M A'}(h:∀{F H:Hp} {b:A'} {v:V} {Q:VK},aO F H->F d=a_ (.xd gs)->gs.lookup f1=a_ v->aU K F b v->aH K J3 c_ F H (g b) Q->te (σ.set i (a_ (.ref a))) H Q)(r:Rep K F0 H0 FB O F H σ ρ)(hd:F d=a_ (.xd gs))(l:i3 K F fs gs)(U:i≠j)(hi:i<σ.length)(f:j<σ.length)(Y:i∉O)(J:j∉O)(q:ck K J3 ro F0 H0 FB OL O D ((pC i j f1 g fs ρ).bind λρ'=>.ok (.nx ρ'))):
  tAsg te (m6 j) (D.less i) (σ.set i (a_ (.ref a))) H:=by
 unfold pC at q;cases h1:fs.lookup f1 with
 |none=>rw[h1]at q;exact(J3.ns q).elim|some b=>
  rw[h1]at q;obtain⟨v,k,q1⟩:=l.at.1 b h1;refine h r.st.fh hd k q1 ?_;have q:ck K J3 ro F0 H0 FB OL O D (((g b).bind λb=>.ok ((ρ.set j (a_ b)).set i g_)).bind λρ'=>.ok (.nx ρ')):=q;cases e:g b with
  |error z=>rw[e]at q;exact q.elim|ok c=>rw[e]at q;intro m F2 H2 st z;exact q _ _ _ ((r.step st).told1 U hi f Y J z)
end
def tsTold1(j:Nat)(te:i_->TE):Option i_->TS
 |none=>tNever|some d=>tAsg (te d) (m6 j)
section
variable{c n:Dy}{p7:Pos}{fb:aa->M C'}{f1:Dy}
def ds_told1(P:∀(B4:Pn) (σ:St) (E:XK) (w:Vp),gu (CXd X.prog X.w) (X.lO w) B4 σ E->DSat K E ro (X.lO w) OL [] O B4 σ body fb)(Z:XTry X.K X.mg c C)(R:yA X.K C f1)(G:X.N.Nodup)(h:(i≠j)⁻¹)(k:(i∉O)⁻¹)(f:(j∉O)⁻¹)(hi: ~~~(X.N[i]?=a_ n))(B: ~~~(X.N[j]?=a_ to))(A: ~~~(X.env.scope.names.lookup n=a_ .local))(U: ~~~(X.env.scope.names.lookup to=a_ .local))(L: ~~~(Gl X c))(m: ~~~(X.ex=[]))(J: ~~~(X.stack=X.env::X.outer))(l: ~~~(X.env.frame=a_ X.env.locals))(o:((c==("__debug__":Dy))=c_)⁻¹)(t:((n==("__debug__":Dy))=c_)⁻¹)(s:((n==("__classdict__":Dy))=c_)⁻¹)(u: ~~~(E5 (.Name n p3) f1 X.env (DC (.Name n p3) X.env)=DC (.Name n p3) X.env))(Y: ~~~(Fd (.Attribute (.Name n p3) f1 p4) (a_ (.Name to p1)) p7.line X.env=Ff c_)):
  DS K J3 ro X OL O O (.Try body [.ExceptHandler (a_ (.Name c np)) (a_ n) [.Assign [.Name to p1] (.Attribute (.Name n p3) f1 p4) p7] hpos] [] [] pos) (mV O C fb (pC i j f1 idD)):=by
 refine ds_tryF (ts:=λa dx=>tsTold1 j (λd=>tFldX i a d f1) dx) P (λa oe N hd=>?_) (λF0 H0 D σ a d gs fs FB F H ρ z r h1 h2 p=>?_) Z.nm dkK Z.mg G hi A L m J l o
 .cases I:oe.dict with
  |none=>exact tQ|some d=>exact ky (xp (X:=X.hand a oe) G B (.inl U) (pe_xfld Jf Z.isi R N hd I hi (.inl A) t s u) Y (.inr U))
 .have y:i<σ.length:=by rw[z];exact(v_.mp hi).1
  exact rs_told1 (g:=idD) (te:=tFldX i a d f1) (gs:=gs) (d:=d) (λ{F H b v Q} x hd e q p=>⟨by rw[vw y],gs,v,x _ _ hd,e,(show aH K J3 c_ F H (.ok b) Q from p) v F H (B5.refl x) q⟩) r h1 h2 h y (by rw[z];exact(v_.mp B).1) k f p
end
section
variable{W:cn}{own:Bool}{a b:EM}{f:aa->M A'}{rest:List EM}
def ds_drop(h:DE K W own X e f)(U: ~~~(Fd e g_ pos.line X.env=Ff c_)):DS K W ro X OL O O (.Expr e pos) (i5 O f):=λF0 H0=>PS.imp (mZ h U) λD σ H ⟨FB,F,ρ,r,p⟩=>by
 refine aK r.gU r.st.fh (λe Y=>p.fO r.st (by unfold i5;rw[Y];rfl)) λd hd v F1 H1 J q=>?_;have z:i5 O f ρ=.ok (.nx ρ):=by unfold i5;rw[hd];rfl
 rw[z]at p;exact p σ F1 H1 (r.step J)
def orN(a:A')(b:M A'):M A':=match a with
 |.non=>b|.lst []=>b|.lst (d::ds)=>.ok (.lst (d::ds))|_=>.error .stuck
def fOrN(fa fb:aa->M A'):aa->M A':=λρ=>(fa ρ).bind λa=>orN a (fb ρ)
@[simp]def e_fOrN(fa fb:aa->M A')(ρ:aa):fOrN fa fb ρ=(fa ρ).bind λa=>orN a (fb ρ):=id rfl
@[simp]def e_orN2(d:A')(ds:List A')(b:M A'):orN (.lst (d::ds)) b=.ok (.lst (d::ds)):=id rfl
def de_orN(w:DE K W c_ X a fa)(u:DE K W c_ X (.BoolOp .Or (b::rest) pos) fb)(y: ~~~(X.K=K)):DE K W c_ X (.BoolOp .Or (a::b::rest) pos) (fOrN fa fb):=by
 subst y;intro B4 s σ H Q I h;obtain⟨F,ρ,r,o,p⟩:=h;refine BoolOp_or (HH (w B4 s σ H (λx H1=>∃F1 d,fa ρ=.ok d/\B5 F H F1 H1/\aU X.K F1 d x) I (aK r o (λe t=>p.err (by unfold fOrN;rw[t];rfl)) λd hd x F1 H1 J q1=>⟨F1,d,hd,J,q1⟩)) λv J i=>?_);obtain⟨x,H1,g,m,F1,d,hd,st,q⟩:=i;have z:fOrN fa fb ρ=orN d (fb ρ):=by unfold fOrN;rw[hd];rfl
 rw[z]at p;have l:∀(J:k_) (g:B6 X B4 σ H1 J),aH X.K W c_ F H (fb ρ) Q->o_ (u_ X.prog X.w) X.A (DC (.BoolOp .Or (b::rest) pos) X.env) (EP X B4 σ Q) X.xe J:=λJ g p=>u B4 J σ H1 Q g ⟨F1,ρ,r.mono st.ff,st.fh,p.step st⟩;have Y:∀(k:Bool),truD d=.ok k->o_ (u_ X.prog X.w) X.A (OI v) (λc U=>c=k/\B6 X B4 σ H1 U) X.xe J:=λk j=>HH (tru_ok B4 J σ H1 x v (λc H'=>c=k/\H'=H1) g m ⟨k,tru_of st.fh q j,rfl,rfl⟩) λc U ⟨H',f,e1,e2⟩=>by subst e2;exact⟨e1,f⟩
 have n:truD d=.ok c_->aH X.K W c_ F H (fb ρ) Q->o_ (u_ X.prog X.w) X.A (OI v) (λc U=>if c=e_ then EP X B4 σ Q v U else o_ (u_ X.prog X.w) X.A (DC (.BoolOp .Or (b::rest) pos) X.env) (EP X B4 σ Q) X.xe U) X.xe J:=λj p=>HH (Y c_ j) λc U ⟨e1,f⟩=>by subst e1;exact l U f p
 cases d with
 |non=>exact n rfl p|lst ds=>
  cases ds with
  |nil=>exact n rfl p|cons d ds=>refine HH (Y e_ rfl) λc U i=>?_;obtain⟨e1,f⟩:=i;subst e1;exact⟨x,H1,f,m,p x F1 H1 st q⟩
 |_=>exact aH.stuck p
end
mutual
noncomputable def dm:A'->Bool
 |.tup ds=>fE ds|.lst ds=>fE ds|.ins _ _=>c_|.dic _=>c_|.dil _=>c_|_=>e_
noncomputable def fE:List A'->Bool
 |[]=>e_|d::ds=>dm d&&fE ds
end
mutual
theorem aU.plain{K:Fg}{F F':Hp}(s:∀a xs,SqT K F a xs->SqT K F' a xs)(t:∀a xs,SqL K F a xs->SqL K F' a xs):∀{d:A'} {v:V},dm d=e_->aU K F d v->aU K F' d v
 |.non,_,_,h=>h|.bl _,_,_,h=>h|.int _,_,_,h=>h|.str _,_,_,h=>h|.tup ds,_,f,⟨a,xs,e,q,r⟩=>⟨a,xs,e,s _ _ q,ax.plain s t (by simpa[dm] using f) r⟩|.lst ds,_,f,⟨a,xs,e,q,r⟩=>⟨a,xs,e,t _ _ q,ax.plain s t (by simpa[dm] using f) r⟩|.ins _ _,_,f,_=>by simp[dm]at f|.dic _,_,f,_=>by simp[dm]at f|.dil _,_,f,_=>by simp[dm]at f
theorem ax.plain{K:Fg}{F F':Hp}(s:∀a xs,SqT K F a xs->SqT K F' a xs)(t:∀a xs,SqL K F a xs->SqL K F' a xs):∀{ds:List A'} {xs:am},fE ds=e_->ax K F ds xs->ax K F' ds xs
 |[],_,_,h=>h|d::ds,_,f,⟨v,vs,e,q,r⟩=>by simp only[fE,r_]at f;exact⟨v,vs,e,aU.plain s t f.1 q,ax.plain s t f.2 r⟩
end
def ll(i:Nat)(fk fv:aa->M A'):aa->M C':=λρ=>(fv ρ).bind λd=>(kT ρ i).bind λks=>(fk ρ).bind λJ=>(nB J).bind λk=>if (dm d&&z_ (ks.length<n_))=e_ then .ok (.nx (ρ.set i (a_ (.dic (j9 ks k d)))))else .error .stuck
@[simp]def e_putDL(i:Nat)(fk fv:aa->M A')(ρ:aa):ll i fk fv ρ=(fv ρ).bind λd=>(kT ρ i).bind λks=>(fk ρ).bind λJ=>(nB J).bind λk=>if (dm d&&z_ (ks.length<n_))=e_ then .ok (.nx (ρ.set i (a_ (.dic (j9 ks k d)))))else .error .stuck:=id rfl
section
variable{W:cn}
def Rep.minusL{ks:List (aj×A')}(r:Rep K F0 H0 FB [i] F H σ ρ)(hd:ρ[i]?=a_ (a_ (.dic ks)))(s:B5 (plus F H (j8 [i] [] σ ρ)) H F1 H1)(b:i_)(xs:am)(h:SqL K F1 b xs):SqL K (minus F1 (j8 [i] [] σ ρ)) b xs:=by
 have key:∀{b:i_} {o:HO},F1 b=a_ o->(∀f,o≠.ext f)->minus F1 (j8 [i] [] σ ρ) b=a_ o:=λ{b o} h n=>by
  by_cases J:j8 [i] [] σ ρ b
  .obtain⟨j,d,U,_,_,e1,e2⟩:=id J;have:=ER.mp U;subst this;rw[hd]at e1;cases e1;obtain⟨v,e3,a,ys,ev,⟨ep,Y⟩,_⟩:=r.ow j _ hd Ea;rw[e2]at e3;cases e3;cases ev;have:=s.ff _ _ (by rw[iu J];exact Y);rw[h]at this;cases this;exact DD rfl (n _)
  .rw[cL J];exact h
 rcases h with(h|⟨o,h⟩)|h
 .exact .inl (.inl (key h λf z=>nomatch z))
 .exact .inl (.inr ⟨o,key h λf z=>nomatch z⟩)
 .exact .inr h
def rs_putDL(t:tS K W ro F0 H0 OL [i] [i] (ll i fk fv) D σ H):sPut K (Am i) (tD K W c_ fk) (tD K W c_ fv) D σ H:=by
 obtain⟨FB,F,ρ,r,p⟩:=t;have hi:i∈[i]:=Ea;refine aK r.gI r.dj (λe l=>p.fO (r.freeze (O2:=[]) ad).st (by unfold ll;rw[l];rfl)) λd hd v F1 H1 h q=>?_;have A:ll i fk fv ρ=(kT ρ i).bind λks=>(fk ρ).bind λY=>(nB Y).bind λk=>if (dm d&&z_ (ks.length<n_))=e_ then .ok (.nx (ρ.set i (a_ (.dic (j9 ks k d)))))else .error .stuck:=by unfold ll;rw[hd];rfl
 rw[A]at p;cases c:kT ρ i with
 |error e=>have:=uC c;subst this;exact p.stuck (by rw[c];rfl)|ok ks=>
  rw[c]at p;have p1:ck K W ro F0 H0 FB OL [i] D ((fk ρ).bind λY=>(nB Y).bind λk=>if (dm d&&z_ (ks.length<n_))=e_ then .ok (.nx (ρ.set i (a_ (.dic (j9 ks k d)))))else .error .stuck):=p;have U:=r.eK h;obtain⟨B,e2,a,xs,ev,⟨ep,u⟩,_,_,z⟩:=U.ow i _ (kg c) hi;subst ev;refine⟨.ref a,e2,?_⟩
  refine aK U.gI U.dj (λe l=>p1.fO (U.freeze (O2:=[]) ad).st (by rw[l];rfl)) λY s w F2 H2 f q2=>?_;rw[s]at p1;have p2:ck K W ro F0 H0 FB OL [i] D ((nB Y).bind λk=>if (dm d&&z_ (ks.length<n_))=e_ then .ok (.nx (ρ.set i (a_ (.dic (j9 ks k d)))))else .error .stuck):=p1;cases J:nB Y with
  |error e=>have:=mD J;subst this;exact p2.stuck (by rw[J];rfl)|ok k=>
   rw[J]at p2;have p3:ck K W ro F0 H0 FB OL [i] D (if (dm d&&z_ (ks.length<n_))=e_ then .ok (.nx (ρ.set i (a_ (.dic (j9 ks k d)))))else .error .stuck):=p2;by_cases g:(dm d&&z_ (ks.length<n_))=e_
   .rw[s_ g]at p3;simp only[r_,DX]at g;obtain⟨b,rfl,t⟩:=rJ J q2;have j:=U.eK f;have o:aU K (minus F1 (j8 [i] [] σ ρ)) d v:=aU.plain (r.jg h) (r.minusL (kg c) h) g.1 q;have m:=z.mono (U.dQ f);have n:=U.jg f b _ t;exact⟨a,b,k,xs,ep,rfl,rfl,f.hh _ _ u,m.key.mono j.st.fh,j.st.fh.tup n,by rw[z.length];exact g.2,λep'=>p3 σ _ _ (j.wR hi (kg c) rfl e2 λy x=>⟨a,_,rfl,⟨ep',ak⟩,y,x,m.put n (o.mono (U.dQ f))⟩)⟩
   .rw[q_ g]at p3;exact p3.stuck rfl
end
section
variable{W:cn}
def yb(d:X.A.units+64<Ez)(Y:DE K W c_ X ek fk)(a:DE K W c_ X ev fv)(b: ~~~(X.N[i]?=a_ x))(hv:autoParam (Vis X.env.scope x) Jq4)(hd:((x==("__debug__":Dy))=c_)⁻¹)(J:((x==("__classdict__":Dy))=c_)⁻¹)(c: ~~~(X.K=K))(U: ~~~(Fd ev (a_ (.Subscript (.Name x p) ek pos')) pos.line X.env=Ff c_)):DS K W ro X OL [i] [i] (.Assign [.Subscript (.Name x p) ek pos'] ev pos) (ll i fk fv):=λF0 H0=>by subst c;exact PS.imp (ps_put ac (pv i b hv hd J) Y a U) λ_ _ _=>rs_putDL
end
section
open PySem PySem.W
end
structure B7 where
 f:i_
 c:h_
 A:Fu
 o:List LH
 s:k_
 H:Hp
 E:XK
section
variable{base:Eg}{q:Dy}
def YO(_:∃f fd,Def K mg x st ps f fd)(P:EC)(w:Fe)(base:Eg)(k:Nat)(ro:Bool)(m:List A'->M A'):Prop:=∃f fd,Yd P w K mg base CX0 k x st ps (spF K ro m ps.length) f fd
def YX(_:∃f fd,Def K mg x st ps f fd)(P:EC)(w:Fe)(base:Eg)(k:Nat)(ro:Bool)(m:List A'->M A'):Prop:=∃f fd,Yd P w K mg base (CXd P w) k x st ps (spX K ro m ps.length) f fd
def YM(_:∃f fd,Mth K C x q st ps f fd)(P:EC)(w:Fe)(mg:Mq)(base:Eg)(k:Nat)(ro:Bool)(m:List A'->M A'):Prop:=∃f fd,Mth K C x q st ps f fd/\eJ P w K mg base CX0 k f fd ps (spF K ro m ps.length)
def fY(N:List Dy){h:∃f fd,Def K mg x st ps f fd}(U:∀z:B7,N.Nodup->eW k (z.A.deeper (He x (aB st) z.s.heap.objs.size z.f z.c))->DSs K J3 ro (uY CX0 P w K mg base N x (aB st) z.f z.c z.A z.o z.s z.H z.E).nox [] [] [] (bF st) g)(S:autoParam (eR N ps (aB st)) Jq9):YO h P w base (k+1) ro (b6 N.length ps.length g):=
 let ⟨f,fd,D⟩:=h
 ⟨f,fd,D,fn_D D.fn S ro g λc A o s H E J=>U ⟨f,c,A,o,s,H,E⟩ S.nd J⟩
def fX(N:List Dy){h:∃f fd,Def K mg x st ps f fd}(U:∀z:B7,N.Nodup->eW k (z.A.deeper (He x (aB st) z.s.heap.objs.size z.f z.c))->DSs K (WE K z.E) ro (uY (CXd P w) P w K mg base N x (aB st) z.f z.c z.A z.o z.s z.H z.E) [] [] [] (bF st) g)(S:autoParam (eR N ps (aB st)) Jq9):YX h P w base (k+1) ro (b6 N.length ps.length g):=
 let ⟨f,fd,D⟩:=h
 ⟨f,fd,D,fn_X D.fn S ro g λc A o s H E J=>U ⟨f,c,A,o,s,H,E⟩ S.nd J⟩
def fM(N:List Dy){h:∃f fd,Mth K C x q st ps f fd}(U:∀z:B7,N.Nodup->eW k (z.A.deeper (He q (aB st) z.s.heap.objs.size z.f z.c))->DSs K J3 ro (uY CX0 P w K mg base N q (aB st) z.f z.c z.A z.o z.s z.H z.E).nox [] [] [] (bF st) g)(S:autoParam (eR N ps (aB st)) Jq9):YM h P w mg base (k+1) ro (b6 N.length ps.length g):=
 let ⟨f,fd,D⟩:=h
 ⟨f,fd,D,fn_D D.fn S ro g λc A o s H E J=>U ⟨f,c,A,o,s,H,E⟩ S.nd J⟩
end
section
variable{W:cn}{a b d:EM}{f:aa->M A'}{fr:aa->M (List A')}
def dY(Y:∃f fd,Yd X.prog X.w X.K X.mg X.base CX0 k x st ps (spF K ro (b6 nN n g) n) f fd)(b:eW j X.A)(h:DA K J3 X (e::es) fr)(c:(k<=j)⁻¹)(d: ~~~(Gl X x))(a:((x==("__debug__":Dy))=c_)⁻¹)(J: ~~~(j_ (e::es) X.env=(c_,DC e X.env)::j_ es X.env))(U: ~~~((EG pos (j_ es X.env)).any (·.1)=c_)):
  DE K J3 ro X (.Call (.Name x p) (e::es) [] pos) (fL (b6 nN n g) fr):=let ⟨_,_,Y⟩:=Y;CV Y.o (b.mono c) Y.d.mg Y.d.fn.kp Y.d.bd h d a J U
def da1(U:DE K W c_ X a fa)(J: ~~~(j_ [a] X.env=[(c_,DC a X.env)])):DA K W X [a] (a9 fa ay):=bx U bq J
def da2(c:DE K W c_ X a fa)(Y:DE K W c_ X b fb)(U: ~~~(j_ [a,b] X.env=[(c_,DC a X.env),(c_,DC b X.env)]))(J: ~~~(j_ [b] X.env=[(c_,DC b X.env)])):DA K W X [a,b] (a9 fa (a9 fb ay)):=bx c (da1 Y J) (by rw[U,J])
def da3{f1 J:aa->M A'}(h1:DE K W c_ X e1 f1)(h2:DE K W c_ X e2 J)(b:DE K W c_ X e3 f3)(a: ~~~(j_ [e1,e2,e3] X.env=(c_,DC e1 X.env)::j_ [e2,e3] X.env))(Y: ~~~(j_ [e2,e3] X.env=(c_,DC e2 X.env)::j_ [e3] X.env))(U: ~~~(j_ [e3] X.env=(c_,DC e3 X.env)::j_ [] X.env)):DA K W X [e1,e2,e3] (a9 f1 (a9 J (a9 f3 ay))):=(bx h1 (bx h2 (bx b bq U) Y) a)
def da4{f1 J:aa->M A'}(h1:DE K W c_ X e1 f1)(h2:DE K W c_ X e2 J)(d:DE K W c_ X e3 f3)(c:DE K W c_ X e4 f4)(b: ~~~(j_ [e1,e2,e3,e4] X.env=(c_,DC e1 X.env)::j_ [e2,e3,e4] X.env))(a: ~~~(j_ [e2,e3,e4] X.env=(c_,DC e2 X.env)::j_ [e3,e4] X.env))(Y: ~~~(j_ [e3,e4] X.env=(c_,DC e3 X.env)::j_ [e4] X.env))(U: ~~~(j_ [e4] X.env=(c_,DC e4 X.env)::j_ [] X.env)):DA K W X [e1,e2,e3,e4] (a9 f1 (a9 J (a9 f3 (a9 f4 ay)))):=(bx h1 (bx h2 (bx d (bx c bq U) Y) a) b)
def da5{f1 J:aa->M A'}(h1:DE K W c_ X e1 f1)(h2:DE K W c_ X e2 J)(f:DE K W c_ X e3 f3)(e:DE K W c_ X e4 f4)(d:DE K W c_ X e5 f5)(c: ~~~(j_ [e1,e2,e3,e4,e5] X.env=(c_,DC e1 X.env)::j_ [e2,e3,e4,e5] X.env))(b: ~~~(j_ [e2,e3,e4,e5] X.env=(c_,DC e2 X.env)::j_ [e3,e4,e5] X.env))(a: ~~~(j_ [e3,e4,e5] X.env=(c_,DC e3 X.env)::j_ [e4,e5] X.env))(Y: ~~~(j_ [e4,e5] X.env=(c_,DC e4 X.env)::j_ [e5] X.env))(U: ~~~(j_ [e5] X.env=(c_,DC e5 X.env)::j_ [] X.env)):DA K W X [e1,e2,e3,e4,e5] (a9 f1 (a9 J (a9 f3 (a9 f4 (a9 f5 ay))))):=(bx h1 (bx h2 (bx f (bx e (bx d bq U) Y) a) b) c)
def da6{J:EM}{f1 Y U:aa->M A'}(h1:DE K W c_ X e1 f1)(h2:DE K W c_ X e2 Y)(j:DE K W c_ X e3 f3)(i:DE K W c_ X e4 f4)(h:DE K W c_ X e5 f5)(g:DE K W c_ X J U)(f: ~~~(j_ [e1,e2,e3,e4,e5,J] X.env=(c_,DC e1 X.env)::j_ [e2,e3,e4,e5,J] X.env))(e: ~~~(j_ [e2,e3,e4,e5,J] X.env=(c_,DC e2 X.env)::j_ [e3,e4,e5,J] X.env))(d: ~~~(j_ [e3,e4,e5,J] X.env=(c_,DC e3 X.env)::j_ [e4,e5,J] X.env))(c: ~~~(j_ [e4,e5,J] X.env=(c_,DC e4 X.env)::j_ [e5,J] X.env))(b: ~~~(j_ [e5,J] X.env=(c_,DC e5 X.env)::j_ [J] X.env))(a: ~~~(j_ [J] X.env=(c_,DC J X.env)::j_ [] X.env)):DA K W X [e1,e2,e3,e4,e5,J] (a9 f1 (a9 Y (a9 f3 (a9 f4 (a9 f5 (a9 U ay)))))):=(bx h1 (bx h2 (bx j (bx i (bx h (bx g bq a) b) c) d) e) f)
def bp(b:X.N.Nodup)(a:DE K W c_ X e f)(hi: ~~~(X.N[i]?=a_ x))(J:autoParam (Loc X.env.scope x) Jq6)(U: ~~~(Fd e (a_ (.Name x pos')) pos.line X.env=Ff c_))(Y:autoParam (X.fn x=e_\/X.env.scope.names.lookup x=a_ .local) Jq3):
  DS K W ro X OL O (aft c_ i O) (.Assign [.Name x pos'] e pos) (aM O i f):=wc b a hi J U Y
def kf(b:X.N.Nodup)(a:DE K W e_ X e f)(hi: ~~~(X.N[i]?=a_ x))(J:autoParam (Loc X.env.scope x) Jq6)(U: ~~~(Fd e (a_ (.Name x pos')) pos.line X.env=Ff c_))(Y:autoParam (X.fn x=e_\/X.env.scope.names.lookup x=a_ .local) Jq3):
  DS K W ro X OL O (aft e_ i O) (.Assign [.Name x pos'] e pos) (aM O i f):=wc b a hi J U Y
end
section
variable{f:i_}{q:Dy}{kV:h_}
def dF(U:K.In h)(G:h.Ns Eo mg)(a:autoParam (Nn K Eo x=a_ (a_ (.ref f))) Jq2)(l:autoParam (K.lookup f=a_ ⟨oc,od,.func (KN x x (cJ st) (bF st) (aB st) .none kV doc pm an cdv ct),osl⟩) Jq2)(c:autoParam (LB K cdv x=e_) Jq2)(k:autoParam (Gw K (.ref f)=e_) Jq2)(J:autoParam (∀(kV doc pm:h_) (an:Option i_) (cdv ct:h_) (us:as),us.length=ps.length->Kp (KN x x (cJ st) (bF st) (aB st) .none kV doc pm an cdv ct) ⟨us,[]⟩=Ff (ps.zip us)) Jq13):∃f fd,Def K mg x st ps f fd:=⟨_,_,def_of U G a l c k J⟩
def mF(a:autoParam (DB K (.ref C) x=a_ (a_ (.ref f))) Jq2)(i:autoParam (isFn K (.ref f)=e_) Jq2)(l:autoParam (K.lookup f=a_ ⟨oc,od,.func (KN x q (cJ st) (bF st) (aB st) .none kV doc pm an cdv ct),osl⟩) Jq2)(c:autoParam (LB K cdv q=e_) Jq2)(k:autoParam (Gw K (.ref f)=e_) Jq2)(J:autoParam (∀(kV doc pm:h_) (an:Option i_) (cdv ct:h_) (us:as),us.length=ps.length->Kp (KN x q (cJ st) (bF st) (aB st) .none kV doc pm an cdv ct) ⟨us,[]⟩=Ff (ps.zip us)) Jq13):∃f fd,Mth K C x q st ps f fd:=⟨_,_,mth_of a i l c k J⟩
def kF(i:K.In h)(G:h.Ns Eo mg)(a:autoParam (Nn K Eo x=a_ (a_ (.ref C))) Jq2)(Y:autoParam (K_ K C N8=e_) Jq2)(hd:autoParam (GW K C=e_) Jq2)(U:autoParam (M4 K C=e_) Jq2)(J:autoParam (DB K (.ref C) "__setattr__"=a_ (a_ (.builtin "object.__setattr__"))) Jq2)(b:autoParam (Np K C=e_) Jq2)(c:autoParam (Gw K (.ref C)=e_) Jq2)(g:autoParam (DB K (.ref C) "__class__"=a_ (a_ (.builtin "object.__class__"))) Jq2)(f:autoParam (KD K (.builtin "object.__class__") "__get__"=a_ (a_ (.builtin "getset_descriptor.__get__"))) Jq2)(e:autoParam (O4 K (.builtin "object.__class__")=a_ e_) Jq2)(d:autoParam (Fl K C (.type "object")=a_ e_) Jq2):Kls K mg x C:=kls_of i G a Y hd U J b c g f e d
def xF(c:K.In h)(G:h.Ns Eo mg)(a:autoParam (Nn K Eo x=a_ (a_ (.ref C))) Jq2)(i:autoParam (DB K (.ref C) "__init__"=a_ (a_ (.ref f))) Jq2)(ex:autoParam (jm K C [.type "ValueError",.type "Exception",.type "BaseException",.type "object"] "ValueError.__new__" f=e_) Jq7)(Y:autoParam (DB K (.ref C) "__getattribute__"=a_ (a_ (.builtin "BaseException.__getattribute__"))) Jq2)(b:autoParam (DB K (.ref C) "__class__"=a_ (a_ (.builtin "object.__class__"))) Jq2)(U:autoParam (DB K (.ref C) "__getattr__"=a_ g_) Jq2)(bs:autoParam (Fl K C (.type "BaseException")=a_ e_) Jq2)(J:autoParam (Fl K C (.type "object")=a_ e_) Jq2)(is:autoParam ((JH K C).isSome=e_) Jq7):XTry K mg x C:=
 ⟨mg_of c G a,xnamed2 ex,⟨Y,b,U,bs,J,F9.mp is⟩⟩
def xM(Y:K.In h)(G:h.Ns Eo mg)(N:∃f fd,Mth K C "__init__" q st ps f fd)(a:autoParam (Nn K Eo x=a_ (a_ (.ref C))) Jq2)(i:autoParam (DB K (.ref C) "__init__"=a_ (a_ (.ref f))) Jq2)(ex:autoParam (jm K C [.type "ValueError",.type "Exception",.type "BaseException",.type "object"] "ValueError.__new__" f=e_) Jq7)(U:autoParam (isFn K (.ref f)=e_) Jq2)(J:autoParam (Gw K (.ref C)=e_) Jq2):∃f fd,Mth K C "__init__" q st ps f fd/\XMk K mg x C f:=by obtain⟨b,fd,M⟩:=N;have e:=M.mt.1.symm.trans i;cases e;exact⟨_,fd,M,mg_of Y G a,ex,FU.mp U,J⟩
def lF{y:Dy}(Y:K.In h)(G:h.Ns Eo mg)(a:autoParam (Nn K Eo x=a_ (a_ (.ref f))) Jq2)(l:autoParam (K.lookup f=a_ ⟨oc,od,.func (KN x x (cJ st) (bF st) (aB st) .none kV doc pm an cdv ct),osl⟩) Jq2)(c:autoParam (LB K cdv x=e_) Jq2)(k:autoParam (Gw K (.ref f)=e_) Jq2)(J:∀(kV doc pm:h_) (an:Option i_) (cdv ct:h_) (v:h_),Kp (KN x x (cJ st) (bF st) (aB st) .none kV doc pm an cdv ct) ⟨[v],[]⟩=Ff [(y,v)]:=by intros;rfl):∃f fd,Def K mg x st [y] f fd/\∀(s:k_) (v:h_),KI s fd ⟨[v],[]⟩ [(y,v)]:=
 ⟨_,_,def_of Y G a l c k λ_ _ _ _ _ _ us U=>match us,U with|[_],_=>J ..,λ_ _=>.of_eq (J ..)⟩
def Fun.uniq{J:Gi}(a:Fun K x q st f fd)(b:Fun K x q st f J):fd=J:=by obtain⟨oc,od,kV,doc,pm,an,cdv,ct,osl,rfl,j,_⟩:=a.ex;obtain⟨i,h,k,c,g,m,d,l,Y,rfl,U,_⟩:=b.ex;have e:=j.symm.trans U;cases e;rfl
def rS(N:∃f fd,Mth K C x q st ps f fd)(a:autoParam (DB K (.ref C) x=a_ (a_ (.ref f))) Jq2)(b:autoParam (KD K (.ref C) "__getattribute__"=a_ (a_ (.builtin "type.__getattribute__"))) Jq7)(Y:autoParam (M3 K C mc=e_) Jq7)(U:autoParam (M6 K (.ref C) mc x=a_ (.val (.ref f))) Jq7)(J:autoParam (Gw K (.ref f)=e_) Jq2):∃f fd,Mth K C x q st ps f fd/\Stat K C mc x f:=by obtain⟨c,fd,M⟩:=N;have e:=M.mt.1.symm.trans a;cases e;exact⟨_,fd,M,b,Y,U,J⟩
end
structure Lent(K:Fg)(H0 G H:Hp)(hh:i_)(bs:List i_)(ys:List am)(ds:List (List A')):Prop where
 sg:aO G H
 s0:aO H0 H
 top:H hh=a_ (.lst (bs.map .ref))
 gh:G hh=g_
 h0:H0 hh=g_
 nt:hh∉bs
 own:∀(j:Nat) (b:i_),bs[j]?=a_ b->G b=g_/\H0 b=g_/\∃y d,ys[j]?=a_ y/\ds[j]?=a_ d/\H b=a_ (.lst y)/\ax K G d y
section
variable{hh:i_}{bs:List i_}{ys:List (List V)}{ds:List (List A')}
def Lent.step(l:Lent K H0 G H hh bs ys ds)(s:B5 G H G' H'):Lent K H0 G' H' hh bs ys ds where
 sg:=s.fh
 s0:=l.s0.trans s.hh
 top:=s.hh _ _ l.top
 gh:=by
  cases e:G' hh with
  |none=>rfl|some o=>
   rcases s.nw _ _ e with z|z
   .rw[l.gh]at z;cases z
   .rw[l.top]at z;cases z
 h0:=l.h0
 nt:=l.nt
 own:=λj b e=>by
  obtain⟨h1,h2,y,d,a,Y,J,U⟩:=l.own j b e;refine⟨?_,h2,y,d,a,Y,s.hh _ _ J,ax.mono s.ff U⟩
  cases e:G' b with
  |none=>rfl|some o=>
   rcases s.nw _ _ e with z|z
   .rw[h1]at z;cases z
   .rw[J]at z;cases z
open Classical in
end
def tell1{P:i_->List Bool->Prop}(h1:P C1 l1):∀C bs,DF C [(C1,l1)]=a_ bs->P C bs:=by
 intro C bs h;rw[A_]at h;cases e1:C==C1 with
 |true=>rw[e1]at h;cases h;rw[FU.mp e1];exact h1|false=>rw[e1]at h;cases h
def unF:HO->HO
 |.frz _ u=>u|o=>o
open Classical in
structure Cells(K:Fg)(F H:Hp)(xs:List Addr)(ds:List A'):Prop where
 fh:aO F H
 nd:xs.Nodup
 len:xs.length=ds.length
 own:∀(j:Nat) (x:Addr) (d:A'),xs[j]?=some x->ds[j]?=some d->isO d=true/\kn K F (λ_=>none) H d (.ref x)
structure wK(xs:List i_)(F H F' H':Hp):Prop where
 ff:aO F F'
 hh:∀b o,b∉xs->H b=a_ o->H' b=a_ o
 fh:aO F' H'
 nw:∀b o,F' b=a_ o->F b=a_ o\/H b=g_
section
variable{xs:List i_}{ds:List A'}
def B5.toC(s:B5 F H F' H'):wK xs F H F' H':=⟨s.ff,λb o _ h=>s.hh b o h,s.fh,s.nw⟩
theorem wK.trans{F2 H2:Hp}(a:wK xs F H F' H')(b:wK xs F' H' F2 H2)(U:∀x∈xs,∃o,H' x=a_ o):wK xs F H F2 H2:=
 ⟨a.ff.trans b.ff,λc o n h=>b.hh c o n (a.hh c o n h),b.fh,λc o h=>(b.nw c o h).elim (λz=>a.nw c o z) λz=>.inr (by
  cases e:H c with
  |none=>rfl|some u=>
   by_cases J:c∈xs
   .obtain⟨o',Y⟩:=U c J;rw[Y]at z;cases z
   .rw[a.hh c u J e]at z;cases z)⟩
def Cells.at(c:Cells K F H xs ds){x:i_}(U:x∈xs):F x=g_/\∃o,H x=a_ o/\isMu o=e_:=by
 obtain⟨j,J,rfl⟩:=J8 U;have hd:j<ds.length:=by rw[<- c.len];exact J
 obtain⟨h1,h2⟩:=c.own j xs[j] ds[j] (C_ J) (C_ hd);obtain⟨a,o,e,p,m,f,_⟩:=h2.top h1;cases e;exact⟨f,o,p,m⟩
def Cells.step(c:Cells K F H xs ds)(s:B5 F H F' H'):Cells K F' H' xs ds:=⟨s.fh,c.nd,c.len,λj x d e1 e2=>by obtain⟨h1,h2⟩:=c.own j x d e1 e2;obtain⟨a,o,e,p,_,f,_⟩:=h2.top h1;cases e;exact⟨h1,h2.re h1 s.ff (s.stays f p) λo h=>s.hh _ _ h⟩⟩
def Cells.back(c:Cells K F H xs ds)(s:B5 (plus F H (·∈xs)) H F' H'):B5 F H (minus F' (·∈xs)) H':=by
 refine⟨λb o h=>?_,s.hh,λb o h=>?_,λb o h=>?_⟩
 .by_cases J:b∈xs
  .rw[(c.at J).1]at h;cases h
  .rw[cL J];exact s.ff b o (by rw[cR J];exact h)
 .by_cases J:b∈xs
  .rw[jQ J]at h;cases h
  .rw[cL J]at h;exact s.fh b o h
 .by_cases J:b∈xs
  .rw[jQ J]at h;cases h
  .rw[cL J]at h;exact(s.nw b o h).elim (λz=>by rw[cR J]at z;exact .inl z) .inr
end
def dFields(xs:List i_):List (Dy×V):=(["kinds","gaps","beside","names","flights","closed"]:List Dy).zip (xs.map V.ref)
structure Dr(K:Fg)(C:i_)(F H:Hp)(p dx:i_)(xs:List i_)(ds:List A'):Prop where
 c:Cells K F H xs ds
 ob:H p=a_ (.ins C dx (dFields xs))
 fp:F p=g_
 np:p∉xs
section
variable{p dx:i_}{xs:List i_}{ds:List A'}
theorem Dr.step(d:Dr K C F H p dx xs ds)(s:B5 F H F' H'):Dr K C F' H' p dx xs ds:=⟨d.c.step s,s.hh _ _ d.ob,s.stays d.fp d.ob,d.np⟩
end
def jc.only{v:V}(e:σ[i]?=a_ (a_ v))(q:aU K F d v):jc K F σ ((Eh σ.length g_).set i (a_ d)):=
 ⟨by rw[DM,FZ],λj d' h=>by
  by_cases J:i=j
  .subst J;rw[vw (by rw[FZ];exact(v_.mp e).1)]at h;cases h;exact⟨v,e,q⟩
  .rw[m_ J,I_]at h;split at h<;>cases h⟩
section
variable{p dx:i_}{xs:List i_}{ds:List A'}{Q:VK}
def FinD(K:Fg)(C:i_)(F H:Hp)(p dx:i_)(xs:List i_)(r:Bool×List A')(Q:VK):Prop:=∀F' H',wK xs F H F' H'->Dr K C F' H' p dx xs r.2->Q (.bl r.1) H'
def Dr.ex(d:Dr K C F H p dx xs ds):∀x∈xs,∃o,H x=a_ o:=λ_ J=>let ⟨_,o,h,_⟩:=d.c.at J;⟨o,h⟩
theorem FinD.step{r:Bool×List A'}(f:FinD K C F H p dx xs r Q)(d:Dr K C F H p dx xs ds)(s:B5 F H F' H'):FinD K C F' H' p dx xs r Q:=λF2 H2 J U=>f F2 H2 (s.toC.trans J (d.step s).ex) U
end
section
variable{ds:List A'}{vs:List V}
theorem mm.upd{c:i_}{u:HO}(o:mm K F G H ds vs)(n:∀k:Nat,vs[k]?≠a_ (.ref c)):mm K F G (Lake.upd H c u) ds vs:=⟨o.len,λk d e=>by obtain⟨a,xs,es,h1,h2,U,J⟩:=o.get k d e;exact⟨a,xs,es,h1,h2,by rw[aq (λz=>n k (by rw[<- z];exact h1))];exact U,J⟩,o.ap⟩
def mG(l:List α)(j k:Nat):(l.eraseIdx j)[k]?=l[if k<j then k else k+1]?:=by rw[List.getElem?_eraseIdx];split<;>rfl
def mm.erase(o:mm K F G H ds vs)(j:Nat):mm K F G H (ds.eraseIdx j) (vs.eraseIdx j):=by
 refine⟨by rw[Hb,Hb,o.len],λk d e=>?_,λi k a e1 e2=>?_⟩
 .rw[mG]at e ⊢;exact o.get _ d e
 .rw[mG]at e1 e2;have:=o.ap _ _ a e1 e2;split at this<;>split at this<;>omega
end
structure MixH(K:Fg)(F0 H0 F:Hp)(ar al:i_)(H:Hp)(xs ys:am)(out rs:List A'):Prop where
 st:B5 F0 H0 F H
 hr:H ar=a_ (.lst xs)
 fr:F ar=g_/\H0 ar=g_
 hl:H al=a_ (.lst ys)
 fl:F al=g_/\H0 al=g_
 na:ar≠al
 nl:∀m:Nat,ys[m]?≠a_ (.ref al)
 nr:∀m:Nat,ys[m]?≠a_ (.ref ar)
 ow:mm K F H0 H rs ys
 dq:ax K F out xs
def mixA(ar al:i_)(ys:am)(c:i_):Prop:=c=ar\/c=al\/∃m:Nat,ys[m]?=a_ (.ref c)
section
variable{ar al:i_}{xs ys:List V}{out:List A'}
def B5.put{u:HO}(s:B5 F0 H0 F H)(f:F c=g_/\H0 c=g_):B5 F0 H0 F (upd H c u):=
 ⟨s.ff,λb o e=>by rw[aq (az e f.2)];exact s.hh b o e,λb o e=>by rw[aq (az e f.1)];exact s.fh b o e,s.nw⟩
def MixH.drop(h:MixH K F0 H0 F ar al H xs ys out rs)(j:Nat):MixH K F0 H0 F ar al (upd H al (.lst (ys.eraseIdx j))) xs (ys.eraseIdx j) out (rs.eraseIdx j):=
 ⟨h.st.put h.fl,by rw[aq h.na];exact h.hr,h.fr,ak,h.fl,h.na,λm e=>h.nl _ (by rw[mG]at e;exact e),λm e=>h.nr _ (by rw[mG]at e;exact e),(h.ow.upd h.nl).erase j,h.dq⟩
def MixH.none(h:MixH K F0 H0 F ar al H xs ys out rs){c:i_}(J:mixA ar al ys c):F c=g_:=by
 rcases J with rfl|rfl|⟨m,e⟩
 .exact h.fr.1
 .exact h.fl.1
 .obtain⟨_,_,_,_,z,_⟩:=h.ow.at e;exact z
end
def Th(F F':Hp):Prop:=∀b o,F b=a_ o->F' b=a_ (unF o)
def Th.tup(s:Th F F'){xs:am}(h:SqT K F a xs):SqT K F' a xs:=by
 rcases h with(h|⟨o,h⟩)|h
 .exact .inl (.inl (s _ _ h))
 .exact .inl (.inl (s _ _ h))
 .exact .inr h
def Th.lst(s:Th F F'){xs:am}(h:SqL K F a xs):SqL K F' a xs:=by
 rcases h with(h|⟨o,h⟩)|h
 .exact .inl (.inl (s _ _ h))
 .exact .inl (.inl (s _ _ h))
 .exact .inr h
mutual
theorem aU.th(s:Th F F'):∀{d:A'} {v:V},aU K F d v->aU K F' d v
 |.non,_,h=>h|.bl _,_,h=>h|.int _,_,h=>h|.str _,_,h=>h|.tup _,_,⟨a,xs,e,q,r⟩=>⟨a,xs,e,s.tup q,ax.th s r⟩|.lst _,_,⟨a,xs,e,q,r⟩=>⟨a,xs,e,s.lst q,ax.th s r⟩|.ins _ _,_,⟨a,dx,fs,e,q,r⟩=>⟨a,dx,fs,e,s _ _ q,i3.th s r⟩|.dic _,_,⟨a,xs,e,⟨ep,q⟩,r⟩=>⟨a,xs,e,⟨ep,s _ _ q⟩,bO.th s r⟩|.dil _,_,⟨a,xs,e,⟨ep,q⟩,r,z⟩=>⟨a,xs,e,⟨ep,s _ _ q⟩,r,λx g=>let ⟨r,bs,f,Y,l,U⟩:=z x g;⟨r,bs,s.tup f,s.tup Y,l,λj J c e1 e2=>s.tup (U j J c e1 e2)⟩⟩
theorem ax.th(s:Th F F'):∀{ds:List A'} {xs:am},ax K F ds xs->ax K F' ds xs
 |[],_,h=>h|_::_,_,⟨v,vs,e,q,r⟩=>⟨v,vs,e,aU.th s q,ax.th s r⟩
theorem i3.th(s:Th F F'):∀{gs:List (Dy×A')} {fs:List (Dy×V)},i3 K F gs fs->i3 K F' gs fs
 |[],_,h=>h|(_,_)::_,_,⟨v,r,e,q,t⟩=>⟨v,r,e,aU.th s q,i3.th s t⟩
theorem bO.th(s:Th F F'):∀{ks:List (aj×A')} {xs:List jd},bO K F ks xs->bO K F' ks xs
 |[],_,h=>h|(_,_)::_,_,⟨b,v,r,e,t,q,z⟩=>⟨b,v,r,e,s.tup t,aU.th s q,bO.th s z⟩
end
noncomputable abbrev PKs:=List ((Dy×Dy)×Int)
noncomputable def kPair(k:Dy×Dy):List Key:=[.inr k.1,.inr k.2]
def pkV(ks:PKs):List (List Key×V):=ks.map λp=>(kPair p.1,.int p.2)
structure Jst where
 dk:List A'
 dn:List A'
 df:List A'
 dc:List A'
 g:PKs
 b:PKs
def Jst.ds(s:Jst):List A':=[.lst s.dk,.lst s.dn,.lst s.df,.lst s.dc]
structure Jad where
 p:i_
 T:i_
 g:i_
 b:i_
 k:i_
 n:i_
 f:i_
 c:i_
def Jad.xs(a:Jad):List i_:=[a.k,a.n,a.f,a.c]
def Jad.ys(a:Jad):List i_:=a.g::a.b::a.xs
noncomputable def tabs(a:Jad):List (Key×V):=[(.inr "gap",.ref a.g),(.inr "beside",.ref a.b)]
structure Lj(K:Fg)(F H:Hp)(a:Jad)(s:Jst):Prop where
 c:Cells K F H a.xs s.ds
 tp:H a.p=a_ (.tup [.ref a.k,.ref a.T,.ref a.n,.ref a.f,.ref a.c])
 ot:H a.T=a_ (.dK (tabs a))
 og:H a.g=a_ (.dT (pkV s.g))
 ob:H a.b=a_ (.dT (pkV s.b))
 fg:F a.g=g_
 fb:F a.b=g_
 ng:a.g≠a.b
 xg:a.g∉a.xs
 xb:a.b∉a.xs
section
variable{a:Jad}{s:Jst}{Q:VK}
theorem Lj.step(L:Lj K F H a s)(t:B5 F H F' H'):Lj K F' H' a s:=
 ⟨L.c.step t,t.hh _ _ L.tp,t.hh _ _ L.ot,t.hh _ _ L.og,t.hh _ _ L.ob,t.stays L.fg L.og,t.stays L.fb L.ob,L.ng,L.xg,L.xb⟩
def Lj.ex(L:Lj K F H a s):∀x∈a.ys,∃o,H x=a_ o:=λx J=>by
 rcases p_.mp J with rfl|J
 .exact⟨_,L.og⟩
 rcases p_.mp J with rfl|J
 .exact⟨_,L.ob⟩
 .obtain⟨_,o,h,_⟩:=L.c.at J;exact⟨o,h⟩
def FinJ(K:Fg)(F H:Hp)(a:Jad)(r:Bool×Jst)(Q:VK):Prop:=∀F' H',wK a.ys F H F' H'->Lj K F' H' a r.2->Q (.bl r.1) H'
theorem FinJ.step{r:Bool×Jst}(f:FinJ K F H a r Q)(L:Lj K F H a s)(t:B5 F H F' H'):FinJ K F' H' a r Q:=λF2 H2 J U=>f F2 H2 (t.toC.trans J (L.step t).ex) U
end
noncomputable abbrev kFs(v:V)(k:Int):List (Dy×V):=[("sheet",v),("shift",.int k)]
structure Dk(K:Fg)(C:i_)(F H:Hp)(p dx:i_)(v:V)(S:A')(k:Int):Prop where
 fh:aO F H
 ob:H p=a_ (.ins C dx (kFs v k))
 fp:F p=g_
 sh:aU K F S v
section
variable{F2:Hp}{p dx:i_}{v:V}{k:Int}{o:HO}
def Dk.step(d:Dk K C F H p dx v S k)(s:B5 F H F' H'):Dk K C F' H' p dx v S k:=⟨s.fh,s.hh _ _ d.ob,s.stays d.fp d.ob,d.sh.mono s.ff⟩
def Abt.of(s:B5 F H F' H')(f:F p=g_)(J:H p=a_ o):Abt p F H F' H':=⟨s.ff,s.fh,s.stays f J,s.nw,λc u e _=>s.hh c u e⟩
theorem Abt.trans(a:Abt p F H F' H')(b:Abt p F' H' F2 H2):Abt p F H F2 H2:=⟨a.ff.trans b.ff,b.fh,b.fp,λc u e=>(b.nw c u e).elim (a.nw c u) λz=>.inr (by
 cases U:H c with
 |none=>rfl|some o'=>
  have J:c≠p:=λw=>by rw[w,b.fp]at e;cases e
  rw[a.hh c o' U J]at z;cases z),λc u e J=>b.hh c u (a.hh c u e J) J⟩
def Abt.from(s:B5 F0 H0 F H)(a:Abt p F H F' H')(J:H0 p=g_):B5 F0 H0 F' H':=⟨s.ff.trans a.ff,λc u e=>a.hh c u (s.hh c u e) (λz=>by rw[z,J]at e;cases e),a.fh,λc u e=>(a.nw c u e).elim (s.nw c u) λz=>.inr (s.hh.free z)⟩
end
section
variable(K:Fg)(C p dx:i_)(Q:VK)(E:XK)
def SayQ(m:M (A'×Int))(F H:Hp):Prop:=match m with
 |.ok z=>∀J F' H',Abt p F H F' H'->Dk K C F' H' p dx J z.1 z.2->Q .non H'|.error e=>∀F' H',B5 F H F' H'->(WE K E).p e F' H'
end
section
variable{p dx:i_}{Q:VK}{E:XK}{m:M (A'×Int)}{o:HO}
def SayQ.step(q:SayQ K C p dx Q E m F H)(s:B5 F H F1 H1)(f:F p=g_)(U:H p=a_ o):SayQ K C p dx Q E m F1 H1:=by
 cases m with
 |error e=>exact λF' H' s'=>q F' H' (s.trans s')|ok z=>exact λJ F' H' ab d=>q J F' H' ((Abt.of s f U).trans ab) d
end
structure Ki(K:Fg)(C:i_)(F0 H0 FB:Hp)(ρ:aa)(di:Nat)(p dx:i_)(F H:Hp)(σ:St)(w:V)(S:A')(k:Int):Prop where
 d:Dk K C F H p dx w S k
 r:jc K F σ ρ
 st:B5 F0 H0 F H
 fb:aO FB F
 sl:σ[di]?=a_ (a_ (.ref p))
 h0:H0 p=g_
section
variable{di:Nat}{p dx:i_}{w:V}{k:Int}{r:A'}
theorem Ki.step(I:Ki K C F0 H0 FB ρ di p dx F H σ w S k)(s:B5 F H F' H'):Ki K C F0 H0 FB ρ di p dx F' H' σ w S k:=⟨I.d.step s,I.r.mono s.ff,I.st.trans s,I.fb.trans s.ff,I.sl,I.h0⟩
end
def tF(J:K.In h)(G:h.Ns Eo mg)(a:autoParam (Nn K Eo x=a_ (a_ (.ref C))) Jq2)(e:autoParam (HM K C [.type "ValueError",.type "Exception",.type "BaseException",.type "object"] "ValueError.__new__"=e_) Jq7):XTxt K mg x C:=⟨mg_of J G a,e⟩
def iF(Y:autoParam (DB K (.ref C) "__getattribute__"=a_ (a_ (.builtin "BaseException.__getattribute__"))) Jq2)(a:autoParam (DB K (.ref C) "__class__"=a_ (a_ (.builtin "object.__class__"))) Jq2)(U:autoParam (DB K (.ref C) "__getattr__"=a_ g_) Jq2)(bs:autoParam (Fl K C (.type "BaseException")=a_ e_) Jq2)(J:autoParam (Fl K C (.type "object")=a_ e_) Jq2)(is:autoParam ((JH K C).isSome=e_) Jq7):As K C:=⟨Y,a,U,bs,J,F9.mp is⟩
section
open PySem.W
end
section
open PySem PySem.W
end
structure lN(K:Fg)(C:i_)(A1 A2:i_)(T:String)(ys:List i_)(bs:List Bool):Prop where
 ex:∃b1 b2 b4 b5,bs=[b1,b2,b4,b5]/\EE K (.ref C) (.ref A1)=a_ b1/\EE K (.ref C) (.ref A2)=a_ b2/\EE K (.ref C) (.type T)=a_ b4/\OO K (.ref C) (ys.map w_)=a_ b5
def AM(K:Fg)(i j:Nat)(A1 A2:i_)(T:String)(ys:List i_)(a C:i_)(dx:Option i_):TS:=λD σ H=>∃b Y U J,lN K C A1 A2 T ys [b,Y,U,J] /\
 tSeq (tAsg (tLst (gT (t4 i a (XR dx) b) (gT (t4 i a (XR dx) Y) (gT (t4 i a (XR dx) U) wX)))) (m6 j)) (yK (tBM K "list" qZ (Am j) (gT (AQ i a (XR dx) ys J) wX))) D σ H
section
variable{ys:List i_}{fb:aa->M C'}
def xc{bs:List Bool}(r:Rep K F0 H0 FB [] F H σ ρ)(c:XR dx H)(o:lN K C A1 A2 T ys bs)(Y:i≠j)(hi:i<σ.length)(n:j<σ.length)(q:ck K J3 ro F0 H0 FB OL [] D (.ok (.nx ((ρ.set j (a_ (.lst (bs.map A'.bl)))).set i g_)))):
  AM K i j A1 A2 T ys a C dx (D.less i) (σ.set i (a_ (.ref a))) H:=by
 have t:=Ey;obtain⟨g,f,e,s,rfl,u⟩:=o.ex;refine⟨g,f,e,s,o,?_⟩
 have e1:(σ.set i (a_ (.ref a)))[i]?=a_ (a_ (.ref a)):=by rw[vw hi]
 refine⟨e1,c,e1,c,e1,c,by show 3<=n_;omega,λl h=>?_⟩
 have e2:((σ.set i (a_ (.ref a))).set j (a_ (.ref l)))[j]?=a_ (a_ (.ref l)):=by rw[vw (by rw[DM];exact n)]
 have e3:((σ.set i (a_ (.ref a))).set j (a_ (.ref l)))[i]?=a_ (a_ (.ref a)):=by rw[m_ (Em Y)];exact e1
 refine⟨.ref l,e2,qH ak,e3,λp b=>?_⟩
 have J:l≠p:=λz=>by subst z;rw[ak]at b;cases b
 have U:H p=g_:=by rw[aq (Em J)]at b;exact b
 have m:XR dx (upd (upd H l (.lst [.bl g,.bl f,.bl e])) p (.tup (ys.map V.ref))):=by
  cases dx with
  |none=>trivial|some d=>
   obtain⟨gs,k⟩:=(show XDk d H from c)
   exact⟨gs,by rw[aq (az k U),aq (az k h)];exact k⟩
 refine⟨m,l,[.bl g,.bl f,.bl e],.bl s,rfl,rfl,by rw[aq J];exact ak,by show 3<n_;omega,?_⟩
 exact q _ _ _ (r.toldG Y hi n (λz=>nomatch z) (λz=>nomatch z) (step_app (xs:=[.bl g,.bl f,.bl e]) r.st.fh h U (Em J)) (r.st.fh.free h) ⟨_,_,rfl,rfl,_,_,rfl,rfl,_,_,rfl,rfl,_,_,rfl,rfl,rfl⟩)
def rs_tryB3(k:∀C bs,tb.lookup C=a_ bs->qA K C Cb/\lN K C A1 A2 T ys bs)(J:i≠j)(hi:i<σ.length)(Y:j<σ.length)(t:tS K J3 ro F0 H0 OL [] [] (qV i j tb fb) D σ H):∃F1 H1,tS K (WE K (EHB K i Cb (AM K i j A1 A2 T ys) D σ)) ro F1 H1 OL [] [] fb D σ H:=by
 obtain⟨FB,F,ρ,r,p⟩:=t;refine⟨F,H,FB,F,ρ,⟨B5.refl r.st.fh,r.fb,r.len,r.fz,(λm d e h=>nomatch h),(λm n s o c h=>nomatch h)⟩,?_⟩
 cases e:fb ρ with
 |ok fl=>
  rw[CA e]at p;cases fl with
  |nx ρ'=>exact λσ' F' H' r'=>p σ' F' H' (r'.back r.st)|rt d=>exact λv F' H' s' q=>p v F' H' (r.st.trans s') (q.back r.st.hh)|bk ρ'=>exact λσ' F' H' r'=>p σ' F' H' (r'.back r.st)|ct ρ'=>exact λσ' F' H' r'=>p σ' F' H' (r'.back r.st)
 |error x=>
  cases x with
  |stuck=>exact p.stuck (by unfold qV;rw[e])|exc C fs=>
   cases U:tb.lookup C with
   |none=>exact p.stuck (by unfold qV;rw[e];simp only[U])|some bs=>
    rw[kS e U]at p;obtain⟨g,b⟩:=k C bs U;cases fs with
    |nil=>exact λF' H' s'=>⟨C,rfl,g,λa _=>xc (r.step s') trivial b J hi Y p⟩|cons f fs=>exact λF' H' s' d gs hd l=>⟨C,rfl,g,λa _=>xc (r.step s') ⟨gs,s'.fh d _ hd⟩ b J hi Y p⟩
end
section
variable{c n:Dy}{ys:List i_}{fb:aa->M C'}
def ds_tryB3(w:∀(B4:Pn) (σ:St) (E:XK) (U:Vp),gu (CXd X.prog X.w) (X.lO U) B4 σ E->DSat K E ro (X.lO U) OL [] [] B4 σ body fb)(G:XBase X.K X.mg c Cb)(y:∀C bs,tb.lookup C=a_ bs->qA X.K C Cb/\lN X.K C A1 A2 T ys bs)(A:X.N.Nodup)(o:∀(a C:i_) (oe:H9) (l k h g:Bool),cK (X.hand a oe) (.builtin "isinstance") (rIsi X.K C a (XR oe.dict))->EE X.K (.ref C) (.ref A1)=a_ l->EE X.K (.ref C) (.ref A2)=a_ k->EE X.K (.ref C) (.type T)=a_ h->OO X.K (.ref C) (ys.map w_)=a_ g ->
   PSs (X.hand a oe) (b₀::suite) (tSeq (tAsg (tLst (gT (t4 i a (XR oe.dict) l) (gT (t4 i a (XR oe.dict) k) (gT (t4 i a (XR oe.dict) h) wX)))) (m6 j)) (yK (tBM X.K "list" qZ (Am j) (gT (AQ i a (XR oe.dict) ys g) wX)))))(B: ~~~(X.K=K))(Y:(i≠j)⁻¹)(hi: ~~~(X.N[i]?=a_ n))(t: ~~~(X.N[j]?=a_ to))(r: ~~~(X.env.scope.names.lookup n=a_ .local))(u: ~~~(Gl X c))(d: ~~~(X.ex=[]))(J: ~~~(X.stack=X.env::X.outer))(b: ~~~(X.env.frame=a_ X.env.locals))(f:((c==("__debug__":Dy))=c_)⁻¹):
  DS K J3 ro X OL [] [] (.Try body [.ExceptHandler (a_ (.Name c np)) (a_ n) (b₀::suite) hpos] [] [] pos) (qV i j tb fb):=λF0 H0 B4 s σ H D I z=>by
 subst B;refine ps_tryB (tb:=λE D σ H=>∃F1 H1,tS X.K (WE X.K E) ro F1 H1 OL [] [] fb D σ H) (ts:=AM X.K i j A1 A2 T ys) (λB4 σ E U p s H D I ⟨F1,H1,q⟩=>w B4 σ E U p F1 H1 s H D I q) (λa C oe v Z hd=>?_) G A hi r u d J b f B4 s σ H D I ?_
 .intro B4 s σ H D I q;obtain⟨l,k,h,g,x,q⟩:=q;obtain⟨_,_,_,_,e,k1,k2,m,k5⟩:=x.ex;simp only[Gs,and_true]at e;obtain⟨rfl,rfl,rfl,rfl⟩:=e;exact o a C oe _ _ _ _ (c_isiA Jf Z v hd) k1 k2 m k5 B4 s σ H D I q
 .exact rs_tryB3 y Y (by rw[I.len];exact(v_.mp hi).1) (by rw[I.len];exact(v_.mp t).1) z
end
def tell2{P:i_->List Bool->Prop}{J:List Bool}(h1:P C1 l1)(h2:P C2 J):∀C bs,DF C [(C1,l1),(C2,J)]=a_ bs->P C bs:=by
 intro C bs h;rw[A_]at h;cases e1:C==C1 with
 |true=>rw[e1]at h;cases h;rw[FU.mp e1];exact h1|false=>rw[e1]at h;exact tell1 h2 C bs h
def tMkFldL(K:Fg)(C:i_)(g:Dy)(t:TA):TE:=λσ H Q=>t σ H λvs H1=>∃l xs,vs=[.ref l]/\SqL K H1 l xs/\∀L d a,H1 L=g_->upd H1 L (.lst xs) d=g_->H1 a=g_->L≠a->d≠a->Q (.ref L) (upd (upd (upd H1 L (.lst xs)) d (XD d [(g,.ref L)])) a (XO a C (a_ d)))
def BD:A'->M A'
 |.lst ds=>.ok (.lst ds)|_=>stk
@[simp]def e_onlyL(ds:List A'):BD (.lst ds)=.ok (.lst ds):=id rfl
section
variable{f:i_}{g:Dy}{t:TA}{B2:String}{bmB2:List h_}{W:cn}
def Bv(FB:G3 B newId initId bmB)(FA:G1 B2 bmB2)(hC:jm X.K C bmB newId f=e_)(S:FP X.K (.ref f)=a_ (.type "function"))(P:Gw X.K (.ref C)=e_)(F:eJ X.prog X.w X.K X.mg X.base CX0 k f fd ps (spXL X.K C g))(E:eW (k+1) X.A)(T:Binds X.K fd ps [])(N:X.mg x=a_ (.ref C))(Z:As X.K C)(Y:yA X.K C g)(W:PA X [e1] t)(R: ~~~(Gl X x))(j:((x==("__debug__":Dy))=c_)⁻¹)(e: ~~~(j_ [e1] X.env=[(c_,DC e1 X.env)]))(m: ~~~(E5 (.Call (.Name x np) [e1] [] cpos) g X.env (DC (.Call (.Name x np) [e1] [] cpos) X.env)=DC (.Call (.Name x np) [e1] [] cpos) X.env)):PE X (.Attribute (.Call (.Name x np) [e1] [] cpos) g pos) (tMkFldL X.K C g t):=by
 intro B4 s σ H Q I h;have b:o_ (u_ X.prog X.w) X.A (DC (.Call (.Name x np) [e1] [] cpos) X.env) (λu n=>∃a d L xs H1,u=.ref a/\d≠a/\B6 X B4 σ (upd (upd (upd H1 L (.lst xs)) d (XD d [(g,.ref L)])) a (XO a C (a_ d))) n/\Q (.ref L) (upd (upd (upd H1 L (.lst xs)) d (XD d [(g,.ref L)])) a (XO a C (a_ d)))) X.xe s:=by
  refine FD (fH I R N (IW (h₀:=X.base) I.ok.mod.kin P (HH (W cpos B4 s σ H _ I h) λus p U=>?_) e rfl) j);obtain⟨vs,H1,y,r,q1⟩:=U;refine⟨y.kIn,?_⟩
  obtain⟨l,xs,rfl,G,q1⟩:=q1;refine HH (new_xL FB hC S F E T y r G) λv n U=>?_;obtain⟨a,d,L,ev,hn,f1,f2,f3,f4,c,J⟩:=U;exact⟨a,d,L,xs,H1,ev,c,J,q1 L d a f1 f4 f3 f2 c⟩
 refine wF m (HH b λu p U=>?_);obtain⟨a,d,L,xs,H1,eu,c,J,q⟩:=U;subst eu;obtain⟨vs,_,z⟩:=Ay (J.hok a _ ak);obtain⟨mA,A,r,_⟩:=xd_get (J.hok d (XD d [(g,.ref L)]) (by rw[aq c];exact ak));obtain⟨od,K,i⟩:=nk A;have O:([(g,V.ref L)]:List (Dy×V)).lookup g=a_ (.ref L):=by rw[A_,Ng]
 obtain⟨u',D,w⟩:=pq.some_of (v:=V.ref L) (o:=mA g) (by rw[<- O];exact r g);have IA:Ge p.heap a ⟨.ref C,a_ d,.fields vs,#[]⟩ C (a_ od):=⟨z,rfl,rfl,K⟩
 exact x_get FA J.kIn IA Z Y (by rw[i,D]) (nE w) ⟨.ref L,_,J.tok _,w,q⟩
def CQ(FB:G3 B newId initId bmB)(FA:G1 B2 bmB2)(S:jm X.K C bmB newId f=e_)(I:FP X.K (.ref f)=a_ (.type "function"))(E:Gw X.K (.ref C)=e_)(F:eJ X.prog X.w X.K X.mg X.base CX0 k f fd ps (spXL X.K C g))(y:eW (k+1) X.A)(O:Binds X.K fd ps [])(D:X.mg x=a_ (.ref C))(Z:As X.K C)(Y:yA X.K C g)(n:DE K W c_ X e1 fe)(G: ~~~(Gl X x))(i:((x==("__debug__":Dy))=c_)⁻¹)(b: ~~~(j_ [e1] X.env=[(c_,DC e1 X.env)]))(m: ~~~(E5 (.Call (.Name x np) [e1] [] cpos) g X.env (DC (.Call (.Name x np) [e1] [] cpos) X.env)=DC (.Call (.Name x np) [e1] [] cpos) X.env))(R: ~~~(X.K=K)):DE K W c_ X (.Attribute (.Call (.Name x np) [e1] [] cpos) g pos) (f1 BD fe):=by
 subst R;refine(Bv FB FA S I E F y O D Z Y (aN n bR b) G i b m).imp λσ H Q A=>?_;obtain⟨F,ρ,r,s,p⟩:=A;have T:f1 BD fe ρ=(fe ρ).bind BD:=rfl;rw[T]at p;refine aK r s (λe N=>by rw[N]at p;exact p) λd hd v F1 H1 h q=>?_;rw[hd,av]at p;cases d with
 |lst ds=>
  obtain⟨l,xs,ev,t,z⟩:=q;subst ev;refine⟨l,xs,rfl,h.fh.lst t,λL d' a P j n w u=>?_⟩
  have J:B5 F1 H1 (upd F1 L (.lst xs)) (upd H1 L (.lst xs)):=B5.lay h.fh P;have U:=B5.grow (o:=XD d' [(g,.ref L)]) J.fh j;have c:=B5.grow (p:=a) (o:=XO a C (a_ d')) U.fh (by rw[aq (Em u),aq (Em w)];exact n);exact(show aH X.K W c_ F H (.ok (.lst ds)) Q from p) (.ref L) _ _ (h.trans (J.trans (U.trans c))) ⟨L,xs,rfl,SqL.of ak,z.mono J.ff⟩
 |_=>exact aH.stuck p
end
def mulB:A'->A'->M A'
 |.int i,.int j=>if i.natAbs<2^160/\j.natAbs<2^160 then .ok (.int (i*j))else stk
 |_,_=>stk
@[simp]def e_mulBI{i j:Int}(h:i.natAbs<2^160)(h2:j.natAbs<2^160):mulB (.int i) (.int j)=.ok (.int (i*j)):=by show(if i.natAbs<2^160/\j.natAbs<2^160 then _ else _)=_;rw[s_ ⟨h,h2⟩]
section
variable{W:cn}{own:Bool}
def op_mulB:OpR X (FX .Mult) (rI (λi j=>i.natAbs<2^160/\j.natAbs<2^160) λi j=>.int (i*j)):=opI λi j _ _ _ _ _ J q=>mul_int q (IntMulOk.of_bits (Ee (intBits_le (k:=160) J.1) ag) (Ee (intBits_le (k:=160) J.2) ag))
def o_mulBI:Op2 K W own X (FX .Mult) mulB:=op_mulB.imp λx y H Q h=>by
 obtain⟨F,i,j,s,e1,e2,p⟩:=eX (λa b=>by cases a<;>cases b<;>first|exact .inr rfl|exact .inl ⟨_,_,rfl,rfl⟩) h;have J:aH K W own F H (if i.natAbs<2^160/\j.natAbs<2^160 then .ok (.int (i*j))else stk) Q:=p;by_cases U:i.natAbs<2^160/\j.natAbs<2^160
 .rw[s_ U]at J;exact⟨i,j,e1,e2,U,J.int s⟩
 .rw[q_ U]at J;exact J.stuck
end
section
open PySem.W
variable{s:k_}
noncomputable def BA(b:Bool):as->as
 |[U,J]=>if b=e_ then [J,U]else [U,J]
 |vs=>vs
theorem xv{b:Bool}:∀{vs:as},vs.length<2->BA b vs=vs
 |[],_=>rfl|[_],_=>rfl
def Ask1(prog:EC)(w:Fe)(A:Fu)(b:Bool)(vs:as)(s':k_):Prop:=
 o_ (u_ prog w) A (keyKind' vs.toArray) (fun κ J=>J=s'/\∀C:Bool->k_->Prop,C b s'->kas_ask prog w A κ vs 1 0 C s') (λ_ _=>False) s'
def BU{b:Bool}{P:Mn->k_->Prop}(m:s.heap.get? a=a_ (Gk "list" vs.toArray n))(I:vs.length<3)(D:vs.length=2->∀h1:Eg,(∀b o,b≠a->s.heap.get? b=a_ o->h1.get? b=a_ o)->Ask1 prog w A b vs {s with heap:=h1})(h:∀(h':Eg) (c:Nat),(∀b o,b≠a->s.heap.get? b=a_ o->h'.get? b=a_ o)->h'.get? a=a_ (Gk "list" (BA b vs).toArray c)->P (.done (.ret .none)) {s with heap:=h'}):
  o_ (u_ prog w) A (Builtin.«list.sort» ⟨[.ref a],[]⟩) P E s:=by
 have t:=Ey;obtain⟨e1,i⟩:∃e1,(s.heap.update a (ES λ_=>(#[]:Array h_))).get? a=a_ (Gk "list" #[] e1):=⟨_,get?_update_seq m λ_=>#[]⟩
 rw[list_sort_plain];refine b_ (listItems_at m rfl (b_ (MP m rfl (b_ (Of i rfl (b_ (L_ (b_ (KU (Ex ?_) (E1 _))) (by show vs.length<=_;omega))))) (by rw[Dv];omega) (E1 _))));have J:∀b o,b≠a->s.heap.get? b=a_ o->(((s.heap.update a (ES λ_=>(#[]:Array h_))).push (Gk "tuple" vs.toArray 0)).push (Gk "list" #[] 0)).get? b=a_ o:=λb o l q=>d_ _ (d_ _ ((Dw _ _ (Em l)).trans q))
 have Y:(((s.heap.update a (ES λ_=>(#[]:Array h_))).push (Gk "tuple" vs.toArray 0)).push (Gk "list" #[] 0)).get? a=a_ (Gk "list" #[] e1):=d_ _ (d_ _ i);generalize hh:((s.heap.update a (ES λ_=>(#[]:Array h_))).push (Gk "tuple" vs.toArray 0)).push (Gk "list" #[] 0)=j at J Y;show o_ (u_ prog w) A _ P E {s with heap:=j};dsimp only;have k:∀(out:as),out=BA b vs->P (.done (.ret .none)) {s with heap:=j.update a (ES λ_=>out.toArray)}:=λout g=>by subst g;exact h _ _ (λb o l q=>(Dw _ _ (Em l)).trans (J b o l q)) (get?_update_seq Y λ_=>(BA b vs).toArray)
 by_cases h2:vs.toArray.size<2
 .rw[s_ h2,s_ h2];refine b_ (f_ ?_);rw[StateT.run_pure];refine b_ (f_ ?_);dsimp only;have d:vs.length<2:=by simpa using h2
  have g:(arrOf (My general' (vs.toArray.zip vs.toArray) #[] 7 g_)).map (·.2)=vs.toArray:=by show(vs.toArray.zip vs.toArray).map (·.2)=vs.toArray;apply Array.toList_inj.mp;simp only[Array.toList_map,Array.toList_zip];exact List.map_snd_zip (t_ _)
  rw[g];refine b_ (Of Y rfl (b_ (MP Y rfl ?_ (E1 _) (by show vs.length<=_;omega))));have e3:Mr (My general' (vs.toArray.zip vs.toArray) #[] 7 g_)=g_:=rfl;simp only[e3,MD,Ec,Fy];exact f_ (k vs (xv d).symm)
 .rw[q_ h2,q_ h2];have d:vs.length=2:=by rw[Dv]at h2;omega
  refine b_ (Ew (D d j J) (fun κ H C=>?_) λ_ _ x=>x.elim);obtain⟨es,y⟩:=C;subst es;obtain⟨f,e,rfl⟩:∃f e,vs=[f,e]:=by
   match vs,d with
   |[f,e],_=>exact⟨f,e,rfl⟩
  refine b_ (Ew (kat_run (ks:=[f,e]) (vs:=[f,e]) (Q:=λU s'=>s'={s with heap:=j}/\(arrOf U).map (·.2)=(BA b [f,e]).toArray/\Mr U=g_)
   (G:=λp s'=>s'={s with heap:=j}/\p=if b=e_ then #[1,0]else #[0,1]) rfl (t_ 2) (by show 2<64;decide) (λp U s' _ u F z=>⟨z.1,?_,F⟩) (y _ ?_)) (λr s' B=>?_) λ_ _ x=>x)
  .rw[kat_snds rfl u,z.2];cases b<;>rfl
  .cases b
   .exact⟨rfl,rfl⟩
   .exact⟨rfl,by simp only[B_,Ie,Ia];decide +kernel⟩
  .obtain⟨⟨⟩,U⟩:=r;obtain⟨es,g,v⟩:=B;have es:s'=_:=es;subst es;have g:(arrOf U).map (·.2)=(BA b [f,e]).toArray:=g;have v:Mr U=g_:=v;dsimp only;rw[g];refine b_ (Of Y rfl (b_ (MP Y rfl ?_ (E1 _) (by cases b<;>(show 2<=_;omega)))));simp only[v,MD,Ec,Fy];exact f_ (k _ rfl)
end
section
open PySem PySem.W
variable{s:k_}
def sorted3{Q:Vp}(f:s.heap.IsList l vs.toArray)(h2:vs.length<2)(h:∀(h':Eg) (D:i_) (c:Nat),s.heap.objs.size<=D->(∀b o,s.heap.get? b=a_ o->h'.get? b=a_ o)->h'.get? D=a_ (Gk "list" vs.toArray c)->Q (.ref D) {s with heap:=h'}):
  o_ (u_ prog w) A (HG (.builtin "sorted") [.ref l]) Q E s:=by
 have Y:=Ey;refine IE Og Nv Nw (Nx _) ?_;unfold Builtin.«sorted»;refine b_ (m:=OJ "sorted" 1 1 _) (f_ (b_ (collect_list f (b_ (KU ?_ ac)) ac)));have a:((s.heap.push (Gk "list" #[] 0)).update s.z (ES (·++vs.toArray))).objs.size=s.z+1:=by rw[Hj,size_push']
 have d:(((s.heap.push (Gk "list" #[] 0)).update s.z (ES (·++vs.toArray))).push (Gk "list" vs.toArray 0)).get? (s.z+1)=a_ (Gk "list" vs.toArray 0):=by rw[<- a];exact l_ _ rfl
 have J:∀b o,s.heap.get? b=a_ o->(((s.heap.push (Gk "list" #[] 0)).update s.z (ES (·++vs.toArray))).push (Gk "list" vs.toArray 0)).get? b=a_ o:=λb o q=>d_ _ ((Dw _ _ (E7 (mf q))).trans (d_ _ q))
 show o_ _ _ _ _ _ {s with heap:=((s.heap.push (Gk "list" #[] 0)).update s.z (ES (·++vs.toArray))).push (Gk "list" vs.toArray 0)};rw[a];have U:∀b o,s.heap.get? b=a_ o->b≠s.z+1:=λb o q=>Dx (Gg (mf q));refine b_ (Ex (DU Mp ⟨_,d,rfl⟩ LV (BU (b:=c_) d ac (λz=>DD z ac) λh' c k' e=>⟨_,rfl,?_⟩) (Mt _)));rw[xv h2]at e;exact f_ ⟨_,rfl,h h' _ c (FT _) (λb o q=>k' b o (U b o q) (J b o q)) e⟩
def mQ{d:i_}{es:Array FJ}{b:Bool}{Q:Vp}(hh:A.handled=g_)(lo:(d==Fm)=c_)(z:sO s.heap d es ep)(hv:es.toList.map (·.key)=vs)(f:vs.length<3)(g:vs.length=2->∀(h1:Eg) (tk:Nat),(∀b o,s.heap.get? b=a_ o->h1.get? b=a_ o)->Ask1 prog w A.in1.in1 b vs {s with heap:=h1,toks:=tk})(h:∀(h':Eg) (D:i_) (c tk:Nat),s.heap.objs.size<=D->(∀b o,s.heap.get? b=a_ o->h'.get? b=a_ o)->h'.get? D=a_ (Gk "list" (BA b vs).toArray c)->Q (.ref D) {s with heap:=h',toks:=tk}):
  o_ (u_ prog w) A (HG (.builtin "sorted") [.ref d]) Q E s:=by
 have U:=Ey;have hsz:es.size=vs.length:=by rw[<- hv,y_,DO]
 refine IE Og Nv Nw (Nx _) ?_;unfold Builtin.«sorted»;refine b_ (m:=OJ "sorted" 1 1 _) (f_ (b_ (collectR (A:=A.in1) hh lo z ac λh1 tk J Y=>?_)));rw[hv];refine b_ (KU ?_ ac);have e:(h1.push (Gk "list" vs.toArray 0)).get? h1.objs.size=a_ (Gk "list" vs.toArray 0):=l_ _ rfl;have a:∀b o,s.heap.get? b=a_ o->b≠h1.objs.size:=λb o q=>Dx (mf (J b o q));refine b_ (Ex (DU (s:={s with heap:=h1.push (Gk "list" vs.toArray 0),toks:=tk}) Mp ⟨_,e,rfl⟩ LV (BU (b:=b) e f (λh2 i k3=>?_) λh' c k' j=>⟨_,rfl,?_⟩) (Mt _)))
 .exact g h2 i tk λb o q=>k3 b o (a b o q) (d_ _ (J b o q))
 .exact f_ ⟨_,rfl,h h' _ c tk Y (λb o q=>k' b o (a b o q) (d_ _ (J b o q))) j⟩
def ask_L{k l:LK}(E:A.units+8<Ez)(o:(labI prog w).is s.heap k (.ref a))(n:(labI prog w).is s.heap l (.ref c)):Ask1 prog w A (ltL l k) [.ref a,.ref c] s:=by
 obtain⟨t,x,Y,e1,⟨B,D,b,f1,g⟩,⟨m,e5⟩,i⟩:=o;obtain⟨r,u,U,e2,⟨y,n2,g2,p,d⟩,⟨j,q⟩,h⟩:=n;cases e1;cases e2;subst e5 q;unfold Ask1;refine kat_kind (s:=s) (T:=.type "int") (N6 b f1 g rfl (N6 g2 p d rfl KatTups.nil)) (Nat.succ_pos 1) (λv hv=>?_) rfl ⟨rfl,λC J=>?_⟩
 .simp only[p_,DK,FO]at hv;rcases hv with z|z<;>rw[z]<;>exact Looks.of_pure rfl
 .unfold kas_ask;refine kat_lt (s:=s) g2 d b g ?_;show KatLex prog w _ _ _ _ [(_,_),(U,Y)] 0 s;refine kat_cons ((Ao prog w).eqBool (by show A.units+0<Ez;omega) ⟨j,rfl⟩ ⟨m,rfl⟩ ?_);unfold ltL at J;by_cases e:l.1=k.1
  .rw[s_ e]at J;rw[Gu e];refine kat_yes (kat_cons ((tupI (tupI (Ao prog w))).eqBool (by show A.units+(0+1+1)<Ez;omega) h i ?_));by_cases f:l.2=k.2
   .rw[Gu f];rw[f,ordR.irr]at J;exact kat_yes (kat_nil J)
   .rw[Eu f];show o_ (u_ prog w) _ (oneLt' c_ U Y) _ _ _;rw[oneLt'_eq];simp only[Ec,Fy];exact b_ (wV (wV int_lt) (by show A.units+(0+1+1)<Ez;omega) h i (Fp J))
  .rw[q_ e]at J;rw[Eu e];exact oneLt_int J
end
def mw:List A'->M A'
 |[.lst ds]=>if ds.length<2 then .ok (.lst ds)else stk
 |_=>stk
def qM:List A'->M A'
 |[.dil ks]=>if ks.length<3 then .ok (.lst ((dU ltL ks).map bE))else stk
 |_=>stk
section
variable{W:cn}
def A9(k: ~~~(X.K=K)):mv K W e_ X (.builtin "sorted") mw:=by
 subst k;intro B4 s σ H xs us Q I g h;obtain⟨F,d,x,J,e,q,p⟩:=kB (λds=>by match ds with|[d]=>exact .inl ⟨d,rfl⟩|[]=>exact .inr rfl|a::b::c=>exact .inr (by cases a<;>rfl)) h;subst e;obtain⟨u,rfl,f⟩:=g.one;cases d with
 |lst ds=>
  have p:aH X.K W e_ F H (if ds.length<2 then .ok (.lst ds)else stk) Q:=p;by_cases h2:ds.length<2
  .rw[s_ h2]at p;obtain⟨a,ys,e1,t,r⟩:=q;subst e1;cases f;obtain⟨its,U,pl,j⟩:=I.list (J.lst t);have l1:=U.length;have l:=r.length;refine sorted3 pl.isList ac λh' D c Y i e=>?_;exact⟨.ref D,_,I.laid (t':=s.toks) i Y (show cz X.prog X.w _ h' D (.lst ys)from⟨j,_,c,U,e⟩),rfl,p.lst J r (I.hok.fresh Y)⟩
  .rw[q_ h2]at p;exact aH.stuck p
 |_=>exact aH.stuck p
def A8(N:X.A.units+64<Ez)(t: ~~~(X.calm=e_))(k: ~~~(X.K=K)):mv K W e_ X (.builtin "sorted") qM:=by
 subst k;intro B4 s σ H xs us Q I C h;obtain⟨F,d,x,m,e,q,p⟩:=kB (λds=>by match ds with|[d]=>exact .inl ⟨d,rfl⟩|[]=>exact .inr rfl|a::b::c=>exact .inr (by cases a<;>rfl)) h;subst e;obtain⟨u,rfl,B⟩:=C.one;cases d with
 |dil ks=>
  have p:aH X.K W e_ F H (if ks.length<3 then .ok (.lst ((dU ltL ks).map bE))else stk) Q:=p;by_cases g:ks.length<3
  .rw[s_ g]at p;obtain⟨a,rs,e1,⟨ep,E⟩,ek,k⟩:=q;subst e1;cases B;rw[<- ek]at p g;rw[y_]at g;obtain⟨hd,P,O,o,es,y,g2,w,v⟩:=dil_ok I (m _ _ E);have L:=Ey;have f:∀{h':Eg},(∀b o,s.heap.get? b=a_ o->h'.get? b=a_ o)->∀r∈rs,(labI X.prog X.w).is h' r.1 (.ref r.2):=λJ r Y=>vN (nq I ((k r Y).mono m)) J;have l:∀{b:Bool} {ps:List (LK×i_)} {h':Eg} {D:i_} {c tk:Nat},dU ltL (rs.map HX)=ps.map HX->BA b (rs.map λr=>w_ r.2)=ps.map (λr=>w_ r.2)->(∀r∈ps,r∈rs)->ps.length<3->s.z<=D->(∀b o,s.heap.get? b=a_ o->h'.get? b=a_ o)->h'.get? D=a_ (Gk "list" (BA b (rs.map λr=>w_ r.2)).toArray c)->EP X B4 σ Q (.ref D) {s with heap:=h',toks:=tk}:=λ{b ps h' D c tk} e1 e2 e3 A U J e=>by
    rw[e2]at e;rw[e1]at p;have vs:Ds (ps.map λr=>V.ref r.2) (ps.map λr=>w_ r.2):=by
     clear e e1 e2 e3 A p
     induction ps with
     |nil=>exact .nil|cons r ps n=>exact .cons rfl n
    have G:ax X.K F ((ps.map HX).map bE) (ps.map λr=>V.ref r.2):=by
     clear e e1 e2 vs A p
     induction ps with
     |nil=>rfl|cons r ps n=>exact⟨_,_,rfl,xD (k r (e3 r ad)),n λr' Y=>e3 r' (by simp[Y])⟩
    exact⟨.ref D,_,I.laid (t':=tk) J U (show cz X.prog X.w _ h' D (.lst _)from⟨by rw[y_];omega,_,c,vs,e⟩),rfl,p.lst m G (I.hok.fresh U)⟩
   rcases rs with _|⟨r,_|⟨q,_|⟨x,rs⟩⟩⟩
   .exact mQ (b:=c_) (vs:=[]) (I.ok.hd t) hd ⟨o,y,g2,w⟩ (by rw[v];rfl) ad (λz=>by cases z) λh' D c tk U J e=>l (ps:=[]) rfl rfl (λr Y=>Y) ad U J e
   .exact mQ (b:=c_) (vs:=[.ref r.2]) (I.ok.hd t) hd ⟨o,y,g2,w⟩ (by rw[v];rfl) ad (λz=>by cases z) λh' D c tk U J e=>l (ps:=[r]) rfl rfl (λr Y=>Y) ad U J e
   .refine mQ (b:=ltL q.1 r.1) (vs:=[.ref r.2,.ref q.2]) (I.ok.hd t) hd ⟨o,y,g2,w⟩ (by rw[v];rfl) ad (λ_ h1 tk J=>ask_L (s:={s with heap:=h1,toks:=tk}) (by show X.A.units+1+1+8<Ez;omega) (f J r ad) (f J q ad)) λh' D c tk U J e=>?_;cases j:ltL q.1 r.1 with
    |true=>rw[j]at e;exact l (b:=e_) (ps:=[q,r]) (by simp[dU,insL,j]) rfl (λx i=>by simp at i ⊢;exact i.symm) ad U J e|false=>rw[j]at e;exact l (b:=c_) (ps:=[r,q]) (by simp[dU,insL,j]) rfl (λx i=>i) ad U J e
   .simp only[B_]at g;omega
  .rw[q_ g]at p;exact aH.stuck p
 |_=>exact aH.stuck p
end
section
open PySem.W
variable{s:k_}
def ask_ints{is:aj}(hi:G9 its is)(h2:its.length=2):Ask1 prog w A (ltZ (is.getD 1 0) (is.getD 0 0)) its s:=by
 cases hi with
 |nil=>cases h2|cons n t r=>
  cases r with
  |nil=>cases h2|cons m u J=>
   cases J with
   |cons x y z=>simp only[B_]at h2;omega|nil=>unfold Ask1;rw[show keyKind' #[Hv n t,Hv m u]=_ from keyKind_ints (.cons n t (.cons m u .nil))];exact f_ ⟨rfl,λC U=>kat_lt_int U⟩
def t8{Q:Vp}(hh:A.handled=g_)(H:sP prog w (kJ w) s.heap a ks)(g:ks.length<3)(h:∀(h':Eg) (D:i_) (c tk:Nat) (d:N_) (vs:as),s.heap.objs.size<=D->(∀b o,s.heap.get? b=a_ o->h'.get? b=a_ o)->h'.get? D=a_ (Gk "list" (BA (ltZ ((vs.map mC).getD 1 0) ((vs.map mC).getD 0 0)) vs).toArray c)->(vs.map mC).Perm ks->G9 vs (vs.map mC)->Q (.ref D) {s with heap:=h',drawn:=d,toks:=tk}):
  o_ (u_ prog w) A (HG (.builtin "sorted") [.ref a]) Q E s:=by
 have j:=Ey;refine IE Og Nv Nw (Nx _) ?_;unfold Builtin.«sorted»;refine b_ (m:=OJ "sorted" 1 1 _) (f_ (b_ (uM (A:=A.in1) hh H λvs h1 d tk J hsz Y hi=>?_)));have k:vs.length=ks.length:=by have:=Y.length_eq;simpa using this
 refine b_ (KU ?_ ac);have e:(h1.push (Gk "list" vs.toArray 0)).get? h1.objs.size=a_ (Gk "list" vs.toArray 0):=l_ _ rfl;have U:=xK hi;have f:∀b o,s.heap.get? b=a_ o->b≠h1.objs.size:=λb o q=>Dx (mf (J b o q));refine b_ (Ex (DU (s:={s with heap:=h1.push (Gk "list" vs.toArray 0),drawn:=d,toks:=tk}) Mp ⟨_,e,rfl⟩ LV (BU (b:=ltZ ((vs.map mC).getD 1 0) ((vs.map mC).getD 0 0)) e ac (λh2 l k3=>ask_ints U h2) λh' c k' i=>⟨_,rfl,?_⟩) (Mt _)));exact f_ ⟨_,rfl,h h' _ c tk d vs hsz (λb o q=>k' b o (f b o q) (d_ _ (J b o q))) i Y U⟩
def Bz{is:aj}(h:G9 vs is)(U:vs.length<3):G9 (BA (ltZ (is.getD 1 0) (is.getD 0 0)) vs) (dU ltZ is):=by
 cases h with
 |nil=>exact .nil|cons n t r=>
  cases r with
  |nil=>exact .cons n t .nil|cons m u J=>
   cases J with
   |cons x y z=>simp only[B_]at U;omega|nil=>
    have e:dU ltZ [n,m]=if ltZ m n=e_ then [m,n]else [n,m]:=by simp[dU,insL]
    rw[e];show G9 (if ltZ m n=e_ then [.int m u,.int n t]else [.int n t,.int m u]) _;split
    .exact .cons m u (.cons n t .nil)
    .exact .cons n t (.cons m u .nil)
def Cd{l m:aj}(h:l.Perm m)(J:l.length<3):dU ltZ l=dU ltZ m:=by
 have U:=h.length_eq
 match l,m,U,J with
 |[],[],_,_=>rfl|[a],[b],_,_=>rw[List.singleton_perm_singleton.mp h]|[a,b],[c,d],_,_=>have h1:=h.mem_iff (a:=a);have h2:=h.mem_iff (a:=b);have J:=h.mem_iff (a:=c);have Y:=h.mem_iff (a:=d);simp only[p_,DK,FO,true_or,or_true,true_iff,iff_true]at h1 h2 J Y;simp only[dU,insL,ltZ,DX];split<;>split<;>simp only[Gs,and_true]<;>omega
end
def gb:A'->M A'
 |.lst ds=>(bD ds).bind λis=>if ds.length<64/\(keysOf is).length<3 then .ok (.lst ((dU ltZ (keysOf is)).map .int))else stk
 |_=>stk
section
variable{W:cn}{a:EM}
def rX(A:X.mg "sorted"=g_)(hm:X.mg "set"=g_)(ha:DE K W c_ X a fa)(O: ~~~(X.calm=e_))(B: ~~~(Gl X "sorted"))(hg: ~~~(Gl X "set"))(L: ~~~(j_ [a] X.env=[(c_,DC a X.env)]))(i: ~~~(j_ [.Call (.Name "set" p1) [a] [] pos1] X.env=[(c_,DC (.Call (.Name "set" p1) [a] [] pos1) X.env)]))(hK: ~~~(X.K=K)):
  DE K W e_ X (.Call (.Name "sorted" p) [.Call (.Name "set" p1) [a] [] pos1] [] pos) (f1 gb fa):=by
 subst hK;intro B4 s σ H Q I h;obtain⟨F,ρ,r,Z,J⟩:=h;refine FD (fJ I B A Oh ?_ ag ag);have g:o_ (u_ X.prog X.w) X.A (DC (.Call (.Name "set" p1) [a] [] pos1) X.env) (λt f=>∃Y H2 is h' tk,t=.ref Y.z/\f={Y with heap:=h',toks:=tk}/\B6 X B4 σ H2 Y/\(is.length<64/\(keysOf is).length<3)/\sP X.prog X.w (kJ X.w) h' Y.z (keysOf is)/\(∀c o,c<Y.z->Y.heap.get? c=a_ o->h'.get? c=a_ o)/\∀S,H2 S=g_->Q (.ref S) (upd H2 S (.lst ((dU ltZ (keysOf is)).map V.int)))) X.xe s:=by
  refine LM (fJ I hg hm boot_set (DY (HH (aN ha bR L pos1 B4 s σ H (λus H2=>∃l is,us=[.ref l]/\(is.length<64/\(keysOf is).length<3)/\SqL X.K H2 l (is.map V.int)/\∀S,H2 S=g_->Q (.ref S) (upd H2 S (.lst ((dU ltZ (keysOf is)).map V.int)))) I ?_) λus f ⟨vs,H1,T,r1,q1⟩=>?_) L rfl))
  .refine aK r Z (λe he=>?_) λd hd v F1 H1 f q1=>?_
   .have z:f1 gb fa ρ=.error e:=by unfold f1;rw[he];rfl
    rw[z]at J;exact J
   .have z:f1 gb fa ρ=gb d:=by unfold f1;rw[hd];rfl
    rw[z]at J;have J:=J.step f;cases d with
    |lst ds=>
     obtain⟨c,xs,e,t,E⟩:=q1;have J:aH X.K W e_ F1 H1 ((bD ds).bind λis=>if ds.length<64/\(keysOf is).length<3 then .ok (.lst ((dU ltZ (keysOf is)).map .int))else stk) Q:=J;cases n:bD ds with
     |error z=>rw[n]at J;have:=dA n;subst this;exact(W.ns J).elim|ok is=>
      rw[n]at J;have J:aH X.K W e_ F1 H1 (if ds.length<64/\(keysOf is).length<3 then .ok (.lst ((dU ltZ (keysOf is)).map .int))else stk) Q:=J;have hx:=dw E n;subst hx;have N:ds.length=is.length:=by have:=E.length;simp at this;omega
      by_cases U:ds.length<64/\(keysOf is).length<3
      .rw[s_ U]at J;exact⟨c,is,by rw[e],⟨ac,U.2⟩,f.fh.lst t,λS hS=>J.lst f.fh (yg _) hS⟩
      .rw[q_ U]at J;exact(W.ns J).elim
    |_=>exact(W.ns J).elim
  .obtain⟨l,is,e,U,hq,C⟩:=q1;subst e;obtain⟨u,rfl,ru⟩:=r1.one;cases(show u=w_ l from ru);obtain⟨its,G,pl,hz⟩:=T.list hq;have N:=G.length;rw[y_]at N;have h4:HL=4096:=rfl;exact Df (I.ok.hd O) pl.isList (by simpa using intsAre_of G) (by rw[Dv];omega) λh' tk w k'=>⟨f,H1,is,h',tk,rfl,rfl,T,U,w,k',C⟩
 refine JN ?_ i rfl;rw[i];refine GN (HH g λt f m=>?_);obtain⟨Y,H2,is,h',tk,et,es,R,U,w,k',C⟩:=m;refine f_ ?_;subst et es;have y:Y.z<h'.objs.size:=by obtain⟨o,_,_,_,ho,_⟩:=w;exact mf ho
 refine t8 (s:={Y with heap:=h',toks:=tk}) (I.ok.hd O) w U.2 λh2 D c x d vs hD kp e m ia=>?_;have j:(vs.map mC).length<3:=by rw[m.length_eq];exact U.2
 have P:=Bz ia (by simpa using j);rw[Cd m j]at P;have hll:(dU ltZ (keysOf is)).length<3:=by rw[(d7 _).length_eq];exact U.2
 have k:Y.z<=D:=Ee (Gr y) hD;have hz:=Ey;exact⟨.ref D,_,(R.laid (t':=x) (λb o q=>kp b o (k' b o (mf q) q)) k (show cz X.prog X.w _ h2 D (.lst ((dU ltZ (keysOf is)).map V.int))from⟨by rw[y_];omega,_,c,AG P,e⟩)).draws,rfl,C D (R.hok.fresh k)⟩
end
end Lake
namespace Tactic
open PySem Lake PyProof.Rows
variable{mg:Mq}{P:EC}{w:Fe}{n i k j q m:Nat}{CP CL CT AStripError ATooMany ANoPlan ANoPlace ANoRow ANoRules ANoSheet ANoTime ANotFree bJ:i_}{cN: i_}{cw fd: Gi}{bw:Gi}{t u a x c:Int}{rows L:List (List Int)}{b ks:List Int}{v:V}{l:LK}
def k7:aa->M C':=
 (cQ (cC (fIt (ae 0)) [g_] (.nm 0) iL (fL kI (a9 (ae 0) ay))))
def eY:List A'->M A':=b6 1 1 (k7)
def qu:aa->M C':=
 sIf (fOr (Ap (vZ (f1 mE (ae 0)))) (vZ (f1 jX (ae 0))))
   (cQ (fC (.bl c_)))
   dh
def xQ:aa->M C':=
 (ba (qu)
  (cQ (iM leD leD (fC (.int 0)) (ae 0) (fC (.int 1000000)))))
def iZ:List A'->M A':=b6 1 1 (xQ)
def lB:aa->M C':=
 (cQ (oW (f1 jW (ae 0)) (oW (f2 eqM (fL xA (a9 (ae 0) ay)) (ae 1)) (fL allD (a9 (cC (fIt (ae 0)) [g_] (.nm 0) iL (fL (iZ) (a9 (ae 0) ay))) ay)))))
def d6:List A'->M A':=b6 2 2 (lB)
def ib:aa->M C':=
 sIf (Ap (fB (iM leD leD (fC (.int 1)) (ae 1) (fC (.int 6)))))
   sStk
   dh
def i9:aa->M C':=
 sIf (Ap (vZ (fL allD (a9 (cC (fIt (ae 0)) [g_,a_ 1] (.nm 0) iL (fL (d6) (a9 (ae 0) (a9 (ae 1) ay)))) ay))))
   sStk
   dh
def jk:aa->M C':=
 (ba (aM [] 1 (fL xA (a9 (ae 0) ay)))
  (ba (ib)
  (ba (i9)
  (cQ (fL (eY) (a9 (ae 0) ay))))))
def aA:List A'->M A':=b6 2 1 (jk)
def pf(R:List A'->M A'):aa->M C':=
 sIf (fB (f2 eqM (ae 1) (fC (.int 0))))
   (cQ (fL bc (a9 (fL bG ay) ay)))
   dh
def pk(R:List A'->M A'):aa->M C':=
 (gG [2] 2 (f2 j6 (fL bG (a9 (ae 4) ay)) (ae 5)))
def ph(R:List A'->M A'):aa->M C':=
 (ie [2] (fIt (fL R (a9 (fSl gF (ae 0) (lV (f2 j6 (ae 3) (fC (.int 1)))) tX) (a9 (f2 yL (ae 1) (fC (.int 1))) ay)))) (.nm 5) (pk R))
def iK(R:List A'->M A'):aa->M C':=
 (ba (pf R)
  (ba (aM [] 2 (fL bc ay))
  (ba (ie [2] (oV (ae 0)) (.tp [3,4]) (ph R))
  (cQ (ae 2)))))
def d8:Nat->aa->M C'
 |0=>λ_=>stk|d+1=>iK (b6 6 2 (d8 d))
def iE:List A'->M A':=b6 6 2 (d8 6)
def nH:aa->M C':=
 (ba (aM [] 3 (fTR (gL iS (a9 (fL maxD (a9 (fC (.int 0)) (a9 (f2 yL (ae 2) (ae 1)) ay))) ay))))
  (ba (aM [] 4 (fLR (gL xk (a9 (fL xA (a9 (ae 3) ay)) (a9 (fL minD (a9 (ae 0) (a9 (f2 j6 (ae 2) (ae 1)) ay))) ay)))))
  (cQ (cC (fIt (fL (iE) (a9 (ae 4) (a9 (f2 yL (ae 2) (fL xA (a9 (ae 3) ay))) ay)))) [g_,a_ 3] (.nm 0) iL (f2 j6 (ae 1) (ae 0))))))
def fG:List A'->M A':=b6 5 3 (nH)
def i7:aa->M C':=
 (cQ (cC (jl (ae 0)) [g_,g_,a_ 0] (.tp [0,1]) iL (fL bG (a9 (f2 j6 (fSl gF (ae 2) tX (lV (ae 0))) (fSl gF (ae 2) (lV (f2 j6 (ae 0) (fC (.int 1)))) tX)) (a9 (ae 1) ay)))))
def bj:List A'->M A':=b6 1 1 (i7)
def oh:aa->M C':=
 (yT 4 (ae 5) (fL sumD (a9 (cC (fIt (fL (bj) (a9 (ae 5) ay))) [g_,g_,a_ 2] (.tp [0,1]) iL (oU (ae 2) (ae 0) (fC (.int 0)))) ay)))
def o9:aa->M C':=
 (ba (aM [] 4 (fC (.dic [])))
  (ba (ie [4] (fIt (fL (fG) (a9 (ae 0) (a9 (ae 1) (a9 (ae 3) ay))))) (.nm 5) (oh))
  (aM [] 2 (ae 4))))
def rN:aa->M C':=
 (ba (aM [] 2 (f2 mkD1 (fL bG ay) (fC (.int 1))))
  (ba (ie [] (gL xk (a9 (fC (.int 1)) (a9 (f2 j6 (ae 0) (fC (.int 1))) ay))) (.nm 3) (o9))
  (cQ (f1 AU (ae 2)))))
def br:List A'->M A':=b6 6 2 (rN)
def cW:aa->M C':=
 (cQ (fC (.int 1)))
def aC:List A'->M A':=b6 1 1 (cW)
def dD:aa->M C':=
 (cQ (fC (.int 2)))
def aD:List A'->M A':=b6 1 1 (dD)
def e8(CR CP CL CT:i_)(n:Nat):aa->M C':=
 (aM [] 3 (f2 mulD (ae 3) (bS CR CP "many_strips" (aC) (aD) (ae 0) ay)))
def lx(CR CP CL CT:i_)(n:Nat):aa->M C':=
 (ba (aM [] 3 (fL (br) (a9 (ae 1) (a9 (ae 2) ay))))
  (ba (ie [] (gL iS (a9 (ae 1) ay)) (.nm 4) (e8 CR CP CL CT n))
  (cQ (ae 3))))
def gi(CR CP CL CT:i_)(n:Nat):List A'->M A':=b6 5 3 (lx CR CP CL CT n)
def cZ(CR CP CL CT:i_)(n:Nat):aa->M C':=
 sIf (Cr (fB (f2 gtD (fL (gi CR CP CL CT n) (a9 (ae 0) (a9 (fL xA (a9 (ae 1) ay)) (a9 (ae 2) ay)))) (fC (.int 5000)))))
   (sExc CT)
   dh
def dW(CR CP CL CT:i_)(n:Nat):aa->M C':=
 (cZ CR CP CL CT n)
def bW(CR CP CL CT:i_)(n:Nat):List A'->M A':=b6 3 3 (dW CR CP CL CT n)
def kl:aa->M C':=
 (sExt [2] 2 (fL (fG) (a9 (ae 0) (a9 (ae 1) (a9 (ae 3) ay)))))
def m5:aa->M C':=
 (ba (aM [] 2 (fL bc ay))
  (ba (ie [2] (gL iS (a9 (f2 j6 (ae 0) (fC (.int 1))) ay)) (.nm 3) (kl))
  (cQ (ae 2))))
def cT:List A'->M A':=b6 4 2 (m5)
def dG:aa->M C':=
 sIf (fB (f2 gtD (f2 ixD (ae 0) (fC (.int 0))) (f2 ixD (ae 1) (fC (.int 0)))))
   (cQ (fC (.bl c_)))
   dh
def fV:aa->M C':=
 sIf (fB (f2 gtD (ae 4) (ae 5)))
   (cQ (fC (.bl c_)))
   dh
def dI:aa->M C':=
 (fV)
def dH:aa->M C':=
 (ie [] (nJ (ae 2) (ae 3)) (.tp [4,5]) (dI))
def f7:aa->M C':=
 (ba (dG)
  (ba (ie [] (nJ (f2 ixD (ae 0) (fC (.int 1))) (f2 ixD (ae 1) (fC (.int 1)))) (.tp [2,3]) (dH))
  (cQ (fC (.bl e_)))))
def cg:List A'->M A':=b6 6 2 (f7)
def eP:aa->M C':=
 sIf (vZ (fL (cg) (a9 (ae 2) (a9 (ae 1) ay))))
   (cQ (fC (.bl e_)))
   dh
def bo:aa->M C':=
 (eP)
def gB:aa->M C':=
 (ba (ie [] (fIt (ae 0)) (.nm 2) (bo))
  (cQ (fC (.bl c_))))
def cM:List A'->M A':=b6 3 2 (gB)
def fW:aa->M C':=
 sIf (Ap (vZ (fL (cM) (a9 (ae 1) (a9 (ae 2) ay)))))
   (gG [1] 1 (ae 2))
   dh
def bZ:aa->M C':=
 (fW)
def k8:aa->M C':=
 (ba (aM [] 1 (fL bc ay))
  (ba (ie [1] (fIt (fL qM (a9 (ae 0) ay))) (.nm 2) (bZ))
  (cQ (ae 1))))
def eZ:List A'->M A':=b6 3 1 (k8)
def dC(CR CP CL CT:i_)(n:Nat):aa->M C':=
 (cQ (fL xA (a9 (f1 (oj [CR,CP] "gaps") (ae 0)) ay)))
def aT(CR CP CL CT:i_)(n:Nat):List A'->M A':=b6 1 1 (dC CR CP CL CT n)
def gX(CR CP CL CT:i_)(n:Nat):aa->M C':=
 (ba (aM [] 1 (fL lh (a9 (cC (gL iS (a9 (bS CR CP "many_kinds" (aT CR CP CL CT n) (aT CR CP CL CT n) (ae 0) ay) ay)) [g_] (.nm 0) iL (f1 negD (fC (.int 1)))) ay)))
  (cQ (fL bG (a9 (fC (.int 0)) (a9 (fL lh (a9 (cC (gL iS (a9 (bS CR CP "many_strips" (aC) (aD) (ae 0) ay) ay)) [g_,a_ 1] (.nm 0) iL (ae 1)) ay)) ay)))))
def gV(CR CP CL CT:i_)(n:Nat):List A'->M A':=b6 2 1 (gX CR CP CL CT n)
def eU:aa->M C':=
 sIf (Aq (vZ (ae 1)) (fB (f2 leD (ae 2) (f2 ixD (f2 ixD (ae 1) (f1 negD (fC (.int 1)))) (fC (.int 1))))))
   (vh 1 (f1 negD (fC (.int 1))) (fL bG (a9 (f2 ixD (f2 ixD (ae 1) (f1 negD (fC (.int 1)))) (fC (.int 0))) (a9 (fL maxD (a9 (ae 3) (a9 (f2 ixD (f2 ixD (ae 1) (f1 negD (fC (.int 1)))) (fC (.int 1))) ay))) ay))))
   (gG [1] 1 (fL bG (a9 (ae 2) (a9 (ae 3) ay))))
def eV:aa->M C':=
 (eU)
def dB:aa->M C':=
 (ba (aM [] 1 (fL bc ay))
  (ba (ie [1] (fIt (fL mw (a9 (ae 0) ay))) (.tp [2,3]) (eV))
  (cQ (ae 1))))
def bH:List A'->M A':=b6 4 1 (dB)
def fj:aa->M C':=
 sIf (fB (iM leD ltD (ae 2) (ae 1) (ae 3)))
   (cQ (ae 3))
   dh
def fm:aa->M C':=
 (fj)
def fK:aa->M C':=
 (ba (ie [] (fIt (fL (bH) (a9 (ae 0) ay))) (.tp [2,3]) (fm))
  (cQ (ae 1)))
def cf:List A'->M A':=b6 4 2 (fK)
def lA:aa->M C':=
 (ba (vm 3 (cC (fIt (ae 0)) [g_] (.nm 0) iL (fL kI (a9 (ae 0) ay))) (ae 2) (f2 ixD (ae 1) (fC (.int 1))) (f2 ixD (ae 1) (fC (.int 0))))
  (cQ (fL lh (a9 (cC (fIt (ae 3)) [g_] (.nm 0) iL (fL lh (a9 (ae 0) ay))) ay))))
def gj:List A'->M A':=b6 4 3 (lA)
def nF:aa->M C':=
 (ba (aM [] 2 (f2 ixD (ae 0) (fC (.int 3))))
  (ba (aM [] 3 (f2 ixD (ae 0) (fC (.int 4))))
  (cQ (f2 mulD (ae 3) (fL maxD (a9 (fC (.int 0)) (a9 (f2 yL (ae 1) (ae 2)) ay)))))))
def fF:List A'->M A':=b6 4 2 (nF)
def gZ(CR CP CL CT:i_)(n:Nat):aa->M C':=
 (cQ (f2 ixD (f2 ixD (f1 (oj [CR,CP] "gaps") (ae 0)) (f2 ixD (ae 1) (fC (.int 0)))) (f2 ixD (ae 2) (fC (.int 0)))))
def bu(CR CP CL CT:i_)(n:Nat):List A'->M A':=b6 3 3 (gZ CR CP CL CT n)
def eB(CR CP CL CT:i_)(n:Nat):aa->M C':=
 (ba (aM [] 3 (fIte (fB (f2 eqM (f2 ixD (ae 1) (fC (.int 1))) (f2 ixD (ae 2) (fC (.int 1))))) (f1 (oj [CR,CP] "gaps") (ae 0)) (f1 (oj [CP] "beside") (ae 0))))
  (cQ (f2 ixD (f2 ixD (ae 3) (f2 ixD (ae 1) (fC (.int 0)))) (f2 ixD (ae 2) (fC (.int 0))))))
def bf(CR CP CL CT:i_)(n:Nat):List A'->M A':=b6 4 3 (eB CR CP CL CT n)
def dE(CR CP CL CT:i_)(n:Nat):aa->M C':=
 sIf (fB (f2 neM (ae 7) (f1 negD (fC (.int 1)))))
   (gG [3] 3 (f2 j6 (ae 7) (bS CR CP "apart" (bu CR CP CL CT n) (bf CR CP CL CT n) (ae 0) (a9 (fL bG (a9 (ae 6) (a9 (ae 4) ay))) (a9 (ae 2) ay)))))
   dh
def bM(CR CP CL CT:i_)(n:Nat):aa->M C':=
 (dE CR CP CL CT n)
def cu(CR CP CL CT:i_)(n:Nat):aa->M C':=
 (ie [3] (jl (ae 5)) (.tp [6,7]) (bM CR CP CL CT n))
def i8(CR CP CL CT:i_)(n:Nat):aa->M C':=
 (ba (aM [] 3 (fL bc ay))
  (ba (ie [3] (jl (ae 1)) (.tp [4,5]) (cu CR CP CL CT n))
  (cQ (ae 3))))
def cS(CR CP CL CT:i_)(n:Nat):List A'->M A':=b6 8 3 (i8 CR CP CL CT n)
def eO:aa->M C':=
 sIf (fB (f2 gtD (ae 8) (f2 ixD (ae 6) (fC (.int 2)))))
   (cQ (fC .non))
   dh
def gA(CR CP CL CT:i_)(n:Nat):aa->M C':=
 (ba (aM [] 6 (f2 ixD (ae 1) (ae 4)))
  (ba (aM [] 7 (fL bG (a9 (f2 ixD (ae 6) (fC (.int 0))) (a9 (ae 5) ay))))
  (ba (aM [] 8 (fL (cf) (a9 (ae 2) (a9 (fL maxD (a9 (f2 j6 (fL bc (a9 (f2 ixD (ae 6) (fC (.int 1))) ay)) (fL (cS CR CP CL CT n) (a9 (ae 0) (a9 (f2 ixD (ae 3) (fC (.int 1))) (a9 (ae 7) ay))))) ay)) ay))))
  (ba (eO)
  (cQ (fL bG (a9 (f2 j6 (f2 ixD (ae 3) (fC (.int 0))) (fL (fF) (a9 (ae 6) (a9 (ae 8) ay)))) (a9 (fL (gj) (a9 (f2 ixD (ae 3) (fC (.int 1))) (a9 (ae 7) (a9 (ae 8) ay)))) ay))))))))
def bz(CR CP CL CT:i_)(n:Nat):List A'->M A':=b6 9 6 (gA CR CP CL CT n)
def dX:aa->M C':=
 sIf (fB (f2 zq (ae 10) (fC .non)))
   (mW 5 (ae 10) (fC (.bl e_)))
   dh
def bY(CR CP CL CT:i_)(n:Nat):aa->M C':=
 (ba (aM [5] 10 (fL (bz CR CP CL CT n) (a9 (ae 0) (a9 (ae 1) (a9 (ae 2) (a9 (ae 8) (a9 (ae 7) (a9 (ae 9) ay))))))))
  (dX))
def cE(CR CP CL CT:i_)(n:Nat):aa->M C':=
 (ie [5] (gL iS (a9 (bS CR CP "many_strips" (aC) (aD) (ae 0) ay) ay)) (.nm 9) (bY CR CP CL CT n))
def cD(CR CP CL CT:i_)(n:Nat):aa->M C':=
 (ie [5] (fIt (oU (ae 3) (ae 6) (fL bc ay))) (.nm 8) (cE CR CP CL CT n))
def iJ(CR CP CL CT:i_)(n:Nat):aa->M C':=
 (ba (aM [] 5 (fC (.dil [])))
  (ba (ie [5] (fIt (fL (bj) (a9 (ae 4) ay))) (.tp [6,7]) (cD CR CP CL CT n))
  (cQ (ae 5))))
def dv(CR CP CL CT:i_)(n:Nat):List A'->M A':=b6 11 5 (iJ CR CP CL CT n)
def iP(CR CP CL CT:i_)(n:Nat):aa->M C':=
 sIf (fB (f2 eqM (ae 5) (fL bG ay)))
   (ll 4 (ae 5) (fL bc (a9 (fL (gV CR CP CL CT n) (a9 (ae 0) ay)) ay)))
   (ll 4 (ae 5) (fL (eZ) (a9 (fL (dv CR CP CL CT n) (a9 (ae 0) (a9 (ae 1) (a9 (ae 2) (a9 (ae 4) (a9 (ae 5) ay)))))) ay)))
def eD(CR CP CL CT:i_)(n:Nat):aa->M C':=
 (iP CR CP CL CT n)
def kM(CR CP CL CT:i_)(n:Nat):aa->M C':=
 (ba (i5 [] (fL (bW CR CP CL CT n) (a9 (ae 0) (a9 (ae 1) (a9 (ae 3) ay)))))
  (Cr (ba (aM [] 4 (fC (.dic [])))
  (ba (ie [4] (fIt (fL (cT) (a9 (fL xA (a9 (ae 1) ay)) (a9 (ae 3) ay)))) (.nm 5) (eD CR CP CL CT n))
  (cQ (ae 4))))))
def fw(CR CP CL CT:i_)(n:Nat):List A'->M A':=b6 6 4 (kM CR CP CL CT n)
def hW(CR CP CL CT:i_)(n:Nat):aa->M C':=
 sIf (fB (f2 eqM (fL (bz CR CP CL CT n) (a9 (ae 0) (a9 (ae 1) (a9 (ae 2) (a9 (ae 8) (a9 (ae 7) (a9 (ae 9) ay))))))) (ae 5)))
   (cQ (fL bG (a9 (ae 6) (a9 (ae 8) (a9 (fL bG (a9 (ae 7) (a9 (ae 9) ay))) ay)))))
   dh
def dZ(CR CP CL CT:i_)(n:Nat):aa->M C':=
 (hW CR CP CL CT n)
def o8(CR CP CL CT:i_)(n:Nat):aa->M C':=
 (ie [] (gL iS (a9 (bS CR CP "many_strips" (aC) (aD) (ae 0) ay) ay)) (.nm 9) (dZ CR CP CL CT n))
def o7(CR CP CL CT:i_)(n:Nat):aa->M C':=
 (ie [] (fIt (oU (ae 3) (ae 6) (fL bc ay))) (.nm 8) (o8 CR CP CL CT n))
def ug(CR CP CL CT:i_)(n:Nat):aa->M C':=
 (ie [] (fIt (fL (bj) (a9 (ae 4) ay))) (.tp [6,7]) (o7 CR CP CL CT n))
def jT(CR CP CL CT:i_)(n:Nat):List A'->M A':=b6 10 6 (ug CR CP CL CT n)
def jr:aa->M Bool:=
 (fB (f2 neM (f2 ixD (ae 6) (fC (.int 0))) (fL bG ay)))
def jC(CR CP CL CT:i_)(n:Nat):aa->M C':=
 (ba (aM [7] 8 (fL (jT CR CP CL CT n) (a9 (ae 0) (a9 (ae 1) (a9 (ae 2) (a9 (ae 3) (a9 (f2 ixD (ae 6) (fC (.int 0))) (a9 (f2 ixD (ae 6) (fC (.int 1))) ay))))))))
  (ba (gG [7] 7 (f2 ixD (ae 8) (fC (.int 2))))
  (aM [7] 6 (fL bG (a9 (f2 ixD (ae 8) (fC (.int 0))) (a9 (f2 ixD (ae 8) (fC (.int 1))) ay))))))
def uh(CR CP CL CT:i_)(n:Nat):aa->M C':=
 (ba (aM [] 6 (fL bG (a9 (ae 4) (a9 (ae 5) ay))))
  (ba (aM [] 7 (fL bc ay))
  (ba (eS (jr) (jC CR CP CL CT n) n)
  (cQ (f1 revD (ae 7))))))
def jU(CR CP CL CT:i_)(n:Nat):List A'->M A':=b6 9 6 (uh CR CP CL CT n)
def qc:aa->M C':=
 (cQ (cC (fIt (ae 1)) [g_,g_,a_ 0] (.tp [0,1]) iL (fL bG (a9 (f2 ixD (f2 ixD (ae 2) (ae 0)) (fC (.int 0))) (a9 (ae 1) ay)))))
def kH:List A'->M A':=b6 2 2 (qc)
def nG(CR CP CL CT:i_)(n:Nat):aa->M C':=
 (cQ (cC (gL iS (a9 (ae 3) ay)) [g_,a_ 0,a_ 1,a_ 2,a_ 3] (.nm 0) iL (f2 j6 (f2 ixD (ae 3) (ae 0)) (bS CR CP "apart" (bu CR CP CL CT n) (bf CR CP CL CT n) (ae 1) (a9 (f2 ixD (ae 2) (ae 0)) (a9 (f2 ixD (ae 2) (ae 4)) ay))))))
def jy(CR CP CL CT:i_)(n:Nat):List A'->M A':=b6 4 4 (nG CR CP CL CT n)
def lG:aa->M C':=
 sIf (fB (f2 gtD (ae 9) (f2 ixD (ae 8) (fC (.int 2)))))
   sStk
   dh
def lK(CR CP CL CT:i_)(n:Nat):aa->M C':=
 (ba (aM [5] 8 (f2 ixD (ae 1) (f2 ixD (ae 7) (fC (.int 0)))))
  (ba (vk c_ 9 (fL (cf) (a9 (ae 2) (a9 (fL maxD (a9 (f2 j6 (fL bc (a9 (f2 ixD (ae 8) (fC (.int 1))) ay)) (fL (jy CR CP CL CT n) (a9 (ae 0) (a9 (ae 4) (a9 (ae 5) (a9 (ae 6) ay)))))) ay)) ay))))
  (ba (lG)
  (gG [5] 5 (ae 9)))))
def q9(CR CP CL CT:i_)(n:Nat):aa->M C':=
 (ba (aM [] 4 (fL (kH) (a9 (ae 1) (a9 (ae 3) ay))))
  (ba (aM [] 5 (fL bc ay))
  (ba (ie [5] (oV (ae 3)) (.tp [6,7]) (lK CR CP CL CT n))
  (cQ (ae 5)))))
def iX(CR CP CL CT:i_)(n:Nat):List A'->M A':=b6 10 4 (q9 CR CP CL CT n)
def ui:aa->M C':=
 (cQ (fL sumD (a9 (cC (fZip (ae 1) (ae 2)) [g_,g_,a_ 0] (.tp [0,1]) iL (fL (fF) (a9 (f2 ixD (ae 2) (f2 ixD (ae 0) (fC (.int 0)))) (a9 (ae 1) ay)))) ay)))
def jV:List A'->M A':=b6 3 3 (ui)
def gK:aa->M C':=
 (cQ (cC (oV (ae 0)) [g_,g_,a_ 1,a_ 2] (.tp [0,1]) (Aq (fB (f2 leD (ae 2) (f2 ixD (ae 1) (fC (.int 1))))) (fB (f2 leD (f2 ixD (ae 1) (fC (.int 2))) (ae 3)))) (ae 0)))
def cA:List A'->M A':=b6 3 3 (gK)
def gn:aa->M C':=
 sIf (fOr (fB (f2 neM (ae 3) (ae 4))) (fB (f2 gtD (qk (ae 0) (ae 3)) (fC (.int 1)))))
   (gG [2] 2 (fL bG (a9 (ae 3) (a9 (ae 4) ay))))
   dh
def d9:aa->M C':=
 (gn)
def eE:aa->M C':=
 (ie [2] (fIt (ae 1)) (.nm 4) (d9))
def qe:aa->M C':=
 (ba (aM [] 1 (f1 gb (ae 0)))
  (ba (aM [] 2 (fL bc ay))
  (ba (ie [2] (fIt (ae 1)) (.nm 3) (eE))
  (cQ (ae 2)))))
def iY:List A'->M A':=b6 5 1 (qe)
def g8(CR CP CL CT:i_)(n:Nat):aa->M C':=
 (gG [2] 2 (bS CR CP "apart" (bu CR CP CL CT n) (bf CR CP CL CT n) (ae 0) (a9 (fL bG (a9 (ae 3) (a9 (fC (.int 0)) ay))) (a9 (fL bG (a9 (ae 4) (a9 (ae 5) ay))) ay))))
def cy(CR CP CL CT:i_)(n:Nat):aa->M C':=
 (ie [2] (gL iS (a9 (bS CR CP "many_strips" (aC) (aD) (ae 0) ay) ay)) (.nm 5) (g8 CR CP CL CT n))
def gW(CR CP CL CT:i_)(n:Nat):aa->M C':=
 (ba (aM [] 2 (fL bc ay))
  (ba (ie [2] (fIt (fL (iY) (a9 (ae 1) ay))) (.tp [3,4]) (cy CR CP CL CT n))
  (cQ (fL minD (a9 (ae 2) ay)))))
def du(CR CP CL CT:i_)(n:Nat):List A'->M A':=b6 6 2 (gW CR CP CL CT n)
def lH:aa->M C':=
 sIf (fB (f2 ltD (fL xA (a9 (ae 2) ay)) (fC (.int 2))))
   (cQ (fC (.bl c_)))
   dh
def qf(CR CP CL CT:i_)(n:Nat):aa->M C':=
 (ba (lH)
  (ba (aM [] 3 (fL minD (a9 (cC (fIt (ae 2)) [g_,a_ 1] (.nm 0) iL (f2 ixD (f2 ixD (ae 1) (ae 0)) (fC (.int 1)))) ay)))
  (ba (aM [] 4 (fL maxD (a9 (cC (fIt (ae 2)) [g_,a_ 1] (.nm 0) iL (f2 ixD (f2 ixD (ae 1) (ae 0)) (fC (.int 2)))) ay)))
  (ba (aM [] 5 (cC (fIt (ae 2)) [g_,a_ 1] (.nm 0) iL (f2 ixD (f2 ixD (ae 1) (ae 0)) (fC (.int 0)))))
  (cQ (f2 gtD (f2 mulD (fL (du CR CP CL CT n) (a9 (ae 0) (a9 (ae 5) ay))) (f2 yL (fL xA (a9 (ae 2) ay)) (fC (.int 1)))) (f2 yL (ae 4) (ae 3))))))))
def j0(CR CP CL CT:i_)(n:Nat):List A'->M A':=b6 6 3 (qf CR CP CL CT n)
def lJ(CR CP CL CT:i_)(n:Nat):aa->M C':=
 sIf (vZ (fL (j0 CR CP CL CT n) (a9 (ae 0) (a9 (ae 1) (a9 (ae 6) ay)))))
   (cQ (ae 6))
   dh
def lM(CR CP CL CT:i_)(n:Nat):aa->M C':=
 (ba (aM [] 6 (fL (cA) (a9 (ae 1) (a9 (ae 4) (a9 (ae 5) ay)))))
  (lJ CR CP CL CT n))
def lL(CR CP CL CT:i_)(n:Nat):aa->M C':=
 (ie [] (fIt (ae 3)) (.nm 5) (lM CR CP CL CT n))
def qg(CR CP CL CT:i_)(n:Nat):aa->M C':=
 (ba (aM [] 2 (f1 gb (cC (fIt (ae 1)) [g_] (.nm 0) iL (f2 ixD (ae 0) (fC (.int 1))))))
  (ba (aM [] 3 (f1 gb (cC (fIt (ae 1)) [g_] (.nm 0) iL (f2 ixD (ae 0) (fC (.int 2))))))
  (ba (ie [] (fIt (ae 2)) (.nm 4) (lL CR CP CL CT n))
  (cQ (fC .non)))))
def fy(CR CP CL CT:i_)(n:Nat):List A'->M A':=b6 7 2 (qg CR CP CL CT n)
def hZ(CR CP CL CT:i_)(n:Nat):aa->M C':=
 sIf (Ap (vZ (ae 6)))
   (yU CL "crowd" (a9 (Cr (fOrN (fL (fy CR CP CL CT n) (a9 (ae 0) (a9 (ae 1) ay))) (fL bc ay))) ay))
   dh
def gY(CR CP CL CT:i_)(n:Nat):aa->M C':=
 (ba (aM [] 4 (fL (fw CR CP CL CT n) (a9 (ae 0) (a9 (ae 1) (a9 (ae 2) (a9 (ae 3) ay))))))
  (ba (Cr (aM [] 5 (fTR (gL iS (a9 (fL xA (a9 (ae 1) ay)) ay)))))
  (ba (Cr (aM [] 6 (oU (ae 4) (ae 5) (fL bc ay))))
  (ba (hZ CR CP CL CT n)
  (Cr (ba (aM [] 7 (fL (jU CR CP CL CT n) (a9 (ae 0) (a9 (ae 1) (a9 (ae 2) (a9 (ae 4) (a9 (ae 5) (a9 (fL minLD (a9 (ae 6) ay)) ay))))))))
  (ba (aM [] 8 (fL (iX CR CP CL CT n) (a9 (ae 0) (a9 (ae 1) (a9 (ae 2) (a9 (ae 7) ay))))))
  (cQ (fL bG (a9 (fL (jV) (a9 (ae 1) (a9 (ae 7) (a9 (ae 8) ay)))) (a9 (ae 7) (a9 (ae 8) ay))))))))))))
def b9(CR CP CL CT:i_)(n:Nat):List A'->M A':=b6 9 4 (gY CR CP CL CT n)
def gE(CR CP CL CT:i_)(n:Nat):aa->M C':=
 mV [] CL (i5 [] (fL (b9 CR CP CL CT n) (a9 (ae 0) (a9 (ae 1) (a9 (ae 2) (a9 (ae 3) ay)))))) (pC 5 4 "crowd" idD)
def lC(CR CP CL CT:i_)(n:Nat):aa->M C':=
 (ba (aM [] 4 (fC .non))
  (ba (gE CR CP CL CT n)
  (cQ (ae 4))))
def eA(CR CP CL CT:i_)(n:Nat):List A'->M A':=b6 6 4 (lC CR CP CL CT n)
def eQ:aa->M C':=
 sIf (fB (f2 ltD (ae 1) (fL xA (a9 (ae 0) ay))))
   (cQ (f2 sN (f2 ixD (ae 0) (ae 1)) (f2 powD (fC (.int 10)) (fC (.int 24)))))
   dh
def gD:aa->M C':=
 (ba (eQ)
  (cQ (fC (.int 0))))
def aI:List A'->M A':=b6 2 2 (gD)
def dM:aa->M C':=
 (ba (aM [2,4] 0 (f2 sN (f2 j6 (f2 j6 (f2 mulB (ae 0) (ae 0)) (f2 mulD (fC (.int 48271)) (ae 0))) (ae 5)) (fC (.int 2305843009213693951))))
  (gG [2,4] 4 (f2 j6 (fC (.int 1)) (f2 ixD (fL bc (a9 (f2 sN (f2 zU (ae 0) (fC (.int 8))) (fC (.int 5))) (a9 (f2 sN (f2 zU (ae 0) (fC (.int 8))) (f2 powD (fC (.int 10)) (fC (.int 6)))) ay))) (f2 sN (ae 0) (fC (.int 2)))))))
def dJ:aa->M C':=
 (ba (aM [2] 4 (fL bc ay))
  (ba (ie [2,4] (gL iS (a9 (ae 1) ay)) (.nm 5) (dM))
  (gG [2] 2 (ae 4))))
def nI:aa->M C':=
 (ba (aM [] 2 (fL bc ay))
  (ba (ie [2] (gL iS (a9 (ae 1) ay)) (.nm 3) (dJ))
  (cQ (ae 2))))
def dS:List A'->M A':=b6 6 2 (nI)
def cm(CR CP CL CT:i_)(n:Nat):aa->M C':=
 qV 5 4 [(CL,[c_,e_,e_,c_]),(CT,[e_,c_,e_,c_])] (i5 [] (fL (b9 CR CP CL CT n) (a9 (ae 0) (a9 (ae 1) (a9 (ae 2) (a9 (ae 3) ay))))))
def gC(CR CP CL CT:i_)(n:Nat):aa->M C':=
 (ba (aM [] 4 (fL bc ay))
  (ba (cm CR CP CL CT n)
  (cQ (ae 4))))
def bA(CR CP CL CT:i_)(n:Nat):List A'->M A':=b6 6 4 (gC CR CP CL CT n)
def sD(CR CP CL CT:i_)(n:Nat):aa->M C':=
 sIf (fB (f2 eqM (ae 2) (fC (.int 2))))
   (aM [] 4 (fL (newP CP (aA)) (a9 (fL (dS) (a9 (fL (aI) (a9 (ae 0) (a9 (fC (.int 3)) ay))) (a9 (ae 1) ay))) (a9 (fL (dS) (a9 (fL (aI) (a9 (ae 0) (a9 (fC (.int 4)) ay))) (a9 (ae 1) ay))) ay))))
   dh
def oi:aa->M C':=
 (gG [7] 7 (fL bG (a9 (f2 sN (fL (aI) (a9 (ae 0) (a9 (f2 j6 (fC (.int 7)) (ae 8)) ay))) (ae 1)) (a9 (ae 6) (a9 (ae 6) (a9 (fC (.int 0)) (a9 (f2 sN (fL (aI) (a9 (ae 0) (a9 (f2 j6 (fC (.int 7)) (ae 8)) ay))) (f2 powD (fC (.int 10)) (fC (.int 9)))) ay)))))))
def sC(CR CP CL CT:i_)(n:Nat):aa->M C':=
 sIf (Aq (fB (f2 ltD (ae 5) (fC (.int 41)))) (fB (f2 neM (fL (bA CR CP CL CT n) (a9 (ae 4) (a9 (ae 9) (a9 (fL bc ay) (a9 (ae 3) ay))))) (fL bc (a9 (fC (.bl e_)) (a9 (fC (.bl c_)) (a9 (fC (.bl e_)) (a9 (fC (.bl c_)) ay))))))))
   (cQ (fC (.bl c_)))
   dh
def wD(CR CP CL CT:i_)(n:Nat):aa->M C':=
 sIf (fOr (fB (f2 neM (ae 9) (ae 7))) (fB (f2 neM (fL (bA CR CP CL CT n) (a9 (ae 4) (a9 (ae 11) (a9 (fL bc ay) (a9 (ae 3) ay))))) (fL bc (a9 (fC (.bl c_)) (a9 (fC (.bl e_)) (a9 (fC (.bl e_)) (a9 (fC (.bl c_)) ay))))))))
   (cQ (fC (.bl c_)))
   dh
def wC(CR CP CL CT:i_)(n:Nat):aa->M C':=
 sIf (fOr (fB (f2 neM (ae 12) (fLR (gL iS (a9 (ae 10) ay))))) (fB (f2 neM (fL (fy CR CP CL CT n) (a9 (ae 4) (a9 (ae 11) ay))) (ae 12))))
   (cQ (fC (.bl c_)))
   dh
def sA:aa->M C':=
 sIf (fB (f2 gtD (f2 j6 (ae 6) (fC (.int 1))) (f2 yL (f2 powD (fC (.int 10)) (fC (.int 9))) (fC (.int 1)))))
   (aM [] 13 (fL bc ay))
   dh
def wB:aa->M C':=
 sIf (fB (f2 neM (f1 BD (fL bc (a9 (fC (.int 2)) (a9 (ae 10) ay)))) (fL bc (a9 (fC (.int 2)) (a9 (ae 10) ay)))))
   (cQ (fC (.bl c_)))
   dh
def g_law(CR CP CL CT:i_)(n:Nat):aa->M C':=
 (ba (aM [] 1 (f2 j6 (fC (.int 1)) (f2 sN (fL (aI) (a9 (ae 0) (a9 (fC (.int 0)) ay))) (fC (.int 2)))))
  (ba (aM [] 2 (f2 j6 (fC (.int 1)) (f2 sN (fL (aI) (a9 (ae 0) (a9 (fC (.int 1)) ay))) (fC (.int 2)))))
  (ba (aM [] 3 (f2 sN (fL (aI) (a9 (ae 0) (a9 (fC (.int 2)) ay))) (fC (.int 4))))
  (ba (aM [] 4 (fL (newR CR (aA)) (a9 (fL (dS) (a9 (fL (aI) (a9 (ae 0) (a9 (fC (.int 3)) ay))) (a9 (ae 1) ay))) ay)))
  (ba (aM [] 5 (f2 ixD (f2 ixD (fL bc (a9 (fL bc (a9 (fC (.int 41)) (a9 (fC (.int 19)) (a9 (fC (.int 11)) (a9 (fC (.int 9)) ay))))) (a9 (fL bc (a9 (fC (.int 13)) (a9 (fC (.int 8)) (a9 (fC (.int 7)) (a9 (fC (.int 6)) ay))))) ay))) (f2 yL (ae 2) (fC (.int 1)))) (ae 3)))
  (ba (sD CR CP CL CT n)
  (ba (aM [] 6 (f2 sN (fL (aI) (a9 (ae 0) (a9 (fC (.int 5)) ay))) (f2 powD (fC (.int 10)) (fC (.int 9)))))
  (ba (aM [] 7 (fL bc ay))
  (ba (ie [7] (gL iS (a9 (f2 j6 (ae 5) (f2 sN (fL (aI) (a9 (ae 0) (a9 (fC (.int 6)) ay))) (fC (.int 6)))) ay)) (.nm 8) (oi))
  (ba (aM [] 9 (fL kI (a9 (ae 7) ay)))
  (ba (sC CR CP CL CT n)
  (ba (aM [] 10 (f2 j6 (fC (.int 2)) (f2 sN (f2 zU (fL (aI) (a9 (ae 0) (a9 (fC (.int 6)) ay))) (fC (.int 6))) (f2 ixD (f2 ixD (fL bc (a9 (fL bc (a9 (fC (.int 5)) (a9 (fC (.int 5)) (a9 (fC (.int 5)) (a9 (fC (.int 5)) ay))))) (a9 (fL bc (a9 (fC (.int 5)) (a9 (fC (.int 5)) (a9 (fC (.int 4)) (a9 (fC (.int 3)) ay))))) ay))) (f2 yL (ae 2) (fC (.int 1)))) (ae 3)))))
  (ba (aM [] 11 (fSl gF (ae 7) tX (lV (ae 10))))
  (ba (wD CR CP CL CT n)
  (ba (aM [] 12 (fL (eA CR CP CL CT n) (a9 (ae 4) (a9 (ae 11) (a9 (fL bc ay) (a9 (ae 3) ay))))))
  (ba (wC CR CP CL CT n)
  (ba (aM [] 13 (fL bc (a9 (fL bG (a9 (fL maxD (a9 (f2 yL (ae 6) (fC (.int 3))) (a9 (fC (.int 0)) ay))) (a9 (f2 j6 (ae 6) (fC (.int 1))) ay))) ay)))
  (ba (aM [] 14 (fL bc (a9 (fL bG (a9 (fC (.int 0)) (a9 (ae 6) (a9 (f2 powD (fC (.int 10)) (fC (.int 9))) (a9 (fC (.int 0)) (a9 (fC (.int 1)) ay)))))) ay)))
  (ba (sA)
  (ba (aM [] 15 (f2 j6 (ae 6) (fL xA (a9 (ae 13) ay))))
  (ba (wB)
  (ba (aM [] 16 (fL (noM (b9 CR CP CL CT n)) (a9 (ae 4) (a9 (ae 14) (a9 (ae 13) (a9 (ae 3) ay))))))
  (cQ (oW (f2 eqM (f2 ixD (ae 16) (fC (.int 0))) (ae 15)) (oW (f2 inM (f2 ixD (ae 16) (fC (.int 1))) (fL bG (a9 (fL bc (a9 (fL bG (a9 (fC (.int 0)) (a9 (fC (.int 0)) ay))) ay)) (a9 (fL bc (a9 (fL bG (a9 (fC (.int 0)) (a9 (f2 yL (ae 2) (fC (.int 1))) ay))) ay)) ay)))) (f2 eqM (f2 ixD (ae 16) (fC (.int 2))) (fL bc (a9 (ae 15) ay))))))))))))))))))))))))))))
def m_law(CR CP CL CT:i_)(n:Nat):List A'->M A':=b6 17 1 (g_law CR CP CL CT n)
noncomputable def top(i:Nat):E6:=OP.main.body.getD i (.Pass ⟨0,0,0,0⟩)
abbrev qS:E6:=top 56
abbrev s_is_gap:E6:=top 54
abbrev tG:E6:=top 55
abbrev gz:E6:=top 57
abbrev ee:E6:=top 30
abbrev mU:E6:=top 31
abbrev lQ:E6:=top 32
abbrev qO:E6:=top 33
abbrev jt:E6:=inClass (top 58) 2
abbrev jL:E6:=inClass (top 59) 1
abbrev tB:E6:=top 36
abbrev kr:E6:=top 37
abbrev lT:E6:=top 38
abbrev qQ:E6:=top 28
abbrev oE:E6:=top 40
abbrev qT:E6:=top 41
abbrev gc:E6:=inClass (top 58) 1
abbrev qR:E6:=top 24
abbrev jK:E6:=top 21
abbrev vc:E6:=top 22
abbrev tE:E6:=top 26
abbrev vd:E6:=top 2
abbrev qU:E6:=inClass (top 58) 3
abbrev tI:E6:=inClass (top 59) 2
abbrev lR:E6:=top 25
abbrev oB:E6:=top 27
abbrev mT:E6:=top 39
abbrev yP:E6:=top 42
abbrev B8:E6:=top 48
abbrev B9:E6:=top 49
abbrev yO:E6:=top 44
abbrev ve:E6:=top 45
abbrev yN:E6:=top 46
abbrev Ba:E6:=top 3
abbrev ku:E6:=top 8
abbrev yQ:E6:=top 5
abbrev qP:E6:=top 6
abbrev yR:E6:=top 7
abbrev yS:E6:=top 9
abbrev vf:E6:=top 50
abbrev tH:E6:=top 64
abbrev oG:E6:=top 61
abbrev vg:E6:=top 62
abbrev oF:E6:=top 63
abbrev s_law:E6:=top 65
abbrev s_nR:E6:=inClass (top 58) 0
abbrev s_nP:E6:=inClass (top 59) 0
abbrev s_nCL:E6:=inClass (top 17) 0
structure Zs(K:Fg)(mg:Mq)(CR CP CL CT AStripError ATooMany ANoPlan ANoPlace ANoRow ANoRules ANoSheet ANoTime ANotFree:i_):Prop where
 mI_StripError:mg "StripError"=a_ (.ref AStripError)
 zF:mg "TooMany"=a_ (.ref ATooMany)
 BR:mg "NoPlan"=a_ (.ref ANoPlan)
 zJ:mg "NoPlace"=a_ (.ref ANoPlace)
 mI_NoRow:mg "NoRow"=a_ (.ref ANoRow)
 zI:mg "NoRules"=a_ (.ref ANoRules)
 zH:mg "NoSheet"=a_ (.ref ANoSheet)
 BQ:mg "NoTime"=a_ (.ref ANoTime)
 zG:mg "NotFree"=a_ (.ref ANotFree)
 qD:XBase K mg "StripError" AStripError
 tCT:XTxt K mg "TooMany" CT
 xCL:XTry K mg "NoPlan" CL
 kR:Kls K mg "Rules" CR
 kP:Kls K mg "Pair" CP
 u_CL:qA K CL AStripError
 w_CL:lN K CL ATooMany ANoPlan "ValueError" [ANoPlace,ANoRow,ANoRules,ANoSheet,ANoTime,ANotFree] [c_,e_,e_,c_]
 u_CT:qA K CT AStripError
 w_CT:lN K CT ATooMany ANoPlan "ValueError" [ANoPlace,ANoRow,ANoRules,ANoSheet,ANoTime,ANotFree] [e_,c_,e_,c_]
 aCL_crowd:yA K CL "crowd"
 hV:∀C∈[CR,CP],Cls K C/\ic K C "gaps"
 qj:∀C∈[CP],Cls K C/\ic K C "beside"
 sQ:mg "ValueError"=g_
 z_all:mg "all"=g_
 z_bool:mg "bool"=g_
 dP:mg "enumerate"=g_
 z_int:mg "int"=g_
 cv:mg "isinstance"=g_
 jF:mg "len"=g_
 lb:mg "list"=g_
 uZ:mg "max"=g_
 z_min:mg "min"=g_
 cG:mg "range"=g_
 yC:mg "reversed"=g_
 z_set:mg "set"=g_
 jE:mg "sorted"=g_
 z_sum:mg "sum"=g_
 kq:mg "tuple"=g_
 z_zip:mg "zip"=g_
 oS:∃t,mg "GREATEST_GAP"=a_ (.int 1000000 t)
 uk:∃t,mg "MOST_KINDS"=a_ (.int 6 t)
 uj:∃t,mg "MOST_PLANS"=a_ (.int 5000 t)
 kit:Kit K
 si:∃f fd,Def K mg "copied_rows" qS ["rows"] f fd
 d_is_gap:∃f fd,Def K mg "is_gap" s_is_gap ["number"] f fd
 uH:∃f fd,Def K mg "is_gap_row" tG ["row","kinds"] f fd
 p8:∃f fd,Def K mg "checked_rows" gz ["rows"] f fd
 d8:∃f fd,Def K mg "choices_of" ee ["pool","size"] f fd
 nU:∃f fd,Def K mg "beginnings_of" mU ["many","shift","size"] f fd
 m7:∃f fd,Def K mg "smaller_by_one" lQ ["some"] f fd
 s9:∃f fd,Def K mg "many_orders" qO ["many","shift"] f fd
 uF:∃f fd,Def K mg "many_plans" tB ["rules","many","shift"] f fd
 kW:∃f fd,Def K mg "refuse_too_many" kr ["rules","flights","shift"] f fd
 m9:∃f fd,Def K mg "all_beginnings" lT ["many","shift"] f fd
 se:∃f fd,Def K mg "is_no_worse" qQ ["one","other"] f fd
 oZ:∃f fd,Def K mg "has_no_worse" oE ["labels","label"] f fd
 sj:∃f fd,Def K mg "best_labels" qT ["labels"] f fd
 sf:∃f fd,Def K mg "first_label" qR ["rules"] f fd
 kh:∃f fd,Def K mg "joined_stretches" jK ["closed"] f fd
 wo:∃f fd,Def K mg "next_open" vc ["closed","time"] f fd
 uG:∃f fd,Def K mg "lasts_with" tE ["lasts","spot","time"] f fd
 wq:∃f fd,Def K mg "late_cost" vd ["flight","time"] f fd
 m8:∃f fd,Def K mg "last_gap_times" lR ["rules","lasts","spot"] f fd
 oY:∃f fd,Def K mg "label_behind" oB ["rules","flights","closed","label","flight","strip"] f fd
 nR:∃f fd,Def K mg "labels_behind" mT ["rules","flights","closed","paper","some"] f fd
 zZ:∃f fd,Def K mg "paper_of" yP ["rules","flights","closed","shift"] f fd
 CW:∃f fd,Def K mg "step_to" B8 ["rules","flights","closed","paper","some","label"] f fd
 CY:∃f fd,Def K mg "plan_to" B9 ["rules","flights","closed","paper","some","label"] f fd
 zY:∃f fd,Def K mg "spots_of" yO ["flights","plan"] f fd
 wt:∃f fd,Def K mg "gap_times" ve ["rules","spots","times","place"] f fd
 zX:∃f fd,Def K mg "times_of" yN ["rules","flights","closed","plan"] f fd
 CZ:∃f fd,Def K mg "cost_of" Ba ["flights","plan","times"] f fd
 kY:∃f fd,Def K mg "flights_between" ku ["flights","first","last"] f fd
 A0:∃f fd,Def K mg "pairs_of" yQ ["kinds"] f fd
 sd:∃f fd,Def K mg "least_apart" qP ["rules","kinds"] f fd
 A3:∃f fd,Def K mg "is_crowd" yR ["rules","flights","some"] f fd
 A4:∃f fd,Def K mg "crowd_of" yS ["rules","flights"] f fd
 wu:∃f fd,Def K mg "best_plan" vf ["rules","flights","closed","shift"] f fd
 uI:∃f fd,Def K mg "_law_crowd" tH ["_law_rules","_law_flights","_law_closed","_law_shift"] f fd
 pb:∃f fd,Def K mg "_law_cell_at" oG ["_law_script","_law_k"] f fd
 wx:∃f fd,Def K mg "_law_gaps" vg ["_law_cell","_law_kinds"] f fd
 p9:∃f fd,Def K mg "_law_refused" oF ["_law_rules","_law_flights","_law_closed","_law_shift"] f fd
 d_law:∃f fd,Def K mg "law" s_law ["_law_script"] f fd/\∀(s:k_) (v:h_),KI s fd ⟨[v],[]⟩ [("_law_script",v)]
 m_M_R_many_strips:∃f fd,Mth K CR "many_strips" "Rules.many_strips" jt ["self"] f fd
 m_M_P_many_strips:∃f fd,Mth K CP "many_strips" "Pair.many_strips" jL ["self"] f fd
 m_M_R_many_kinds:∃f fd,Mth K CR "many_kinds" "Rules.many_kinds" gc ["self"] f fd
 m_M_P_many_kinds:∃f fd,Mth K CP "many_kinds" "Rules.many_kinds" gc ["self"] f fd
 m_M_R_apart:∃f fd,Mth K CR "apart" "Rules.apart" qU ["self","one","other"] f fd
 m_M_P_apart:∃f fd,Mth K CP "apart" "Pair.apart" tI ["self","one","other"] f fd
 n_CL:∃f fd,Mth K CL "__init__" "NoPlan.__init__" s_nCL ["self","crowd"] f fd/\XMk K mg "NoPlan" CL f
 n_R:∃f fd,Mth K CR "__init__" "Rules.__init__" s_nR ["self","gaps"] f fd/\Stat K CR (.type "type") "__init__" f
 n_P:∃f fd,Mth K CP "__init__" "Pair.__init__" s_nP ["self","gaps","beside"] f fd
 ne:CR≠CP
noncomputable abbrev Zq(_:Nat)(_:EC)(_:Fe)(_:Eg):=Zs
def law_d{K:Fg}{x:Dy}{st:E6}{ps:List Dy}{q:Gi->Prop}(h:∃f fd,Def K mg x st ps f fd/\q fd):∃f fd,Def K mg x st ps f fd:=let ⟨f,fd,D,_⟩:=h;⟨f,fd,D⟩
def putGB(a b:V):sM ("beside":Dy) b [(("gaps":Dy),a)]=[(("gaps":Dy),a),(("beside":Dy),b)]:=by show(if ("gaps":Dy)="beside" then _ else(("gaps":Dy),a)::sM "beside" b [])=_;rw[q_ dkK];rfl
def sc_nCL:eR ["self","crowd"] ["self","crowd"] (aB s_nCL):=⟨rfl,rfl,rfl,by decide +kernel,rfl,by decide +kernel,by decide +kernel⟩
def okn_CL{K:Fg}{base:Eg}{C f:i_}{fd:Gi}(N:Fun K "__init__" "NoPlan.__init__" s_nCL f fd)(b:yA K C "crowd")(Y:mg "list"=g_):eJ P w K mg base CX0 1 f fd ["self","crowd"] (spXL K C "crowd"):=by
 refine N.okX sc_nCL (λvs H Q E h=>?_) (λcdv A outer s H vs Q E g h=>?_)
 .obtain⟨a,l,xs,rfl,_⟩:=h;rfl
 .obtain⟨a,l,xs,rfl,J,c,q⟩:=h;refine⟨_,ky (ps_x1 (pv 0) (iw lE rfl Y Fs (aN (pv 1) bR)) b),?_⟩
  exact⟨.ref l,rfl,l,xs,rfl,.inl c,λL U=>⟨.ref a,rfl,a,rfl,by rw[aq (λz=>by rw[z,U]at J;cases J)];exact J,λd hd e=>q L d U hd⟩⟩
section
variable{base:Eg}{K:Fg}{CR:i_}(Z:Zq n P w base K mg CR CP CL CT AStripError ATooMany ANoPlan ANoPlace ANoRow ANoRules ANoSheet ANoTime ANotFree)
include Z
def oP:YO Z.si P w base 1 c_ (eY):=
 fY ["rows"] λz J U=>(au (aE (aw (cx ["row"] [g_] (bL (ai 0)) (λ_ _ _ _ _=>gm dkK) (aX rfl) (λ_ _ _ _ _=>cq) (λ_ _ _ _ _=>(aw (fU Dh Z.lb Fs (da1 (ai 0)))))))))
def BE:YO Z.d_is_gap P w base 1 c_ (iZ):=
 fY ["number"] λz J U=>(ah (dN (PW.pt (dw_or (ux (lD (zW Z.kit Z.cv Z.z_int (ai 0)))) (xY (lD (wk Z.kit Z.cv Z.z_bool (ai 0)))))) (au (aE gQ)) cb) (au (aE (de_chain o_le o_le af (ai 0) (wm Z.oS)))))
def rm:YO Z.uH P w base 2 c_ (d6):=
 fY ["row","kinds"] λz U J=>(au (aE (ym (wj Z.kit Z.cv Z.lb (ai 0)) (ym (uE (o_eq J.units) (aL l6 Z.jF EJ (da1 (ai 0))) (ai 1)) (CN (aL (c_all rfl) Z.z_all boot_all (da1 (aw (cx ["number"] [g_] (bL (ai 0)) (λ_ _ _ _ _=>gm dkK) (aX rfl) (λ_ _ _ _ _=>cq) (λ_ _ _ _ _=>(dY (BE Z) J (da1 (ai 0)))))))))))))
def iz:YO Z.p8 P w base 3 c_ (aA):=
 fY ["rows","kinds"] λz U J=>(ah (bp U (aL l6 Z.jF EJ (da1 (ai 0)))) (ah (dN (ux (xZ o_le o_le af (ai 1) (wm Z.uk))) (au CD) cb) (ah (dN (ux (lD (aL (c_all rfl) Z.z_all boot_all (da1 (aw (cx ["row","kinds"] [g_,a_ 1] (bL (ai 0)) (λ_ _ _ _ _=>gm dkK) (aX rfl) (λ_ _ _ _ _=>cq) (λ_ _ _ _ _=>(dY (rm Z) J (da2 (ai 0) (ai 1)))))))))) (au CD) cb) (au (aE (dY (oP Z) J (da1 (ai 0))))))))
end
def sc_nR:eR ["self","gaps"] ["self","gaps"] (aB s_nR):=⟨rfl,rfl,rfl,by decide +kernel,rfl,by decide +kernel,by decide +kernel⟩
def okn_R{P : EC}{w : Fe}{K : Fg}{mg : Dy -> Option h_}{base : Eg}{C f: i_}(Y : Def K mg "checked_rows" gz ["rows"] cN cw)(x : eJ P w K mg base CX0 3 cN cw ["rows"] (spF K c_ (aA) 1))(N : Fun K "__init__" "Rules.__init__" s_nR f fd)(t : Cls K C)(k : ic K C "gaps"): eJ P w K mg base CX0 4 f fd ["self", "gaps"] (spI1 K C (aA)) := by
  refine N.okX sc_nR (λvs H Q E h => ?_) (λcdv A outer s H vs Q E m h => ?_)
  · obtain⟨p,dx,v,F,d,rfl,_⟩ := h
    rfl
  · obtain⟨p,dx,v,F,d,rfl,a,n,g,j,q⟩ := h
    refine⟨_,ky (ps_fld (pv 0) (n5 x m (by rfl) Y.mg Y.fn.kp Y.bd .nil tV (aN (pv 1) bR)) rfl),?_⟩
    refine⟨v,rfl,F,[d],g,⟨v,[],rfl,j,rfl⟩,rfl,?_⟩
    skip;cases b : aA [d]with
    | error e => rw[b]at q; exact q| ok r =>
      rw[b]at q;intro u F' H' st i;have J : F' p = g_ := by
        cases l : F' p with
        | none => rfl| some o =>
          rcases st.nw p o l with z | z
          · rw[n]at z; cases z
          · rw[a]at z; cases z
      refine⟨_,rfl,p,C,dx,[],rfl,st.hh _ _ a,t,k,(by show 0 < 1000; decide),?_⟩
      refine q u F' _ st.ff (λc o e => ?_) J st.nw (λc o e U => by rw[aq U]; exact st.hh _ _ e) ak i;have U : c ≠ p :=λz => by rw[z,J]at e; cases e
      rw[aq U];exact st.fh _ _ e
def sc_nP:eR ["self","gaps","beside"] ["self","gaps","beside"] (aB s_nP):=⟨rfl,rfl,rfl,by decide +kernel,rfl,by decide +kernel,by decide +kernel⟩
def okn_P{P : EC}{w : Fe}{K : Fg}{mg : Dy -> Option h_}{base : Eg}{CR CP : i_}{f O: i_}{a: Gi}{mc : h_}(t : Def K mg "checked_rows" gz ["rows"] cN cw)(OK : eJ P w K mg base CX0 3 cN cw ["rows"] (spF K c_ (aA) 1))(S : Stat K CR mc "__init__" O)(bI : Binds K a ["self", "gaps"] [])(FI : eJ P w K mg base CX0 4 O a ["self", "gaps"] (spI1 K CP (aA)))(mR : mg "Rules" = a_ (.ref CR))(x : mg "len" = g_)(N : Fun K "__init__" "Pair.__init__" s_nP f fd)(n : Cls K CP)(na : ic K CP "gaps")(D : ic K CP "beside"): eJ P w K mg base CX0 5 f fd ["self", "gaps", "beside"] (spI2 K CP (aA)) := by
  refine N.okX sc_nP (λvs H Q E h => ?_) (λcdv A outer s H vs Q E G h => ?_)
  · obtain⟨p,dx,v,i,F,d,m,rfl,_⟩ := h
    rfl
  · obtain⟨p,dx,v,i,F,d,m,rfl,hp,hF,s1,qd,k,q⟩ := h
    refine⟨_,iT (mZ (pe_cmeth S (by rfl) mR FI G bI .nil tV (aN (pv 0) (aN (pv 1) bR))))
      (iT (ps_fld (pv 0) (n5 OK (G.mono ag) (by rfl) t.mg t.fn.kp t.bd .nil tV (aN (pv 2) bR)) rfl)
      (ky (ps_if (Bn op_ne (gd iO (by rfl) x EJ (aN (By (pv 0) rfl) bR)) (gd iO (by rfl) x EJ (aN (By (pv 0) rfl) bR)) (BJ _)) tQ Bo))),?_⟩
    refine⟨_,rfl,_,rfl,p,dx,v,F,d,rfl,hp,hF,s1,qd,?_⟩
    cases I : aA [d]with
    | error e => rw[I]at q; exact q| ok r =>
      rw[I,av]at q;intro u F1 H1 X a2 a3 a4 W T R;refine⟨i,rfl,F1,[m],a2,⟨i,[],rfl,aU.mono X k,rfl⟩,rfl,?_⟩
      skip;cases Y : aA [m]with
      | error e => rw[Y]at q; exact Ej q| ok B =>
        rw[Y,av]at q;intro y F2 H2 st C;by_cases U : twoL r B = e_
        · rw[s_ U]at q
          have J : F2 p = g_ := by
            cases l : F2 p with
            | none => rfl| some o =>
              rcases st.nw p o l with z | z
              · rw[a3]at z; cases z
              · rw[T]at z; cases z
          refine⟨_,rfl,p,CP,dx,_,rfl,st.hh _ _ T,n,D,(by show 1 < 1000; decide),?_⟩
          rw[putGB];have j : aO F2 (upd H2 p (.ins CP dx [("gaps", u),("beside", y)])) :=λc o e => by
            have g : c ≠ p :=λz => by rw[z,J]at e; cases e
            rw[aq g];exact st.fh _ _ e
          cases r with
          | lst xs =>
            cases B with
            | lst ys =>
              have hl : xs.length = ys.length := of_decide_eq_true U;obtain⟨g1,xs1,e1,t1,z1⟩ := aU.mono st.ff R;obtain⟨g2,xs2,e2,t2,Z⟩ := id C;refine⟨_,rfl,p,CP,dx,_,_,rfl,ak,n,D,rfl,g2,_,by rw[e2],.inl (j.lst t2),_,rfl,p,CP,dx,_,_,rfl,ak,n,na,rfl,g1,_,by rw[e1],.inl (j.lst t1),rfl,_,rfl,?_⟩
              refine iteNS (by rw[z1.length,Z.length,hl]) ?_;refine q u y F2 _ (X.trans st.ff) j J (λb o e => ?_) (λc o e g => by rw[aq g]; exact st.hh _ _ (W c o e g)) ak (aU.mono st.ff R) C;rcases st.nw b o e with z | z
              · exact a4 b o z
              · refine .inr ?_
                cases l : H b with
                | none => rfl| some o' =>
                  by_cases L : b = p
                  · subst L; rw[J]at e; cases e
                  · rw[W b o' l L]at z; cases z
            | _ => cases U
          | _ => cases U
        · rw[q_ U]at q; exact Ej q
def dg:eR ["pool","size","choices","place","one","rest"] ["pool","size"] (aB ee):=⟨rfl,rfl,rfl,by decide +kernel,rfl,by decide +kernel,by decide +kernel⟩
def oJ{K:Fg}{base:Eg}{CR:i_}(Z:Zs K mg CR CP CL CT AStripError ATooMany ANoPlan ANoPlace ANoRow ANoRules ANoSheet ANoTime ANotFree)(J:Def K mg "choices_of" ee ["pool","size"] bJ bw){d:Nat}{h:aa->M C'}(U:eJ P w K mg base CX0 d bJ bw ["pool","size"] (spF K c_ (b6 6 2 h) 2)):eJ P w K mg base CX0 (d+1) bJ bw ["pool","size"] (spF K c_ (b6 6 2 (iK (b6 6 2 h))) 2):=
 fn_D (O':=[]) J.fn dg c_ (iK (b6 6 2 h)) λcdv A outer s H E Y=>
  (ah (dN (bT (o_eq Y.units) (ai 1) af)
   (au (aE (aw (aW (bx (bX bq) bq)))))
   cb)
  (ah (wc (i:=2) (own:=e_) dg.nd (aW bq))
  (ah (bC (pt:=.tp [3,4]) (wg Z.dP (ai 0)) (jb rfl (b8 (i:=3) dg.nd (b8 (i:=4) dg.nd cI)))
   (au (bC (pt:=.nm 5) (bL (CV U Y J.mg J.fn.kp J.bd (bx (aw (de_sl x_sl (ai 0) (rR (aw (aV eN (ai 3) af))) rT)) (bx (aV n9 (ai 1) af) bq)))) (gN dg.nd)
   (au (fQ (i:=2) (aw (aV eN (bX (bx (ai 4) bq)) (ai 5))))))))
  (bK (O2:=[]) (au (aE (ai 2)))))))
theorem jf{P:EC}{w:Fe}{K:Fg}{mg:Mq}{base:Eg}{CR CP CL CT AStripError ATooMany ANoPlan ANoPlace ANoRow ANoRules ANoSheet ANoTime ANotFree:i_}(Z:Zs K mg CR CP CL CT AStripError ATooMany ANoPlan ANoPlace ANoRow ANoRules ANoSheet ANoTime ANotFree){bJ:i_}{bw:Gi}(J:Def K mg "choices_of" ee ["pool","size"] bJ bw):∀d:Nat,eJ P w K mg base CX0 d bJ bw ["pool","size"] (spF K c_ (b6 6 2 (d8 d)) 2)
 |0=>fn_stk|d+1=>oJ Z J (jf Z J d)
def rB{K:Fg}{base:Eg}{CR:i_}(Z:Zs K mg CR CP CL CT AStripError ATooMany ANoPlan ANoPlace ANoRow ANoRules ANoSheet ANoTime ANotFree)(J:Def K mg "choices_of" ee ["pool","size"] bJ bw):eJ P w K mg base CX0 6 bJ bw ["pool","size"] (spF K c_ (iE) 2):=jf Z J 6
section
variable{base:Eg}{K:Fg}{CR:i_}(Z:Zq n P w base K mg CR CP CL CT AStripError ATooMany ANoPlan ANoPlace ANoRow ANoRules ANoSheet ANoTime ANotFree)
include Z
def rn:YO Z.d8 P w base 6 c_ (iE):=let ⟨_,_,D⟩:=Z.d8;⟨_,_,D,rB Z D⟩
def i6:YO Z.nU P w base 7 e_ (fG):=
 fY ["many","shift","size","sure","free"] λz J U=>(ah (bp J (yi Z.kq Z.cG (da1 (aL (wA rfl) Z.uZ Kv (da2 af (aV n9 (ai 2) (ai 1))))))) (ah (bp J (aw (de_lrng2 Z.lb Z.cG (da2 (aL l6 Z.jF EJ (da1 (ai 3))) (aL (c_min rfl) Z.z_min Oi (da2 (ai 0) (aw (aV eN (ai 2) (ai 1))))))))) (au (aE (cx ["some","sure"] [g_,a_ 3] (bL (dY (rn Z) U (da2 (ai 4) (aV n9 (ai 2) (aL l6 Z.jF EJ (da1 (ai 3))))))) (λ_ _ _ _ _=>gm dkK) (aX rfl) (λ_ _ _ _ _=>cq) (λ_ _ _ _ _=>(aw (aV eN (ai 1) (ai 0)))))))))
def dR:YO Z.m7 P w base 1 c_ (bj):=
 fY ["some"] λz J U=>(au (aE (aw (cx ["place","flight","some"] [g_,g_,a_ 0] (rV Z.dP (ai 0)) (λ_ _ _ _ _=>jb rfl (cO (i:=0) dkK (cO (i:=1) dkK cI))) (iG ag) (λ_ _ _ _ _=>cq) (λ_ _ _ _ _=>(bX (da2 (aw (aV eN (aw (de_sl x_sl (ai 2) rT (rR (ai 0)))) (aw (de_sl x_sl (ai 2) (rR (aw (aV eN (ai 0) af))) rT)))) (ai 1))))))))
def oK:YO Z.s9 P w base 8 c_ (br):=
 fY ["many","shift","counts","size","grown","some"] λz J U=>(ah (bp J (aw (de_disp1 U.units (bX bq) af))) (ah (bC (pt:=.nm 3) (di_rng2 Z.cG (da2 af (aw (aV eN (ai 0) af)))) (gN J) (ah (kf J CO) (ah (bC (pt:=.nm 5) (bL (aw (dY (i6 Z) U (da3 (ai 0) (ai 1) (ai 3))))) (gN J) (au (ds_putD (i:=4) U.units (ai 5) (aL (c_sum rfl) Z.z_sum boot_sum (da1 (aw (cx ["smaller","flight","counts"] [g_,g_,a_ 2] (bL (dY (dR Z) U (da1 (ai 5)))) (λ_ _ _ _ _=>jb rfl (cO (i:=0) dkK (cO (i:=1) dkK cI))) (iG ag) (λ_ _ _ _ _=>cq) (λ_ _ _ _ _=>(rZ U.units (ai 2) (ai 0) af))))))))) (bK (O2:=[]) (au (bp J (ai 4))))))) (au (aE (de_sumV rfl Z.z_sum (ai 2))))))
def bU:YM Z.m_M_R_many_strips P w mg base 1 c_ (aC):=
 fM ["self"] λz J U=>(au (aE af))
def bV:YM Z.m_M_P_many_strips P w mg base 1 c_ (aD):=
 fM ["self"] λz J U=>(au (aE af))
def rk:YO Z.uF P w base 9 c_ (gi CR CP CL CT n):=
 fY ["rules","many","shift","plans","flight"] λz Y a=>let ⟨_,_,b,U⟩:=bV Z;let ⟨_,_,c,J⟩:=bU Z;(ah (bp Y (dY (oK Z) a (da2 (ai 1) (ai 2)))) (ah (bC (pt:=.nm 4) (fS Z.cG (da1 (ai 1))) (gN Y) (au (bp Y (aV o_mul (ai 3) (gO Z.kR.cl c.mt J (a.mono ag) c.bd Z.kP.cl b.mt U (a.mono ag) b.bd (ai 0)))))) (au (aE (ai 3)))))
def jO:YX Z.kW P w base 10 c_ (bW CR CP CL CT n):=
 fX ["rules","flights","shift"] λz U J=>(au (dN (dt_lift (bT o_gt (dY (rk Z) J (da3 (ai 0) (aL l6 Z.jF EJ (da1 (ai 1))) (ai 2))) (wm Z.uj))) (au (ds_raise Ii xeqD Z.tCT.mg Z.tCT.ex J.hd)) cb))
def kD:YO Z.m9 P w base 8 c_ (cT):=
 fY ["many","shift","beginnings","size"] λz J U=>(ah (kf J (aW bq)) (ah (bC (pt:=.nm 3) (fS Z.cG (da1 (aw (aV eN (ai 0) af)))) (gN J) (au (ds_ext (i:=2) (dY (i6 Z) U (da3 (ai 0) (ai 1) (ai 3)))))) (bK (O2:=[]) (au (aE (ai 2))))))
def oN:YO Z.se P w base 1 c_ (cg):=
 fY ["one","other","row","bounds","last","bound"] λz J U=>(ah (dN (bT o_gt (aR cH (ai 0) af) (aR cH (ai 1) af)) (au (aE gQ)) cb) (ah (bC (pt:=.tp [2,3]) (CM Z.z_zip (aR cH (ai 0) af) (aR cH (ai 1) af)) (jb rfl (b8 (i:=2) J (b8 (i:=3) J cI))) (au (bC (pt:=.tp [4,5]) (CM Z.z_zip (ai 2) (ai 3)) (jb rfl (b8 (i:=4) J (b8 (i:=5) J cI))) (au (dN (bT o_gt (ai 4) (ai 5)) (au (aE gQ)) cb))))) (au (aE gQ))))
def n6:YO Z.oZ P w base 2 c_ (cM):=
 fY ["labels","label","one"] λz J U=>(ah (bC (pt:=.nm 2) (bL (ai 0)) (gN J) (au (dN (lD (dY (oN Z) U (da2 (ai 2) (ai 1)))) (au (aE gQ)) cb))) (au (aE gQ)))
def oQ:YO Z.sj P w base 3 c_ (eZ):=
 fY ["labels","best","label"] λz J U=>(ah (kf J (aW bq)) (ah (bC (pt:=.nm 2) (bL (aw (aL (A8 U.units) Z.jE Oh (da1 (ai 0))))) (gN J) (au (dN (ux (lD (dY (n6 Z) U (da2 (ai 1) (ai 2))))) (au (fQ (i:=1) (ai 2))) cb))) (bK (O2:=[]) (au (aE (ai 1))))))
def lX:YM Z.m_M_R_many_kinds P w mg base 1 c_ (aT CR CP CL CT n):=
 fM ["self"] λz J U=>(au (aE (aL l6 Z.jF EJ (da1 (uD (Cs:=[CR,CP]) Z.hV (ai 0))))))
def lY:YM Z.m_M_P_many_kinds P w mg base 1 c_ (aT CR CP CL CT n):=
 fM ["self"] λz J U=>(au (aE (aL l6 Z.jF EJ (da1 (uD (Cs:=[CR,CP]) Z.hV (ai 0))))))
def oO:YO Z.sf P w base 2 c_ (gV CR CP CL CT n):=
 fY ["rules","row"] λz g b=>let ⟨_,_,c,a⟩:=lY Z;let ⟨_,_,e,U⟩:=bV Z;let ⟨_,_,d,Y⟩:=lX Z;let ⟨_,_,f,J⟩:=bU Z;(ah (bp g (fU sv Z.kq Gz (da1 (aw (cx ["kind"] [g_] (fS Z.cG (da1 (gO Z.kR.cl d.mt Y b d.bd Z.kP.cl c.mt a b c.bd (ai 0)))) (λ_ _ _ _ _=>gm dkK) (aX rfl) (λ_ _ _ _ _=>cq) (λ_ _ _ _ _=>(zV zp af))))))) (au (aE (bX (da2 af (fU sv Z.kq Gz (da1 (aw (cx ["strip","row"] [g_,a_ 1] (fS Z.cG (da1 (gO Z.kR.cl f.mt J b f.bd Z.kP.cl e.mt U b e.bd (ai 0)))) (λ_ _ _ _ _=>gm dkK) (aX rfl) (λ_ _ _ _ _=>cq) (λ_ _ _ _ _=>(ai 1)))))))))))
def jv:YO Z.kh P w base 1 c_ (bH):=
 fY ["closed","joined","start","stop"] λz J U=>(ah (kf J (aW bq)) (ah (bC (pt:=.tp [2,3]) (bL (aw (aL A9 Z.jE Oh (da1 (ai 0))))) (jb rfl (b8 (i:=2) J (b8 (i:=3) J cI))) (au (dN (PW.pt (CC (lD (ai 1)) (wa (bT o_le (ai 2) (aR cH (aR cH (ai 1) (zV zp af)) af))))) (au (ds_setI (i:=1) (bX (da2 (aR cH (aR cH (ai 1) (zV zp af)) af) (aL (wA rfl) Z.uZ Kv (da2 (ai 3) (aR cH (aR cH (ai 1) (zV zp af)) af))))) (zV zp af))) (au (fQ (i:=1) (bX (da2 (ai 2) (ai 3)))))))) (bK (O2:=[]) (au (aE (ai 1))))))
def lq:YO Z.wo P w base 2 c_ (cf):=
 fY ["closed","time","start","stop"] λz J U=>(ah (bC (pt:=.tp [2,3]) (bL (dY (jv Z) U (da1 (ai 0)))) (jb rfl (b8 (i:=2) J (b8 (i:=3) J cI))) (au (dN (xZ o_le o_lt (ai 2) (ai 1) (ai 3)) (au (aE (ai 3))) cb))) (au (aE (ai 1))))
def rl:YO Z.uG P w base 1 c_ (gj):=
 fY ["lasts","spot","time","rows"] λz J U=>(ds_rows (i:=3) ["row"] [g_] J (bL (ai 0)) (λ_ _ _ _ _=>gm dkK) (aX rfl) (λ_ _ _ _ _=>cq) (λ_ _ _ _ _=>(fU Dh Z.lb Fs (da1 (ai 0)))) BW (ai 2) (aR cH (ai 1) af) (aR cH (ai 1) af) (au (aE (fU sv Z.kq Gz (da1 (aw (cx ["row"] [g_] (bL (ai 3)) (λ_ _ _ _ _=>gm dkK) (aX rfl) (λ_ _ _ _ _=>cq) (λ_ _ _ _ _=>(fU sv Z.kq Gz (da1 (ai 0)))))))))))
def lr:YO Z.wq P w base 1 c_ (fF):=
 fY ["flight","time","due","price"] λz J U=>(ah (bp J (aR cH (ai 0) af)) (ah (bp J (aR cH (ai 0) af)) (au (aE (aV o_mul (ai 3) (aL (wA rfl) Z.uZ Kv (da2 af (aV n9 (ai 1) (ai 2)))))))))
def jw:YM Z.m_M_R_apart P w mg base 1 c_ (bu CR CP CL CT n):=
 fM ["self","one","other"] λz J U=>(au (aE (aR cH (aR cH (uD (Cs:=[CR,CP]) Z.hV (ai 0)) (aR cH (ai 1) af)) (aR cH (ai 2) af))))
def jx:YM Z.m_M_P_apart P w mg base 1 c_ (bf CR CP CL CT n):=
 fM ["self","one","other","rows"] λz J U=>(ah (bp J (de_ite (bT (o_eq U.units) (aR cH (ai 1) af) (aR cH (ai 2) af)) (uD (Cs:=[CR,CP]) Z.hV (ai 0)) (uD (Cs:=[CP]) Z.qj (ai 0)))) (au (aE (aR cH (aR cH (ai 3) (aR cH (ai 1) af)) (aR cH (ai 2) af)))))
def kC:YO Z.m8 P w base 2 c_ (cS CR CP CL CT n):=
 fY ["rules","lasts","spot","times","strip","row","kind","last"] λz Y a=>let ⟨_,_,b,U⟩:=jx Z;let ⟨_,_,c,J⟩:=jw Z;(ah (kf Y (aW bq)) (ah (bC (pt:=.tp [4,5]) (rV Z.dP (ai 1)) (jb rfl (b8 (i:=4) Y (b8 (i:=5) Y cI))) (au (bC (pt:=.tp [6,7]) (rV Z.dP (ai 5)) (jb rfl (b8 (i:=6) Y (b8 (i:=7) Y cI))) (au (dN (bT (o_ne a.units) (ai 7) (zV zp af)) (au (fQ (i:=3) (aw (aV eN (ai 7) (rY Z.kR.cl c.mt J a c.bd Z.kP.cl b.mt U a b.bd (ai 0) (da2 (bX (da2 (ai 6) (ai 4))) (ai 2))))))) cb))))) (bK (O2:=[]) (au (aE (ai 3))))))
def iy:YO Z.oY P w base 3 c_ (bz CR CP CL CT n):=
 fY ["rules","flights","closed","label","flight","strip","told","spot","time"] λz U J=>(ah (bp U (aR cH (ai 1) (ai 4))) (ah (bp U (bX (da2 (aR cH (ai 6) af) (ai 5)))) (ah (bp U (dY (lq Z) J (da2 (ai 2) (aL (wA rfl) Z.uZ Kv (da1 (aw (aV eN (aw (aW (da1 (aR cH (ai 6) af)))) (dY (kC Z) J (da3 (ai 0) (aR cH (ai 3) af) (ai 7)))))))))) (ah (dN (bT o_gt (ai 8) (aR cH (ai 6) af)) (au (aE yj)) cb) (au (aE (bX (da2 (aw (aV eN (aR cH (ai 3) af) (dY (lr Z) J (da2 (ai 6) (ai 8))))) (dY (rl Z) J (da3 (aR cH (ai 3) af) (ai 7) (ai 8)))))))))))
def lW:YO Z.nR P w base 4 c_ (dv CR CP CL CT n):=
 fY ["rules","flights","closed","paper","some","found","smaller","flight","label","strip","behind"] λz Y a=>let ⟨_,_,b,U⟩:=bV Z;let ⟨_,_,c,J⟩:=bU Z;(ah (kf Y de_newL) (ah (bC (pt:=.tp [6,7]) (bL (dY (dR Z) a (da1 (ai 4)))) (jb rfl (b8 (i:=6) Y (b8 (i:=7) Y cI))) (au (bC (pt:=.nm 8) (bL (rZ a.units (ai 3) (ai 6) (aw (aW bq)))) (gN Y) (au (bC (pt:=.nm 9) (fS Z.cG (da1 (gO Z.kR.cl c.mt J (a.mono ag) c.bd Z.kP.cl b.mt U (a.mono ag) b.bd (ai 0)))) (gN Y) (ah (bp Y (dY (iy Z) a (da6 (ai 0) (ai 1) (ai 2) (ai 8) (ai 7) (ai 9)))) (au (dN (bT o_notN (ai 10) yj) (au (ds_putT (i:=5) a.units (ai 10) gQ)) cb)))))))) (bK (O2:=[]) (au (aE (ai 5))))))
def vC:YX Z.zZ P w base 11 c_ (fw CR CP CL CT n):=
 fX ["rules","flights","closed","shift","paper","some"] λz Y J=>let ⟨_,_,U⟩:=jO Z;(ah (ds_drop (own:=c_) (yk U.o passD J U.d.mg U.d.fn.kp U.d.bd (da3 (ai 0) (ai 1) (ai 3)))) (y0 (ah (kf Y CO) (ah (bC (pt:=.nm 5) (bL (dY (kD Z) J (da2 (aL l6 Z.jF EJ (da1 (ai 1))) (ai 3)))) (gN Y) (au (dN (bT (o_eq J.units) (ai 5) (bX bq)) (au (yb (i:=4) J.units (ai 5) (aw (aW (da1 (dY (oO Z) J (da1 (ai 0)))))))) (au (yb (i:=4) J.units (ai 5) (dY (oQ Z) J (da1 (dY (lW Z) J (da5 (ai 0) (ai 1) (ai 2) (ai 4) (ai 5)))))))))) (bK (O2:=[]) (au (aE (ai 4))))))))
def zh:YO Z.CW P w base 4 c_ (jT CR CP CL CT n):=
 fY ["rules","flights","closed","paper","some","label","smaller","flight","ahead","strip"] λz a Y=>let ⟨_,_,b,U⟩:=bV Z;let ⟨_,_,c,J⟩:=bU Z;(au (bC (pt:=.tp [6,7]) (bL (dY (dR Z) Y (da1 (ai 4)))) (jb rfl (b8 (i:=6) a (b8 (i:=7) a cI))) (au (bC (pt:=.nm 8) (bL (rZ Y.units (ai 3) (ai 6) (aw (aW bq)))) (gN a) (au (bC (pt:=.nm 9) (fS Z.cG (da1 (gO Z.kR.cl c.mt J (Y.mono ag) c.bd Z.kP.cl b.mt U (Y.mono ag) b.bd (ai 0)))) (gN a) (au (dN (bT (o_eq Y.units) (dY (iy Z) Y (da6 (ai 0) (ai 1) (ai 2) (ai 8) (ai 7) (ai 9))) (ai 5)) (au (aE (bX (da3 (ai 6) (ai 8) (bX (da2 (ai 7) (ai 9))))))) cb))))))))
def zi:YO Z.CY P w base 5 c_ (jU CR CP CL CT n):=
 fY ["rules","flights","closed","paper","some","label","there","plan","step"] λz J U=>(ah (bp J (bX (da2 (ai 4) (ai 5)))) (ah (kf J (aW bq)) (ah (ds_while (m:=n) (bT (o_ne U.units) (aR cH (ai 6) af) (bX bq)) (ah (bp J (dY (zh Z) U (da6 (ai 0) (ai 1) (ai 2) (ai 3) (aR cH (ai 6) af) (aR cH (ai 6) af)))) (ah (fQ (i:=7) (aR cH (ai 8) af)) (au (bp J (bX (da2 (aR cH (ai 8) af) (aR cH (ai 8) af)))))))) (bK (O2:=[]) (au (aE (aw (de_lrev Z.lb Z.yC (ai 7)))))))))
def vB:YO Z.zY P w base 1 c_ (kH):=
 fY ["flights","plan"] λz J U=>(au (aE (aw (cx ["flight","strip","flights"] [g_,g_,a_ 0] (bL (ai 1)) (λ_ _ _ _ _=>jb rfl (cO (i:=0) dkK (cO (i:=1) dkK cI))) (iG ag) (λ_ _ _ _ _=>cq) (λ_ _ _ _ _=>(bX (da2 (aR cH (aR cH (ai 2) (ai 0)) af) (ai 1))))))))
def tY:YO Z.wt P w base 2 c_ (jy CR CP CL CT n):=
 fY ["rules","spots","times","place"] λz c Y=>let ⟨_,_,a,U⟩:=jx Z;let ⟨_,_,b,J⟩:=jw Z;(au (aE (aw (cx ["ahead","rules","spots","times","place"] [g_,a_ 0,a_ 1,a_ 2,a_ 3] (fS Z.cG (da1 (ai 3))) (λ_ _ _ _ _=>gm dkK) (aX rfl) (λ_ _ _ _ _=>cq) (λ_ _ _ _ _=>(aw (aV eN (aR cH (ai 3) (ai 0)) (rY Z.kR.cl b.mt J Y b.bd Z.kP.cl a.mt U Y a.bd (ai 1) (da2 (aR cH (ai 2) (ai 0)) (aR cH (ai 2) (ai 4)))))))))))
def vA:YO Z.zX P w base 3 c_ (iX CR CP CL CT n):=
 fY ["rules","flights","closed","plan","spots","times","place","entry","flight","time"] λz J U=>(ah (bp J (dY (vB Z) U (da2 (ai 1) (ai 3)))) (ah (kf J (aW bq)) (ah (bC (pt:=.tp [6,7]) (wg Z.dP (ai 3)) (jb rfl (b8 (i:=6) J (b8 (i:=7) J cI))) (ah (bp J (aR cH (ai 1) (aR cH (ai 7) af))) (ah (ds_setA (i:=9) (own:=c_) J (dY (lq Z) U (da2 (ai 2) (aL (wA rfl) Z.uZ Kv (da1 (aw (aV eN (aw (aW (da1 (aR cH (ai 8) af)))) (dY (tY Z) U (da4 (ai 0) (ai 4) (ai 5) (ai 6)))))))))) (ah (dN (bT o_gt (ai 9) (aR cH (ai 8) af)) (bK (O2:=[]) (au CD)) cb) (au (fQ (i:=5) (ai 9))))))) (bK (O2:=[]) (au (aE (ai 5)))))))
def zm:YO Z.CZ P w base 2 c_ (jV):=
 fY ["flights","plan","times"] λz U J=>(au (aE (aL (c_sum rfl) Z.z_sum boot_sum (da1 (aw (cx ["entry","time","flights"] [g_,g_,a_ 0] (di_zip Z.z_zip (ai 1) (ai 2)) (λ_ _ _ _ _=>jb rfl (cO (i:=0) dkK (cO (i:=1) dkK cI))) (iG ag) (λ_ _ _ _ _=>cq) (λ_ _ _ _ _=>(dY (lr Z) J (da2 (aR cH (ai 2) (aR cH (ai 0) af)) (ai 1))))))))))
def jP:YO Z.kY P w base 1 c_ (cA):=
 fY ["flights","first","last"] λz J U=>(au (aE (aw (cx ["number","flight","first","last"] [g_,g_,a_ 1,a_ 2] (wg Z.dP (ai 0)) (λ_ _ _ _ _=>jb rfl (cO (i:=0) dkK (cO (i:=1) dkK cI))) (iG ag) (λ_ _ _ _ _=>pts_one (PW.pt (CC (bT o_le (ai 2) (aR cH (ai 1) af)) (wa (bT o_le (aR cH (ai 1) af) (ai 3)))))) (λ_ _ _ _ _=>(ai 0))))))
def vE:YO Z.A0 P w base 1 c_ (iY):=
 fY ["kinds","there","pairs","kind","other"] λz J U=>(ah (bp J (aw (rX Z.jE Z.z_set (ai 0)))) (ah (kf J (aW bq)) (ah (bC (pt:=.nm 3) (bL (ai 1)) (gN J) (au (bC (pt:=.nm 4) (bL (ai 1)) (gN J) (au (dN (PW.pt (dw_or (bT (o_ne U.units) (ai 3) (ai 4)) (xY (bT o_gt (de_count U.units (ai 0) (ai 3)) af)))) (au (fQ (i:=2) (bX (da2 (ai 3) (ai 4))))) cb))))) (bK (O2:=[]) (au (aE (ai 2)))))))
def oM:YO Z.sd P w base 2 c_ (du CR CP CL CT n):=
 fY ["rules","kinds","found","kind","other","strip"] λz c b=>let ⟨_,_,d,a⟩:=jx Z;let ⟨_,_,f,U⟩:=bV Z;let ⟨_,_,e,Y⟩:=jw Z;let ⟨_,_,g,J⟩:=bU Z;(ah (kf c (aW bq)) (ah (bC (pt:=.tp [3,4]) (bL (dY (vE Z) b (da1 (ai 1)))) (jb rfl (b8 (i:=3) c (b8 (i:=4) c cI))) (au (bC (pt:=.nm 5) (fS Z.cG (da1 (gO Z.kR.cl g.mt J b g.bd Z.kP.cl f.mt U b f.bd (ai 0)))) (gN c) (au (fQ (i:=2) (rY Z.kR.cl e.mt Y b e.bd Z.kP.cl d.mt a b d.bd (ai 0) (da2 (bX (da2 (ai 3) af)) (bX (da2 (ai 4) (ai 5)))))))))) (bK (O2:=[]) (au (aE (aL (c_min rfl) Z.z_min Oi (da1 (ai 2))))))))
def vF:YO Z.A3 P w base 3 c_ (j0 CR CP CL CT n):=
 fY ["rules","flights","some","first","last","kinds"] λz J U=>(ah (dN (bT o_lt (aL l6 Z.jF EJ (da1 (ai 2))) af) (au (aE gQ)) cb) (ah (bp J (aL (c_min rfl) Z.z_min Oi (da1 (aw (cx ["number","flights"] [g_,a_ 1] (bL (ai 2)) (λ_ _ _ _ _=>gm dkK) (aX rfl) (λ_ _ _ _ _=>cq) (λ_ _ _ _ _=>(aR cH (aR cH (ai 1) (ai 0)) af))))))) (ah (bp J (aL (wA rfl) Z.uZ Kv (da1 (aw (cx ["number","flights"] [g_,a_ 1] (bL (ai 2)) (λ_ _ _ _ _=>gm dkK) (aX rfl) (λ_ _ _ _ _=>cq) (λ_ _ _ _ _=>(aR cH (aR cH (ai 1) (ai 0)) af))))))) (ah (ds_compB (i:=5) c_ ["number","flights"] [g_,a_ 1] J (bL (ai 2)) (λ_ _ _ _ _=>gm dkK) (aX rfl) (λ_ _ _ _ _=>cq) (λ_ _ _ _ _=>(aR cH (aR cH (ai 1) (ai 0)) af))) (au (aE (uE o_gt (aV o_mul (dY (oM Z) U (da2 (ai 0) (ai 5))) (aV n9 (aL l6 Z.jF EJ (da1 (ai 2))) af)) (aV n9 (ai 4) (ai 3)))))))))
def n8:YO Z.A4 P w base 4 c_ (fy CR CP CL CT n):=
 fY ["rules","flights","firsts","lasts","first","last","some"] λz J U=>(ah (bp J (aw (rX Z.jE Z.z_set (aw (cx ["flight"] [g_] (bL (ai 1)) (λ_ _ _ _ _=>gm dkK) (aX rfl) (λ_ _ _ _ _=>cq) (λ_ _ _ _ _=>(aR cH (ai 0) af))))))) (ah (bp J (aw (rX Z.jE Z.z_set (aw (cx ["flight"] [g_] (bL (ai 1)) (λ_ _ _ _ _=>gm dkK) (aX rfl) (λ_ _ _ _ _=>cq) (λ_ _ _ _ _=>(aR cH (ai 0) af))))))) (ah (bC (pt:=.nm 4) (bL (ai 2)) (gN J) (au (bC (pt:=.nm 5) (bL (ai 3)) (gN J) (ah (bp J (dY (jP Z) U (da3 (ai 1) (ai 4) (ai 5)))) (au (dN (lD (dY (vF Z) U (da3 (ai 0) (ai 1) (ai 6)))) (au (aE (ai 6))) cb)))))) (au (aE yj)))))
def on_CL:∃f fd,Mth K CL "__init__" "NoPlan.__init__" s_nCL ["self","crowd"] f fd/\XMk K mg "NoPlan" CL f/\eJ P w K mg base CX0 1 f fd ["self","crowd"] (spXL K CL "crowd"):=
 let ⟨_,_,N,X⟩:=Z.n_CL;⟨_,_,N,X,okn_CL N.fn Z.aCL_crowd Z.lb⟩
def iA:YX Z.wu P w base 12 c_ (b9 CR CP CL CT n):=
 fX ["rules","flights","closed","shift","paper","everyone","labels","plan","times"] λz Y U=>let ⟨_,_,b⟩:=vC Z;let ⟨_,_,a,J,c⟩:=on_CL Z;(ah (bp Y (yk b.o passD U b.d.mg b.d.fn.kp b.d.bd (da4 (ai 0) (ai 1) (ai 2) (ai 3)))) (ah (yc (bp Y (yi Z.kq Z.cG (da1 (aL l6 Z.jF EJ (da1 (ai 1))))))) (ah (yc (bp Y (rZ U.units (ai 4) (ai 5) (aw (aW bq))))) (ah (dN (ux (lD (ai 6))) (au (CF Ii xeqD2 J.ex J.fn J.kp c (U.mono ag) a.bd J.mg (da1 (de_lift (de_orN (dY (n8 Z) U (da2 (ai 0) (ai 1))) (CN (aw (aW bq)))))))) cb) (y0 (ah (bp Y (dY (zi Z) U (da6 (ai 0) (ai 1) (ai 2) (ai 4) (ai 5) (aL (c_minL U.units) Z.z_min Oi (da1 (ai 6)))))) (ah (bp Y (dY (vA Z) U (da4 (ai 0) (ai 1) (ai 2) (ai 7)))) (au (aE (bX (da3 (dY (zm Z) U (da3 (ai 1) (ai 7) (ai 8))) (ai 7) (ai 8))))))))))))
def rp:YO Z.uI P w base 13 c_ (eA CR CP CL CT n):=
 fY ["_law_rules","_law_flights","_law_closed","_law_shift","_law_told","e"] λz U Y=>let ⟨_,_,J⟩:=iA Z;(ah (bp U yj) (ah (ds_told1 (i:=5) (j:=4) (λB4 σ E b a=>(ya (own:=c_) (yh J.o a Y J.d.mg J.d.fn.kp J.d.bd (da4 (ai 0) (ai 1) (ai 2) (ai 3))))) Z.xCL Z.aCL_crowd U) (au (aE (ai 4)))))
def aQ:YO Z.pb P w base 1 c_ (aI):=
 fY ["_law_script","_law_k"] λz J U=>(ah (dN (bT o_lt (ai 1) (aL l6 Z.jF EJ (da1 (ai 0)))) (au (aE (aV kE (aR cH (ai 0) (ai 1)) (aV zo af af)))) cb) (au (aE af)))
def iC:YO Z.wx P w base 1 c_ (dS):=
 fY ["_law_cell","_law_kinds","_law_rows","_law_one","_law_row","_law_other"] λz J U=>(ah (kf J (aW bq)) (ah (bC (pt:=.nm 3) (fS Z.cG (da1 (ai 1))) (gN J) (ah (kf J (aW bq)) (bK (O2:=[2,4]) (ah (bC (pt:=.nm 5) (fS Z.cG (da1 (ai 1))) (gN J) (ah (bp J (aV kE (aw (aV eN (aw (aV eN (aV o_mulBI (ai 0) (ai 0)) (aV o_mul af (ai 0)))) (ai 5))) af)) (au (fQ (i:=4) (aw (aV eN af (aR cH (aw (aW (da2 (aV kE (aV BH (ai 0) af) af) (aV kE (aV BH (ai 0) af) (aV zo af af))))) (aV kE (ai 0) af)))))))) (bK (O2:=[2]) (au (fQ (i:=2) (ai 4)))))))) (bK (O2:=[]) (au (aE (ai 2))))))
def iB:YO Z.p9 P w base 13 c_ (bA CR CP CL CT n):=
 fY ["_law_rules","_law_flights","_law_closed","_law_shift","_law_told","e"] λz Y c=>let ⟨_,_,U⟩:=iA Z;(ah (bp Y (aw (aW bq))) (ah (ds_tryB3 (i:=5) (j:=4) (tb:=[(CL,[c_,e_,e_,c_]),(CT,[e_,c_,e_,c_])]) (λB4 σ E e d=>(ya (own:=c_) (yh U.o d c U.d.mg U.d.fn.kp U.d.bd (da4 (ai 0) (ai 1) (ai 2) (ai 3))))) Z.qD (tell2 ⟨Z.u_CL,Z.w_CL⟩ ⟨Z.u_CT,Z.w_CT⟩) Y (λa C oe k h g f J k1 k2 b k5=>iT (xp Y rfl (.inl rfl) (pe_lst (aN (pe_isO J Z.cv Z.zF k1) (aN (pe_isO J Z.cv Z.BR k2) (aN (pe_isB J Z.cv Z.sQ dkK b) bR))))) (ky (mZ (pe_bm Ho Je Lf u4 (pv 4) (aN (pe_isT J Z.cv (kA (kA (kA (kA (kA (kA pa_refs0 Z.zG) Z.BQ) Z.zH) Z.zI) Z.mI_NoRow) Z.zJ) (by show 6<=n_;rw[Ey];decide) k5) bR)))))) (au (aE (ai 4)))))
def on_P:∃f fd,Mth K CP "__init__" "Pair.__init__" s_nP ["self","gaps","beside"] f fd/\eJ P w K mg base CX0 5 f fd ["self","gaps","beside"] (spI2 K CP (aA)):=
 let ⟨_,_,Y⟩:=iz Z;let ⟨_,_,N,S⟩:=Z.n_R;let ⟨_,_,M⟩:=Z.n_P;⟨_,_,M,okn_P Y.d Y.o S N.bd (okn_R (C:=CP) Y.d Y.o N.fn Z.kP.cl (Z.hV CP ad).2) Z.kR.mg Z.jF M.fn Z.kP.cl (Z.hV CP ad).2 (Z.qj CP ad).2⟩
def on_R:∃f fd,Mth K CR "__init__" "Rules.__init__" s_nR ["self","gaps"] f fd/\eJ P w K mg base CX0 4 f fd ["self","gaps"] (spI1 K CR (aA)):=
 let ⟨_,_,Y⟩:=iz Z;let ⟨_,_,N,_⟩:=Z.n_R;⟨_,_,N,okn_R Y.d Y.o N.fn Z.kR.cl (Z.hV CR ad).2⟩
def ok_law:YO (law_d Z.d_law) P w base 14 c_ (m_law CR CP CL CT n):=
 fY ["_law_script","_law_kinds","_law_strips","_law_shift","_law_rules","_law_least","_law_time","_law_great","_law_k","_law_handed","_law_many","_law_few","_law_crowd_here","_law_closed","_law_one","_law_due","_law_told"] λz U J=>let ⟨_,_,f⟩:=iA Z;let ⟨_,_,e,Y,g⟩:=on_CL Z;let ⟨_,_,d,b⟩:=on_P Z;let ⟨_,_,c,a⟩:=on_R Z;(ah (bp U (aw (aV eN af (aV kE (dY (aQ Z) J (da2 (ai 0) af)) af)))) (ah (bp U (aw (aV eN af (aV kE (dY (aQ Z) J (da2 (ai 0) af)) af)))) (ah (bp U (aV kE (dY (aQ Z) J (da2 (ai 0) af)) af)) (ah (bp U (de_newR ⟨Z.kR.mks,c.mt.at_,c.mt.fn,Z.kR.kp⟩ a (J.mono ag) Z.kR.mg c.bd (da1 (dY (iC Z) J (da2 (dY (aQ Z) J (da2 (ai 0) af)) (ai 1)))))) (ah (bp U (aR cH (aR cH (aw (aW (da2 (aw (aW (da4 af af af af))) (aw (aW (da4 af af af af)))))) (aV n9 (ai 2) af)) (ai 3))) (ah (dN (bT (o_eq J.units) (ai 2) af) (au (bp U (de_newP ⟨Z.kP.mks,d.mt.at_,d.mt.fn,Z.kP.kp⟩ b (J.mono ag) Z.kP.mg d.bd (da2 (dY (iC Z) J (da2 (dY (aQ Z) J (da2 (ai 0) af)) (ai 1))) (dY (iC Z) J (da2 (dY (aQ Z) J (da2 (ai 0) af)) (ai 1))))))) cb) (ah (bp U (aV kE (dY (aQ Z) J (da2 (ai 0) af)) (aV zo af af))) (ah (kf U (aW bq)) (ah (bC (pt:=.nm 8) (fS Z.cG (da1 (aw (aV eN (ai 5) (aV kE (dY (aQ Z) J (da2 (ai 0) af)) af))))) (gN U) (au (fQ (i:=7) (bX (da5 (aV kE (dY (aQ Z) J (da2 (ai 0) (aw (aV eN af (ai 8))))) (ai 1)) (ai 6) (ai 6) af (aV kE (dY (aQ Z) J (da2 (ai 0) (aw (aV eN af (ai 8))))) (aV zo af af))))))) (bK (O2:=[]) (ah (bp U (aw (fU Dh Z.lb Fs (da1 (ai 7))))) (ah (dN (PW.pt (CC (bT o_lt (ai 5) af) (wa (bT (o_ne J.units) (dY (iB Z) J (da4 (ai 4) (ai 9) (aw (aW bq)) (ai 3))) (aw (aW (da4 gQ gQ gQ gQ))))))) (au (aE gQ)) cb) (ah (bp U (aw (aV eN af (aV kE (aV BH (dY (aQ Z) J (da2 (ai 0) af)) af) (aR cH (aR cH (aw (aW (da2 (aw (aW (da4 af af af af))) (aw (aW (da4 af af af af)))))) (aV n9 (ai 2) af)) (ai 3)))))) (ah (bp U (aw (de_sl x_sl (ai 7) rT (rR (ai 10))))) (ah (dN (PW.pt (dw_or (bT (o_ne J.units) (ai 9) (ai 7)) (xY (bT (o_ne J.units) (dY (iB Z) J (da4 (ai 4) (ai 11) (aw (aW bq)) (ai 3))) (aw (aW (da4 gQ gQ gQ gQ))))))) (au (aE gQ)) cb) (ah (bp U (dY (rp Z) J (da4 (ai 4) (ai 11) (aw (aW bq)) (ai 3)))) (ah (dN (PW.pt (dw_or (bT (o_ne J.units) (ai 12) (aw (de_lrng1 Z.lb Z.cG (da1 (ai 10))))) (xY (bT (o_ne J.units) (dY (n8 Z) J (da2 (ai 4) (ai 11))) (ai 12))))) (au (aE gQ)) cb) (ah (bp U (aw (aW (da1 (bX (da2 (aL (wA rfl) Z.uZ Kv (da2 (aV n9 (ai 6) af) af)) (aw (aV eN (ai 6) af)))))))) (ah (bp U (aw (aW (da1 (bX (da5 af (ai 6) (aV zo af af) af af)))))) (ah (dN (bT o_gt (aw (aV eN (ai 6) af)) (aV n9 (aV zo af af) af)) (au (bp U (aw (aW bq)))) cb) (ah (bp U (aw (aV eN (ai 6) (aL l6 Z.jF EJ (da1 (ai 13)))))) (ah (dN (bT (o_ne J.units) (CQ Ii Jf Y.ex Y.fn Y.kp g (J.mono ag) e.bd Y.mg Z.xCL.isi Z.aCL_crowd (aw (aW (da2 af (ai 10))))) (aw (aW (da2 af (ai 10))))) (au (aE gQ)) cb) (ah (bp U (de_callN f.o (J.mono ag) f.d.mg f.d.fn.kp f.d.bd (da4 (ai 4) (ai 14) (ai 13) (ai 3)))) (au (aE (ym (uE (o_eq J.units) (aR cH (ai 16) af) (ai 15)) (ym (uE (o_in J.units) (aR cH (ai 16) af) (bX (da2 (aw (aW (da1 (bX (da2 af af))))) (aw (aW (da1 (bX (da2 af (aV n9 (ai 2) af))))))))) (CN (uE (o_eq J.units) (aR cH (ai 16) af) (aw (aW (da1 (ai 15)))))))))))))))))))))))))))))))))
end
noncomputable abbrev sJ:=Int×Int
variable{cs:List sJ}{p:sJ}
noncomputable def stD(p:sJ):A':=.tup [.int p.1,.int p.2]
section
variable(CR CP CL CT:i_)
@[simp]def getI_c0(a:A')(l:List A'):jA (a::l) 0=.ok a:=by unfold jA atI ixN;rw[s_ ac,s_ (by simp<;>omega)];rfl
@[simp]def getI_c1(a b:A')(l:List A'):jA (a::b::l) 1=.ok b:=by unfold jA atI ixN;rw[s_ ac,s_ (by simp<;>omega)];rfl
@[simp]def getI_c2(a b c:A')(l:List A'):jA (a::b::c::l) 2=.ok c:=by unfold jA atI ixN;rw[s_ ac,s_ (by simp<;>omega)];rfl
@[simp]def getI_c3(a b c d:A')(l:List A'):jA (a::b::c::d::l) 3=.ok d:=by unfold jA atI ixN;rw[s_ ac,s_ (by simp<;>omega)];rfl
@[simp]def getI_c4(a b c d e:A')(l:List A'):jA (a::b::c::d::e::l) 4=.ok e:=by unfold jA atI ixN;rw[s_ ac,s_ (by simp<;>omega)];rfl
noncomputable def gH(r:aj):A':=.lst (r.map .int)
def aP(rows:List aj):A':=.lst (rows.map gH)
def wN(k:Nat)(r:aj):Prop:=r.length=k/\∀x∈r,0<=x/\x<=1000000
def bN(k:Nat)(rows:List aj):Prop:=rows.length=k/\∀r∈rows,wN k r
def fq(lo:Int)(m:Nat):(aJ lo m).length=m:=by unfold aJ;simp
end
section
variable(CR CP CL CT:i_)
def Cf(n:Nat)(x:Int)(J:0<=x)(h1:x<=1000000):iZ [.int x]=.ok (.bl e_):=by simp[iZ,xQ,qu,J,h1]
def rL(n:Nat)(k:Nat)(r:aj)(a:k<=6)(h:wN k r):d6 [gH r,.int k]=.ok (.bl e_):=by
 have Y:r.length<=16777216:=by have:=h.1;omega
 have J:k<=16777216:=ac
 have e:aS (.nm 0) iL (fL (iZ) (a9 (ae 0) ay)) [g_] (r.map .int)=.ok ((r.map λ_=>e_).map A'.bl):=by
  have:=cP (p:=.nm 0) (fe:=fL (iZ) (a9 (ae 0) ay)) (ρ0:=[g_]) (λ_=>.bl e_) (r.map .int) (λd hd=>by obtain⟨x,U,rfl⟩:=Ed.mp hd;exact⟨[a_ (.int x)],ad,by simp[Cf n x (h.2 x U).1 (h.2 x U).2]⟩)
  rw[this,En,En];rfl
 simp[d6,lB,gH,e,Y,J,h.1,-En]
def D0(n:Nat)(rows:List aj)(Y:rows.length<=1000):eY [aP rows]=.ok (aP rows):=by
 have J:rows.length<=16777216:=ac
 have e:aS (.nm 0) iL (fL kI (a9 (ae 0) ay)) [g_] (rows.map gH)=.ok (rows.map gH):=by
  have:=cP (p:=.nm 0) (fe:=fL kI (a9 (ae 0) ay)) (ρ0:=[g_]) id (rows.map gH) (λd hd=>by obtain⟨x,U,rfl⟩:=Ed.mp hd;exact⟨[a_ (gH x)],ad,by simp[gH]⟩)
  rw[this,List.map_id]
 simp[eY,k7,aP,e,J]
def kZ(n:Nat)(k:Nat)(rows:List aj)(h1:1<=k)(Y:k<=6)(h:bN k rows):aA [aP rows]=.ok (aP rows):=by
 have J:rows.length<=16777216:=by have:=h.1;omega
 have e:aS (.nm 0) iL (fL (d6) (a9 (ae 0) (a9 (ae 1) ay))) [g_,a_ (.int rows.length)] (rows.map gH)=.ok ((rows.map λ_=>e_).map A'.bl):=by
  have:=cP (p:=.nm 0) (fe:=fL (d6) (a9 (ae 0) (a9 (ae 1) ay))) (ρ0:=[g_,a_ (.int rows.length)]) (λ_=>.bl e_) (rows.map gH) (λd hd=>by obtain⟨x,U,rfl⟩:=Ed.mp hd;exact⟨[a_ (gH x),a_ (.int rows.length)],ad,by simp[h.1,rL n k x Y (h.2 x U)]⟩)
  rw[this,En,En];rfl
 have b:(1:Int)<=rows.length:=by have:=h.1;omega
 have a:(rows.length:Int)<=6:=by have:=h.1;omega
 have e3:=D0 n rows (by have:=h.1;omega);simp only[aP]at e3;simp[aA,jk,ib,i9,aP,e,e3,J,b,a,-En]
def ao(rows:List aj):A'->A'
 |.non=>.ins CR [("gaps",aP rows)]|o=>.ins CP [("gaps",aP rows),("beside",o)]
def kL(rows:List aj)(o:A')(U:o=.non\/∃J,o=aP J):oj [CR,CP] "gaps" (ao CR CP rows o)=.ok (aP rows):=by
 have h1:((("gaps":Dy)==("gaps":Dy))=e_):=by decide +kernel
 rcases U with rfl|⟨J,rfl⟩
 .show(if ([CR,CP].contains CR)=e_ then(match DF ("gaps":Dy) [(("gaps":Dy),aP rows)]with|some d=>EI d|none=>stk)else stk)=_;rw[s_ ad,A_,h1]
 .show(if ([CR,CP].contains CP)=e_ then(match DF ("gaps":Dy) [(("gaps":Dy),aP rows),(("beside":Dy),aP J)]with|some d=>EI d|none=>stk)else stk)=_;rw[s_ ad,A_,h1]
end
structure Fli where
 kind:Int
 first:Int
 last:Int
 due:Int
 price:Int
variable{fl:List Fli}
def flD(f:Fli):A':=.tup [.int f.kind,.int f.first,.int f.last,.int f.due,.int f.price]
structure uW(k:Nat)(f:Fli):Prop where
 k0:0<=f.kind
 k1:f.kind<k
 f0:0<=f.first
 f1:f.first<=f.last
 l1:f.last<=1000000000
 d0:0<=f.due
 d1:f.due<=1000000000
 p0:0<=f.price
 p1:f.price<=1000000000
@[simp]def flatTop_f(d:A'):kO c_ d=fN d:=by cases d<;>rfl
@[simp]def flatD_int(i:Int):fN (.int i)=e_:=by rw[fN]<;>simp
def minZ_le(a b:Int):jR a b<=a/\jR a b<=b/\(jR a b=a\/jR a b=b):=by unfold jR;split<;>omega
def ij(fl:List Fli)(i:Int):Fli:=match fl[i.toNat]? with
 |some f=>f|none=>⟨0,0,0,0,0⟩
def vW{i:Int}(U:0<=i)(h1:i<fl.length):jA (fl.map flD) i=.ok (flD (ij fl i))/\ij fl i∈fl:=by
 have J:i.toNat<fl.length:=ac
 have e:ij fl i=fl[i.toNat]:=by unfold ij;rw[C_ J]
 refine⟨?_,by rw[e];exact EX J⟩
 have:=jZ (ds:=fl.map flD) (k:=i.toNat) (by simpa using J);rw[show((i.toNat:Nat):Int)=i by omega]at this;rw[this,e];simp
def Cov(cs:List sJ)(t:Int):Prop:=∃p∈cs,p.1<=t/\t<p.2
def jn(cs:List sJ)(t u:Int):Prop:=t<=u/\¬Cov cs u/\∀v,t<=v->v<u->Cov cs v
def jn.uniq{v:Int}(h:jn cs t u)(k:jn cs t v):u=v:=by
 rcases Int.lt_trichotomy u v with e|e|e
 .exact DD (k.2.2 u h.1 e) h.2.1
 .exact e
 .exact DD (h.2.2 v k.1 e) k.2.1
def wy(t:Int):¬Cov [] t:=λ⟨_,h,_⟩=>by simp at h
def cov_cons:Cov (p::cs) t↔(p.1<=t/\t<p.2)\/Cov cs t:=by
 constructor
 .rintro⟨q,h,h2⟩;rcases p_.mp h with e|e
  .subst e;exact .inl h2
  .exact .inr ⟨q,e,h2⟩
 .rintro(h|⟨q,h,h2⟩)
  .exact⟨p,ad,h⟩
  .exact⟨q,by simp[h],h2⟩
def nW:Cov [p] t↔p.1<=t/\t<p.2:=by rw[cov_cons];simp[wy]
noncomputable def tAt(ts:aj)(i:Nat):Int:=ts.getD i 0
noncomputable def Bb(rows:List aj)(i:Int):aj:=rows.getD i.toNat []
def at2(rows:List aj)(i j:Int):Int:=(Bb rows i).getD j.toNat 0
def apS(rows J:List aj)(a b:sJ):Int:=if a.2=b.2 then at2 rows a.1 b.1 else at2 J a.1 b.1
def getT{ts:aj}(h:i<ts.length):jA (ts.map .int) (i:Int)=.ok (.int (tAt ts i)):=by rw[jZ (by simpa using h)];simp[tAt,h]
def uf(g:bN k rows){i:Int}(Y:0<=i)(h1:i<k):jA (rows.map gH) i=.ok (gH (Bb rows i))/\wN k (Bb rows i):=by
 have U:=g.1;have J:i.toNat<rows.length:=ac
 have e:Bb rows i=rows[i.toNat]:=by simp[Bb,J]
 refine⟨?_,by rw[e];exact g.2 _ (EX J)⟩
 have:=jZ (ds:=rows.map gH) (k:=i.toNat) (by simpa using J);rw[show((i.toNat:Nat):Int)=i by omega]at this;rw[this,e];simp
def getA(g:bN k rows){i j:Int}(Y:0<=i)(h1:i<k)(h2:0<=j)(b:j<k):jA ((Bb rows i).map .int) j=.ok (.int (at2 rows i j))/\0<=at2 rows i j:=by
 have U:=(uf g Y h1).2;have a:=U.1;have J:j.toNat<(Bb rows i).length:=ac
 have e:at2 rows i j=(Bb rows i)[j.toNat]:=by simp[at2,J]
 refine⟨?_,by rw[e];exact(U.2 _ (EX J)).1⟩
 rw[getI_int h2 ac,e]
def lookA1(d:A'):DF ("apart":Dy) [(("gaps":Dy),d)]=g_:=by rw[A_,show((("apart":Dy)==("gaps":Dy))=c_)from by decide +kernel];rfl
def lookA2(d e:A'):DF ("apart":Dy) [(("gaps":Dy),d),(("beside":Dy),e)]=g_:=by rw[A_,show((("apart":Dy)==("gaps":Dy))=c_)from by decide +kernel];show DF ("apart":Dy) [(("beside":Dy),e)]=g_;rw[A_,show((("apart":Dy)==("beside":Dy))=c_)from by decide +kernel];rfl
section
variable(CR CP CL CT:i_)
def uT(rows J:List aj):oj [CP] "beside" (ao CR CP rows (aP J))=.ok (aP J):=by
 have h1:((("beside":Dy)==("gaps":Dy))=c_):=by decide +kernel
 have h2:((("beside":Dy)==("beside":Dy))=e_):=by decide +kernel
 show(if ([CP].contains CP)=e_ then(match DF ("beside":Dy) [(("gaps":Dy),aP rows),(("beside":Dy),aP J)]with|some d=>EI d|none=>stk)else stk)=_;rw[s_ ad,A_,h1];show(match DF ("beside":Dy) [(("beside":Dy),aP J)]with|some d=>EI d|none=>stk)=_;rw[A_,h2]
end
section
variable(CR CP CL CT:i_)
def BK(n:Nat)(cs:List sJ)(t:Int)(a:cs.length<=1)(Y:∀p∈cs,p.1<p.2):∃u,cf [.lst (cs.map stD),.int t]=.ok (.int u)/\jn cs t u:=by
 match cs,a with
 |[],_=>
  have e:mw [.lst []]=.ok (.lst []):=rfl;refine⟨t,?_,GP _,wy _,λv h1 h2=>by omega⟩
  simp[cf,fK,bH,dB,e,cp]
 |[p],_=>
  have f:=Y p ad;have e:∀d,mw [.lst [d]]=.ok (.lst [d]):=λd=>rfl;have J:bH [.lst [stD p]]=.ok (.lst [stD p]):=by simp[bH,dB,e,stD,cp,eV,eU]
  simp only[stD]at J;by_cases c:p.1<=t/\t<p.2
  .refine⟨p.2,?_,ac,λz=>by rw[nW]at z;omega,λv h1 h2=>by rw[nW];omega⟩
   simp[cf,fK,J,stD,cp,fm,fj,c.1,c.2]
  .refine⟨t,?_,GP _,λz=>by rw[nW]at z;exact c z,λv h1 h2=>by omega⟩
   by_cases U:p.1<=t
   .have b:¬t<p.2:=λz=>c ⟨U,z⟩;simp[cf,fK,J,stD,cp,fm,fj,U,b]
   .simp[cf,fK,J,stD,cp,fm,fj,U]
end
def late(f:Fli)(t:Int):Int:=f.price*ik 0 (t-f.due)
section
variable(CR CP CL CT:i_)
def C0(n:Nat)(f:Fli)(t:Int)(Y:0<=f.price)(h1:f.price<=1000000000):fF [flD f,.int t]=.ok (.int (late f t)):=by
 have U: -18446744073709551616<f.price:=ac
 have J:f.price<18446744073709551616:=ac
 simp[fF,nF,flD,U,J,late]
end
theorem vG(n:Nat):∀ts:aj,iU (ts.map .int) (n+1)=e_
 |[]=>by simp[iU]|p::cs=>by simp[iU,HS,vG n cs]
structure Gp where
 k:Nat
 rows:List aj
 two:Bool
 r2:List aj
variable{g:Gp}
structure Gp.Good(g:Gp):Prop where
 k1:1<=g.k
 k3:g.k<=2
 rows:bN g.k g.rows
 r2:bN g.k g.r2
def Gp.o(g:Gp):A':=if g.two=e_ then aP g.r2 else .non
noncomputable def Gp.s(g:Gp):Nat:=if g.two=e_ then 2 else 1
noncomputable def tupI(r:aj):A':=.tup (r.map .int)
def jh(L:List aj):A':=.tup (L.map tupI)
def bE(c:Int)(L:List aj):A':=.tup [.int c,jh L]
def mn(s k:Nat)(L:List aj):Prop:=L.length=s/\∀r∈L,r.length=k
def uX(J:Nat->Int):Nat->aj->aj
 |_,[]=>[]|j,x::xs=>if x= -1 then uX J (j+1) xs else(x+J j)::uX J (j+1) xs
def yw(J:Nat->Nat->Int):Nat->List aj->aj
 |_,[]=>[]|i,r::L=>uX (J i) 0 r++yw J (i+1) L
theorem qX(J:Nat->Int):∀(j:Nat) (xs:aj),(uX J j xs).length<=xs.length
 |_,[]=>by simp[uX]|j,x::xs=>by have:=qX J (j+1) xs;unfold uX;split<;>simp<;>omega
theorem yv(J:Nat->Nat->Int)(k:Nat):∀(i:Nat) (L:List aj),(∀r∈L,r.length=k)->(yw J i L).length<=k*L.length
 |i,[],_=>by simp[yw]|i,y::L,h=>by have h1:=yv J k (i+1) L λr U=>h r (by simp[U]);have h2:=qX (J i) 0 y;have Y:=h y ad;rw[yw,Eb,B_,Pu];omega
section
variable(CR CP CL CT:i_)
def gmeth(n:Nat)(i:CR≠CP)(c:g.Good){s b:Int}(e:0<=a)(d:a<g.k)(r:0<=b)(q:b<g.k)(f:g.two=c_->s=t)(fo f1 p:aa->M A')(ρ:aa)(w:fo ρ=.ok (ao CR CP g.rows g.o))(h1:f1 ρ=.ok (.tup [.int a,.int s]))(h2:p ρ=.ok (.tup [.int b,.int t])):
  bS CR CP "apart" (bu CR CP CL CT n) (bf CR CP CL CT n) fo (a9 f1 (a9 p ay)) ρ=.ok (.int (apS g.rows g.r2 (a,s) (b,t))):=by
 obtain⟨m,_⟩:=uf c.rows e d;obtain⟨l,_⟩:=getA c.rows e d r q;unfold bS;rw[w,av];cases h:g.two with
 |false=>
  have U:g.o=.non:=by simp[Gp.o,h]
  have Y:=f h;have k:isC CR "apart" (ao CR CP g.rows g.o)=e_:=by rw[U];show((CR==CR)&&(DF ("apart":Dy) [(("gaps":Dy),aP g.rows)]).isNone)=e_;rw[lookA1];simp
  have J:=kL CR CP g.rows g.o (.inl U);rw[s_ k];simp[h1,h2,bu,gZ,J,aP,m,gH,l,apS,Y]
 |true=>
  have U:g.o=aP g.r2:=by simp[Gp.o,h]
  have k:isC CR "apart" (ao CR CP g.rows g.o)=c_:=by
   rw[U];show((CP==CR)&&(DF ("apart":Dy) [(("gaps":Dy),aP g.rows),(("beside":Dy),aP g.r2)]).isNone)=c_;have:(CP==CR)=c_:=by simp;exact λz=>i z.symm
   rw[this];rfl
  have j:isC CP "apart" (ao CR CP g.rows g.o)=e_:=by rw[U];show((CP==CP)&&(DF ("apart":Dy) [(("gaps":Dy),aP g.rows),(("beside":Dy),aP g.r2)]).isNone)=e_;rw[lookA2];simp
  have J:=kL CR CP g.rows g.o (.inr ⟨_,U⟩);have o:oj [CP] "beside" (ao CR CP g.rows g.o)=.ok (aP g.r2):=by rw[U];exact uT CR CP g.rows g.r2
  obtain⟨v,_⟩:=uf c.r2 e d;obtain⟨u,_⟩:=getA c.r2 e d r q;rw[q_ (by rw[k];simp),s_ j];by_cases Y:s=t
  .simp[h1,h2,bf,eB,J,o,aP,m,gH,l,apS,Y]
  .simp[h1,h2,bf,eB,J,o,aP,v,gH,u,apS,Y]
theorem BX(n:Nat)(d:CR≠CP){g:Gp}(q:g.Good)(b t:Int)(u:0<=b)(r:b<g.k)(J Y:Option A')(i:Nat)(c:g.two=c_->(i:Int)=t):∀(U:aj) (j:Nat) (ts:aj) (f e:Option A'),j+U.length<=g.k->ts.length+U.length<=1000 ->
  ∃k h,cp (.tp [6,7]) (bM CR CP CL CT n) (cY j (U.map .int)) [a_ (ao CR CP g.rows g.o),J,a_ (.tup [.int b,.int t]),a_ (.lst (ts.map .int)),a_ (.int i),Y,f,e]=.ok (.nx [a_ (ao CR CP g.rows g.o),J,a_ (.tup [.int b,.int t]),a_ (.lst ((ts++uX (λj=>apS g.rows g.r2 (j,i) (b,t)) j U).map .int)),a_ (.int i),Y,k,h])
 |[],j,ts,f,e,_,_=>⟨f,e,by simp[cY,cp,uX]⟩|x::U,j,ts,f,e,w,v=>by
  simp only[B_]at w v;by_cases m:x= -1
  .obtain⟨k,h,l⟩:=BX n d q b t u r J Y i c U (j+1) ts (a_ (.int j)) (a_ (.int x)) ac ac;refine⟨k,h,?_⟩
   rw[x_,cY,cp];simp only[uX,s_ m];rw[<- l];simp[bM,dE,m]
  .obtain⟨k,h,l⟩:=BX n d q b t u r J Y i c U (j+1) (ts++[x+apS g.rows g.r2 (j,i) (b,t)]) (a_ (.int j)) (a_ (.int x)) ac (by simp;omega);refine⟨k,h,?_⟩
   have z:=gmeth CR CP CL CT n d q (a:=j) (s:=i) (b:=b) (t:=t) ac ac u r c (ae 0) (fL bG (a9 (ae 6) (a9 (ae 4) ay))) (ae 2) (erase [3] [a_ (ao CR CP g.rows g.o),J,a_ (.tup [.int b,.int t]),a_ (.lst (ts.map .int)),a_ (.int i),Y,a_ (.int j),a_ (.int x)]) (by simp[erase]) (by simp[erase]) (by simp[erase]);have o:ts.length<16777216:=ac
   rw[x_,cY,cp];simp only[uX,q_ m];rw[E4,List.singleton_append]at l;rw[<- l];have y:g9 (.tp [6,7]) (.tup [.int j,.int x]) [a_ (ao CR CP g.rows g.o),J,a_ (.tup [.int b,.int t]),a_ (.lst (ts.map .int)),a_ (.int i),Y,f,e]=.ok [a_ (ao CR CP g.rows g.o),J,a_ (.tup [.int b,.int t]),a_ (.lst (ts.map .int)),a_ (.int i),Y,a_ (.int j),a_ (.int x)]:=by simp
   have p:bM CR CP CL CT n [a_ (ao CR CP g.rows g.o),J,a_ (.tup [.int b,.int t]),a_ (.lst (ts.map .int)),a_ (.int i),Y,a_ (.int j),a_ (.int x)]=.ok (.nx [a_ (ao CR CP g.rows g.o),J,a_ (.tup [.int b,.int t]),a_ (.lst ((ts++[x+apS g.rows g.r2 (j,i) (b,t)]).map .int)),a_ (.int i),Y,a_ (.int j),a_ (.int x)]):=by
    have hv:ae 7 (erase [3] [a_ (ao CR CP g.rows g.o),J,a_ (.tup [.int b,.int t]),a_ (.lst (ts.map .int)),a_ (.int i),Y,a_ (.int j),a_ (.int x)])=.ok (.int x):=by simp[erase]
    have es:gG [3] 3 (f2 j6 (ae 7) (bS CR CP "apart" (bu CR CP CL CT n) (bf CR CP CL CT n) (ae 0) (a9 (fL bG (a9 (ae 6) (a9 (ae 4) ay))) (a9 (ae 2) ay)))) [a_ (ao CR CP g.rows g.o),J,a_ (.tup [.int b,.int t]),a_ (.lst (ts.map .int)),a_ (.int i),Y,a_ (.int j),a_ (.int x)]=.ok (.nx [a_ (ao CR CP g.rows g.o),J,a_ (.tup [.int b,.int t]),a_ (.lst ((ts++[x+apS g.rows g.r2 (j,i) (b,t)]).map .int)),a_ (.int i),Y,a_ (.int j),a_ (.int x)]):=by unfold gG f2;rw[z,hv];simp[ig,put,o,Ey]
    simp[bM,dE,m,-e_appB,es]
   rw[y,av,p];rfl
end
section
variable(CR CP CL CT:i_)
theorem lg_all(n:Nat)(d:CR≠CP){g:Gp}(q:g.Good)(b t:Int)(u:0<=b)(s:b<g.k)(E:0<=t/\t<g.s)(J:Option A'):∀(L:List aj) (i:Nat) (ts:aj) (c a Y U:Option A'),i+L.length<=g.s->(∀r∈L,r.length=g.k)->ts.length+g.k*L.length<=1000 ->
  ∃w v f e,cp (.tp [4,5]) (cu CR CP CL CT n) (cY i (L.map tupI)) [a_ (ao CR CP g.rows g.o),J,a_ (.tup [.int b,.int t]),a_ (.lst (ts.map .int)),c,a,Y,U]=.ok (.nx [a_ (ao CR CP g.rows g.o),J,a_ (.tup [.int b,.int t]),a_ (.lst ((ts++yw (λi j=>apS g.rows g.r2 (j,i) (b,t)) i L).map .int)),w,v,f,e])
 |[],i,ts,c,a,Y,U,_,_,_=>⟨c,a,Y,U,by simp[cY,cp,yw]⟩|r::L,i,ts,c,a,Y,U,hi,m,p=>by
  have F:=m r ad;simp only[B_]at hi p;rw[Pu]at p;have k:g.two=c_->(i:Int)=t:=λh=>by
   have H:g.s=1:=by simp[Gp.s,h]
   omega
  obtain⟨f,e,e1⟩:=BX CR CP CL CT n d q b t u s J (a_ (tupI r)) i k r 0 ts Y U ac ac;have o:=qX (λj=>apS g.rows g.r2 (j,i) (b,t)) 0 r;obtain⟨B,A,z,y,C⟩:=lg_all n d q b t u s E J L (i+1) (ts++uX (λj=>apS g.rows g.r2 (j,i) (b,t)) 0 r) (a_ (.int i)) (a_ (tupI r)) f e ac (λx D=>m x (by simp[D])) (by rw[Eb];omega);refine⟨B,A,z,y,?_⟩
  rw[yw,<- E4,<- C,x_,cY,cp];have G:g9 (.tp [4,5]) (.tup [.int i,tupI r]) [a_ (ao CR CP g.rows g.o),J,a_ (.tup [.int b,.int t]),a_ (.lst (ts.map .int)),c,a,Y,U]=.ok [a_ (ao CR CP g.rows g.o),J,a_ (.tup [.int b,.int t]),a_ (.lst (ts.map .int)),a_ (.int i),a_ (tupI r),Y,U]:=by simp
  have l:cu CR CP CL CT n [a_ (ao CR CP g.rows g.o),J,a_ (.tup [.int b,.int t]),a_ (.lst (ts.map .int)),a_ (.int i),a_ (tupI r),Y,U]=.ok (.nx [a_ (ao CR CP g.rows g.o),J,a_ (.tup [.int b,.int t]),a_ (.lst ((ts++uX (λj=>apS g.rows g.r2 (j,i) (b,t)) 0 r).map .int)),a_ (.int i),a_ (tupI r),f,e]):=by rw[<- e1];simp[cu,tupI]
  rw[G,av,l];rfl
def lg_ok(n:Nat)(J:CR≠CP)(U:g.Good)(b t:Int)(d:0<=b)(c:b<g.k)(a:0<=t/\t<g.s)(Y:mn g.s g.k L):cS CR CP CL CT n [ao CR CP g.rows g.o,jh L,.tup [.int b,.int t]]=.ok (.lst ((yw (λi j=>apS g.rows g.r2 (j,i) (b,t)) 0 L).map .int)):=by
 have k3:=U.k3;have m:g.s<=2:=by unfold Gp.s;split<;>omega
 have o:=Y.1;have p:g.k*L.length<=3*2:=JZ (Ee k3 ag) ac;obtain⟨l,k,h,f,e⟩:=lg_all CR CP CL CT n J U b t d c a (a_ (jh L)) L 0 [] g_ g_ g_ g_ ac Y.2 (by simp;omega);rw[Jv,GA]at e;simp only[jh]at e ⊢;simp[cS,i8,e,-En]
end
noncomputable def m4(L:List aj)(i:Nat):aj:=L.getD i []
def j4{s:Nat}(h:mn s k L)(hi:i<s):m4 L i∈L/\(m4 L i).length=k/\jA (L.map tupI) (i:Int)=.ok (tupI (m4 L i))/\L.take (i+1)=L.take i++[m4 L i]:=by
 have J:i<L.length:=by rw[h.1];exact hi
 have e:m4 L i=L[i]:=by simp[m4,J]
 have m:m4 L i∈L:=by rw[e];exact EX J
 refine⟨m,h.2 _ m,?_,?_⟩
 .rw[jZ (by simpa using J),e];simp
 .rw[NA,C_ J,e];rfl
theorem k9:∀(xs:aj) (x:Int),xs.foldl ik x=x\/xs.foldl ik x∈xs
 |[],x=>.inl rfl|y::xs,x=>by
  rw[D_];have J:ik x y=x\/ik x y=y:=by unfold ik;split<;>omega
  rcases k9 xs (ik x y)with h|h
  .rcases J with z|z
   .exact .inl (h.trans z)
   .exact .inr (by rw[h,z];simp)
  .exact .inr (by simp[h])
def A5(L:List aj)(Y:∀r∈L,r.length<=1000):aS (.nm 0) iL (fL kI (a9 (ae 0) ay)) [g_] (L.map tupI)=.ok (L.map gH):=by
 have h:=cP (p:=.nm 0) (fe:=fL kI (a9 (ae 0) ay)) (ρ0:=[g_]) (λd=>match d with|.tup ds=>.lst ds|d=>d) (L.map tupI) (λd hd=>by
  obtain⟨r,J,rfl⟩:=Ed.mp hd;have U:r.length<=16777216:=by have:=Y r J;omega
  exact⟨[a_ (tupI r)],ad,by simp[tupI,U]⟩)
 rw[h,En];rfl
def D1(L:List aj)(Y:∀r∈L,r.length<=1000):aS (.nm 0) iL (fL lh (a9 (ae 0) ay)) [g_] (L.map gH)=.ok (L.map tupI):=by
 have h:=cP (p:=.nm 0) (fe:=fL lh (a9 (ae 0) ay)) (ρ0:=[g_]) (λd=>match d with|.lst ds=>.tup ds|d=>d) (L.map gH) (λd hd=>by
  obtain⟨r,J,rfl⟩:=Ed.mp hd;have U:r.length<=16777216:=by have:=Y r J;omega
  exact⟨[a_ (gH r)],ad,by simp[gH,U]⟩)
 rw[h,En];rfl
def putL(L:List aj)(i j:Nat)(x:Int):List aj:=L.set i ((m4 L i).set j x)
def jN{s:Nat}(h:mn s k L)(hi:i<s)(x:Int):mn s k (putL L i j x):=by
 refine⟨by unfold putL;rw[DM];exact h.1,λr J=>?_⟩
 unfold putL at J;rcases IG J with z|z
 .exact h.2 r z
 .rw[z,DM];exact(j4 h hi).2.1
def C8(h:i<n):ixN n (i:Int)=a_ i:=by unfold ixN;rw[s_ ac,s_ ac];simp
def mx{s:Nat}(U:mn s k L)(hi:i<s)(a:j<k)(x:Int):rowAt (L.map gH) (i:Int)=.ok (i,(m4 L i).map .int)/\pK (L.map gH) (i,(m4 L i).map .int) (j:Int) (.int x)=.ok ((putL L i j x).map gH):=by
 have J:i<L.length:=by rw[U.1];exact hi
 have e:m4 L i=L[i]:=by simp[m4,J]
 have Y:=(j4 U hi).2.1;constructor
 .unfold rowAt;rw[y_,C8 J];simp[J,e,gH]
 .unfold pK;simp only[y_];rw[C8 ac];unfold putL;simp[List.map_set,gH]
def v7(g:Gp)(L:List aj)(f:Fli)(s:Nat):Int:=(yw (λi j=>apS g.rows g.r2 (j,i) (f.kind,s)) 0 L).foldl ik f.first
def after(g:Gp)(c:Int)(L:List aj)(f:Fli)(s:Nat)(u:Int):A':=if f.last<u then .non else bE (c+late f u) (putL L s f.kind.toNat u)
def mn.short{s:Nat}(h:mn s k L)(U:k<=1000):∀r∈L,r.length<=1000:=λr J=>by rw[h.2 r J];exact U
section
variable(CR CP CL CT:i_)
def lasts_ok(n:Nat){s:Nat}(J:mn s k L)(b:s<=10)(c:k<=10)(hi:i<s)(a:j<k)(x:Int):gj [jh L,.tup [.int j,.int i],.int x]=.ok (jh (putL L i j x)):=by
 have h1:=A5 L (J.short ac);have U:=jN (j:=j) J hi x;have h2:=D1 (putL L i j x) (U.short ac);obtain⟨e1,e2⟩:=mx J hi a x;have l1:L.length<=16777216:=by have:=J.1;omega
 have Y:(putL L i j x).length<=16777216:=by have:=U.1;omega
 simp only[jh];simp[gj,lA,vm,Be,lU,tK,lstOf,asI,h1,l1,e1,e2,h2,Y]
def Dl(n:Nat)(e:CR≠CP)(t:g.Good)(H:cs.length<=1)(l:∀p∈cs,p.1<p.2)(k:∀f∈fl,uW g.k f)(c:Int)(b:mn g.s g.k L){s:Nat}(I:q<fl.length)(E:s<g.s)(C:jn cs (v7 g L (ij fl q) s) u):
  bz CR CP CL CT n [ao CR CP g.rows g.o,.lst (fl.map flD),.lst (cs.map stD),bE c L,.int q,.int s]=.ok (after g c L (ij fl q) s u):=by
 obtain⟨r,F⟩:=vW (fl:=fl) (i:=q) ac ac;have U:=k _ F;have k3:=t.k3;have D:g.s<=2:=by unfold Gp.s;split<;>omega
 have o:=lg_ok CR CP CL CT n e t (ij fl q).kind s U.k0 U.k1 ⟨ac,ac⟩ b;have m:=yv (λi j=>apS g.rows g.r2 (j,i) ((ij fl q).kind,s)) g.k 0 L b.2;have G:g.k*L.length<=3*2:=JZ (Ee k3 ag) (by have:=b.1;omega);obtain⟨v,ev,hv⟩:=BK n cs (v7 g L (ij fl q) s) ac l;have d:=hv.uniq C;subst d;have z:=C0 n (ij fl q) v U.p0 U.p1;obtain⟨a,Y⟩:∃a:Nat,(ij fl q).kind=a:=⟨(ij fl q).kind.toNat,by have:=U.k0;omega⟩
 have y:=lasts_ok n b ac ac E (j:=a) (by have:=U.k1;omega) v;rw[<- Y]at y;have h:(ij fl q).kind.toNat=a:=ac
 unfold v7 at ev;generalize w:yw (λi j=>apS g.rows g.r2 (j,i) ((ij fl q).kind,s)) 0 L=A at o m ev;have B:maxD [.lst (.int (ij fl q).first::A.map .int)]=.ok (.int (A.foldl ik (ij fl q).first)):=by show(bD (((ij fl q).first::A).map .int)).bind maxL=_;rw[dz,av,maxL]
 have x:1+A.length<=16777216:=ac
 unfold after;simp only[flD]at r z;by_cases J:(ij fl q).last<v
 .rw[s_ J];simp[bz,gA,eO,r,bE,o,j6,x,B,ev,J,-xX]
 .rw[q_ J,h];simp[bz,gA,eO,r,bE,o,j6,x,B,ev,J,z,y,-xX]
end
def labP(p:Int×List aj):A':=bE p.1 p.2
def leR:aj->aj->Bool
 |x::xs,y::ys=>z_ (x<=y)&&leR xs ys|_,_=>e_
def leL:List aj->List aj->Bool
 |r::L,t::M=>leR r t&&leL L M|_,_=>e_
def geR(r:aj):Prop:=∀x∈r,-1<=x
def geL(L:List aj):Prop:=∀r∈L,geR r
def nw(p q:Int×List aj):Bool:=z_ (p.1<=q.1)&&leL p.2 q.2
structure Lab(g:Gp)(p:Int×List aj):Prop where
 good:mn g.s g.k p.2
 ge:geL p.2
theorem xB:∀r:aj,leR r r=e_
 |[]=>rfl|x::r=>by simp[leR,xB r]
theorem xC:∀L:List aj,leL L L=e_
 |[]=>rfl|r::L=>by simp[leL,xB r,xC L]
def nw_refl(p:Int×List aj):nw p p=e_:=by simp[nw,xC]
section
variable(CR CP CL CT:i_)
theorem nw_row(n:Nat)(e d c b:Option A'):∀(r t:aj) (U J:Option A'),∃a Y,cp (.tp [4,5]) (dI) (ko (r.map .int) (t.map .int)) [e,d,c,b,U,J]=if leR r t=e_ then .ok (.nx [e,d,c,b,a,Y])else .ok (.rt (.bl c_))
 |[],t,U,J=>⟨U,J,by rw[GA,ko.eq_def];simp[cp,leR]⟩|x::r,[],U,J=>⟨U,J,by rw[GA,x_,ko.eq_def];simp[cp,leR]⟩|x::r,y::t,U,J=>by
  obtain⟨a,Y,f⟩:=nw_row n e d c b r t (a_ (.int x)) (a_ (.int y));refine⟨a,Y,?_⟩
  rw[x_,x_,ko,cp];by_cases h:x<=y
  .have h':¬y<x:=ac
   simp only[leR,h,decide_true,HW];rw[<- f];simp[dI,fV,h']
  .have h':y<x:=ac
   simp[leR,h,dI,fV,h']
theorem BI(n:Nat)(a Y:Option A'):∀(L M:List aj) (c b U J:Option A'),∃g f e d,cp (.tp [2,3]) (dH) (ko (L.map tupI) (M.map tupI)) [a,Y,c,b,U,J]=if leL L M=e_ then .ok (.nx [a,Y,g,f,e,d])else .ok (.rt (.bl c_))
 |[],t,c,b,U,J=>⟨c,b,U,J,by rw[GA,ko.eq_def];simp[cp,leL]⟩|x::r,[],c,b,U,J=>⟨c,b,U,J,by rw[GA,x_,ko.eq_def];simp[cp,leL]⟩|r::L,t::M,c,b,U,J=>by
  obtain⟨j,i,o⟩:=nw_row n a Y (a_ (tupI r)) (a_ (tupI t)) r t U J;obtain⟨g,f,e,d,k⟩:=BI n a Y L M (a_ (tupI r)) (a_ (tupI t)) j i;refine⟨g,f,e,d,?_⟩
  rw[x_,x_,ko,cp];have m:g9 (.tp [2,3]) (.tup [tupI r,tupI t]) [a,Y,c,b,U,J]=.ok [a,Y,a_ (tupI r),a_ (tupI t),U,J]:=by simp
  have l:dH [a,Y,a_ (tupI r),a_ (tupI t),U,J]=if leR r t=e_ then .ok (.nx [a,Y,a_ (tupI r),a_ (tupI t),j,i])else .ok (.rt (.bl c_)):=by rw[<- o];simp[dH,tupI]
  rw[m,av,l];by_cases h:leR r t=e_
  .simp only[leL,h,Ia,HW];exact k
  .simp only[leL,h,Iy];simp
def nw_ok(n:Nat)(p q:Int×List aj):cg [labP p,labP q]=.ok (.bl (nw p q)):=by
 obtain⟨b,a,Y,U,e⟩:=BI n (a_ (labP p)) (a_ (labP q)) p.2 q.2 g_ g_ g_ g_;simp only[labP,bE,jh]at e ⊢;by_cases h:p.1<=q.1
 .have h':¬q.1<p.1:=ac
  by_cases J:leL p.2 q.2=e_
  .rw[s_ J]at e;simp[cg,f7,dG,h',e,nw,h,J]
  .rw[q_ J]at e;simp[cg,f7,dG,h',e,nw,h,J]
 .have h':q.1<p.1:=ac
  simp[cg,f7,dG,h',nw,h]
end
def lookM1(d:A'):DF ("many_strips":Dy) [(("gaps":Dy),d)]=g_:=by rw[A_,show((("many_strips":Dy)==("gaps":Dy))=c_)from by decide +kernel];rfl
def lookM2(d e:A'):DF ("many_strips":Dy) [(("gaps":Dy),d),(("beside":Dy),e)]=g_:=by rw[A_,show((("many_strips":Dy)==("gaps":Dy))=c_)from by decide +kernel];show DF ("many_strips":Dy) [(("beside":Dy),e)]=g_;rw[A_,show((("many_strips":Dy)==("beside":Dy))=c_)from by decide +kernel];rfl
section
variable(CR CP CL CT:i_)
def rM(n:Nat)(U:CR≠CP)(fo:aa->M A')(ρ:aa)(b:fo ρ=.ok (ao CR CP g.rows g.o)):bS CR CP "many_strips" (aC) (aD) fo ay ρ=.ok (.int g.s):=by
 unfold bS;rw[b,av];cases h:g.two with
 |false=>
  have J:g.o=.non:=by simp[Gp.o,h]
  have a:isC CR "many_strips" (ao CR CP g.rows g.o)=e_:=by rw[J];show((CR==CR)&&(DF ("many_strips":Dy) [(("gaps":Dy),aP g.rows)]).isNone)=e_;rw[lookM1];simp
  rw[s_ a];simp[aC,cW,Gp.s,h]
 |true=>
  have J:g.o=aP g.r2:=by simp[Gp.o,h]
  have a:isC CR "many_strips" (ao CR CP g.rows g.o)=c_:=by
   rw[J];show((CP==CR)&&(DF ("many_strips":Dy) [(("gaps":Dy),aP g.rows),(("beside":Dy),aP g.r2)]).isNone)=c_;have:(CP==CR)=c_:=by simp;exact λz=>U z.symm
   rw[this];rfl
  have Y:isC CP "many_strips" (ao CR CP g.rows g.o)=e_:=by rw[J];show((CP==CP)&&(DF ("many_strips":Dy) [(("gaps":Dy),aP g.rows),(("beside":Dy),aP g.r2)]).isNone)=e_;rw[lookM2];simp
  rw[q_ (by rw[a];simp),s_ Y];simp[aD,dD,Gp.s,h]
end
def lookK1(d:A'):DF ("many_kinds":Dy) [(("gaps":Dy),d)]=g_:=by rw[A_,show((("many_kinds":Dy)==("gaps":Dy))=c_)from by decide +kernel];rfl
def lookK2(d e:A'):DF ("many_kinds":Dy) [(("gaps":Dy),d),(("beside":Dy),e)]=g_:=by rw[A_,show((("many_kinds":Dy)==("gaps":Dy))=c_)from by decide +kernel];show DF ("many_kinds":Dy) [(("beside":Dy),e)]=g_;rw[A_,show((("many_kinds":Dy)==("beside":Dy))=c_)from by decide +kernel];rfl
section
variable(CR CP CL CT:i_)
def gkinds(n:Nat)(a:CR≠CP)(d:g.Good)(fo:aa->M A')(ρ:aa)(e:fo ρ=.ok (ao CR CP g.rows g.o)):bS CR CP "many_kinds" (aT CR CP CL CT n) (aT CR CP CL CT n) fo ay ρ=.ok (.int g.k):=by
 have Y:=d.rows.1;unfold bS;rw[e,av];cases h:g.two with
 |false=>
  have U:g.o=.non:=by simp[Gp.o,h]
  have c:isC CR "many_kinds" (ao CR CP g.rows g.o)=e_:=by rw[U];show((CR==CR)&&(DF ("many_kinds":Dy) [(("gaps":Dy),aP g.rows)]).isNone)=e_;rw[lookK1];simp
  have J:=kL CR CP g.rows g.o (.inl U);rw[s_ c];simp[aT,dC,J,aP,Y]
 |true=>
  have U:g.o=aP g.r2:=by simp[Gp.o,h]
  have c:isC CR "many_kinds" (ao CR CP g.rows g.o)=c_:=by
   rw[U];show((CP==CR)&&(DF ("many_kinds":Dy) [(("gaps":Dy),aP g.rows),(("beside":Dy),aP g.r2)]).isNone)=c_;have:(CP==CR)=c_:=by simp;exact λz=>a z.symm
   rw[this];rfl
  have b:isC CP "many_kinds" (ao CR CP g.rows g.o)=e_:=by rw[U];show((CP==CP)&&(DF ("many_kinds":Dy) [(("gaps":Dy),aP g.rows),(("beside":Dy),aP g.r2)]).isNone)=e_;rw[lookK2];simp
  have J:=kL CR CP g.rows g.o (.inr ⟨_,U⟩);rw[q_ (by rw[c];simp),s_ b];simp[aT,dC,J,aP,Y]
def L0(g:Gp):List aj:=Eh g.s (Eh g.k (-1))
def Dt(g:Gp):mn g.s g.k (L0 g):=⟨by simp[L0],λr J=>by rw[Hq J];simp⟩
def Cp(n:Nat)(Y:CR≠CP)(b:g.Good):gV CR CP CL CT n [ao CR CP g.rows g.o]=.ok (bE 0 (L0 g)):=by
 have k3:=b.k3;have j:g.s<=2:=by unfold Gp.s;split<;>omega
 have ek:=gkinds CR CP CL CT n Y b (ae 0) [a_ (ao CR CP g.rows g.o),g_] ad;have es:=rM CR CP n Y (g:=g) (ae 0) [a_ (ao CR CP g.rows g.o),a_ (tupI (Eh g.k (-1)))] ad;have k1: -4611686018427387904<=(g.k:Int):=ac
 have k2:(g.k:Int)<4611686018427387904:=ac
 have j1: -4611686018427387904<=(g.s:Int):=ac
 have i:(g.s:Int)<4611686018427387904:=ac
 have c:aS (.nm 0) iL (f1 negD (fC (.int 1))) [g_] (aJ 0 g.k)=.ok ((Eh g.k (-1)).map A'.int):=by have:=cP (p:=.nm 0) (fe:=f1 negD (fC (.int 1))) (ρ0:=[g_]) (λ_=>.int (-1)) (aJ 0 g.k) (λd _=>⟨[a_ d],ad,ad⟩);rw[this,Oq,fq,Nd]
 have m:∀d:A',aS (.nm 0) iL (ae 1) [g_,a_ d] (aJ 0 g.s)=.ok (Eh g.s d):=λd=>by have:=cP (p:=.nm 0) (fe:=ae 1) (ρ0:=[g_,a_ d]) (λ_=>d) (aJ 0 g.s) (λe _=>⟨[a_ e,a_ d],ad,ad⟩);rw[this,Oq,fq]
 have l1:(aJ 0 g.k).length<=16777216:=by rw[fq];omega
 have h:(aJ 0 g.s).length<=16777216:=by rw[fq];omega
 have o:g.k<=16777216:=ac
 have f:g.s<=16777216:=ac
 have e1:b6 2 1 (gX CR CP CL CT n) [ao CR CP g.rows g.o]=.ok (bE 0 (L0 g)):=by
  have J:=m (tupI (Eh g.k (-1)));simp only[tupI]at J es;have l:jh (L0 g)=.tup (Eh g.s (.tup ((Eh g.k (-1)).map A'.int))):=by simp[jh,L0,tupI]
  rw[bE,l];generalize k:(Eh g.k (-1)).map A'.int=a at c J es ⊢;have U:a.length<=16777216:=by rw[<- k];simp;omega
  simp[gX,ek,k1,k2,l1,c,U,es,j1,i,h,J,f,-Nd]
 exact e1
end
def nx(cs:List sJ)(t:Int):Int:=open Classical in if h:∃u,jn cs t u then h.choose else 0
def nx_eq(h:jn cs t u):nx cs t=u:=by
 have J:∃u,jn cs t u:=⟨u,h⟩
 unfold nx;rw[dif_pos J];exact J.choose_spec.uniq h
structure V where
 g:Gp
 fl:List Fli
 cs:List sJ
structure V.Good(v:V):Prop where
 g:v.g.Good
 fl:∀f∈v.fl,uW v.g.k f
 many:v.fl.length<=40
 cs:v.cs.length<=1
 st:∀p∈v.cs,p.1<p.2
def V.f(v:V)(i:Nat):Fli:=ij v.fl i
def V.Good.fAt(hv:v.Good)(h:i<v.fl.length):jA (v.fl.map flD) (i:Int)=.ok (flD (v.f i))/\uW v.g.k (v.f i):=by obtain⟨h1,h2⟩:=vW (fl:=v.fl) (i:=(i:Int)) ac ac;exact⟨h1,hv.fl _ h2⟩
def V.bt(v:V)(l:LK)(q s:Nat):Int:=nx v.cs (v7 v.g l.2 (v.f q) s)
def V.beh(v:V)(l:LK)(q s:Nat):Option LK:=if (v.f q).last<v.bt l q s then g_ else a_ (l.1+late (v.f q) (v.bt l q s),putL l.2 s (v.f q).kind.toNat (v.bt l q s))
def labO:Option LK->A'
 |none=>.non|some l=>Lake.bE l
def labD_eq(l:LK):Lake.bE l=bE l.1 l.2:=rfl
section
variable(CR CP CL CT:i_)
def nextV(n:Nat)(hv:v.Good)(t:Int):cf [.lst (v.cs.map stD),.int t]=.ok (.int (nx v.cs t))/\jn v.cs t (nx v.cs t):=by obtain⟨u,e,h⟩:=BK n v.cs t hv.cs hv.st;rw[nx_eq h];exact⟨e,h⟩
end
def V.Good.nxt(hv:v.Good)(t:Int):jn v.cs t (nx v.cs t):=(nextV 0 hv t).2
section
variable(CR CP CL CT:i_)
def behV(n:Nat)(J:CR≠CP)(hv:v.Good)(a:Lab v.g l){s:Nat}(Y:q<v.fl.length)(U:s<v.g.s):
  bz CR CP CL CT n [ao CR CP v.g.rows v.g.o,.lst (v.fl.map flD),.lst (v.cs.map stD),Lake.bE l,.int q,.int s]=.ok (labO (v.beh l q s)):=by
 have e:=Dl CR CP CL CT n J hv.g hv.cs hv.st hv.fl l.1 a.good Y U (hv.nxt (v7 v.g l.2 (ij v.fl q) s));rw[labD_eq,e];unfold after V.beh V.bt V.f;by_cases c:(ij v.fl q).last<nx v.cs (v7 v.g l.2 (ij v.fl q) s)
 .rw[s_ c,s_ c];rfl
 .rw[q_ c,q_ c];rfl
end
def V.Good.bt_ge(hv:v.Good)(l:LK)(s:Nat)(J:q<v.fl.length):0<=v.bt l q s:=by have h1:=(hv.nxt (v7 v.g l.2 (v.f q) s)).1;have h2:(v.f q).first<=v7 v.g l.2 (v.f q) s:=(Lake.fold_max _ _).2.1;have U:=(hv.fAt J).2.f0;unfold V.bt;omega
def mem_setI{r:aj}{y:Int}(h:y∈r.set j x):y∈r\/y=x:=IG h
def V.Good.beh_lab(hv:v.Good){b:LK}(J:Lab v.g l){s:Nat}(e:q<v.fl.length)(c:s<v.g.s)(h:v.beh l q s=a_ b):Lab v.g b:=by
 unfold V.beh at h;split at h
 .cases h
 .cases h;refine⟨jN J.good c _,λr d x U=>?_⟩
  have f:=hv.bt_ge l s e;have Y:r∈l.2.set s ((m4 l.2 s).set (v.f q).kind.toNat (v.bt l q s)):=d;rcases IG Y with z|z
  .exact J.ge r z x U
  .rw[z]at U;rcases mem_setI U with a|a
   .exact J.ge _ (j4 J.good c).1 x a
   .omega
def V.l0(v:V):LK:=(0,L0 v.g)
def V.C6(v:V):Lab v.g v.l0:=⟨Dt v.g,λr U x J=>by have h1:r∈Eh v.g.s (Eh v.g.k (-1)):=U;rw[Hq h1]at J;rw[Hq J];exact GP _⟩
abbrev Pap:=List (aj×aG)
noncomputable def look(P:Pap)(b:aj):aG:=((P.find? λp=>z_ (p.1=b)).map (·.2)).getD []
def nO(J:aG):A':=.lst (J.map Lake.bE)
def km(P:Pap):List (aj×A'):=P.map λp=>(p.1,nO p.2)
theorem jY(b:aj):∀P:Pap,(vV (km P) b).getD (.lst [])=nO (look P b)
 |[]=>rfl|p::P=>by
  have J:=jY b P;unfold vV look km at *;rw[x_,GV,GV];by_cases c:p.1=b
  .simp[c]
  .simp only[c,KY];exact J
def has_dicP(b:aj)(P:Pap):(vV (km P) b).isSome=z_ (b∈P.map (·.1)):=by
 induction P with
 |nil=>rfl|cons p P J=>
  unfold vV km at *;rw[x_,GV];by_cases c:p.1=b
  .simp[c]
  .simp only[c,KY];rw[J];have:¬b=p.1:=λz=>c z.symm;simp[this]
def put_dicP(b:aj)(P:Pap)(J:aG)(h:b∉P.map (·.1)):j9 (km P) b (nO J)=km (P++[(b,J)]):=by unfold j9;rw[has_dicP,q_ (by simpa using h)];simp[km]
def xy(P Q:Pap)(b:aj):look (P++Q) b=if b∈P.map (·.1)then look P b else look Q b:=by
 unfold look;rw[List.find?_append]
 induction P with
 |nil=>simp|cons p P J=>
  rw[GV];by_cases c:p.1=b
  .simp[c]
  .have:¬b=p.1:=λz=>c z.symm;simp only[c,KY,x_,p_,this,false_or];exact J
def u7{P:Pap}(h:b∉P.map (·.1)):look P b=[]:=by
 unfold look;rw[List.find?_eq_none.mpr]
 .rfl
 .intro x J;simp only[DX];exact λz=>h (Ed.mpr ⟨x,J,z⟩)
def V.add(v:V)(l:LK)(q:Nat)(ks:aG)(s:Nat):aG:=match v.beh l q s with
 |none=>ks|some J=>Lake.putL ks J
def V.Dq(v:V)(q:Nat)(ks:aG)(l:LK):aG:=(DR v.g.s).foldl (v.add l q) ks
def V.Aj(v:V)(P:Pap)(ks:aG)(x:aj×Nat):aG:=(look P x.1).foldl (v.Dq x.2) ks
noncomputable def smL(b:aj):List (aj×Nat):=(DR b.length).map λi=>(b.eraseIdx i,(b.getD i 0).toNat)
def V.sF(v:V)(P:Pap)(b:aj):aG:=(smL b).foldl (v.Aj P) []
def putL_mem{ks:aG}{k x:LK}:x∈Lake.putL ks k↔x∈ks\/x=k:=by
 unfold Lake.putL;split
 .rename_i h;constructor
  .exact .inl
  .rintro(z|z)
   .exact z
   .rw[z];simpa using h
 .simp
theorem V.Dp(v:V){l x:LK}{q:Nat}:∀(J:aF) (ks:aG),x∈J.foldl (v.add l q) ks↔x∈ks\/∃s∈J,v.beh l q s=a_ x
 |[],ks=>by simp|s::J,ks=>by
  rw[D_,v.Dp J];unfold V.add;cases e:v.beh l q s with
  |none=>
   constructor
   .rintro(h|⟨s',h1,h2⟩)
    .exact .inl h
    .exact .inr ⟨s',by simp[h1],h2⟩
   .rintro(h|⟨s',h1,h2⟩)
    .exact .inl h
    .rcases p_.mp h1 with z|z
     .rw[z,e]at h2;cases h2
     .exact .inr ⟨s',z,h2⟩
  |some U=>
   simp only[putL_mem];constructor
   .rintro((h|h)|⟨s',h1,h2⟩)
    .exact .inl h
    .exact .inr ⟨s,ad,by rw[e,h]⟩
    .exact .inr ⟨s',by simp[h1],h2⟩
   .rintro(h|⟨s',h1,h2⟩)
    .exact .inl (.inl h)
    .rcases p_.mp h1 with z|z
     .rw[z,e]at h2;cases h2;exact .inl (.inr rfl)
     .exact .inr ⟨s',z,h2⟩
theorem V.yz(v:V){x:LK}{q:Nat}:∀(J ks:aG),x∈J.foldl (v.Dq q) ks↔x∈ks\/∃l∈J,∃s,s<v.g.s/\v.beh l q s=a_ x
 |[],ks=>by simp|l::J,ks=>by
  rw[D_,v.yz J];unfold V.Dq;rw[v.Dp];constructor
  .rintro((h|⟨s,h1,h2⟩)|⟨U,h1,h2⟩)
   .exact .inl h
   .exact .inr ⟨l,ad,s,EV.mp h1,h2⟩
   .exact .inr ⟨U,by simp[h1],h2⟩
  .rintro(h|⟨U,h1,s,h2,Y⟩)
   .exact .inl (.inl h)
   .rcases p_.mp h1 with z|z
    .exact .inl (.inr ⟨s,EV.mpr h2,by rw[<- z];exact Y⟩)
    .exact .inr ⟨U,z,s,h2,Y⟩
theorem V.yx(v:V){P:Pap}{x:LK}:∀(xs:List (aj×Nat)) (ks:aG),x∈xs.foldl (v.Aj P) ks↔x∈ks\/∃p∈xs,∃l∈look P p.1,∃s,s<v.g.s/\v.beh l p.2 s=a_ x
 |[],ks=>by simp|p::xs,ks=>by
  rw[D_,v.yx xs];unfold V.Aj;rw[v.yz];constructor
  .rintro((h|h)|⟨J,h1,h2⟩)
   .exact .inl h
   .exact .inr ⟨p,ad,h⟩
   .exact .inr ⟨J,by simp[h1],h2⟩
  .rintro(h|⟨J,h1,h2⟩)
   .exact .inl (.inl h)
   .rcases p_.mp h1 with z|z
    .exact .inl (.inr (by rw[<- z];exact h2))
    .exact .inr ⟨J,z,h2⟩
def V.mM(v:V){P:Pap}{x:LK}:x∈v.sF P b↔∃i,i<b.length/\∃l∈look P (b.eraseIdx i),∃s,s<v.g.s/\v.beh l (b.getD i 0).toNat s=a_ x:=by
 unfold V.sF;rw[v.yx];constructor
 .rintro(h|⟨p,h1,h2⟩)
  .cases h
  .obtain⟨i,hi,rfl⟩:=Ed.mp h1;exact⟨i,EV.mp hi,h2⟩
 .rintro⟨i,hi,h⟩;exact .inr ⟨_,Ed.mpr ⟨i,EV.mpr hi,rfl⟩,h⟩
def putL_len(ks:aG)(k:LK):(Lake.putL ks k).length<=ks.length+1:=by unfold Lake.putL;split<;>simp
theorem V.sH(v:V)(l:LK)(q:Nat):∀(J:aF) (ks:aG),(J.foldl (v.add l q) ks).length<=ks.length+J.length
 |[],ks=>by simp|s::J,ks=>by
  rw[D_];have h1:=v.sH l q J (v.add l q ks s);have h2:(v.add l q ks s).length<=ks.length+1:=by
   unfold V.add;split
   .omega
   .exact putL_len _ _
  simp only[B_];omega
theorem V.sI(v:V)(q:Nat):∀(J ks:aG),(J.foldl (v.Dq q) ks).length<=ks.length+v.g.s*J.length
 |[],ks=>by simp|l::J,ks=>by
  rw[D_];have h1:=v.sI q J (v.Dq q ks l);have h2:(v.Dq q ks l).length<=ks.length+v.g.s:=by have:=v.sH l q (DR v.g.s) ks;rw[G4]at this;exact this
  rw[B_,K2];omega
theorem V.yy(v:V)(P:Pap)(N:Nat):∀(xs:List (aj×Nat)) (ks:aG),(∀p∈xs,(look P p.1).length<=N)->(xs.foldl (v.Aj P) ks).length<=ks.length+v.g.s*N*xs.length
 |[],ks,_=>by simp|p::xs,ks,h=>by
  rw[D_];have h1:=v.yy P N xs (v.Aj P ks p) λq J=>h q (by simp[J]);have h2:(v.Aj P ks p).length<=ks.length+v.g.s*N:=by have Y:=v.sI p.2 (look P p.1) ks;have U:=Nc v.g.s (h p ad);unfold V.Aj;omega
  rw[B_,K2];omega
def Gp.s2(g:Gp):1<=g.s/\g.s<=2:=by unfold Gp.s;split<;>omega
def gJ(J:aG)(l:LK):aG:=if J.any (λx=>nw x l)=e_ then J else J++[l]
def l7(ks:aG):aG:=(dU ltL ks).foldl gJ []
theorem rK:∀(U J:aG) (x:LK),x∈J->x∈U.foldl gJ J
 |[],J,x,h=>h|l::U,J,x,h=>rK U _ x (by
   unfold gJ;split
   .exact h
   .simp[h])
theorem xH:∀(U J:aG) (x:LK),x∈U.foldl gJ J->x∈J\/x∈U
 |[],J,x,h=>.inl h|l::U,J,x,h=>by
  rcases xH U _ x h with z|z
  .unfold gJ at z;split at z
   .exact .inl z
   .rcases FR.mp z with y|y
    .exact .inl y
    .exact .inr (by simp at y;simp[y])
  .exact .inr (by simp[z])
theorem xJ:∀(U J:aG) (x:LK),x∈U->∃y∈U.foldl gJ J,nw y x=e_
 |l::U,J,x,h=>by
  rcases p_.mp h with z|z
  .subst z;rw[D_];by_cases c:J.any (λy=>nw y x)=e_
   .obtain⟨y,Y,e⟩:=NW.mp c;exact⟨y,rK U _ y (by unfold gJ;rw[s_ c];exact Y),e⟩
   .exact⟨x,rK U _ x (by unfold gJ;rw[q_ c];simp),nw_refl x⟩
  .exact xJ U _ x z
theorem xI:∀(U J:aG),(U.foldl gJ J).length<=J.length+U.length
 |[],J=>by simp|l::U,J=>by
  rw[D_];have h1:=xI U (gJ J l);have h2:(gJ J l).length<=J.length+1:=by unfold gJ;split<;>simp
  rw[B_];omega
def best_mem{ks:aG}{x:LK}(h:x∈l7 ks):x∈ks:=by
 rcases xH _ _ _ h with z|z
 .cases z
 .exact(d7 ks).mem_iff.mp z
def best_cov{ks:aG}{x:LK}(h:x∈ks):∃y∈l7 ks,nw y x=e_:=xJ _ _ _ ((d7 ks).mem_iff.mpr h)
def best_len(ks:aG):(l7 ks).length<=ks.length:=by have h:=xI (dU ltL ks) [];rw[(d7 ks).length_eq]at h;simpa[l7] using h
section
variable(CR CP CL CT:i_)
theorem xP(n:Nat)(J:Option A')(l:LK):∀(U:aG) (Y:Option A'),(U.any (λx=>nw x l)=e_/\cp (.nm 2) (bo) (U.map Lake.bE) [J,a_ (Lake.bE l),Y]=.ok (.rt (.bl e_)))\/(U.any (λx=>nw x l)=c_/\∃d,cp (.nm 2) (bo) (U.map Lake.bE) [J,a_ (Lake.bE l),Y]=.ok (.nx [J,a_ (Lake.bE l),d]))
 |[],Y=>.inr ⟨rfl,Y,rfl⟩|x::U,Y=>by
  have e:cg [Lake.bE x,Lake.bE l]=.ok (.bl (nw x l)):=nw_ok n x l;rw[x_,cp,oX,av];simp only[Fb,E_,List.any_cons];by_cases c:nw x l=e_
  .left;rw[c]at e;refine⟨by simp[c],?_⟩
   have a:bo [J,a_ (Lake.bE l),a_ (Lake.bE x)]=.ok (.rt (.bl e_)):=by simp[bo,eP,e]
   rw[a];rfl
  .have b:nw x l=c_:=by simpa using c
   rw[b]at e;have a:bo [J,a_ (Lake.bE l),a_ (Lake.bE x)]=.ok (.nx [J,a_ (Lake.bE l),a_ (Lake.bE x)]):=by simp[bo,eP,e]
   rw[a,av,b,Bool.false_or];exact xP n J l U (a_ (Lake.bE x))
def has_ok(n:Nat)(J:aG)(l:LK):cM [nO J,Lake.bE l]=.ok (.bl (J.any λx=>nw x l)):=by
 unfold nO;rcases xP n (a_ (.lst (J.map Lake.bE))) l J g_ with⟨h1,h2⟩|⟨h1,U,h2⟩
 .simp[cM,gB,h1,h2]
 .simp[cM,gB,h1,h2]
theorem uR(n:Nat)(U:Option A'):∀(Y J:aG) (a:Option A'),J.length+Y.length<16777216->∃b,cp (.nm 2) (bZ) (Y.map Lake.bE) [U,a_ (nO J),a]=.ok (.nx [U,a_ (nO (Y.foldl gJ J)),b])
 |[],J,a,_=>⟨a,rfl⟩|l::Y,J,a,h=>by
  rw[B_]at h;have e:=has_ok n J l;have g:J.length<16777216:=ac
  have j:(gJ J l).length<=J.length+1:=by unfold gJ;split<;>simp
  obtain⟨b,f⟩:=uR n U Y (gJ J l) (a_ (Lake.bE l)) ac;refine⟨b,?_⟩
  rw[x_,cp,oX,av,D_,<- f];simp only[Fb,E_];by_cases c:J.any (λx=>nw x l)=e_
  .rw[c]at e;have d:bZ [U,a_ (nO J),a_ (Lake.bE l)]=.ok (.nx [U,a_ (nO (gJ J l)),a_ (Lake.bE l)]):=by
    unfold gJ;rw[s_ c];unfold nO at *;simp[bZ,fW,e]
   rw[d,av]
  .have i:J.any (λx=>nw x l)=c_:=by simpa using c
   rw[i]at e;have d:bZ [U,a_ (nO J),a_ (Lake.bE l)]=.ok (.nx [U,a_ (nO (gJ J l)),a_ (Lake.bE l)]):=by unfold gJ;rw[q_ c];unfold nO at *;simp[bZ,fW,e,g]
   rw[d,av]
def best_ok(n:Nat)(ks:aG)(h:ks.length<3):eZ [.dil ks]=.ok (nO (l7 ks)):=by obtain⟨U,e⟩:=uR n (a_ (.dil ks)) (dU ltL ks) [] g_ (by rw[(d7 ks).length_eq];simp;omega);have J:nO []=.lst []:=rfl;rw[J]at e;have es:qM [.dil ks]=.ok (.lst ((dU ltL ks).map Lake.bE)):=s_ h;simp[eZ,k8,es,e,l7]
end
theorem yo{α:Type}{p:Pat}{fe:aa->M A'}{ρ0:aa}(g f:α->A'):∀(L:List α),(∀x∈L,∃ρ,g9 p (g x) ρ0=.ok ρ/\fe ρ=.ok (f x))->aS p iL fe ρ0 (L.map g)=.ok (L.map f)
 |[],_=>rfl|d::ds,h=>by obtain⟨ρ,e1,e2⟩:=h d ad;rw[x_,aS,e1];simp only[av,iL,e2,yo g f ds λx J=>h x (by simp[J])];simp
theorem kQ:∀(b:aj) (j:Nat),cY j (b.map .int)=(DR b.length).map λi=>A'.tup [.int ((j+i:Nat):Int),.int (b.getD i 0)]
 |[],_=>rfl|x::b,j=>by
  rw[x_,cY,kQ b (j+1),B_,Jo,x_,En]
  congr 1
  refine Hl λi _=>?_;simp only[ND];have:j+1+i=j+(i+1):=ac
  rw[this];rfl
def pH(CR CP CL CT:i_)(n:Nat)(b:aj)(g:b.length<=100):bj [cU b]=.ok (.lst ((DR b.length).map λi=>A'.tup [cU (b.eraseIdx i),.int (b.getD i 0)])):=by
 have c:aS (.tp [0,1]) iL (fL bG (a9 (f2 j6 (fSl gF (ae 2) tX (lV (ae 0))) (fSl gF (ae 2) (lV (f2 j6 (ae 0) (fC (.int 1)))) tX)) (a9 (ae 1) ay))) [g_,g_,a_ (cU b)] (cY 0 (b.map .int))=.ok ((DR b.length).map λi=>A'.tup [cU (b.eraseIdx i),.int (b.getD i 0)]):=by
  rw[kQ];refine yo _ _ _ λi hi=>?_;have hi:=EV.mp hi;refine⟨[a_ (.int ((0+i:Nat):Int)),a_ (.int (b.getD i 0)),a_ (cU b)],ad,?_⟩
  have f:cX (b.map A'.int).length 0 g_=0:=rfl;have e:cX (b.map A'.int).length (b.map A'.int).length (a_ ((0+i:Nat):Int))=i:=by simp only[cX];rw[q_ ac,y_];omega
  have d:cX (b.map A'.int).length 0 (a_ (((0+i:Nat):Int)+1))=i+1:=by simp only[cX];rw[q_ ac,y_];omega
  have a:gF (cU b) g_ (a_ ((0+i:Nat):Int))=.ok (.tup ((b.take i).map .int)):=by unfold cU gF;simp only[];rw[f,e,q_ (by simp;omega)];rw[cut_take _ ac];simp
  have Y:gF (cU b) (a_ (((0+i:Nat):Int)+1)) g_=.ok (.tup ((b.drop (i+1)).map .int)):=by
   unfold cU gF;simp only[];rw[d,q_ ad];rw[cut_drop _ ac];have:(((0+i:Nat):Int)+1).toNat=i+1:=ac
   rw[this];simp
  have l1:((b.take i).map A'.int).length+((b.drop (i+1)).map A'.int).length<=16777216:=by simp;omega
  simp only[e_L,e_cons,e_2,e_slF,e_varS,e_var0,e_pNone,e_pSome,e_c,av,e_asI,a,j6,Y,Ey,l1,Ia,e_nil];simp[bG,cU,List.eraseIdx_eq_take_drop_succ,Ey]
 have J:(cY 0 (b.map A'.int)).length<=16777216:=by rw[kQ];simp;omega
 have U:jj (cU b)=.ok (b.map .int):=rfl;simp[bj,i7,U,J,c]
def cV(lo:Int)(m:Nat):aJ lo (m+1)=.int lo::aJ (lo+1) m:=by
 unfold aJ;rw[Jo,x_,En]
 congr 1
 .simp
 .refine Hl λk _=>?_;simp only[ND]
  congr 1
  omega
def pU(b:aj):nB (cU b)=.ok b:=by unfold cU nB;simp[dz]
def Labs(v:V)(P:Pap):Prop:=∀b,∀l∈look P b,Lab v.g l
def notN_lab(l:LK):zq (Lake.bE l) .non=.ok (.bl e_):=rfl
def notN_non:zq .non .non=.ok (.bl c_):=rfl
section
variable(CR CP CL CT:i_)
@[reducible] def evB(v:V)(P:Pap)(c:Option A')(ks:aG)(b a Y U J:Option A'):aa:=[a_ (ao CR CP v.g.rows v.g.o),a_ (.lst (v.fl.map flD)),a_ (.lst (v.cs.map stD)),a_ (.dic (km P)),c,a_ (.dil ks),b,a,Y,U,J]
theorem pF(n:Nat)(a:CR≠CP){v:V}(hv:v.Good)(P:Pap)(b Y:Option A'){l:LK}(m:Lab v.g l){q:Nat}(k:q<v.fl.length):∀(r j:Nat) (ks:aG) (c J:Option A'),j+r=v.g.s->ks.length+r<16777216->∃d U,
  cp (.nm 9) (bY CR CP CL CT n) (aJ (j:Int) r) (evB CR CP v P b ks Y (a_ (.int q)) (a_ (Lake.bE l)) c J)=.ok (.nx (evB CR CP v P b ((MB j r).foldl (v.add l q) ks) Y (a_ (.int q)) (a_ (Lake.bE l)) d U))
 |0,j,ks,c,J,_,_=>⟨c,J,rfl⟩|r+1,j,ks,c,J,h,w=>by
  have e:=behV CR CP CL CT n a hv m k (s:=j) ac;have u:(v.add l q ks j).length<=ks.length+1:=v.sH l q [j] ks;obtain⟨d,U,i⟩:=pF n a hv P b Y m k r (j+1) (v.add l q ks j) (a_ (.int j)) (a_ (labO (v.beh l q j))) ac ac;refine⟨d,U,?_⟩
  have g:ks.length<16777216:=ac
  have p:bY CR CP CL CT n (evB CR CP v P b ks Y (a_ (.int q)) (a_ (Lake.bE l)) (a_ (.int j)) J)=.ok (.nx (evB CR CP v P b (v.add l q ks j) Y (a_ (.int q)) (a_ (Lake.bE l)) (a_ (.int j)) (a_ (labO (v.beh l q j))))):=by
   unfold V.add;cases o:v.beh l q j with
   |none=>rw[o]at e;simp only[labO]at e ⊢;simp[bY,dX,e,notN_non]|some t=>rw[o]at e;simp only[labO]at e ⊢;have f:=rG t;simp[bY,dX,e,notN_lab,mW,uA,f,isTr,g,-e_notN]
  rw[cV,cp,oX,av,NR,D_];simp only[evB,Fb,E_]at p i ⊢;rw[p,av];exact i
theorem pR(n:Nat)(b:CR≠CP){v:V}(hv:v.Good)(P:Pap)(c a:Option A'){q:Nat}(s:q<v.fl.length):∀(d:aG) (ks:aG) (i U J:Option A'),(∀l∈d,Lab v.g l)->ks.length+v.g.s*d.length<16777216->∃k j Y,
  cp (.nm 8) (cE CR CP CL CT n) (d.map Lake.bE) (evB CR CP v P c ks a (a_ (.int q)) i U J)=.ok (.nx (evB CR CP v P c (d.foldl (v.Dq q) ks) a (a_ (.int q)) k j Y))
 |[],ks,i,U,J,_,_=>⟨i,U,J,rfl⟩|l::d,ks,i,U,J,h,x=>by
  rw[B_,K2]at x;obtain⟨B,A⟩:=v.g.s2;have w:(v.Dq q ks l).length<=ks.length+v.g.s:=by have:=v.sH l q (DR v.g.s) ks;rw[G4]at this;exact this
  obtain⟨p,f,e⟩:=pF CR CP CL CT n b hv P c a (h l ad) s v.g.s 0 ks U J ac ac;obtain⟨k,j,Y,r⟩:=pR n b hv P c a s d (v.Dq q ks l) (a_ (Lake.bE l)) p f (λm u=>h m (by simp[u])) ac;refine⟨k,j,Y,?_⟩
  have o:=rM CR CP n b (g:=v.g) (ae 0) [a_ (ao CR CP v.g.rows v.g.o),a_ (.lst (v.fl.map flD)),a_ (.lst (v.cs.map stD)),a_ (.dic (km P)),c,g_,a,a_ (.int q),a_ (Lake.bE l),U,J] ad;have k1:(-4611686018427387904:Int)<=(v.g.s:Int):=ac
  have k2:(v.g.s:Int)<4611686018427387904:=ac
  have z:((0:Nat):Int)=0:=rfl;have y:MB 0 v.g.s=DR v.g.s:=by rw[MA]
  rw[z,y]at e;have t:cE CR CP CL CT n (evB CR CP v P c ks a (a_ (.int q)) (a_ (Lake.bE l)) U J)=.ok (.nx (evB CR CP v P c (v.Dq q ks l) a (a_ (.int q)) (a_ (Lake.bE l)) p f)):=by unfold V.Dq;simp only[evB]at e ⊢;simp[cE,o,k1,k2,e]
  rw[x_,cp,oX,av,D_];simp only[evB,Fb,E_]at t r ⊢;rw[t,av];exact r
def smD(x:aj×Nat):A':=.tup [cU x.1,.int x.2]
theorem pI(n:Nat)(i:CR≠CP){v:V}(hv:v.Good)(P:Pap)(q:Labs v P)(N:Nat)(a:Option A'):∀(xs:List (aj×Nat)) (ks:aG) (f d Y U J:Option A'),(∀x∈xs,x.2<v.fl.length/\(look P x.1).length<=N)->ks.length+v.g.s*N*xs.length<16777216->∃m l k j b,
  cp (.tp [6,7]) (cD CR CP CL CT n) (xs.map smD) (evB CR CP v P a ks f d Y U J)=.ok (.nx (evB CR CP v P a (xs.foldl (v.Aj P) ks) m l k j b))
 |[],ks,f,d,Y,U,J,_,_=>⟨f,d,Y,U,J,rfl⟩|x::xs,ks,f,d,Y,U,J,h,u=>by
  rw[B_,K2]at u;obtain⟨h1,h2⟩:=h x ad;have A:=Nc v.g.s h2;have t:(v.Aj P ks x).length<=ks.length+v.g.s*N:=by have B:=v.sI x.2 (look P x.1) ks;unfold V.Aj;omega
  obtain⟨p,o,g,e⟩:=pR CR CP CL CT n i hv P a (a_ (cU x.1)) h1 (look P x.1) ks Y U J (q x.1) ac;obtain⟨m,l,k,j,b,r⟩:=pI n i hv P q N a xs (v.Aj P ks x) (a_ (cU x.1)) (a_ (.int x.2)) p o g (λy s=>h y (by simp[s])) ac;refine⟨m,l,k,j,b,?_⟩
  have w:=jY x.1 P;have z:cD CR CP CL CT n (evB CR CP v P a ks (a_ (cU x.1)) (a_ (.int x.2)) Y U J)=.ok (.nx (evB CR CP v P a (v.Aj P ks x) (a_ (cU x.1)) (a_ (.int x.2)) p o g)):=by unfold V.Aj;simp only[evB]at e ⊢;simp[cD,vQ,pU,w,nO,e]
  rw[x_,cp,D_];have c:g9 (.tp [6,7]) (smD x) (evB CR CP v P a ks f d Y U J)=.ok (evB CR CP v P a ks (a_ (cU x.1)) (a_ (.int x.2)) Y U J):=rfl;rw[c,av,z,av];exact r
def smL_smD(h:∀x∈b,0<=x):((DR b.length).map λi=>A'.tup [cU (b.eraseIdx i),.int (b.getD i 0)])=(smL b).map smD:=by
 unfold smL;rw[En];refine Hl λi hi=>?_;have hi:=EV.mp hi;have J:0<=b.getD i 0:=by rw[DN,C_ hi];exact h _ (EX hi)
 show _=A'.tup [cU (b.eraseIdx i),.int ((b.getD i 0).toNat:Int)];rw[show(((b.getD i 0).toNat:Nat):Int)=b.getD i 0 from by omega]
def behs_ok(n:Nat)(Y:CR≠CP)(hv:v.Good)(P:Pap)(h:Labs v P)(N:Nat)(b:aj)(a:∀x∈b,0<=x/\x<v.fl.length)(g:b.length<=40)(j:∀i,i<b.length->(look P (b.eraseIdx i)).length<=N)(f:v.g.s*N*b.length<16777216):
  dv CR CP CL CT n [ao CR CP v.g.rows v.g.o,.lst (v.fl.map flD),.lst (v.cs.map stD),.dic (km P),cU b]=.ok (.dil (v.sF P b)):=by
 have c:=pH CR CP CL CT n b ac;rw[smL_smD (λx J=>(a x J).1)]at c;have U:(smL b).length=b.length:=by simp[smL]
 obtain⟨o,m,l,k,d,e⟩:=pI CR CP CL CT n Y hv P h N (a_ (cU b)) (smL b) [] g_ g_ g_ g_ g_ (λx J=>by
  obtain⟨i,hi,rfl⟩:=Ed.mp J;have hi:=EV.mp hi;refine⟨?_,j i hi⟩
  have:b.getD i 0∈b:=by rw[DN,C_ hi];exact EX hi
  have:=a _ this;simp only;omega) (by rw[U];simpa using f)
 simp only[evB]at e;simp[dv,iJ,c,e,V.sF]
end
def ze(r:aj):fE (r.map .int)=e_:=by
 induction r with
 |nil=>rfl|cons x r J=>simp[fE,dm,J]
def zc(L:List aj):fE (L.map cU)=e_:=by
 induction L with
 |nil=>rfl|cons x r J=>simp[fE,dm,cU,ze];exact J
def zd(J:aG):fE (J.map Lake.bE)=e_:=by
 induction J with
 |nil=>rfl|cons x r U=>simp[fE,dm,Lake.bE,zc,U]
def Br(J:aG):dm (nO J)=e_:=by unfold nO;simp[dm,zd]
def BN(b:aj):eqM (cU b) (.tup [])=.ok (.bl b.isEmpty)/\neM (cU b) (.tup [])=.ok (.bl !b.isEmpty):=by
 have h:HS (cU b) 40=e_:=by unfold cU;simp[HS,vG]
 constructor
 .unfold eqM;rw[h];unfold cU;cases b<;>simp[HS,iU,eqD,mI]
 .unfold neM;rw[h];unfold cU;cases b<;>simp[HS,iU,eqD,mI]
def V.ent(v:V)(P:Pap)(b:aj):aG:=if b=[]then [v.l0]else l7 (v.sF P b)
def V.pap(v:V)(P:Pap):List aj->Pap
 |[]=>P|b::bs=>v.pap (P++[(b,v.ent P b)]) bs
def gM(h:i<b.length):(b.eraseIdx i).length+1=b.length:=by rw[Hb,s_ h];omega
def getD_in(h:i<b.length):b.getD i 0∈b:=by rw[DN,C_ h];exact EX h
def V.Tight(v:V):Prop:=∀q s l r s',q<v.fl.length->s<v.g.s->r<v.fl.length->s'<v.g.s->v.beh v.l0 q s=a_ l->v.beh l r s'=g_
structure V.wJ(v:V)(P:Pap):Prop where
 lab:Labs v P
 few:∀b,(look P b).length<=2
 two:∀b,2<=b.length->look P b=[]
 one:∀b,b.length=1->∀l∈look P b,∃q s,q<v.fl.length/\s<v.g.s/\v.beh v.l0 q s=a_ l
 first:look P []=[]\/look P []=[v.l0]
def V.wJ.nil(v:V):v.wJ []:=⟨λb l h=>(by cases h),λb=>(by simp[look]),λb _=>rfl,λb _ l h=>(by cases h),.inl rfl⟩
section
variable{P:Pap}{c:List Int}
def V.wJ.behs_one(h:v.wJ P)(Y:∀x∈c,0<=x/\x<v.fl.length)(h1:c.length=1)(U:l∈v.sF P c):∃q s,q<v.fl.length/\s<v.g.s/\v.beh v.l0 q s=a_ l:=by
 obtain⟨i,hi,d,h2,s,b,J⟩:=v.mM.mp U;have f:=gM hi;have a:c.eraseIdx i=[]:=Fv.mp ac;have e:=Y _ (getD_in hi);rw[a]at h2;rcases h.first with z|z
 .rw[z]at h2;cases h2
 .rw[z]at h2;rw[ER.mp h2]at J;exact⟨_,s,ac,b,J⟩
def V.wJ.yt(h:v.wJ P)(d:∀x∈c,0<=x/\x<v.fl.length)(h2:2<=c.length)(e:v.Tight):v.sF P c=[]:=by
 refine HQ.mpr λl b=>?_;obtain⟨i,hi,U,J,s,f,Y⟩:=v.mM.mp b;have k:=gM hi;have j:=d _ (getD_in hi);by_cases g:c.length=2
 .obtain⟨q,s',q1,q2,a⟩:=h.one (c.eraseIdx i) ac U J;rw[e q s' U _ s q1 q2 ac f a]at Y;cases Y
 .rw[h.two (c.eraseIdx i) ac]at J;cases J
def V.wJ.yu(h:v.wJ P)(a:∀x∈c,0<=x/\x<v.fl.length)(e:c≠[])(b:2<=c.length->v.Tight):(v.sF P c).length<=2:=by
 by_cases h2:2<=c.length
 .rw[h.yt a h2 (b h2)];simp
 .have h1:c.length=1:=by
   have:c.length≠0:=λz=>e (Fv.mp z);omega
  have J:=v.yy P 1 (smL c) [] λp Y=>by obtain⟨i,hi,rfl⟩:=Ed.mp Y;have g:=gM (EV.mp hi);have d:c.eraseIdx i=[]:=Fv.mp ac;simp only[d];rcases h.first with z|z<;>rw[z]<;>simp
  have U:(smL c).length=1:=by simp[smL,h1]
  obtain⟨_,f⟩:=v.g.s2;rw[U]at J;simp only[Ie,Nat.mul_one,KO]at J;unfold V.sF;omega
def V.wJ.next(hv:v.Good)(h:v.wJ P)(m:c∉P.map (·.1))(d:∀x∈c,0<=x/\x<v.fl.length)(j:2<=c.length->v.Tight):v.wJ (P++[(c,v.ent P c)]):=by
 have Y:look (P++[(c,v.ent P c)]) c=v.ent P c:=by rw[xy,q_ m];simp[look]
 have U:∀b,b≠c->look (P++[(c,v.ent P c)]) b=look P b:=λb f=>by
  rw[xy];split
  .rfl
  .rename_i a;rw[u7 a,u7];simpa using f
 have g:∀{l},l∈v.ent P c->c≠[]->l∈v.sF P c:=λJ a=>by unfold V.ent at J;rw[q_ a]at J;exact best_mem J
 refine⟨λb l J=>?_,λb=>?_,λb h2=>?_,λb h1 l J=>?_,?_⟩
 .by_cases e:b=c
  .subst e;rw[Y]at J;by_cases a:b=[]
   .unfold V.ent at J;rw[s_ a]at J;rw[ER.mp J];exact v.C6
   .obtain⟨i,hi,k,h1,s,h2,n⟩:=v.mM.mp (g J a);have:=d _ (getD_in hi);exact hv.beh_lab (h.lab _ k h1) ac h2 n
  .rw[U b e]at J;exact h.lab b l J
 .by_cases e:b=c
  .subst e;rw[Y];by_cases a:b=[]
   .unfold V.ent;rw[s_ a];simp
   .have h1:=h.yu d a j;have h2:=best_len (v.sF P b);unfold V.ent;rw[q_ a];omega
  .rw[U b e];exact h.few b
 .by_cases e:b=c
  .subst e;rw[Y];refine HQ.mpr λl J=>?_;have:=g J (λz=>by rw[z]at h2;simp at h2);rw[h.yt d h2 (j h2)]at this;cases this
  .rw[U b e];exact h.two b h2
 .by_cases e:b=c
  .subst e;rw[Y]at J;exact h.behs_one d h1 (g J (λz=>by rw[z]at h1;simp at h1))
  .rw[U b e]at J;exact h.one b h1 l J
 .by_cases e:([]:aj)=c
  .subst e;rw[Y];unfold V.ent;rw[s_ rfl];exact .inr rfl
  .rw[U [] e];exact h.first
end
section
variable(CR CP CL CT:i_)
theorem pP(n:Nat)(a:CR≠CP){v:V}(hv:v.Good)(k:Option A'):∀(B:List aj) (P:Pap) (l:Option A'),v.wJ P->(P.map (·.1)++B).Nodup->(∀b∈B,(∀x∈b,0<=x/\x<v.fl.length)/\b.length<=40/\(2<=b.length->v.Tight))->(P.map (·.1)++B).length<16777216->v.wJ (v.pap P B)/\∃m,
  cp (.nm 5) (eD CR CP CL CT n) (B.map cU) [a_ (ao CR CP v.g.rows v.g.o),a_ (.lst (v.fl.map flD)),a_ (.lst (v.cs.map stD)),k,a_ (.dic (km P)),l]=.ok (.nx [a_ (ao CR CP v.g.rows v.g.o),a_ (.lst (v.fl.map flD)),a_ (.lst (v.cs.map stD)),k,a_ (.dic (km (v.pap P B))),m])
 |[],P,l,h,_,_,_=>⟨h,l,rfl⟩|b::B,P,l,h,C,D,u=>by
  have g:b∉P.map (·.1):=λz=>(NB.mp C).2.2 b z b ad rfl;obtain⟨d,U,A⟩:=D b ad;have F:=h.next hv g d A
  have w:(P++[(b,v.ent P b)]).map (·.1)++B=P.map (·.1)++b::B:=by simp
  obtain⟨G,m,E⟩:=pP n a hv k B (P++[(b,v.ent P b)]) (a_ (cU b)) F (by rw[w];exact C) (λc H=>D c (by simp[H])) (by rw[w];exact u);refine⟨G,m,?_⟩
  have o:=Br (v.ent P b);have f:(km P).length<16777216:=by simp only[Eb,y_]at u;simp only[km,y_];omega
  have J:=put_dicP b P (v.ent P b) g;have t:=(BN b).1;have s:eD CR CP CL CT n [a_ (ao CR CP v.g.rows v.g.o),a_ (.lst (v.fl.map flD)),a_ (.lst (v.cs.map stD)),k,a_ (.dic (km P)),a_ (cU b)]=.ok (.nx [a_ (ao CR CP v.g.rows v.g.o),a_ (.lst (v.fl.map flD)),a_ (.lst (v.cs.map stD)),k,a_ (.dic (km (P++[(b,v.ent P b)]))),a_ (cU b)]):=by
   by_cases e:b=[]
   .have p:=Cp CR CP CL CT n a hv.g;have q:v.ent P b=[v.l0]:=by unfold V.ent;rw[s_ e]
    have hd:nO (v.ent P b)=.lst [bE 0 (L0 v.g)]:=by rw[q];rfl
    rw[hd]at o J;have Y:eqM (cU b) (.tup [])=.ok (.bl e_):=by rw[t,e];rfl
    rw[<- J];simp[eD,iP,Y,p,pU,o,f,kT]
   .have q:v.ent P b=l7 (v.sF P b):=by unfold V.ent;rw[q_ e]
    have Y:eqM (cU b) (.tup [])=.ok (.bl c_):=by
     rw[t];cases b with
     |nil=>exact DD rfl e|cons x b=>rfl
    have y:=h.yu d e A;obtain⟨_,I⟩:=v.g.s2;have r:=behs_ok CR CP CL CT n a hv P h.lab 2 b d U (λi _=>h.few _) (by have:v.g.s*2*b.length<=2*2*40:=JZ ac U;omega)
    have j:=best_ok n (v.sF P b) ac;rw[<- q]at j;rw[<- J];simp[eD,iP,Y,r,j,pU,o,f,kT]
  rw[x_,cp,oX,av];simp only[Fb,E_];rw[s,av];exact E
theorem pO(n:Nat)(Y:CR≠CP){v:V}(U J:Option A'):∀(r:Nat) (j:Int) (c:Int) (b:Option A'),∃d,
  cp (.nm 4) (e8 CR CP CL CT n) (aJ j r) [a_ (ao CR CP v.g.rows v.g.o),U,J,a_ (.int c),b]=.ok (.nx [a_ (ao CR CP v.g.rows v.g.o),U,J,a_ (.int (c*v.g.s^r)),d])
 |0,j,c,b=>⟨b,by simp[aJ,cp]⟩|r+1,j,c,b=>by
  obtain⟨k,i⟩:=v.g.s2;obtain⟨d,e⟩:=pO n Y U J r (j+1) (c*v.g.s) (a_ (.int j));refine⟨d,?_⟩
  have f:=rM CR CP n Y (g:=v.g) (ae 0) [a_ (ao CR CP v.g.rows v.g.o),U,J,a_ (.int c),a_ (.int j)] ad;have a:mulD (.int c) (.int v.g.s)=.ok (.int (c*v.g.s)):=xW (by simp only[t9,r_,DX];omega);have h:e8 CR CP CL CT n [a_ (ao CR CP v.g.rows v.g.o),U,J,a_ (.int c),a_ (.int j)]=.ok (.nx [a_ (ao CR CP v.g.rows v.g.o),U,J,a_ (.int (c*v.g.s)),a_ (.int j)]):=by simp[e8,f,a,-xW,-e_mulL]
  have ep:c*(v.g.s:Int)^(r+1)=c*v.g.s*v.g.s^r:=by rw[Int.pow_succ,Int.mul_comm ((v.g.s:Int)^r),Int.mul_assoc]
  rw[cV,cp,oX,av,ep];simp only[Fb,E_];rw[h,av];exact e
def plans_ok(n:Nat)(J:CR≠CP){s:Nat}(a:m<=64)(U:br [.int m,.int s]=.ok (.int c)):gi CR CP CL CT n [ao CR CP v.g.rows v.g.o,.int m,.int s]=.ok (.int (c*v.g.s^m)):=by
 obtain⟨Y,e⟩:=pO CR CP CL CT n J (v:=v) (a_ (.int m)) (a_ (.int s)) m 0 c g_;have k1:(-4611686018427387904:Int)<=(m:Int):=ac
 have k2:(m:Int)<4611686018427387904:=ac
 simp[gi,lx,U,k1,k2,e]
def tM(n:Nat)(U:CR≠CP){s:Nat}(b:m<=64)(Y:v.fl.length=m)(a:br [.int m,.int s]=.ok (.int c)):bW CR CP CL CT n [ao CR CP v.g.rows v.g.o,.lst (v.fl.map flD),.int s]=if 5000<c*v.g.s^m then .error (.exc CT [])else .ok .non:=by
 have ep:=plans_ok CR CP CL CT n U (v:=v) b a;by_cases J:5000<c*(v.g.s:Int)^m
 .rw[s_ J];simp[bW,dW,cZ,Y,ep,J]
 .rw[q_ J];simp[bW,dW,cZ,Y,ep,J]
end
def NS(o:A')(s:Int):Prop:=(o=.non/\s=1)\/(∃J,o=aP J)/\s=2
section
variable(CR CP CL CT:i_)
def AV(n:Nat)(Y:CR≠CP){o:A'}{s:Int}(h:NS o s)(fo:aa->M A')(ρ:aa)(d:fo ρ=.ok (ao CR CP rows o)):bS CR CP "many_strips" (aC) (aD) fo ay ρ=.ok (.int s):=by
 unfold bS;rw[d,av];rcases h with⟨J,U⟩|⟨⟨c,J⟩,U⟩
 .have b:isC CR "many_strips" (ao CR CP rows o)=e_:=by
   rw[J];show((CR==CR)&&(DF ("many_strips":Dy) [(("gaps":Dy),aP rows)]).isNone)=e_;rw[lookM1];simp
  rw[s_ b];simp[aC,cW,U]
 .have b:isC CR "many_strips" (ao CR CP rows o)=c_:=by
   rw[J];show((CP==CR)&&(DF ("many_strips":Dy) [(("gaps":Dy),aP rows),(("beside":Dy),aP c)]).isNone)=c_;have:(CP==CR)=c_:=by simp;exact λz=>Y z.symm
   rw[this];rfl
  have a:isC CP "many_strips" (ao CR CP rows o)=e_:=by rw[J];show((CP==CP)&&(DF ("many_strips":Dy) [(("gaps":Dy),aP rows),(("beside":Dy),aP c)]).isNone)=e_;rw[lookM2];simp
  rw[q_ (by rw[b];simp),s_ a];simp[aD,dD,U]
end
def addK_mem{k:Int}:x∈mh ks k↔x∈ks\/x=k:=by
 unfold mh;split
 .next h=>exact⟨.inl,λz=>z.elim id λe=>e▸h⟩
 .simp
theorem xS:∀(is ks:aj) (x:Int),x∈is.foldl mh ks↔x∈ks\/x∈is
 |[],ks,x=>by simp|i::is,ks,x=>by rw[D_,xS is (mh ks i) x,addK_mem];simp[or_assoc]
def there(ks:aj):aj:=dU ltZ (keysOf ks)
def jH(ks:aj)(x:Int):x∈there ks↔x∈ks:=by unfold there keysOf;rw[(d7 (lt:=ltZ) _).mem_iff,xS];simp
def sZ(ks:aj):(there ks).length<=ks.length:=by unfold there keysOf;rw[(d7 (lt:=ltZ) _).length_eq];have:=rH ks [];simpa using this
noncomputable def many1(ks:aj)(x y:Int):Bool:= !decide (x=y)||z_ (1<ks.countP (·==x))
def prs(ks:aj):List sJ:=(there ks).flatMap λx=>((there ks).filter (many1 ks x)).map λy=>(x,y)
def r9:p∈prs ks↔p.1∈ks/\p.2∈ks/\many1 ks p.1 p.2=e_:=by
 unfold prs;rw[NT];constructor
 .rintro⟨x,U,h⟩;obtain⟨y,J,rfl⟩:=Ed.mp h;obtain⟨h1,h2⟩:=EW.mp J;exact⟨(jH _ _).mp U,(jH _ _).mp h1,h2⟩
 .rintro⟨h1,h2,Y⟩;exact⟨p.1,(jH _ _).mpr h1,Ed.mpr ⟨p.2,EW.mpr ⟨(jH _ _).mpr h2,Y⟩,rfl⟩⟩
def vals(rows:List aj)(o:Option (List aj))(p:sJ):aj:=match o with
 |none=>[at2 rows p.1 p.2]|some J=>[at2 rows p.1 p.2,at2 J p.1 p.2]
def oD:Option (List aj)->A'
 |none=>.non|some J=>aP J
noncomputable def nS:Option (List aj)->Int
 |none=>1|some _=>2
theorem rD:∀{xs:aj} {x:Int},(xs.foldl jR x=x\/xs.foldl jR x∈xs)/\xs.foldl jR x<=x/\∀y∈xs,xs.foldl jR x<=y
 |[],x=>⟨.inl rfl,GP _,λ_ h=>nomatch h⟩
 |a::xs,x=>by
  obtain⟨h1,h2,Y⟩:=rD (xs:=xs) (x:=jR x a);obtain⟨c,b,J⟩:=minZ_le x a;rw[D_];refine⟨?_,ac,λy U=>?_⟩
  .rcases h1 with h|h
   .rcases J with z|z
    .exact .inl (by rw[h,z])
    .exact .inr (by rw[h,z];simp)
   .exact .inr (by simp[h])
  .rcases p_.mp U with z|z
   .subst z;omega
   .exact Y y z
def AZ(xs:aj)(h:xs.length<64)(J:(keysOf xs).length<3):gb (.lst (xs.map .int))=.ok (.lst ((there xs).map .int)):=by show(bD (xs.map .int)).bind (λis=>if (xs.map A'.int).length<64/\(keysOf is).length<3 then EI (A'.lst ((dU ltZ (keysOf is)).map A'.int))else stk)=_;rw[dz,av,s_ ⟨by simpa using h,J⟩];rfl
section
variable(CR CP CL CT:i_)
theorem rh(n:Nat)(ks:aj)(J:Option A')(x:Int):∀(ys:aj) (acc:List sJ) (U:Option A'),acc.length+ys.length<=100000->∃Y,
  cp (.nm 4) (d9) (ys.map .int) [a_ (.lst (ks.map .int)),J,a_ (.lst (acc.map stD)),a_ (.int x),U]=.ok (.nx [a_ (.lst (ks.map .int)),J,a_ (.lst ((acc++(ys.filter (many1 ks x)).map λy=>(x,y)).map stD)),a_ (.int x),Y])
 |[],acc,U,_=>⟨U,by simp[cp]⟩|y::ys,acc,U,h=>by
  have a:acc.length<16777216:=by simp at h;omega
  have eb:d9 [a_ (.lst (ks.map .int)),J,a_ (.lst (acc.map stD)),a_ (.int x),a_ (.int y)]=.ok (.nx [a_ (.lst (ks.map .int)),J,a_ (.lst ((if many1 ks x y=e_ then acc++[(x,y)]else acc).map stD)),a_ (.int x),a_ (.int y)]):=by
   unfold many1;by_cases h1:x=y
   .subst h1;by_cases h2:1<ks.countP (·==x)
    .have c:(1:Int)<(ks.countP (·==x):Nat):=ac
     simp[d9,gn,isL,h2,a,stD];omega
    .simp[d9,gn,isL,h2,a,stD];omega
   .simp[d9,gn,h1,a,stD]
  rw[x_,cp,show g9 (.nm 4) (.int y) [a_ (.lst (ks.map .int)),J,a_ (.lst (acc.map stD)),a_ (.int x),U]=.ok [a_ (.lst (ks.map .int)),J,a_ (.lst (acc.map stD)),a_ (.int x),a_ (.int y)]from rfl,av,eb,av];cases b:many1 ks x y with
  |true=>rw[s_ rfl,LX b,x_];obtain⟨Y,e⟩:=rh n ks J x ys (acc++[(x,y)]) (a_ (.int y)) (by simp at h ⊢;omega);rw[E4]at e;exact⟨Y,e⟩
  |false=>rw[q_ ad,Ja (by simp[b])];exact rh n ks J x ys acc (a_ (.int y)) (by simp at h ⊢;omega)
theorem tW(n:Nat)(ks th:aj)(Y:th.length<=64):∀(xs:aj) (acc:List sJ) (U J:Option A'),acc.length+xs.length*64<=10000->∃b a,
  cp (.nm 3) (eE) (xs.map .int) [a_ (.lst (ks.map .int)),a_ (.lst (th.map .int)),a_ (.lst (acc.map stD)),U,J]=.ok (.nx [a_ (.lst (ks.map .int)),a_ (.lst (th.map .int)),a_ (.lst ((acc++xs.flatMap λx=>(th.filter (many1 ks x)).map λy=>(x,y)).map stD)),b,a])
 |[],acc,U,J,_=>⟨U,J,by simp[cp]⟩|x::xs,acc,U,J,h=>by
  simp only[B_]at h;obtain⟨a,e⟩:=rh n ks (a_ (.lst (th.map .int))) x th acc J ac;have d:(th.filter (many1 ks x)).length<=64:=Ee (Mv _ _) Y;obtain⟨b,c,e2⟩:=tW n ks th Y xs (acc++(th.filter (many1 ks x)).map λy=>(x,y)) (a_ (.int x)) a (by simp;omega);have eb:eE [a_ (.lst (ks.map .int)),a_ (.lst (th.map .int)),a_ (.lst (acc.map stD)),a_ (.int x),J]=.ok (.nx [a_ (.lst (ks.map .int)),a_ (.lst (th.map .int)),a_ (.lst ((acc++(th.filter (many1 ks x)).map λy=>(x,y)).map stD)),a_ (.int x),a]):=by simp[eE,e]
  refine⟨b,c,?_⟩
  rw[x_,cp,show g9 (.nm 3) (.int x) [a_ (.lst (ks.map .int)),a_ (.lst (th.map .int)),a_ (.lst (acc.map stD)),U,J]=.ok [a_ (.lst (ks.map .int)),a_ (.lst (th.map .int)),a_ (.lst (acc.map stD)),a_ (.int x),J]from rfl,av,eb,av,IM];rw[E4]at e2;exact e2
def pairs_ok(n:Nat)(ks:aj)(h:ks.length<64)(Y:(keysOf ks).length<3):iY [.lst (ks.map .int)]=.ok (.lst ((prs ks).map stD)):=by have a:=sZ ks;have es:=AZ ks h Y;obtain⟨U,J,e⟩:=tW n ks (there ks) ac (there ks) [] g_ g_ (by simp;omega);simp only[GA,Jv]at e;have e:cp (.nm 3) (eE) ((there ks).map .int) [a_ (.lst (ks.map .int)),a_ (.lst ((there ks).map .int)),a_ (.lst []),g_,g_]=.ok (.nx [a_ (.lst (ks.map .int)),a_ (.lst ((there ks).map .int)),a_ (.lst ((prs ks).map stD)),U,J]):=e;simp[iY,qe,es,e]
def apart_ok(n:Nat)(f:CR≠CP){o:Option (List aj)}(l:bN k rows)(r:∀J,o=a_ J->bN k J){b:Int}(U:0<=a/\a<k)(d:0<=b/\b<k)(s:Int)(j:s=0\/(s=1/\∃J,o=a_ J))(fo f1 m:aa->M A')(ρ:aa)(t:fo ρ=.ok (ao CR CP rows (oD o)))(h1:f1 ρ=.ok (.tup [.int a,.int 0]))(h2:m ρ=.ok (.tup [.int b,.int s])):
  bS CR CP "apart" (bu CR CP CL CT n) (bf CR CP CL CT n) fo (a9 f1 (a9 m ay)) ρ=.ok (.int (if s=0 then at2 rows a b else at2 (o.getD []) a b)):=by
 obtain⟨i,_⟩:=uf l U.1 U.2;obtain⟨q1,_⟩:=getA l U.1 U.2 d.1 d.2;unfold bS;rw[t,av];cases o with
 |none=>
  have e:s=0:=by
   rcases j with z|⟨_,J,z⟩
   .exact z
   .cases z
  subst e;have h:isC CR "apart" (ao CR CP rows (oD g_))=e_:=by show((CR==CR)&&(DF ("apart":Dy) [(("gaps":Dy),aP rows)]).isNone)=e_;rw[lookA1];simp
  have c:=kL CR CP rows (oD g_) (.inl rfl);rw[s_ h];simp[h1,h2,bu,gZ,c,aP,i,gH,q1]
 |some J=>
  have g2:=r J rfl;obtain⟨p,_⟩:=uf g2 U.1 U.2;obtain⟨q,_⟩:=getA g2 U.1 U.2 d.1 d.2;have h:isC CR "apart" (ao CR CP rows (oD (a_ J)))=c_:=by
   show((CP==CR)&&(DF ("apart":Dy) [(("gaps":Dy),aP rows),(("beside":Dy),aP J)]).isNone)=c_;have:(CP==CR)=c_:=by simp;exact λz=>f z.symm
   rw[this];rfl
  have g:isC CP "apart" (ao CR CP rows (oD (a_ J)))=e_:=by show((CP==CP)&&(DF ("apart":Dy) [(("gaps":Dy),aP rows),(("beside":Dy),aP J)]).isNone)=e_;rw[lookA2];simp
  have c:=kL CR CP rows (oD (a_ J)) (.inr ⟨_,rfl⟩);have Y:oj [CP] "beside" (ao CR CP rows (oD (a_ J)))=.ok (aP J):=uT CR CP rows J;rw[q_ (by rw[h];simp),s_ g];rcases j with z|⟨z,_⟩
  .subst z;simp[h1,h2,bf,eB,c,Y,aP,i,gH,q1]
  .subst z;simp[h1,h2,bf,eB,c,Y,aP,p,gH,q]
theorem qz(n:Nat)(c:CR≠CP){k:Nat}{rows:List aj}{o:Option (List aj)}(w:bN k rows)(x:∀b,o=a_ b->bN k b)(J:Option A'):∀(ps:List sJ) (acc:aj) (f d U:Option A'),(∀p∈ps,(0<=p.1/\p.1<k)/\0<=p.2/\p.2<k)->acc.length+2*ps.length<=100000->∃l j g,
  cp (.tp [3,4]) (cy CR CP CL CT n) (ps.map stD) [a_ (ao CR CP rows (oD o)),J,a_ (.lst (acc.map .int)),f,d,U]=.ok (.nx [a_ (ao CR CP rows (oD o)),J,a_ (.lst ((acc++ps.flatMap (vals rows o)).map .int)),l,j,g])
 |[],acc,f,d,U,_,_=>⟨f,d,U,by simp[cp]⟩|p::ps,acc,f,d,U,h,i=>by
  simp only[B_]at i;obtain⟨B,A⟩:=h p ad;have r:NS (oD o) (nS o):=by
   cases o with
   |none=>exact .inl ⟨rfl,rfl⟩|some b=>exact .inr ⟨⟨b,rfl⟩,rfl⟩
  have a:∀(s:Int) (acc:aj) (i:acc.length<16777216) (v:s=0\/(s=1/\∃b,o=a_ b)),g8 CR CP CL CT n [a_ (ao CR CP rows (oD o)),J,a_ (.lst (acc.map .int)),a_ (.int p.1),a_ (.int p.2),a_ (.int s)]=.ok (.nx [a_ (ao CR CP rows (oD o)),J,a_ (.lst ((acc++[if s=0 then at2 rows p.1 p.2 else at2 (o.getD []) p.1 p.2]).map .int)),a_ (.int p.1),a_ (.int p.2),a_ (.int s)]):=by intro s acc i v;have e:=apart_ok CR CP CL CT n c w x B A s v (ae 0) (fL bG (a9 (ae 3) (a9 (fC (.int 0)) ay))) (fL bG (a9 (ae 4) (a9 (ae 5) ay))) [a_ (ao CR CP rows (oD o)),J,g_,a_ (.int p.1),a_ (.int p.2),a_ (.int s)] ad ad ad;simp[g8,e,i]
  obtain⟨g,eb⟩:∃g,cy CR CP CL CT n [a_ (ao CR CP rows (oD o)),J,a_ (.lst (acc.map .int)),a_ (.int p.1),a_ (.int p.2),U]=.ok (.nx [a_ (ao CR CP rows (oD o)),J,a_ (.lst ((acc++vals rows o p).map .int)),a_ (.int p.1),a_ (.int p.2),g]):=by
   have Y:bS CR CP "many_strips" (aC) (aD) (ae 0) ay [a_ (ao CR CP rows (oD o)),J,g_,a_ (.int p.1),a_ (.int p.2),U]=.ok (.int (nS o)):=AV CR CP n c (rows:=rows) r (ae 0) [a_ (ao CR CP rows (oD o)),J,g_,a_ (.int p.1),a_ (.int p.2),U] ad;have m:=a 0 acc ac (.inl rfl);cases o with
   |none=>
    refine⟨a_ (.int 0),?_⟩
    have t:iS [.int 1]=.ok [.int 0]:=by simp[aJ]
    simp only[nS]at Y;simp[cy,Y,t,cp,m,vals,-xV]
   |some b=>
    refine⟨a_ (.int 1),?_⟩
    have t:iS [.int 2]=.ok [.int 0,.int 1]:=by simp[aJ,Oo]
    have u:=a 1 (acc++[at2 rows p.1 p.2]) (by simp;omega) (.inr ⟨rfl,b,rfl⟩);simp only[nS]at Y;simp[cy,Y,t,cp,-xV];simp at m u;simp[m,u,vals]
  obtain⟨l,j,y,e2⟩:=qz n c w x J ps (acc++vals rows o p) (a_ (.int p.1)) (a_ (.int p.2)) g (λq z=>h q (by simp[z])) (by
   have:(vals rows o p).length<=2:=by cases o<;>simp[vals]
   simp;omega)
  refine⟨l,j,y,?_⟩
  rw[x_,cp,show g9 (.tp [3,4]) (stD p) [a_ (ao CR CP rows (oD o)),J,a_ (.lst (acc.map .int)),f,d,U]=.ok [a_ (ao CR CP rows (oD o)),J,a_ (.lst (acc.map .int)),a_ (.int p.1),a_ (.int p.2),U]from rfl,av,eb,av,IM];rw[E4]at e2;exact e2
end
section
variable(CR CP CL CT:i_)
def prs_len(ks:aj)(h:ks.length<64):(prs ks).length<=64*64:=by
 unfold prs;have U:=sZ ks;have key:∀xs:aj,(xs.flatMap λx=>((there ks).filter (many1 ks x)).map λy=>(x,y)).length<=xs.length*64:=by
  intro xs
  induction xs with
  |nil=>simp|cons x xs J=>have:=Mv (many1 ks x) (there ks);simp only[IM,Eb,y_,B_];omega
 have:=key (there ks);have:(there ks).length*64<=64*64:=Nat.mul_le_mul_right _ ac;omega
def least_ok(n:Nat)(U:CR≠CP){o:Option (List aj)}(c:bN k rows)(g:∀Y,o=a_ Y->bN k Y)(J:∀x∈ks,0<=x/\x<k)(b:ks.length<64)(h:(keysOf ks).length<3):
  du CR CP CL CT n [ao CR CP rows (oD o),.lst (ks.map .int)]=minD [.lst (((prs ks).flatMap (vals rows o)).map .int)]:=by
 have ep:=pairs_ok n ks b h;have d:=prs_len ks b;obtain⟨l,j,i,e⟩:=qz CR CP CL CT n U c g (a_ (.lst (ks.map .int))) (prs ks) [] g_ g_ g_ (λp f=>by obtain⟨h1,h2,_⟩:=r9.mp f;exact⟨J _ h1,J _ h2⟩) (by simp;omega)
 simp only[GA,Jv]at e;generalize a:minD [.lst (((prs ks).flatMap (vals rows o)).map .int)]=z;cases z with
 |ok v=>simp[du,gW,ep,e,a,-CB]|error x=>simp[du,gW,ep,e,a,-CB]
def iH(fl:List Fli)(is:aj):aj:=is.map λi=>(ij fl i).kind
theorem sk(fl:List Fli)(j:Int)(g:Fli->Int)(J:∀f,jA [.int f.kind,.int f.first,.int f.last,.int f.due,.int f.price] j=.ok (.int (g f))):∀is:aj,(∀i∈is,0<=i/\i<fl.length) ->
  aS (.nm 0) iL (f2 ixD (f2 ixD (ae 1) (ae 0)) (fC (.int j))) [g_,a_ (.lst (fl.map flD))] (is.map .int)=.ok ((is.map λi=>g (ij fl i)).map .int)
 |[],_=>rfl|i::is,h=>by have U:=sk fl j g J is λx Y=>h x (by simp[Y]);obtain⟨a,h1⟩:=h i ad;obtain⟨e,_⟩:=vW a h1;have e2:=J (ij fl i);rw[x_,aS];simp only[flD]at e;simp[e,e2,U]
end
noncomputable def i4(m:Nat):aj:=(DR m).map λk:Nat=>(k:Int)
def vp(m:Nat):aJ 0 m=(i4 m).map .int:=by unfold aJ i4;rw[En];exact Hl λk _=>by simp
def qF(m:Nat):(i4 m).length=m:=by unfold i4;simp
def wU:x∈i4 m↔0<=x/\x<m:=by
 unfold i4;constructor
 .intro h;obtain⟨j,J,rfl⟩:=Ed.mp h;have:=EV.mp J;omega
 .intro h;exact Ed.mpr ⟨x.toNat,EV.mpr ac,ac⟩
def inB(fl:List Fli)(a b k:Int):Bool:=z_ (a<=(ij fl k).first)&&z_ ((ij fl k).last<=b)
def btw(fl:List Fli)(a b:Int):aj:=(i4 fl.length).filter (inB fl a b)
theorem ql:∀(fl J:List Fli),cY J.length (fl.map flD)=((MB J.length fl.length).map λk:Nat=>A'.tup [.int k,flD (ij (J++fl) k)])
 |[],J=>rfl|f::fl,J=>by
  have U:=ql fl (J++[f]);rw[Eb,JB,E4]at U;rw[x_,cY,U,B_,NR,x_]
  congr 2
  unfold ij;simp
section
variable(CR CP CL CT:i_)
theorem yn(fl:List Fli)(a b:Int):∀ks:aF,(∀k∈ks,k<fl.length)->aS (.tp [0,1]) (Aq (fB (f2 leD (ae 2) (f2 ixD (ae 1) (fC (.int 1))))) (fB (f2 leD (f2 ixD (ae 1) (fC (.int 2))) (ae 3)))) (ae 0) [g_,g_,a_ (.int a),a_ (.int b)] (ks.map λk:Nat=>A'.tup [.int k,flD (ij fl k)])=.ok (((ks.map λk:Nat=>(k:Int)).filter (inB fl a b)).map .int)
 |[],_=>rfl|k::ks,h=>by
  have J:=yn fl a b ks λx U=>h x (by simp[U]);rw[x_,aS,x_];by_cases h1:a<=(ij fl k).first
  .by_cases h2:(ij fl k).last<=b
   .rw[LX (by simp[inB,h1,h2])];simp[flD]at J ⊢;simp[h1,h2,J]
   .rw[Ja (by simp[inB,h2])];simp[flD]at J ⊢;simp[h1,h2,J]
  .rw[Ja (by simp[inB,h1])];simp[flD]at J ⊢;simp[h1,J]
def Ae(n:Nat)(fl:List Fli)(Y:fl.length<=1000)(a b:Int):cA [.lst (fl.map flD),.int a,.int b]=.ok (.lst ((btw fl a b).map .int)):=by
 have e1:=ql fl [];rw[Ie,Jv,<- MA]at e1;have e2:=yn fl a b (DR fl.length) λk U=>EV.mp U;rw[<- e1]at e2;have e2:aS (.tp [0,1]) (Aq (fB (f2 leD (ae 2) (f2 ixD (ae 1) (fC (.int 1))))) (fB (f2 leD (f2 ixD (ae 1) (fC (.int 2))) (ae 3)))) (ae 0) [g_,g_,a_ (.int a),a_ (.int b)] (cY 0 (fl.map flD))=.ok ((btw fl a b).map .int):=e2;have J:(cY 0 (fl.map flD)).length<=16777216:=by rw[e1,y_,G4];omega
 simp[cA,gK,e2,J]
def D3(fl:List Fli):aS (.nm 0) iL (f2 ixD (ae 0) (fC (.int 1))) [g_] (fl.map flD)=.ok ((fl.map λf=>f.first).map .int):=by
 have:=cP (p:=.nm 0) (fe:=f2 ixD (ae 0) (fC (.int 1))) (ρ0:=[g_]) (λd=>match d with|.tup [_,x,_,_,_]=>x|_=>.non) (fl.map flD) (λd hd=>by obtain⟨f,_,rfl⟩:=Ed.mp hd;exact⟨[a_ (flD f)],ad,by simp[flD]⟩)
 rw[this,En,En];rfl
def D2(fl:List Fli):aS (.nm 0) iL (f2 ixD (ae 0) (fC (.int 2))) [g_] (fl.map flD)=.ok ((fl.map λf=>f.last).map .int):=by
 have:=cP (p:=.nm 0) (fe:=f2 ixD (ae 0) (fC (.int 2))) (ρ0:=[g_]) (λd=>match d with|.tup [_,_,x,_,_]=>x|_=>.non) (fl.map flD) (λd hd=>by obtain⟨f,_,rfl⟩:=Ed.mp hd;exact⟨[a_ (flD f)],ad,by simp[flD]⟩)
 rw[this,En,En];rfl
end
noncomputable def Gp.oo(g:Gp):Option (List aj):=if g.two=e_ then a_ g.r2 else g_
def Gp.oD_oo(g:Gp):oD g.oo=g.o:=by unfold Gp.oo Gp.o;cases g.two<;>rfl
theorem Gp.Good.oo{g:Gp}(U:g.Good):∀J,g.oo=a_ J->bN g.k J:=λJ h=>by
 unfold Gp.oo at h;split at h
 .cases h;exact U.r2
 .cases h
theorem fold_const{t:Int}:∀xs:aj,(∀x∈xs,x=t)->xs.foldl mh [t]=[t]
 |[],_=>rfl|x::xs,h=>by
  rw[D_,h x ad];have:mh [t] t=[t]:=by unfold mh;simp
  rw[this];exact fold_const xs λy J=>h y (by simp[J])
def mP{xs:aj}(h:∀x∈xs,x=t)(U:xs≠[]):there xs=[t]:=by
 cases xs with
 |nil=>exact DD rfl U|cons x xs=>
  have e:keysOf (x::xs)=[t]:=by
   show xs.foldl mh (mh [] x)=[t]
   rw[h x ad];exact fold_const xs λy J=>h y (by simp[J])
  unfold there;rw[e];exact vP ad
def pS{xs:aj}(h:∀x∈xs,x=t):(keysOf xs).length<3:=by
 cases xs with
 |nil=>decide|cons x xs=>
  have e:keysOf (x::xs)=[t]:=by
   show xs.foldl mh (mh [] x)=[t]
   rw[h x ad];exact fold_const xs λy J=>h y (by simp[J])
  rw[e];simp
def F01(l:aj):Prop:=l=[]\/l=[0]\/l=[1]\/l=[0,1]\/l=[1,0]
def F01.add{l:aj}(h:F01 l)(U:0<=x)(h1:x<2):F01 (mh l x):=by
 have J:x=0\/x=1:=ac
 unfold F01 at *;rcases h with e|e|e|e|e<;>rcases J with z|z<;>rw[e,z]<;>decide
theorem F01.fold:∀(xs:aj) {l:aj},F01 l->(∀x∈xs,0<=x/\x<2)->F01 (xs.foldl mh l)
 |[],_,h,_=>h|x::xs,_,h,J=>F01.fold xs (h.add (J x ad).1 (J x ad).2) λy U=>J y (by simp[U])
def keys_01{xs:aj}(h:∀x∈xs,0<=x/\x<2):(keysOf xs).length<3:=by have:=F01.fold xs (l:=[]) (.inl rfl) h;unfold keysOf;rcases this with e|e|e|e|e<;>rw[e]<;>decide
def u5{xs:aj}(h:∀x∈xs,x=t)(U:xs≠[]):minD [.lst (xs.map .int)]=.ok (.int t)/\maxD [.lst (xs.map .int)]=.ok (.int t):=by
 cases xs with
 |nil=>exact DD rfl U|cons x xs=>
  have J:=h x ad;constructor
  .show(bD ((x::xs).map .int)).bind minL=_;rw[dz,av];show EI (A'.int (xs.foldl jR x))=_;obtain⟨z,_⟩:=rD (xs:=xs) (x:=x);rcases z with z|z
   .rw[z,J]
   .rw[h (xs.foldl jR x) (by simp[z])]
  .show(bD ((x::xs).map .int)).bind maxL=_;rw[dz,av,maxL];rcases k9 xs x with z|z
   .rw[z,J]
   .rw[h (xs.foldl ik x) (by simp[z])]
def prs_some(h:2<=ks.length):prs ks≠[]:=by
 match ks,h with
 |a::b::r,_=>
  intro e;by_cases c:a=b
  .have:(a,a)∈prs (a::b::r):=r9.mpr ⟨ad,ad,by
    unfold many1;rw[<- c];simp[KW]⟩
   rw[e]at this;cases this
  .have:(a,b)∈prs (a::b::r):=r9.mpr ⟨ad,ad,by unfold many1;simp[c]⟩;rw[e]at this;cases this
structure V.At(v:V)(t:Int):Prop where
 fl:∀f∈v.fl,f.first=t/\f.last=t
 gap:∀i j:Int,0<=i->i<v.g.k->0<=j->j<v.g.k->1<=at2 v.g.rows i j/\1<=at2 v.g.r2 i j
def btw_all(h:∀f∈fl,f.first=t/\f.last=t):btw fl t t=i4 fl.length:=by unfold btw;rw[MT];intro i hi;obtain⟨U,h1⟩:=wU.mp hi;obtain⟨_,J⟩:=vW U h1;obtain⟨e1,e2⟩:=h _ J;simp[inB,e1,e2]
section
variable(CR CP CL CT:i_)
def Cg(n:Nat)(j:CR≠CP)(hv:v.Good)(k:v.At t)(h2:2<=v.fl.length):j0 CR CP CL CT n [ao CR CP v.g.rows v.g.o,.lst (v.fl.map flD),.lst ((i4 v.fl.length).map .int)]=.ok (.bl e_):=by
 have U:∀i∈i4 v.fl.length,0<=i/\i<v.fl.length:=λi hi=>wU.mp hi;have b:∀i∈i4 v.fl.length,ij v.fl i∈v.fl:=λi hi=>(vW (U i hi).1 (U i hi).2).2;have Y:=qF v.fl.length;have d:i4 v.fl.length≠[]:=λz=>by rw[z]at Y;simp at Y;omega
 have l:=hv.many;have E:=sk v.fl 1 (λf=>f.first) (λf=>by simp) _ U;have D:=sk v.fl 2 (λf=>f.last) (λf=>by simp) _ U;have F:=sk v.fl 0 (λf=>f.kind) (λf=>by simp) _ U;have e1:=(u5 (t:=t) (xs:=(i4 v.fl.length).map λi=>(ij v.fl i).first) (λx c=>by obtain⟨i,hi,rfl⟩:=Ed.mp c;exact(k.fl _ (b i hi)).1) (by simpa using d)).1
 have e2:=(u5 (t:=t) (xs:=(i4 v.fl.length).map λi=>(ij v.fl i).last) (λx c=>by obtain⟨i,hi,rfl⟩:=Ed.mp c;exact(k.fl _ (b i hi)).2) (by simpa using d)).2
 have J:∀x∈iH v.fl (i4 v.fl.length),0<=x/\x<v.g.k:=λx c=>by obtain⟨i,hi,rfl⟩:=Ed.mp c;exact⟨(hv.fl _ (b i hi)).k0,(hv.fl _ (b i hi)).k1⟩
 have A:(iH v.fl (i4 v.fl.length)).length=v.fl.length:=by simp[iH,Y]
 have e3:=least_ok CR CP CL CT n j hv.g.rows (o:=v.g.oo) hv.g.oo J ac (keys_01 λx c=>⟨(J x c).1,by have:=(J x c).2;have:=hv.g.k3;omega⟩);rw[v.g.oD_oo]at e3;have g:=prs_some (ks:=iH v.fl (i4 v.fl.length)) ac;obtain⟨w,hw,e4⟩:∃w:Int,1<=w/\minD [.lst (((prs (iH v.fl (i4 v.fl.length))).flatMap (vals v.g.rows v.g.oo)).map .int)]=.ok (.int w):=by
  have a:∀y∈(prs (iH v.fl (i4 v.fl.length))).flatMap (vals v.g.rows v.g.oo),1<=y:=λy u=>by
   obtain⟨p,g,h⟩:=NT.mp u;obtain⟨p1,p2,_⟩:=r9.mp g;obtain⟨B,g2⟩:=k.gap p.1 p.2 (J _ p1).1 (J _ p1).2 (J _ p2).1 (J _ p2).2;unfold Gp.oo at h;split at h
   .simp only[vals,p_,DK,FO]at h;rcases h with z|z<;>rw[z]<;>assumption
   .simp only[vals,ER]at h;rw[h];exact B
  cases m:prs (iH v.fl (i4 v.fl.length))with
  |nil=>exact DD m g|cons p ps=>
   rw[m]at a;obtain⟨y,ys,C⟩:∃y ys,(p::ps).flatMap (vals v.g.rows v.g.oo)=y::ys:=by rw[IM];unfold Gp.oo;split<;>exact⟨_,_,rfl⟩
   rw[C]at a ⊢;refine⟨ys.foldl jR y,?_,?_⟩
   .obtain⟨z,_⟩:=rD (xs:=ys) (x:=y);rcases z with z|z
    .rw[z];exact a y ad
    .exact a _ (by simp[z])
   .show(bD ((y::ys).map .int)).bind minL=_;rw[dz,av];rfl
 rw[e4]at e3;have e:mulD (.int w) (.int ((v.fl.length:Int)-1))=.ok (.int (w*((v.fl.length:Int)-1))):=xW (by simp only[t9,r_,DX];omega);have s:v.fl.length<=16777216:=ac
 have r:¬(v.fl.length:Int)<2:=ac
 have q:0<w*((v.fl.length:Int)-1):=Int.mul_pos ac ac;unfold iH at e3;simp[j0,qf,lH,Y,r,E,D,F,e1,e2,e3,e,s,q,-CB,-xX,-En,-xW,-e_mulL]
def crowdT(n:Nat)(c:CR≠CP)(hv:v.Good)(Y:v.At t)(h2:2<=v.fl.length):fy CR CP CL CT n [ao CR CP v.g.rows v.g.o,.lst (v.fl.map flD)]=.ok (.lst ((i4 v.fl.length).map .int)):=by
 have d:=hv.many;have e:v.fl≠[]:=λz=>by rw[z]at h2;simp at h2
 have b:=AZ (v.fl.map λf=>f.first) (by simp;omega) (pS (t:=t) λx J=>by obtain⟨f,U,rfl⟩:=Ed.mp J;exact(Y.fl f U).1)
 have a:=AZ (v.fl.map λf=>f.last) (by simp;omega) (pS (t:=t) λx J=>by obtain⟨f,U,rfl⟩:=Ed.mp J;exact(Y.fl f U).2)
 rw[mP (t:=t) (λx J=>by obtain⟨f,U,rfl⟩:=Ed.mp J;exact(Y.fl f U).1) (by simpa using e)]at b
 rw[mP (t:=t) (λx J=>by obtain⟨f,U,rfl⟩:=Ed.mp J;exact(Y.fl f U).2) (by simpa using e)]at a
 have j:=D3 v.fl;have i:=D2 v.fl;have g:v.fl.length<=16777216:=ac
 have eb:=Ae n v.fl ac t t;rw[btw_all Y.fl]at eb;have h:=Cg CR CP CL CT n c hv Y h2;simp only[x_,GA]at b a;simp[fy,qg,j,i,g,b,a,isL,lL,lM,lJ,eb,h,cp,-En]
end
theorem lt4{P:Nat->Prop}(U:P 0)(h1:P 1)(h2:P 2)(J:P 3):∀d,d<4->P d
 |0,_=>U|1,_=>h1|2,_=>h2|3,_=>J|d+4,h=>DD h ac
theorem lt6{P:Nat->Prop}(a:P 0)(h1:P 1)(h2:P 2)(Y:P 3)(U:P 4)(J:P 5):∀d,d<6->P d
 |4,_=>U|5,_=>J|d+6,h=>DD h ac|0,_=>a|1,_=>h1|2,_=>h2|3,_=>Y
noncomputable def iv(a:Int):Nat->aj
 |0=>[]|m+1=>a::iv (a+1) m
noncomputable def chs:Nat->aj->List aj
 |0,_=>[[]]|_+1,[]=>[]|k+1,a::J=>(chs k J).map (a::·)++chs (k+1) J
def begs(Y J U:Nat):List aj:=(chs (U-(U-J)) (iv ((U-J:Nat):Int) (min Y (U+J)-(U-J)))).map (iv 0 (U-J)++·)
def BL(m s:Nat):List aj:=(DR (m+1)).flatMap (begs m s)
section
variable(CR CP CL CT:i_)
def Much(n:Nat)(g s:Nat)(m:Nat):Prop:=∃c:Int,br [.int m,.int s]=.ok (.int c)/\5000<c*(g:Int)^m
theorem much11a(n:Nat):Much n 1 1 19:=⟨6765,by kernel_rfl,ag⟩
theorem much11b(n:Nat):Much n 1 1 20:=⟨10946,by kernel_rfl,ag⟩
theorem much11c(n:Nat):Much n 1 1 21:=⟨17711,by kernel_rfl,ag⟩
theorem much11d(n:Nat):Much n 1 1 22:=⟨28657,by kernel_rfl,ag⟩
theorem much11e(n:Nat):Much n 1 1 23:=⟨46368,by kernel_rfl,ag⟩
theorem much11f(n:Nat):Much n 1 1 24:=⟨75025,by kernel_rfl,ag⟩
def much11(n:Nat):∀d,d<6->Much n 1 1 (19+d):=lt6 (much11a n) (much11b n) (much11c n) (much11d n) (much11e n) (much11f n)
theorem much12a(n:Nat):Much n 1 2 11:=⟨5081,by kernel_rfl,ag⟩
theorem much12b(n:Nat):Much n 1 2 12:=⟨11854,by kernel_rfl,ag⟩
theorem much12c(n:Nat):Much n 1 2 13:=⟨27662,by kernel_rfl,ag⟩
theorem much12d(n:Nat):Much n 1 2 14:=⟨64554,by kernel_rfl,ag⟩
theorem much12e(n:Nat):Much n 1 2 15:=⟨150639,by kernel_rfl,ag⟩
theorem much12f(n:Nat):Much n 1 2 16:=⟨351521,by kernel_rfl,ag⟩
def much12(n:Nat):∀d,d<6->Much n 1 2 (11+d):=lt6 (much12a n) (much12b n) (much12c n) (much12d n) (much12e n) (much12f n)
theorem much13a(n:Nat):Much n 1 3 9:=⟨6404,by kernel_rfl,ag⟩
theorem much13b(n:Nat):Much n 1 3 10:=⟨19708,by kernel_rfl,ag⟩
theorem much13c(n:Nat):Much n 1 3 11:=⟨60216,by kernel_rfl,ag⟩
theorem much13d(n:Nat):Much n 1 3 12:=⟨183988,by kernel_rfl,ag⟩
theorem much13e(n:Nat):Much n 1 3 13:=⟨563172,by kernel_rfl,ag⟩
theorem much13f(n:Nat):Much n 1 3 14:=⟨1725349,by kernel_rfl,ag⟩
def much13(n:Nat):∀d,d<6->Much n 1 3 (9+d):=lt6 (much13a n) (much13b n) (much13c n) (much13d n) (much13e n) (much13f n)
theorem much20a(n:Nat):Much n 2 0 13:=⟨1,by kernel_rfl,ag⟩
theorem much20b(n:Nat):Much n 2 0 14:=⟨1,by kernel_rfl,ag⟩
theorem much20c(n:Nat):Much n 2 0 15:=⟨1,by kernel_rfl,ag⟩
theorem much20d(n:Nat):Much n 2 0 16:=⟨1,by kernel_rfl,ag⟩
theorem much20e(n:Nat):Much n 2 0 17:=⟨1,by kernel_rfl,ag⟩
theorem much20f(n:Nat):Much n 2 0 18:=⟨1,by kernel_rfl,ag⟩
def much20(n:Nat):∀d,d<6->Much n 2 0 (13+d):=lt6 (much20a n) (much20b n) (much20c n) (much20d n) (much20e n) (much20f n)
theorem much21a(n:Nat):Much n 2 1 8:=⟨34,by kernel_rfl,ag⟩
theorem much21b(n:Nat):Much n 2 1 9:=⟨55,by kernel_rfl,ag⟩
theorem much21c(n:Nat):Much n 2 1 10:=⟨89,by kernel_rfl,ag⟩
theorem much21d(n:Nat):Much n 2 1 11:=⟨144,by kernel_rfl,ag⟩
theorem much21e(n:Nat):Much n 2 1 12:=⟨233,by kernel_rfl,ag⟩
theorem much21f(n:Nat):Much n 2 1 13:=⟨377,by kernel_rfl,ag⟩
def much21(n:Nat):∀d,d<6->Much n 2 1 (8+d):=lt6 (much21a n) (much21b n) (much21c n) (much21d n) (much21e n) (much21f n)
theorem much22a(n:Nat):Much n 2 2 7:=⟨172,by kernel_rfl,ag⟩
theorem much22b(n:Nat):Much n 2 2 8:=⟨400,by kernel_rfl,ag⟩
theorem much22c(n:Nat):Much n 2 2 9:=⟨932,by kernel_rfl,ag⟩
theorem much22d(n:Nat):Much n 2 2 10:=⟨2177,by kernel_rfl,ag⟩
theorem much22e(n:Nat):Much n 2 2 11:=⟨5081,by kernel_rfl,ag⟩
theorem much22f(n:Nat):Much n 2 2 12:=⟨11854,by kernel_rfl,ag⟩
def much22(n:Nat):∀d,d<6->Much n 2 2 (7+d):=lt6 (much22a n) (much22b n) (much22c n) (much22d n) (much22e n) (much22f n)
theorem much23a(n:Nat):Much n 2 3 6:=⟨230,by kernel_rfl,ag⟩
theorem much23b(n:Nat):Much n 2 3 7:=⟨675,by kernel_rfl,ag⟩
theorem much23c(n:Nat):Much n 2 3 8:=⟨2069,by kernel_rfl,ag⟩
theorem much23d(n:Nat):Much n 2 3 9:=⟨6404,by kernel_rfl,ag⟩
theorem much23e(n:Nat):Much n 2 3 10:=⟨19708,by kernel_rfl,ag⟩
theorem much23f(n:Nat):Much n 2 3 11:=⟨60216,by kernel_rfl,ag⟩
def much23(n:Nat):∀d,d<6->Much n 2 3 (6+d):=lt6 (much23a n) (much23b n) (much23c n) (much23d n) (much23e n) (much23f n)
end
section
variable(CR CP CL CT:i_)
def Some_(n:Nat)(s m:Nat):Prop:=∃c:Nat,br [.int (m+1:Nat),.int s]=.ok (.int c)/\c<=[1,13,73,230].getD s 0
def some_(n:Nat):∀s:Nat,s<4->∀d,d<6->Some_ n s d:=lt4 (lt6 ⟨1,by kernel_rfl,ag⟩ ⟨1,by kernel_rfl,ag⟩ ⟨1,by kernel_rfl,ag⟩ ⟨1,by kernel_rfl,ag⟩ ⟨1,by kernel_rfl,ag⟩ ⟨1,by kernel_rfl,ag⟩) (lt6 ⟨1,by kernel_rfl,ag⟩ ⟨2,by kernel_rfl,ag⟩ ⟨3,by kernel_rfl,ag⟩ ⟨5,by kernel_rfl,ag⟩ ⟨8,by kernel_rfl,ag⟩ ⟨13,by kernel_rfl,ag⟩) (lt6 ⟨1,by kernel_rfl,ag⟩ ⟨2,by kernel_rfl,ag⟩ ⟨6,by kernel_rfl,ag⟩ ⟨14,by kernel_rfl,ag⟩ ⟨31,by kernel_rfl,ag⟩ ⟨73,by kernel_rfl,ag⟩) (lt6 ⟨1,by kernel_rfl,ag⟩ ⟨2,by kernel_rfl,ag⟩ ⟨6,by kernel_rfl,ag⟩ ⟨24,by kernel_rfl,ag⟩ ⟨78,by kernel_rfl,ag⟩ ⟨230,by kernel_rfl,ag⟩)
def begA(n:Nat):∀s:Nat,s<4->∀d,d<6->cT [.int (d+1:Nat),.int s]=.ok (.lst ((BL (d+1) s).map cU)):=lt4 (lt6 (by kernel_rfl) (by kernel_rfl) (by kernel_rfl) (by kernel_rfl) (by kernel_rfl) (by kernel_rfl)) (lt6 (by kernel_rfl) (by kernel_rfl) (by kernel_rfl) (by kernel_rfl) (by kernel_rfl) (by kernel_rfl)) (lt6 (by kernel_rfl) (by kernel_rfl) (by kernel_rfl) (by kernel_rfl) (by kernel_rfl) (by kernel_rfl)) (lt6 (by kernel_rfl) (by kernel_rfl) (by kernel_rfl) (by kernel_rfl) (by kernel_rfl) (by kernel_rfl))
end
def chkB(m s:Nat):Bool:=z_ (BL m s).Nodup&&(BL m s).all λb=>z_ (b.length<=m)&&b.all λx=>z_ (0<=x)&&z_ (x<m)
def chkA:∀s,s<4->∀d,d<6->chkB (d+1) s=e_:=lt4 (lt6 dkK dkK dkK dkK dkK dkK) (lt6 dkK dkK dkK dkK dkK dkK) (lt6 dkK dkK dkK dkK dkK dkK) (lt6 dkK dkK dkK dkK dkK dkK)
def begB{s:Nat}(Y:1<=m)(U:m<=6)(J:s<4):(BL m s).Nodup/\∀b∈BL m s,b.length<=m/\∀x∈b,0<=x/\x<m:=by
 obtain⟨d,rfl⟩:∃d,m=d+1:=⟨m-1,ac⟩
 have h:=chkA s J d ac;unfold chkB at h;simpa only[r_,DX,Hk] using h
def AK:∀a:Int,aJ a m=(iv a m).map .int:=by
 induction m with
 |zero=>intro a;simp[aJ,iv]|succ m J=>intro a;rw[cV,J];rfl
def iv_len:∀a:Int,(iv a m).length=m:=by
 induction m with
 |zero=>intro a;rfl|succ m J=>intro a;simp[iv,J]
def few_all:∀s,s<4->∀d,d<6->(BL (d+1) s).length<=100:=lt4 (lt6 dkK dkK dkK dkK dkK dkK) (lt6 dkK dkK dkK dkK dkK dkK) (lt6 dkK dkK dkK dkK dkK dkK) (lt6 dkK dkK dkK dkK dkK dkK)
def cap{c s g:Nat}(J:s<4)(U:c<=[1,13,73,230].getD s 0)(a:g=1\/g=2/\m<=[6,6,5,4].getD s 0):(c:Int)*(g:Int)^m<=5000:=by
 have key:c*g^m<=5000:=by
  rcases a with rfl|⟨rfl,Y⟩
  .rw[Nat.one_pow,Nat.mul_one];refine Ee U ?_
   revert s;exact λ{s} J _=>lt4 (P:=λs=>[1,13,73,230].getD s 0<=5000) ag ag ag ag s J
  .refine Ee (JZ U (Nat.pow_le_pow_right ag Y)) ?_
   revert s;exact λ{s} J _ _=>lt4 (P:=λs=>[1,13,73,230].getD s 0*2^[6,6,5,4].getD s 0<=5000) ag ag ag ag s J
 have e:((c*g^m:Nat):Int)=(c:Int)*(g:Int)^m:=by simp
 omega
def lAt(L:List aj)(r a:Nat):Int:=tAt (m4 L r) a
def lAt_put{s:Nat}(J:mn s k L){r a:Nat}(hi:i<s)(e:j<k)(Y:r<s)(x:Int):lAt (putL L i j x) r a=if r=i/\a=j then x else lAt L r a:=by
 have b:=J.1;unfold lAt putL;by_cases c:r=i
 .subst c;have e1:m4 (L.set r ((m4 L r).set j x)) r=(m4 L r).set j x:=by
   unfold m4;rw[DN,vw ac];rfl
  rw[e1];have U:=(j4 J Y).2.1;by_cases d:a=j
  .subst d;rw[s_ ⟨rfl,rfl⟩];unfold tAt;rw[DN,vw ac];rfl
  .rw[q_ (λz=>d z.2)];unfold tAt;rw[DN,DN,m_ (λz=>d z.symm)]
 .rw[q_ (λz=>c z.1)];have e1:m4 (L.set i ((m4 L i).set j x)) r=m4 L r:=by
   show(L.set i ((m4 L i).set j x)).getD r []=L.getD r [];generalize (m4 L i).set j x=w;rw[DN,m_ (λz=>c z.symm),DN]
  rw[e1]
theorem xi(U:Nat->Int):∀(xs:aj) (j:Nat) (y:Int),y∈uX U j xs↔∃a,a<xs.length/\tAt xs a≠ -1/\y=tAt xs a+U (j+a)
 |[],j,y=>by simp[uX]|x::xs,j,y=>by
  have c:=xi U xs (j+1) y;have Y:(∃a,a<xs.length/\tAt xs a≠ -1/\y=tAt xs a+U (j+1+a))↔∃a,0<a/\a<(x::xs).length/\tAt (x::xs) a≠ -1/\y=tAt (x::xs) a+U (j+a):=by
   constructor
   .rintro⟨a,h1,h2,J⟩;refine⟨a+1,ac,by simpa using h1,h2,?_⟩
    rw[J];have:j+1+a=j+(a+1):=ac
    rw[this];rfl
   .rintro⟨a,d,h1,h2,J⟩;obtain⟨b,rfl⟩:∃b,a=b+1:=⟨a-1,ac⟩
    refine⟨b,by simpa using h1,h2,?_⟩
    rw[J];have:j+1+b=j+(b+1):=ac
    rw[this];rfl
  by_cases e:x= -1
  .rw[uX,s_ e,c,Y];constructor
   .rintro⟨a,_,h⟩;exact⟨a,h⟩
   .rintro⟨a,h1,h2,J⟩;cases a with
    |zero=>exact DD e (by simpa[tAt] using h2)|succ a=>exact⟨a+1,ac,h1,h2,J⟩
  .rw[uX,q_ e,p_,c,Y];constructor
   .rintro(h|⟨a,_,h⟩)
    .exact⟨0,ad,by simpa[tAt] using e,by simpa[tAt] using h⟩
    .exact⟨a,h⟩
   .rintro⟨a,h1,h2,J⟩;cases a with
    |zero=>exact .inl (by simpa[tAt] using J)|succ a=>exact .inr ⟨a+1,ac,h1,h2,J⟩
theorem sG(Y:Nat->Nat->Int):∀(L:List aj) (i:Nat) (y:Int),y∈yw Y i L↔∃r a,r<L.length/\a<(m4 L r).length/\lAt L r a≠ -1/\y=lAt L r a+Y (i+r) a
 |[],i,y=>by simp[yw]|b::L,i,y=>by
  rw[yw,FR,xi,sG Y L (i+1) y];constructor
  .rintro(⟨a,h1,h2,J⟩|⟨r,a,h1,h2,J,U⟩)
   .exact⟨0,a,ad,h1,h2,by rw[J,KO];rfl⟩
   .refine⟨r+1,a,by simpa using h1,h2,J,?_⟩
    rw[U];have:i+1+r=i+(r+1):=ac
    rw[this];rfl
  .rintro⟨r,a,h1,h2,J,U⟩;cases r with
   |zero=>exact .inl ⟨a,h2,J,by rw[U,KO];rfl⟩|succ r=>
    refine .inr ⟨r,a,by simpa using h1,h2,J,?_⟩;rw[U];have:i+1+r=i+(r+1):=ac
    rw[this];rfl
theorem tZ(n:Nat):∀L:List aj,iU (L.map cU) (n+2)=e_
 |[]=>rfl|r::L=>by simp[iU,HS,cU,vG,tZ n L]
def vH(l:LK):HS (Lake.bE l) 40=e_:=by simp[Lake.bE,HS,iU,tZ]
theorem ke:∀a b:aj,mI (a.map .int) (b.map .int)=z_ (a=b)
 |[],[]=>rfl|[],b::bs=>rfl|a::J,[]=>rfl|a::J,b::bs=>by rw[x_,x_,mI,ke J bs];simp[eqD];rfl
theorem ur:∀a b:List aj,mI (a.map cU) (b.map cU)=z_ (a=b)
 |[],[]=>rfl|[],b::bs=>rfl|a::J,[]=>rfl|a::J,b::bs=>by rw[x_,x_,mI,ur J bs];simp[eqD,cU,ke]
def eq_labs(a b:LK):eqM (Lake.bE a) (Lake.bE b)=.ok (.bl (z_ (a=b))):=by unfold eqM;rw[vH,vH];obtain⟨c,L⟩:=a;obtain⟨d,M⟩:=b;simp[Lake.bE,eqD,mI,ur,Prod.ext_iff,Bool.decide_and];rfl
def eq_labO(a:Option LK)(b:LK):eqM (labO a) (Lake.bE b)=.ok (.bl (z_ (a=a_ b))):=by
 cases a with
 |some a=>rw[labO,eq_labs];simp|none=>unfold eqM;rw[vH];simp[labO,HS,Lake.bE,eqD]
def min_lab(k:LK)(ks:aG):minLD [nO (k::ks)]=.ok (Lake.bE (jS k ks)):=by
 have h:∀J:aG,lZ (J.map Lake.bE)=.ok J:=by
  intro J
  induction J with
  |nil=>rfl|cons x J U=>rw[x_,lZ,rG,av,U];rfl
 unfold nO minLD;simp only[h,av]
theorem u6:∀(ks:aG) (k:LK),(jS k ks=k\/jS k ks∈ks)/\(jS k ks).1<=k.1/\∀x∈ks,(jS k ks).1<=x.1
 |[],k=>⟨.inl rfl,GP _,λx h=>(by cases h)⟩|y::ks,k=>by
  have J:∀b:LK,(if ltL y b=e_ then y else b).1<=b.1/\(if ltL y b=e_ then y else b).1<=y.1:=λb=>by
   unfold ltL;by_cases e:y.1=b.1
   .rw[s_ e];split<;>omega
   .rw[q_ e];by_cases c:y.1<b.1
    .rw[Gu c,s_ rfl];omega
    .rw[Eu c,q_ ad];omega
  obtain⟨h1,h2,Y⟩:=u6 ks (if ltL y k=e_ then y else k);obtain⟨d,a⟩:=J k;have e:jS k (y::ks)=jS (if ltL y k=e_ then y else k) ks:=rfl;rw[e];refine⟨?_,ac,λx U=>?_⟩
  .rcases h1 with z|z
   .rw[z];split
    .exact .inr ad
    .exact .inl rfl
   .exact .inr (by simp[z])
  .rcases p_.mp U with z|z
   .rw[z];omega
   .exact Y x z
def V.At.tight(hv:v.Good)(d:v.At t):v.Tight:=λq s l r s' u J p o U=>by
 obtain⟨_,f⟩:=hv.fAt u;obtain⟨_,g⟩:=hv.fAt p;obtain⟨_,n⟩:=vW (fl:=v.fl) (i:=(q:Int)) ac ac;obtain⟨_,m⟩:=vW (fl:=v.fl) (i:=(r:Int)) ac ac;have k:=d.fl _ n;have h:=d.fl _ m;have b:v.f q=ij v.fl q:=rfl;have Y:v.f r=ij v.fl r:=rfl;rw[<- b]at k;rw[<- Y]at h;unfold V.beh at U;split at U
 .cases U
 .cases U;have E:=(hv.nxt (v7 v.g v.l0.2 (v.f q) s)).1;have D:(v.f q).first<=v7 v.g v.l0.2 (v.f q) s:=(Lake.fold_max _ _).2.1;have C:v.bt v.l0 q s=nx v.cs (v7 v.g v.l0.2 (v.f q) s):=rfl;have B:=f.f0;have x:=f.k0;have w:=f.k1;unfold V.beh;rw[s_];have A:=(hv.nxt (v7 v.g (putL v.l0.2 s (v.f q).kind.toNat (v.bt v.l0 q s)) (v.f r) s')).1;have e:=v.C6.good;have z:v.bt v.l0 q s+apS v.g.rows v.g.r2 (((v.f q).kind.toNat:Nat),(s:Nat)) ((v.f r).kind,(s':Nat))<=v7 v.g (putL v.l0.2 s (v.f q).kind.toNat (v.bt v.l0 q s)) (v.f r) s':=by
   have c:=lAt_put e (i:=s) (j:=(v.f q).kind.toNat) (r:=s) (a:=(v.f q).kind.toNat) J ac J (v.bt v.l0 q s);rw[s_ ⟨rfl,rfl⟩]at c;refine(Lake.fold_max _ _).2.2 _ ((sG _ _ 0 _).mpr ⟨s,(v.f q).kind.toNat,by rw[(jN e J _).1];exact J,?_,by rw[c];omega,by rw[c,KO]⟩);rw[(j4 (jN e J _) J).2.1];omega
  have y:1<=apS v.g.rows v.g.r2 (((v.f q).kind.toNat:Nat),(s:Nat)) ((v.f r).kind,(s':Nat)):=by
   have:=d.gap ((v.f q).kind.toNat:Nat) (v.f r).kind ac ac g.k0 g.k1;unfold apS;split
   .exact this.1
   .exact this.2
  show(v.f r).last<nx v.cs (v7 v.g (putL v.l0.2 s (v.f q).kind.toNat (v.bt v.l0 q s)) (v.f r) s');omega
section
variable(CR CP CL CT:i_)
def xt(n:Nat)(J:CR≠CP)(hv:v.Good){s:Nat}(p:1<=m)(k:m<=6)(U:s<4)(Y:v.fl.length=m)(l:2<=m->v.Tight)(j:br [.int m,.int s]=.ok (.int c))(u:c*v.g.s^m<=5000):v.wJ (v.pap [] (BL m s))/\fw CR CP CL CT n [ao CR CP v.g.rows v.g.o,.lst (v.fl.map flD),.lst (v.cs.map stD),.int s]=.ok (.dic (km (v.pap [] (BL m s)))):=by
 obtain⟨r,f⟩:=begB p k U;have q:(BL m s).length<16777216:=by
  have:(BL m s).length<=100:=by
   obtain⟨d,rfl⟩:∃d,m=d+1:=⟨m-1,ac⟩
   exact few_all s U d ac
  omega
 obtain⟨i,t,e⟩:=pP CR CP CL CT n J hv (a_ (.int s)) (BL m s) [] g_ (V.wJ.nil v) (by simpa using r) (λb a=>⟨λx g=>by rw[Y];exact(f b a).2 x g,by have:=(f b a).1;omega,λh=>l (by have:=(f b a).1;omega)⟩) (by simpa using q);refine⟨i,?_⟩
 have h1:=tM CR CP CL CT n J (v:=v) ac Y j;rw[q_ ac]at h1;have h2:cT [.int m,.int s]=.ok (.lst ((BL m s).map cU)):=by
  obtain⟨d,rfl⟩:∃d,m=d+1:=⟨m-1,ac⟩
  exact begA n s U d ac
 have o:km []=[]:=rfl;rw[o]at e;simp[fw,kM,h1,Y,h2,e]
def best_too(n:Nat)(J:CR≠CP){s:Nat}(Y:m<=64)(a:v.fl.length=m)(d:A')(U:br [.int m,.int s]=.ok (.int c))(b:5000<c*v.g.s^m):
  b9 CR CP CL CT n [ao CR CP v.g.rows v.g.o,.lst (v.fl.map flD),d,.int s]=.error (.exc CT []):=by
 have h1:=tM CR CP CL CT n J (v:=v) Y a U;rw[s_ b]at h1;have h2:fw CR CP CL CT n [ao CR CP v.g.rows v.g.o,.lst (v.fl.map flD),d,.int s]=.error (.exc CT []):=by simp[fw,kM,h1]
 simp[b9,gY,h2]
def Dj(n:Nat)(J:CR≠CP)(hv:v.Good)(a:v.At t){s:Nat}(h2:2<=m)(h:m<=6)(f:s<4)(Y:v.fl.length=m)(g:br [.int m,.int s]=.ok (.int c))(j:c*v.g.s^m<=5000):
  b9 CR CP CL CT n [ao CR CP v.g.rows v.g.o,.lst (v.fl.map flD),.lst (v.cs.map stD),.int s]=.error (.exc CL [("crowd",.lst ((i4 m).map .int))]):=by
 obtain⟨k,e1⟩:=xt CR CP CL CT n J hv ac h f Y (λ_=>a.tight hv) g j;have U:=jY (iv 0 m) (v.pap [] (BL m s));rw[k.two (iv 0 m) (by rw[iv_len];exact h2)]at U;have i:nO []=.lst []:=rfl;rw[i]at U;have k1:(-4611686018427387904:Int)<=(m:Int):=ac
 have k2:(m:Int)<4611686018427387904:=ac
 have k3:(aJ 0 m).length<=16777216:=by rw[fq];omega
 have b:A'.tup (aJ 0 m)=cU (iv 0 m):=by rw[AK];rfl
 generalize km (v.pap [] (BL m s))=P at e1 U;have e3:=crowdT CR CP CL CT n J hv a ac;rw[Y]at e3;obtain⟨x,xs,d⟩:∃x xs,(i4 m).map A'.int=x::xs:=by
  cases e:(i4 m).map A'.int with
  |nil=>have:=Hd JP e;simp[qF]at this;omega|cons x xs=>exact⟨x,xs,rfl⟩
 rw[d]at e3 ⊢;simp[b9,gY,hZ,e1,Y,k1,k2,k3,b,vQ,pU,U,e3]
end
structure V.Lone(v:V)(t u:Int):Prop where
 fl:v.fl=[⟨0,t,1000000000,0,1⟩]
 t0:0<=t
 tu:t<=u
 nx:nx v.cs t=u
 u1:u<=1000000000
def Dn(U:Nat->Nat->Int)(g:Gp):yw U 0 (L0 g)=[]:=by
 refine HQ.mpr λy Y=>?_;obtain⟨r,a,h1,h2,d,_⟩:=(sG U _ 0 y).mp Y;have b:r<g.s:=by simpa[L0] using h1
 obtain⟨J,e,_⟩:=j4 (Dt g) b;have c:m4 (L0 g) r=Eh g.k (-1):=Hq (by unfold L0 at J ⊢;exact J);refine d ?_;unfold lAt tAt;rw[c]at h2 ⊢;rw[DN,C_ h2];simp
theorem V.Lone.f(h:v.Lone t u):v.f 0=⟨0,t,1000000000,0,1⟩:=by unfold V.f;rw[h.fl];rfl
theorem V.Lone.bt(h:v.Lone t u)(s:Nat):v.bt v.l0 0 s=u:=by unfold V.bt v7;rw[h.f,show v.l0.2=L0 v.g from rfl,Dn];exact h.nx
theorem V.Lone.beh(h:v.Lone t u)(s:Nat):v.beh v.l0 0 s=a_ (u,putL (L0 v.g) s 0 u):=by
 have h1:=h.u1;have h2:=h.t0;have J:=h.tu;unfold V.beh;rw[h.bt s,h.f,q_ (by show ¬(1000000000:Int)<u;omega)];have e:late ⟨0,t,1000000000,0,1⟩ u=u:=by show(1:Int)*ik 0 (u-0)=u;unfold ik;split<;>omega
 rw[e];show a_ ((0:Int)+u,_)=_;rw[Int.zero_add];rfl
section
variable(CR CP CL CT:i_)
theorem wZ(n:Nat)(J:CR≠CP){v:V}(hv:v.Good)(c:0<v.fl.length)(f d:Option A')(l:LK):∀(r j:Nat) (U:Option A'),j+r=v.g.s->(∃s,j<=s/\s<v.g.s/\v.beh v.l0 0 s=a_ l)->∃s:Nat,s<v.g.s /\
  cp (.nm 9) (dZ CR CP CL CT n) (aJ (j:Int) r) [a_ (ao CR CP v.g.rows v.g.o),a_ (.lst (v.fl.map flD)),a_ (.lst (v.cs.map stD)),f,d,a_ (Lake.bE l),a_ (.tup []),a_ (.int 0),a_ (Lake.bE v.l0),U]=.ok (.rt (.tup [.tup [],Lake.bE v.l0,.tup [.int 0,.int s]]))
 |0,j,U,h,⟨s,h1,h2,_⟩=>by omega|r+1,j,U,h,g=>by
  have e:=behV CR CP CL CT n J hv v.C6 c (s:=j) ac;have e2:=eq_labO (v.beh v.l0 0 j) l;have e:bz CR CP CL CT n [ao CR CP v.g.rows v.g.o,.lst (v.fl.map flD),.lst (v.cs.map stD),Lake.bE v.l0,.int 0,.int j]=.ok (labO (v.beh v.l0 0 j)):=e;rw[cV,cp,oX,av];simp only[Fb,E_];by_cases b:v.beh v.l0 0 j=a_ l
  .rw[Gu b]at e2;refine⟨j,ac,?_⟩
   simp[dZ,hW,e,e2]
  .rw[Eu b]at e2;obtain⟨s,h1,h2,a⟩:=g;obtain⟨s',i,Y⟩:=wZ n J hv c f d l r (j+1) (a_ (.int j)) ac ⟨s,by
    by_cases z:s=j
    .rw[z]at a;exact DD a b
    .omega,h2,a⟩
   refine⟨s',i,?_⟩
   have k:((j+1:Nat):Int)=(j:Int)+1:=rfl;rw[k]at Y;simp only[dZ,hW]at Y;simp[dZ,hW,e,e2,Y]
def step1(n:Nat)(J:CR≠CP)(hv:v.Good)(c:0<v.fl.length){P:Pap}(f:look P []=[v.l0])(d:∃s,s<v.g.s/\v.beh v.l0 0 s=a_ l):∃s:Nat,s<v.g.s /\
  jT CR CP CL CT n [ao CR CP v.g.rows v.g.o,.lst (v.fl.map flD),.lst (v.cs.map stD),.dic (km P),cU [0],Lake.bE l]=.ok (.tup [.tup [],Lake.bE v.l0,.tup [.int 0,.int s]]):=by
 obtain⟨s,h1,h2⟩:=d;obtain⟨s',h,Y⟩:=wZ CR CP CL CT n J hv c (a_ (.dic (km P))) (a_ (cU [0])) l v.g.s 0 g_ ac ⟨s,E1 _,h1,h2⟩;refine⟨s',h,?_⟩
 obtain⟨j,i⟩:=v.g.s2;have a:=rM CR CP n J (g:=v.g) (ae 0) [a_ (ao CR CP v.g.rows v.g.o),a_ (.lst (v.fl.map flD)),a_ (.lst (v.cs.map stD)),a_ (.dic (km P)),a_ (cU [0]),a_ (Lake.bE l),a_ (.tup []),a_ (.int 0),a_ (Lake.bE v.l0),g_] ad;have k1:(-4611686018427387904:Int)<=(v.g.s:Int):=ac
 have k2:(v.g.s:Int)<4611686018427387904:=ac
 have b:=pH CR CP CL CT n [0] ad;have b:bj [cU [0]]=.ok (.lst [.tup [.tup [],.int 0]]):=b;have U:=jY [] P;rw[f]at U;have U:(vV (km P) []).getD (.lst [])=.lst [Lake.bE v.l0]:=U;have e:nB (.tup [])=.ok []:=pU [];have Y:cp (.nm 9) (dZ CR CP CL CT n) (aJ 0 v.g.s) [a_ (ao CR CP v.g.rows v.g.o),a_ (.lst (v.fl.map flD)),a_ (.lst (v.cs.map stD)),a_ (.dic (km P)),a_ (cU [0]),a_ (Lake.bE l),a_ (.tup []),a_ (.int 0),a_ (Lake.bE v.l0),g_]=.ok (.rt (.tup [.tup [],Lake.bE v.l0,.tup [.int 0,.int s']])):=Y;simp[jT,ug,b,cp,o7,vQ,e,U,o8,a,k1,k2,Y]
def while1(n:Nat)(U:CR≠CP)(hv:v.Good)(d:0<v.fl.length){P:Pap}(h:look P []=[v.l0])(g:∃s,s<v.g.s/\v.beh v.l0 0 s=a_ l)(a Y:Option A')(J:Nat)(i:2<=J):∃s:Nat,s<v.g.s/\∃b,
  eS (jr) (jC CR CP CL CT n) J [a_ (ao CR CP v.g.rows v.g.o),a_ (.lst (v.fl.map flD)),a_ (.lst (v.cs.map stD)),a_ (.dic (km P)),a,Y,a_ (.tup [cU [0],Lake.bE l]),a_ (.lst []),g_]=.ok (.nx [a_ (ao CR CP v.g.rows v.g.o),a_ (.lst (v.fl.map flD)),a_ (.lst (v.cs.map stD)),a_ (.dic (km P)),a,Y,a_ (.tup [.tup [],Lake.bE v.l0]),a_ (.lst [.tup [.int 0,.int s]]),b]):=by
 obtain⟨f,rfl⟩:∃f,J=f+2:=⟨J-2,ac⟩
 obtain⟨s,c,e⟩:=step1 CR CP CL CT n U hv d h g;have h1:neM (cU [0]) (.tup [])=.ok (.bl e_):=(BN [0]).2;have h2:neM (.tup []) (.tup [])=.ok (.bl c_):=(BN []).2;refine⟨s,c,a_ (.tup [.tup [],Lake.bE v.l0,.tup [.int 0,.int s]]),?_⟩
 rw[eS];simp only[jr,jC];simp[h1,e,eS,h2]
def plan1(n:Nat)(a:2<=n)(J:CR≠CP)(hv:v.Good)(Y:0<v.fl.length){P:Pap}(c:look P []=[v.l0])(b:∃s,s<v.g.s/\v.beh v.l0 0 s=a_ l):∃s:Nat,s<v.g.s /\
  jU CR CP CL CT n [ao CR CP v.g.rows v.g.o,.lst (v.fl.map flD),.lst (v.cs.map stD),.dic (km P),cU [0],Lake.bE l]=.ok (.lst [.tup [.int 0,.int s]]):=by
 obtain⟨s,U,d,e⟩:=while1 CR CP CL CT n J hv Y c b (a_ (cU [0])) (a_ (Lake.bE l)) n a;refine⟨s,U,?_⟩
 simp[jU,uh,e,revD]
def times1(n:Nat)(hv:v.Good)(h:v.Lone t u)(s:Nat)(Y:s<v.g.s)(R:A'):iX CR CP CL CT n [R,.lst (v.fl.map flD),.lst (v.cs.map stD),.lst [.tup [.int 0,.int s]]]=.ok (.lst [.int u]):=by
 obtain⟨e,_⟩:=nextV n hv t;rw[h.nx]at e;have J:=h.u1;have J:¬(1000000000:Int)<u:=ac
 rw[h.fl];have U:maxD [.lst [.int t]]=.ok (.int t):=rfl;simp[iX,q9,kH,qc,aS,flD,cp,cY,lK,lG,jy,nG,aJ,j6,U,e,J,-xX]
def cost1(n:Nat)(h:v.Lone t u)(s:Nat):jV [.lst (v.fl.map flD),.lst [.tup [.int 0,.int s]],.lst [.int u]]=.ok (.int u):=by
 have h1:=C0 n ⟨0,t,1000000000,0,1⟩ u (by show(0:Int)<=1;decide) (by show(1:Int)<=1000000000;decide);have e:late ⟨0,t,1000000000,0,1⟩ u=u:=by have h2:=h.t0;have U:=h.tu;show(1:Int)*ik 0 (u-0)=u;unfold ik;split<;>omega
 rw[e]at h1;simp only[flD]at h1;rw[h.fl];have J:bD [.int u]=.ok [u]:=rfl;simp[jV,ui,aS,flD,ko,h1,J]
def best_one(n:Nat)(hn:2<=n)(hne:CR≠CP)(hv:v.Good)(h:v.Lone t u){s:Nat}(hs:s<4):∃st:Nat,st<v.g.s /\
  b9 CR CP CL CT n [ao CR CP v.g.rows v.g.o,.lst (v.fl.map flD),.lst (v.cs.map stD),.int s]=.ok (.tup [.int u,.lst [.tup [.int 0,.int st]],.lst [.int u]]):=by
 have hl:v.fl.length=1:=by rw[h.fl];rfl
 obtain⟨c,ho,hc⟩:=some_ n s hs 0 ac;obtain⟨s1,s2⟩:=v.g.s2;obtain⟨hT,e1⟩:=xt CR CP CL CT n hne hv (m:=1) ac ac hs hl (λz=>by omega) ho (cap hs hc (by
  rcases Nat.lt_or_ge v.g.s 2 with z|z
  .exact .inl ac
  .exact .inr ⟨ac,lt4 (P:=λs=>1<=[6,6,5,4].getD s 0) ag ag ag ag s hs⟩))
 have hB:BL 1 s=[[],[0]]:=by exact lt4 (P:=λs=>BL 1 s=[[],[0]]) rfl rfl rfl rfl s hs
 rw[hB]at hT e1;have hP:v.pap [] [[],[0]]=[([],[v.l0]),([0],l7 (v.sF [([],[v.l0])] [0]))]:=rfl;have hl0:look (v.pap [] [[],[0]]) []=[v.l0]:=rfl;have hl1:look (v.pap [] [[],[0]]) [0]=l7 (v.sF [([],[v.l0])] [0]):=rfl;have hne1:l7 (v.sF [([],[v.l0])] [0])≠[]:=λz=>by obtain⟨y,hy,_⟩:=best_cov (ks:=v.sF [([],[v.l0])] [0]) (x:=(u,putL (L0 v.g) 0 0 u)) (v.mM.mpr ⟨0,ad,v.l0,by simp[look],0,ac,h.beh 0⟩);rw[z]at hy;cases hy
 obtain⟨k,ks,ek⟩:∃k ks,l7 (v.sF [([],[v.l0])] [0])=k::ks:=by
  cases hb:l7 (v.sF [([],[v.l0])] [0])with
  |nil=>exact absurd hb hne1|cons k ks=>exact⟨k,ks,rfl⟩
 have hml:jS k ks∈look (v.pap [] [[],[0]]) [0]:=by
  rw[hl1,ek];rcases(u6 ks k).1 with z|z
  .rw[z];simp
  .simp[z]
 obtain⟨q,st,q1,q2,q3⟩:=hT.one [0] rfl _ hml;have q0:q=0:=ac
 subst q0;obtain⟨s',h3,e3⟩:=plan1 CR CP CL CT n hn hne hv ac hl0 ⟨st,q2,q3⟩;refine⟨s',h3,?_⟩
 have e4:=times1 CR CP CL CT n hv h s' h3 (ao CR CP v.g.rows v.g.o);have e5:=cost1 n h s';have e6:=min_lab k ks;have hg:=jY [0] (v.pap [] [[],[0]]);rw[hl1,ek]at hg;have hne':nO (k::ks)=.lst (Lake.bE k::ks.map Lake.bE):=rfl;rw[hne']at hg e6;have k4:A'.tup (aJ 0 1)=cU [0]:=rfl;have k3:(aJ 0 1).length<=16777216:=by rw[fq];omega
 generalize km (v.pap [] [[],[0]])=P at e1 e3 hg;generalize Lake.bE (jS k ks)=M at e3 e6;simp[b9,gY,hZ,e1,hl,k3,k4,vQ,pU,hg,e6,e3,e4,e5]
end
def ne_tell{K:Fg}{C1 C2 A1 A2:i_}{T:String}{ys:List i_}{b f d a c Y U J:Bool}(h1:lN K C1 A1 A2 T ys [b,f,d,a])(h2:lN K C2 A1 A2 T ys [c,Y,U,J])(h:b≠c):C2≠C1:=λe=>by subst e;obtain⟨_,_,_,_,e1,k1,_⟩:=h1.ex;obtain⟨_,_,_,_,e2,k2,_⟩:=h2.ex;cases e1;cases e2;rw[k1]at k2;exact h (by cases k2;rfl)
section
variable(CR CP CL CT:i_)
def vo(n:Nat)(J:CT≠CL)(R F c:A')(s:Int)(h:b9 CR CP CL CT n [R,F,c,.int s]=.error (.exc CT [])):bA CR CP CL CT n [R,F,c,.int s]=.ok (.lst [.bl e_,.bl c_,.bl e_,.bl c_]):=by
 have U:DF CT [(CL,[c_,e_,e_,c_]),(CT,[e_,c_,e_,c_])]=a_ [e_,c_,e_,c_]:=by rw[A_,show(CT==CL)=c_ by simpa using J];simp
 have Y:cm CR CP CL CT n [a_ R,a_ F,a_ c,a_ (.int s),a_ (.lst []),g_]=.ok (.nx [a_ R,a_ F,a_ c,a_ (.int s),a_ (.lst [.bl e_,.bl c_,.bl e_,.bl c_]),g_]):=by
  unfold cm;rw[kS (C:=CT) (fs:=[]) (bs:=[e_,c_,e_,c_])]
  .rfl
  .simp[h]
  .exact U
 simp[bA,gC,Y]
def tL(n:Nat)(R F c:A')(s:Int){ds:List A'}(h:b9 CR CP CL CT n [R,F,c,.int s]=.error (.exc CL [("crowd",.lst ds)])):bA CR CP CL CT n [R,F,c,.int s]=.ok (.lst [.bl c_,.bl e_,.bl e_,.bl c_])/\eA CR CP CL CT n [R,F,c,.int s]=.ok (.lst ds):=by
 constructor
 .have U:DF CL [(CL,[c_,e_,e_,c_]),(CT,[e_,c_,e_,c_])]=a_ [c_,e_,e_,c_]:=by
   rw[A_];simp
  have J:cm CR CP CL CT n [a_ R,a_ F,a_ c,a_ (.int s),a_ (.lst []),g_]=.ok (.nx [a_ R,a_ F,a_ c,a_ (.int s),a_ (.lst [.bl c_,.bl e_,.bl e_,.bl c_]),g_]):=by
   unfold cm;rw[kS (C:=CL) (fs:=[("crowd",.lst ds)]) (bs:=[c_,e_,e_,c_])]
   .rfl
   .simp[h]
   .exact U
  simp[bA,gC,J]
 .have J:gE CR CP CL CT n [a_ R,a_ F,a_ c,a_ (.int s),a_ .non,g_]=.ok (.nx [a_ R,a_ F,a_ c,a_ (.int s),a_ (.lst ds),g_]):=by
   unfold gE;rw[qm (f:=("crowd",.lst ds)) (fs:=[])]
   .simp
   .simp[h]
  simp[eA,lC,J]
def iN(n:Nat)(ns:aj)(j:Nat):∃x:Int,aI [.lst (ns.map .int),.int j]=.ok (.int x)/\0<=x/\x<10^24:=by
 by_cases h:j<ns.length
 .have e:=getT (ts:=ns) h;have h':(j:Int)<(ns.length:Int):=ac
  refine⟨tAt ns j%10^24,?_,Ll _ ag,Kx _ ag⟩
  simp[aI,gD,eQ,h',e]
 .have h':¬(j:Int)<(ns.length:Int):=ac
  exact⟨0,by simp[aI,gD,eQ,h'],ag,ag⟩
def Pos(rows:List aj):Prop:=∀r∈rows,∀x∈r,1<=x
theorem gap_in(n:Nat)(rest:List A')(a Y:Option A'):∀(r:Nat) (j:Nat) (c:Int) (J:aj) (f:Option A'),0<=c->c<10^24->j+r<=6->J.length=j->(∀x∈J,1<=x/\x<=1000000)->∃b U h,0<=b/\b<10^24/\U.length=j+r/\(∀x∈U,1<=x/\x<=1000000) /\
  cp (.nm 5) (dM) (aJ (j:Int) r) [a_ (.int c),a,a_ (.lst rest),Y,a_ (gH J),f]=.ok (.nx [a_ (.int b),a,a_ (.lst rest),Y,a_ (gH U),h])
 |0,j,c,J,f,l,h1,_,k,i=>⟨c,J,f,l,h1,k,i,rfl⟩|r+1,j,c,J,f,l,h1,h2,k,i=>by
  have p:mulB (.int c) (.int c)=.ok (.int (c*c)):=e_mulBI ac ac;generalize hd:(c*c+48271*c+(j:Int))%2305843009213693951=d;have y:0<=d:=by rw[<- hd];exact Ll _ ag
  have A:d<2305843009213693951:=by rw[<- hd];exact Kx _ ag
  obtain⟨g,u,g2,v⟩:∃g:Int,1<=1+g/\1+g<=1000000/\jA [.int (d/8%5),.int (d/8%1000000)] (d%2)=.ok (.int g):=by
   rcases Int.emod_two_eq d with z|z
   .exact⟨d/8%5,ac,ac,by rw[z];rfl⟩
   .exact⟨d/8%1000000,ac,ac,by rw[z];rfl⟩
  obtain⟨b,U,h,o,q1,q2,m,e⟩:=gap_in n rest a Y r (j+1) d (J++[1+g]) (a_ (.int j)) y ac ac (by simp[k]) (λx q=>by
   rcases FR.mp q with z|z
   .exact i x z
   .rw[ER.mp z];exact⟨u,g2⟩)
  refine⟨b,U,h,o,q1,ac,m,?_⟩
  have s:J.length<16777216:=ac
  have w:((j+1:Nat):Int)=(j:Int)+1:=rfl;rw[w]at e;have t:dM [a_ (.int c),a,a_ (.lst rest),Y,a_ (gH J),a_ (.int j)]=.ok (.nx [a_ (.int d),a,a_ (.lst rest),Y,a_ (gH (J++[1+g])),a_ (.int j)]):=by simp only[gH];simp[dM,p,hd,v,s]
  rw[cV,cp,oX,av];simp only[Fb,E_];rw[t,av];exact e
theorem Co(n:Nat)(k:Nat)(B:k<=6):∀(r:Nat) (j:Nat) (c:Int) (rows:List aj) (f a Y:Option A'),0<=c->c<10^24->j+r<=6->rows.length=j->(∀q∈rows,q.length=k/\∀x∈q,1<=x/\x<=1000000)->∃l J p o b,J.length=j+r/\(∀q∈J,q.length=k/\∀x∈q,1<=x/\x<=1000000) /\
  cp (.nm 3) (dJ) (aJ (j:Int) r) [a_ (.int c),a_ (.int k),a_ (aP rows),f,a,Y]=.ok (.nx [a_ (.int l),a_ (.int k),a_ (aP J),p,o,b])
 |0,j,c,rows,f,a,Y,m,h1,_,i,g=>⟨c,rows,f,a,Y,i,g,rfl⟩|r+1,j,c,rows,f,a,Y,m,h1,h2,i,g=>by
  obtain⟨d,U,b,w,q1,q2,v,e1⟩:=gap_in n (rows.map gH) (a_ (.int k)) (a_ (.int j)) k 0 c [] Y m h1 ac rfl (λx h=>nomatch h);obtain⟨l,J,u,t,s,p1,p2,e⟩:=Co n k B r (j+1) d (rows++[U]) (a_ (.int j)) (a_ (gH U)) b w q1 ac (by simp[i]) (λq y=>by
   rcases FR.mp y with z|z
   .exact g q z
   .rw[ER.mp z];exact⟨ac,v⟩)
  refine⟨l,J,u,t,s,ac,p2,?_⟩
  have A:rows.length<16777216:=ac
  have k1:(-4611686018427387904:Int)<=(k:Int):=ac
  have k2:(k:Int)<4611686018427387904:=ac
  have D:((j+1:Nat):Int)=(j:Int)+1:=rfl;rw[D]at e;have e1:cp (.nm 5) (dM) (aJ 0 k) [a_ (.int c),a_ (.int k),a_ (.lst (rows.map gH)),a_ (.int j),a_ (.lst []),Y]=.ok (.nx [a_ (.int d),a_ (.int k),a_ (.lst (rows.map gH)),a_ (.int j),a_ (gH U),b]):=e1;have C:dJ [a_ (.int c),a_ (.int k),a_ (aP rows),a_ (.int j),a,Y]=.ok (.nx [a_ (.int d),a_ (.int k),a_ (aP (rows++[U])),a_ (.int j),a_ (gH U),b]):=by simp only[aP];simp[dJ,k1,k2,e1,A]
  rw[cV,cp,oX,av];simp only[Fb,E_];rw[C,av];exact e
def Cn(n:Nat)(c:Int)(g:0<=c)(h1:c<10^24)(k:Nat)(f:k<=6):∃rows,bN k rows/\Pos rows/\dS [.int c,.int k]=.ok (aP rows):=by
 obtain⟨i,rows,d,b,a,h2,Y,e⟩:=Co n k f k 0 c [] g_ g_ g_ g h1 ac rfl (λq h=>nomatch h);refine⟨rows,⟨ac,λr J=>⟨(Y r J).1,λx U=>by have:=(Y r J).2 x U;omega⟩⟩,λr J x U=>((Y r J).2 x U).1,?_⟩
 have k1:(-4611686018427387904:Int)<=(k:Int):=ac
 have k2:(k:Int)<4611686018427387904:=ac
 have e:cp (.nm 3) (dJ) (aJ 0 k) [a_ (.int c),a_ (.int k),a_ (.lst []),g_,g_,g_]=.ok (.nx [a_ (.int i),a_ (.int k),a_ (aP rows),d,b,a]):=e;simp[dS,nI,k1,k2,e]
def Pos.at(g:bN k rows)(h:Pos rows){i j:Int}(a:0<=i)(h1:i<k)(h2:0<=j)(Y:j<k):1<=at2 rows i j:=by
 have hi:i.toNat<rows.length:=by have:=g.1;omega
 have J:Bb rows i∈rows:=by unfold Bb;rw[DN,C_ hi];exact EX hi
 have U:j.toNat<(Bb rows i).length:=by have:=(g.2 _ J).1;omega
 refine h _ J _ ?_;unfold at2;rw[DN,C_ U];exact EX U
end
theorem rq{α:Type}(f:α->A')(n:Nat)(h:∀a,HS (f a) n=e_):∀l:List α,iU (l.map f) n=e_
 |[]=>rfl|a::l=>by rw[x_,iU,h a,rq f n h l];rfl
def ne_fl(fl:List Fli):neM (.lst (fl.map flD)) (.lst (fl.map flD))=.ok (.bl c_):=by
 have h:HS (.lst (fl.map flD)) 40=e_:=by rw[HS];exact rq flD _ (λf=>by simp[flD,HS,iU]) fl
 unfold neM;rw[h];simp[mJ h]
def BO(xs:aj):neM (.lst (xs.map .int)) (.lst (xs.map .int))=.ok (.bl c_):=by
 have h:HS (.lst (xs.map .int)) 40=e_:=by rw[HS];exact rq _ _ (λf=>by simp[HS]) xs
 unfold neM;rw[h];simp[mJ h]
def cutD_to(l:List A')(a:Nat)(h:a<=l.length):gF (.lst l) g_ (a_ (a:Int))=.ok (.lst (l.take a)):=by
 show EI (A'.lst (Ar l g_ (a_ (a:Int))))=_
 congr 2
 unfold Ar cX;dsimp only;rw[q_ ac,Iw,Pt,E8,Lk h]
section
variable(CR CP CL CT:i_)
def new1(n:Nat)(h1:1<=k)(U:k<=6)(J:bN k rows):newR CR (aA) [aP rows]=.ok (ao CR CP rows .non):=by have e:=kZ n k rows h1 U J;simp[newR,e,ao]
def new2(n:Nat){J:List aj}(h1:1<=k)(a:k<=6)(Y:bN k rows)(U:bN k J):newP CP (aA) [aP rows,aP J]=.ok (ao CR CP rows (aP J)):=by
 have e1:=kZ n k rows h1 a Y;have e2:=kZ n k J h1 a U;have b:twoL (aP rows) (aP J)=e_:=by simp[twoL,aP,Y.1,U.1]
 simp only[newP,e1,e2,av,b,Ia];rfl
def Fok(k:Nat)(t:Int)(f:Fli):Prop:=uW k f/\f.first=t/\f.last=t
theorem Cq(n:Nat)(ns:aj){t:Int}(i:0<=t)(l:t<1000000000){k:Nat}(q:1<=k)(g:k<=3)(b a Y U:Option A')(B:List (Option A')):∀(r j:Nat) (fl:List Fli) (c:Option A'),fl.length=j->(∀f∈fl,Fok k t f)->j+r<=100->∃(J:List Fli) (d:Option A'),J.length=j+r/\(∀f∈J,Fok k t f) /\
  cp (.nm 8) (oi) (aJ (j:Int) r) (a_ (.lst (ns.map .int))::a_ (.int k)::b::a::Y::U::a_ (.int t)::a_ (.lst (fl.map flD))::c::B)=.ok (.nx (a_ (.lst (ns.map .int))::a_ (.int k)::b::a::Y::U::a_ (.int t)::a_ (.lst (J.map flD))::d::B))
 |0,j,fl,c,h1,h2,_=>⟨fl,c,h1,h2,rfl⟩|r+1,j,fl,c,h1,h2,A=>by
  obtain⟨x,e1,y,_⟩:=iN n ns (7+j);have w:((7+j:Nat):Int)=7+(j:Int):=ac
  rw[w]at e1;have o:0<=x%(k:Int):=Ll _ ac;have m:x%(k:Int)<k:=Kx _ ac;obtain⟨J,d,q1,q2,e⟩:=Cq n ns i l q g b a Y U B r (j+1) (fl++[⟨x%k,t,t,0,x%1000000000⟩]) (a_ (.int j)) (by simp[h1]) (λf s=>by
   rcases FR.mp s with z|z
   .exact h2 f z
   .rw[ER.mp z];exact⟨⟨o,m,i,GP _,by show t<=1000000000;omega,by show(0:Int)<=0;omega,by show(0:Int)<=1000000000;omega,by show 0<=x%1000000000;omega,by show x%1000000000<=1000000000;omega⟩,rfl,rfl⟩) ac
  refine⟨J,d,ac,q2,?_⟩
  have p:fl.length<16777216:=ac
  have h:sN (.int x) (.int k)=.ok (.int (x%k)):=e_mod ac;have v:((j+1:Nat):Int)=(j:Int)+1:=rfl;rw[v]at e;have u:oi (a_ (.lst (ns.map .int))::a_ (.int k)::b::a::Y::U::a_ (.int t)::a_ (.lst (fl.map flD))::a_ (.int j)::B)=.ok (.nx (a_ (.lst (ns.map .int))::a_ (.int k)::b::a::Y::U::a_ (.int t)::a_ (.lst ((fl++[(⟨x%k,t,t,0,x%1000000000⟩:Fli)]).map flD))::a_ (.int j)::B)):=by simp[oi,e1,h,p,flD]
  rw[cV,cp,oX,av];simp only[Fb,E_];rw[u,av];exact e
structure Tabs(g s:Nat)(L B:Nat)(R1 R2:List A'):Prop where
 t1:jA [.lst [.int 41,.int 19,.int 11,.int 9],.lst [.int 13,.int 8,.int 7,.int 6]] ((g:Int)-1)=.ok (.lst R1)
 t2:jA R1 (s:Int)=.ok (.int L)
 b1:jA [.lst [.int 5,.int 5,.int 5,.int 5],.lst [.int 5,.int 5,.int 4,.int 3]] ((g:Int)-1)=.ok (.lst R2)
 b2:jA R2 (s:Int)=.ok (.int B)
 much:L<41->∀d,d<6->Much 64 g s (L+d)
 big:6<=L/\L<=41/\1<=B/\B<=5
 cap:g=1\/g=2/\B+1<=[6,6,5,4].getD s 0
def tabs:∀g s:Nat,(g=1\/g=2)->s<4->∃L B R1 R2,Tabs g s L B R1 R2:=λg s U J=>by
 rcases U with rfl|rfl
 .exact lt4 (P:=λs=>∃L B R1 R2,Tabs 1 s L B R1 R2) ⟨41,5,_,_,rfl,rfl,rfl,rfl,λh=>absurd h ag,ag,.inl rfl⟩ ⟨19,5,_,_,rfl,rfl,rfl,rfl,λ_=>much11 64,ag,.inl rfl⟩ ⟨11,5,_,_,rfl,rfl,rfl,rfl,λ_=>much12 64,ag,.inl rfl⟩ ⟨9,5,_,_,rfl,rfl,rfl,rfl,λ_=>much13 64,ag,.inl rfl⟩ s J
 .exact lt4 (P:=λs=>∃L B R1 R2,Tabs 2 s L B R1 R2) ⟨13,5,_,_,rfl,rfl,rfl,rfl,λ_=>much20 64,ag,.inr ag⟩ ⟨8,5,_,_,rfl,rfl,rfl,rfl,λ_=>much21 64,ag,.inr ag⟩ ⟨7,4,_,_,rfl,rfl,rfl,rfl,λ_=>much22 64,ag,.inr ag⟩ ⟨6,3,_,_,rfl,rfl,rfl,rfl,λ_=>much23 64,ag,.inr ag⟩ s J
def law_true(hne:CR≠CP)(hct:CT≠CL):∀ns:aj,ns.length<=63->∃n,m_law CR CP CL CT n [.lst (ns.map .int)]=.ok (.bl e_):=by
 intro ns K;refine⟨64,?_⟩
 obtain⟨A,c0,R,_⟩:=iN 64 ns 0;obtain⟨l,c1,p1,_⟩:=iN 64 ns 1;obtain⟨y,c2,p2,_⟩:=iN 64 ns 2;obtain⟨F,c3,p3,I⟩:=iN 64 ns 3;obtain⟨E,C,p4,H⟩:=iN 64 ns 4;obtain⟨D,c5,Q,_⟩:=iN 64 ns 5;obtain⟨x6,c6,P,_⟩:=iN 64 ns 6;simp only[Int.cast_ofNat_Int,Int.natCast_zero,Int.natCast_one]at c0 c1 c2 c3 C c5 c6;obtain⟨k,hk1,Y,ek⟩:∃k:Nat,1<=k/\k<=2/\(1+A%2:Int)=k:=⟨(1+A%2).toNat,ac,ac,ac⟩
 obtain⟨s,hs,es⟩:∃s:Nat,s<4/\(y%4:Int)=s:=⟨(y%4).toNat,ac,ac⟩
 obtain⟨t,t0,t1,et⟩:∃t:Int,0<=t/\t<1000000000/\D%1000000000=t:=⟨_,ac,ac,rfl⟩
 obtain⟨rows,J,hp,eg⟩:=Cn 64 F p3 I k ac;obtain⟨G,U,o,x⟩:=Cn 64 E p4 H k ac;have en:=new1 CR CP 64 hk1 ac J;have r:=new2 CR CP 64 hk1 ac J U;obtain⟨g,q,hg,hpos,egs,e1⟩:∃g:Gp,g.k=k/\g.Good/\(∀i j:Int,0<=i->i<g.k->0<=j->j<g.k->1<=at2 g.rows i j/\1<=at2 g.r2 i j)/\(1+l%2:Int)=g.s/\∀e:Option A',sD CR CP CL CT 64 [a_ (.lst (ns.map .int)),a_ (.int k),a_ (.int g.s),a_ (.int s),a_ (ao CR CP rows .non),e,g_,g_,g_,g_,g_,g_,g_,g_,g_,g_,g_]=.ok (.nx [a_ (.lst (ns.map .int)),a_ (.int k),a_ (.int g.s),a_ (.int s),a_ (ao CR CP g.rows g.o),e,g_,g_,g_,g_,g_,g_,g_,g_,g_,g_,g_]):=by
  by_cases h:l%2=1
  .refine⟨⟨k,rows,e_,G⟩,rfl,⟨hk1,Y,J,U⟩,λi j a h1 h2 h3=>⟨hp.at J a h1 h2 h3,o.at U a h1 h2 h3⟩,by rw[h];rfl,λe=>?_⟩
   simp[sD,Gp.s,Gp.o,c3,C,eg,x,r]
  .refine⟨⟨k,rows,c_,rows⟩,rfl,⟨hk1,Y,J,J⟩,λi j a h1 h2 h3=>⟨hp.at J a h1 h2 h3,hp.at J a h1 h2 h3⟩,by rw[show l%2=0 by omega];rfl,λe=>?_⟩
   simp[sD,Gp.s,Gp.o]
 subst q;obtain⟨O,N⟩:=g.s2;obtain⟨L,B,R1,R2,T⟩:=tabs g.s s ac hs;obtain⟨g1,g2,g3,g4⟩:=T.big;obtain⟨d,hd,ed⟩:∃d:Nat,d<6/\(x6%6:Int)=d:=⟨(x6%6).toNat,ac,ac⟩
 obtain⟨b,hb,eb⟩:∃b:Nat,b<B/\(x6/6%(B:Int):Int)=b:=⟨(x6/6%(B:Int)).toNat,by
  have h1:=Int.emod_nonneg (x6/6) (show(B:Int)≠0 by omega);have h2:=Int.emod_lt_of_pos (x6/6) (show(0:Int)<B by omega);omega,by
  have h1:=Int.emod_nonneg (x6/6) (show(B:Int)≠0 by omega);omega⟩
 obtain⟨fl,y8,f1,f2,ef⟩:=Cq 64 ns t0 t1 hk1 ac (some (.int g.s)) (some (.int s)) (some (ao CR CP g.rows g.o)) (some (.int L)) [none,none,none,none,none,none,none,none] (L+d) 0 [] none rfl (λf h=>nomatch h) ac;have ef:cp (.nm 8) (oi) (aJ 0 (L+d)) [some (.lst (ns.map .int)),some (.int g.k),some (.int g.s),some (.int s),some (ao CR CP g.rows g.o),some (.int L),some (.int t),some (.lst []),none,none,none,none,none,none,none,none,none]=.ok (.nx [some (.lst (ns.map .int)),some (.int g.k),some (.int g.s),some (.int s),some (ao CR CP g.rows g.o),some (.int L),some (.int t),some (.lst (fl.map flD)),y8,none,none,none,none,none,none,none,none]):=ef;have er:iS [.int (L+d:Int)]=.ok (aJ 0 (L+d)):=by
  have k1:(-4611686018427387904:Int)<=(L+d:Int):=ac
  have k2:(L+d:Int)<4611686018427387904:=ac
  have e9:((L+d:Int)).toNat=L+d:=ac
  simp[k1,k2,e9]
 have hll:fl.length=L+d:=ac
 have hl6:fl.length<=16777216:=ac
 have e3:sC CR CP CL CT 64 [some (.lst (ns.map .int)),some (.int g.k),some (.int g.s),some (.int s),some (ao CR CP g.rows g.o),some (.int L),some (.int t),some (.lst (fl.map flD)),y8,some (.lst (fl.map flD)),none,none,none,none,none,none,none]=.ok (.nx [some (.lst (ns.map .int)),some (.int g.k),some (.int g.s),some (.int s),some (ao CR CP g.rows g.o),some (.int L),some (.int t),some (.lst (fl.map flD)),y8,some (.lst (fl.map flD)),none,none,none,none,none,none,none]):=by
  by_cases h41:L<41
  .obtain⟨c,ho,hc⟩:=T.much h41 d hd;have h1:=best_too CR CP CL CT 64 hne (v:=⟨g,fl,[]⟩) ac hll (.lst []) ho hc;have h2:=vo CR CP CL CT 64 hct _ _ _ _ h1;have h3:neM (.lst [.bl true,.bl false,.bl true,.bl false]) (.lst [.bl true,.bl false,.bl true,.bl false])=.ok (.bl false):=rfl;simp[sC,h2,h3]
  .have h41:¬(L:Int)<41:=ac
   simp[sC,h41]
 have hm2:2+b<=fl.length:=ac
 have ec:=cutD_to (fl.map flD) (2+b) (by simpa using hm2);rw[<- List.map_take]at ec;have e2b:((2+b:Nat):Int)=2+(b:Int):=ac
 have hv:V.Good ⟨g,fl.take (2+b),[]⟩:=⟨hg,λf hf=>(f2 f (List.mem_of_mem_take hf)).1,by show(fl.take (2+b)).length<=40;rw[List.length_take];omega,by show(0:Nat)<=1;decide,λp h=>nomatch h⟩
 have ha:V.At ⟨g,fl.take (2+b),[]⟩ t:=⟨λf hf=>(f2 f (List.mem_of_mem_take hf)).2,hpos⟩
 have hln:(fl.take (2+b)).length=2+b:=by rw[List.length_take];omega
 obtain⟨co,ho,hc⟩:=some_ 64 s hs (1+b) ac;have e1b:1+b+1=2+b:=ac
 rw[e1b]at ho;have hcap:=cap (m:=2+b) (g:=g.s) hs hc (by
  rcases T.cap with z|⟨z,w⟩
  .exact .inl z
  .exact .inr ⟨z,ac⟩)
 have hbn:=Dj CR CP CL CT 64 hne hv ha (m:=2+b) ac ac hs hln ho hcap;obtain⟨q1,q2⟩:=tL CR CP CL CT 64 _ _ _ _ hbn;have hcr:=crowdT CR CP CL CT 64 hne hv ha (by show 2<=(fl.take (2+b)).length;omega);have hcr:fy CR CP CL CT 64 [ao CR CP g.rows g.o,.lst ((fl.take (2+b)).map flD)]=.ok (.lst ((i4 (2+b)).map .int)):=by have hcr':=hcr;simp only[hln]at hcr';exact hcr'
 have q1:bA CR CP CL CT 64 [ao CR CP g.rows g.o,.lst ((fl.take (2+b)).map flD),.lst [],.int s]=.ok (.lst [.bl false,.bl true,.bl true,.bl false]):=q1;have q2:eA CR CP CL CT 64 [ao CR CP g.rows g.o,.lst ((fl.take (2+b)).map flD),.lst [],.int s]=.ok (.lst ((i4 (2+b)).map .int)):=q2;have nf:=ne_fl fl;have ni:=BO (i4 (2+b));have h4:neM (.lst [.bl false,.bl true,.bl true,.bl false]) (.lst [.bl false,.bl true,.bl true,.bl false])=.ok (.bl false):=rfl;have e4:wD CR CP CL CT 64 [some (.lst (ns.map .int)),some (.int g.k),some (.int g.s),some (.int s),some (ao CR CP g.rows g.o),some (.int L),some (.int t),some (.lst (fl.map flD)),y8,some (.lst (fl.map flD)),some (.int (2+b)),some (.lst ((fl.take (2+b)).map flD)),none,none,none,none,none]=.ok (.nx [some (.lst (ns.map .int)),some (.int g.k),some (.int g.s),some (.int s),some (ao CR CP g.rows g.o),some (.int L),some (.int t),some (.lst (fl.map flD)),y8,some (.lst (fl.map flD)),some (.int (2+b)),some (.lst ((fl.take (2+b)).map flD)),none,none,none,none,none]):=by simp only[wD];generalize (fl.take (2+b)).map flD=FW at q1;generalize fl.map flD=FL at nf;simp[q1,nf,h4]
 have r5:iS [.int (2+b:Int)]=.ok ((i4 (2+b)).map .int):=by
  have k1:(-4611686018427387904:Int)<=(2+b:Int):=ac
  have k2:(2+b:Int)<4611686018427387904:=ac
  have e9:((2+b:Int)).toNat=2+b:=ac
  rw[<- vp];simp[k1,k2,e9]
 have l5:(i4 (2+b)).length<=16777216:=by rw[qF];omega
 have e5:wC CR CP CL CT 64 [some (.lst (ns.map .int)),some (.int g.k),some (.int g.s),some (.int s),some (ao CR CP g.rows g.o),some (.int L),some (.int t),some (.lst (fl.map flD)),y8,some (.lst (fl.map flD)),some (.int (2+b)),some (.lst ((fl.take (2+b)).map flD)),some (.lst ((i4 (2+b)).map .int)),none,none,none,none]=.ok (.nx [some (.lst (ns.map .int)),some (.int g.k),some (.int g.s),some (.int s),some (ao CR CP g.rows g.o),some (.int L),some (.int t),some (.lst (fl.map flD)),y8,some (.lst (fl.map flD)),some (.int (2+b)),some (.lst ((fl.take (2+b)).map flD)),some (.lst ((i4 (2+b)).map .int)),none,none,none,none]):=by
  simp only[wC];generalize (fl.take (2+b)).map flD=FW at hcr;have l5:((i4 (2+b)).map A'.int).length<=16777216:=by simpa using l5
  generalize (i4 (2+b)).map A'.int=UP at hcr r5 ni l5;simp[hcr,r5,ni,l5,-xV]
 obtain⟨cs,u,hlo,hvg,hu,e6⟩:∃cs u,V.Lone ⟨g,[⟨0,t,1000000000,0,1⟩],cs⟩ t u/\V.Good ⟨g,[⟨0,t,1000000000,0,1⟩],cs⟩/\t+(cs.length:Int)=u/\sA [some (.lst (ns.map .int)),some (.int g.k),some (.int g.s),some (.int s),some (ao CR CP g.rows g.o),some (.int L),some (.int t),some (.lst (fl.map flD)),y8,some (.lst (fl.map flD)),some (.int (2+b)),some (.lst ((fl.take (2+b)).map flD)),some (.lst ((i4 (2+b)).map .int)),some (.lst [.tup [.int (ik (t-3) 0),.int (t+1)]]),some (.lst [.tup [.int 0,.int t,.int 1000000000,.int 0,.int 1]]),none,none]=.ok (.nx [some (.lst (ns.map .int)),some (.int g.k),some (.int g.s),some (.int s),some (ao CR CP g.rows g.o),some (.int L),some (.int t),some (.lst (fl.map flD)),y8,some (.lst (fl.map flD)),some (.int (2+b)),some (.lst ((fl.take (2+b)).map flD)),some (.lst ((i4 (2+b)).map .int)),some (.lst (cs.map stD)),some (.lst [.tup [.int 0,.int t,.int 1000000000,.int 0,.int 1]]),none,none]):=by
  have hgf:∀f∈[(⟨0,t,1000000000,0,1⟩:Fli)],uW g.k f:=λf hf=>by rw[List.mem_singleton.mp hf];exact⟨Int.le_refl _,by show(0:Int)<g.k;omega,t0,by show t<=1000000000;omega,Int.le_refl _,by show(0:Int)<=0;omega,by show(0:Int)<=1000000000;omega,by show(0:Int)<=1;omega,by show(1:Int)<=1000000000;omega⟩
  by_cases h:999999999<t+1
  .refine⟨[],t,⟨rfl,t0,Int.le_refl _,nx_eq ⟨Int.le_refl _,wy _,λv h1 h2=>by omega⟩,ac⟩,⟨hg,hgf,by show(1:Nat)<=40;decide,by show(0:Nat)<=1;decide,λp h=>nomatch h⟩,ad,?_⟩
   simp[sA,h]
  .have hm:ik (t-3) 0<=t:=by unfold ik;split<;>omega
   refine⟨[(ik (t-3) 0,t+1)],t+1,⟨rfl,t0,ac,nx_eq ⟨ac,λz=>by rw[nW]at z;dsimp only at z;omega,λv h1 h2=>by rw[nW];dsimp only;omega⟩,ac⟩,⟨hg,hgf,by show(1:Nat)<=40;decide,by show(1:Nat)<=1;decide,λp hp=>by rw[List.mem_singleton.mp hp];show ik (t-3) 0<t+1;omega⟩,rfl,?_⟩
   simp[sA,h,stD]
 obtain⟨sp,hsp,hbo⟩:=best_one CR CP CL CT 64 ag hne hvg hlo hs;have hbo:b9 CR CP CL CT 64 [ao CR CP g.rows g.o,.lst [.tup [.int 0,.int t,.int 1000000000,.int 0,.int 1]],.lst (cs.map stD),.int s]=.ok (.tup [.int u,.lst [.tup [.int 0,.int sp]],.lst [.int u]]):=hbo;have hsp:sp<g.s:=hsp;have hin:inM (.lst [.tup [.int 0,.int (sp:Nat)]]) (.tup [.lst [.tup [.int 0,.int 0]],.lst [.tup [.int 0,.int ((g.s:Int)-1)]]])=.ok (.bl true):=by
  have h3:(g.s=1/\sp=0)\/(g.s=2/\sp=0)\/(g.s=2/\sp=1):=ac
  rcases h3 with⟨z,w⟩|⟨z,w⟩|⟨z,w⟩<;>rw[z,w]<;>rfl
 have hcl:cs.length<=16777216:=by have:cs.length<=1:=hvg.cs;omega
 have n7:=BO [2,2+(b:Int)];simp only[List.map_cons,List.map_nil]at n7;have e7:wB [some (.lst (ns.map .int)),some (.int g.k),some (.int g.s),some (.int s),some (ao CR CP g.rows g.o),some (.int L),some (.int t),some (.lst (fl.map flD)),y8,some (.lst (fl.map flD)),some (.int (2+b)),some (.lst ((fl.take (2+b)).map flD)),some (.lst ((i4 (2+b)).map .int)),some (.lst (cs.map stD)),some (.lst [.tup [.int 0,.int t,.int 1000000000,.int 0,.int 1]]),some (.int u),none]=.ok (.nx [some (.lst (ns.map .int)),some (.int g.k),some (.int g.s),some (.int s),some (ao CR CP g.rows g.o),some (.int L),some (.int t),some (.lst (fl.map flD)),y8,some (.lst (fl.map flD)),some (.int (2+b)),some (.lst ((fl.take (2+b)).map flD)),some (.lst ((i4 (2+b)).map .int)),some (.lst (cs.map stD)),some (.lst [.tup [.int 0,.int t,.int 1000000000,.int 0,.int 1]]),some (.int u),none]):=by simp[wB,n7]
 have q0:eqM (.int u) (.int u)=.ok (.bl true):=by simp
 have q3:eqM (.lst [.int u]) (.lst [.int u])=.ok (.bl true):=by unfold eqM;simp[HS,iU,eqD,mI]
 have mB:sN (.int (x6/6)) (.int B)=.ok (.int b):=by rw[e_mod ac,eb]
 rw[e2b]at ec;have t1':=T.t1;have t2':=T.t2;have b1':=T.b1;have b2':=T.b2;have hl7:(fl.map flD).length<=16777216:=by simpa using hl6
 have hl8:(cs.map stD).length=cs.length:=List.length_map _;clear hbn hcr q1 f2 hlo hvg hv ha hpos hg;generalize (fl.take (2+b)).map flD=FW at ec e4 q2 e5 e6 e7;generalize (i4 (2+b)).map A'.int=UP at q2 e5 e6 e7;generalize fl.map flD=FL at ef e3 ec e4 e5 e6 e7 hl7;generalize cs.map stD=CS at e6 e7 hbo hl8;simp[m_law,g_law,c0,c1,c2,c3,c5,c6,ek,egs,es,et,ed,eg,en,t1',t2',b1',b2',e1,er,ef,hl7,e3,mB,ec,e4,q2,e5,e6,hl8,hu,e7,hbo,q0,hin,q3,-xV,-e_sliceL]
end
def fin_mk{K:Fg}{h:Eg}{fa CR:i_}(_:K.In h)(_:h.Ns Eo mg)(J:mg "law"=a_ (.ref fa))(Z:Zs K mg CR CP CL CT AStripError ATooMany ANoPlan ANoPlace ANoRow ANoRules ANoSheet ANoTime ANotFree):
  ∃fd:Gi,(∀(s:k_) (v:h_),KI s fd ⟨[v],[]⟩ [("_law_script",v)])/\∀base:Eg,K.In base->base.Ns Eo mg->eJ P w K mg base CX0 14 fa fd ["_law_script"] (spLaw K):=by
 obtain⟨f,fd,D,U⟩:=Z.d_law;have e:=J.symm.trans D.mg;cases e;refine⟨fd,U,λbase _ _=>law_ok (ro:=c_) (mlaw:=m_law CR CP CL CT) (λn=>?_) (law_true CR CP CL CT Z.ne (ne_tell Z.w_CL Z.w_CT ag))⟩
 obtain⟨b,a,Y⟩:=ok_law (n:=n) (P:=P) (w:=w) (base:=base) Z;have e:=D.mg.symm.trans Y.d.mg;cases e;rw[D.fn.uniq Y.d.fn];exact Y.o
def walk{l:Kq}{q:EC}{J:List Dy}{i:(Mq)->Eg->Prop}{Y:Fe->Eg->Prop}{d:DefRec}{K:Params->Fg}(b:l.most=a_ 63)(U:d.params.defaults=[])(e:∀(w:Fe) (h:Eg),Y w h->(K w.params).In h)(F:∀(w:Fe) (mg:Mq) (fa:i_) (h:Eg),(K w.params).In h->h.Ns Eo mg->mg d.name=a_ (.ref fa) ->
   ∃fd:Gi,(∀(s:k_) (u:h_),KI s fd ⟨[u],[]⟩ [("_law_script",u)])/\∀base:Eg,(K w.params).In base->base.Ns Eo mg->eJ l.prog w (K w.params) mg base CX0 14 fa fd ["_law_script"] (spLaw (K w.params))):
  MM q J i Y l.row.toRowW d [] (λf vs=>HG f vs):=
 Lake.walk_of (n:=63) (k:=14) (x:="_law_script") (CX:=λ_=>CX0) (sp:=λw=>spLaw (K w.params)) b ag U ⟨rfl,ag,ag⟩ e F (λ_ _ a ns c _ g=>⟨a,ns,rfl,g,c,λ_=>rfl⟩) λ_ _ _ _ _ z=>z
end Tactic
end
open PySem PySem.W PyProof.Rows
structure PySem.W.Fast:Prop where (tw5839976770978408862
tw18349928336645160384
tw5478399028570897503
tw6734966643660572771
tw13499626205288709842
tw18412281024209212735
tw9802725352676618609
tw9330729049376769310
tw4823694898063068423
tw3101473349824736447
tw9102175109322568928
tw17511065895794813426
tw6818371970163153310
tw16396778128479411537
tw4926270485613747570
tw2554177343938878114
tw6709470479487044755
tw11201111657175158964
tw3106674296908133362
tw17984458287907800356
tw13456514563574179599
tw4630037519717123093
tw18363636803898925634
tw13438675187105182224
tw8763845275621685481
tw2870937438821086289
tw8806360806648752341
tw17700616290945235301
tw16153627411743166626
tw17046470923437977025
tw8045906110271087516
tw12754767734442692643
tw9367088522687592858
tw8877005145245220857
tw14946799505204890180
tw4558687904910999897
tw11203450795092314701
tw14089493875799919421
tw3499139624387498393
tw14630624721156562946
tw7642654202145188434
tw14330088252886974423
tw9291617815481052753
tw6632199836610812992
tw707838737906881607
tw9406490869831554440
tw274969118426894498
tw3767298603418791741
tw8837072627946896798
tw16861453721658604672
tw13237352391860082417
tw6524169763148833731
tw12988391841710085977
tw998172079357787462
tw8805671805369368559
tw6885334436065332555
tw9740960917282835422
tw5587153291349970644
tw10284163690161509226
tw7519316607179024546
tw8714663021773161027
tw17320706582491716245
tw7406721921122729624
tw4793724037362286466
tw11891837700724971047
tw1643299618564982489
tw16384800574262969642
tw4487673156734055258
tw10399060179638687509
tw6646033367512360595
tw1306350403773091114
tw16829789456660760906
tw17403542129851768555
tw15171932765326871443
tw8205367014079723332
tw12872483002176575235
tw2297457173867595973
tw12240308919049448358
tw13557216570606606061
tw17810546488138919858
tw13707643990531404342
tw18354821513002522922
tw17467933061838657434
tw3480537671623611107
tw16444771723793951778
tw1927665365762396671
tw6408524998705205802
tw6064293522346782550
tw8954764260408375105
tw1810973343211824302
tw4065105675864641670
tw8226468295729131602
tw13492925550498571232
tw8873535018197202366
tw1771971458729805375
tw6187807590509783370
tw16748560835109980105
tw18035400230623313348
tw12022529325001835892
tw3771502291149024478
tw4478448881337707739
tw9031041398843678768
tw16077789359682689469
tw16815632487347408109
tw5405354927382764433
tw17140061045842418012
tw8258033999453959593
tw7971036190319569171
tw6180521885703089758
tw1699669620836266250
tw15480450693869581971
tw13452295744121631905
tw2649873731230616098
tw17525287039920421536
tw16958365357434361768
tw5226138604347620388
tw14101350214284036298
tw1439163831985465003
tw6231448452416863797
tw11818234735624902532
tw13250814138434634887
tw8112075741369146031
tw8480176930008761155
tw1680760897061105001
tw16540694920203520683
tw9163669313092326243
tw18282155280168999429
tw17739554579948510940
tw13547459788207194528
tw9713683544717047796
tw9595302906353479963
tw7581393143236677132
tw1749240371912122317
tw3446467247844775804
tw15767698648438514956
tw7121659960601820980
tw7871989877583455940
tw13131477257902534117
tw12811681550632836906
tw16426496316772932163
tw14878857689137880502
tw12601529310176279768
tw11302647019164080823
tw3699774893743364150
tw16908768336513596408
tw6718044308475759498
tw15139815373980598608
tw16459242605339539906
tw620888728927456844
tw2316507667454362437
tw14989526522322680452
tw3809302954772464959
tw1883154101554019495
tw15705609203250508576
tw2629703107550960786
tw12261701865153955094
tw17080133837081262291
tw5777181919419834818
tw3512634082998541663
tw14532976368580380857
tw2261880144262382014
tw12816672259916294693
tw9991211120029881591
tw4200432860785458922
tw5140299136785254569
tw14567869990486718137
tw12159439838666017909
tw903003371657023955
tw14399471512336857188
tw17773824708008948859
tw5112518428943394619
tw2095495861626113409
tw11719417549558609325
tw17263731388475028502
tw9541798720646390221
tw10897771303217424578
tw15959008148690345734
tw9087530020821896526
tw8096928915451051265
tw14496840993234976743
tw577639037201503603
tw15136716249531856862
tw12836714858800537597
tw8540304989591815399
tw9457852395821281711
tw7500580323340215266
tw8767090864073619886
tw843648740351302242
tw712352738208256296
tw5768833674611342602
tw15859189426157304342
tw13540615242366962883
tw9175893252916112987
tw5228280171667054544
tw17773663252716569736
tw6868081044780924829
tw9268502605324871262
tw12551498384391058540
tw15193378849455969611
tw7629163598269941938
tw8518895957196468362
tw3599457014189097387
tw5776223710282873309
tw14456925521014345112
tw10166882619036798514
tw17228416496325525279
tw1322010085411242514
tw6387486139600300290
tw2556611517623939196
tw15559371008746432159
tw1383900369441721915
tw6148074978526156436
tw16075554213949890390
tw3758802345244430522
tw2043411156004768379
tw11772561899002890762
tw14881062096570274149
tw14411524788965406549
tw12481559163303315615
tw4585840548406227675
tw7931231962742238549
tw6133373732173773341
tw4676137727646524278
tw8014967248709758429
tw3430014133605518587
tw17483457176435851257
tw11096643812352464576
tw18243197030251961858
tw794520149275548685
tw15387817697494452821
tw1323136757188252179
tw7801879886538057419
tw7121294774551515943
tw16648982098576144394
tw2503988663558714731
tw3934300434413358612
tw336747174131636088
tw453565976247815979
tw16672500146799107084
tw16785387768082595870
tw11559567871183420756
tw5784327971006308744
tw116381015973833670
tw4041785095053150734
tw6735146934880198533
tw2183368353601836687
tw2113161186304652618
tw14221898404716279992
tw12172550359964510470
tw3344282126250006505
tw17530443527708006441
tw336774699159996826
tw4792015081705216843
tw467300184558061342
tw12152153135477278852
tw265391186241191767
tw9604364080392265355
tw10536735496013746639
tw1819916095274583312
tw9274547538090298143
tw5566648786032815520
tw7168606910435066076
tw4285515317890491892
tw11351208475049413176
tw10746555673199003647
tw9381140942862589759
tw14252566478502724499
tw162546419168189913
tw12981924391490916719
tw419719851543809973
tw17768677841218275798
tw3337118566319012511
tw14821636555425452075
tw16794532848407603773
tw12171855040137674426
tw16974172665869638524
tw12769971039396044216
tw11943873973874431439
tw7987774481388706860
tw18425991837624068002
tw3198879115439699064
tw13419605337457017256
tw8774512074915531926
tw893661479904466623
tw10791952914889397445
tw12118371984739660879
tw14711505035429437808
tw9371330237220741523
tw550426784646515128
tw6373923393169510956
tw16200170161635275461
tw14348528482086549572
tw17010053462529003420
tw14791764513354292301
tw7472380072872025455
tw8145620027101686573
tw4232856147800358679
tw5385353633191051603
tw8050811715186048510
tw17250650875126333834
tw4251482394158073687
tw2631557397893539549
tw13916726679725528236
tw12595510851013527137
tw4909921236923155312
tw15879918190721333875
tw13726399284493864303
tw10753302012343707684
tw10771028717717742455
tw15990713975260746291
tw1971156839286593745
tw3217701067315722857
tw17610009026326509679
tw7049286540122397490
tw3185082225204917104
tw8473575230998847209
tw6446676739805347853
tw5572208454220829007
tw11979844966634115864
tw986356408577379052:True)
set_option maxRecDepth 100000 in
set_option maxHeartbeats 0 in
theorem PySem.Challenge.cw_wakeorder_k65_too_many_or_none_holds : PySem.Challenge.rw_wakeorder_k65_too_many_or_none.Holds := by
 w_on;o_law;k_head;(case hw=>w_witness2)
 k_fill
 refine Tactic.walk (l:=PySem.Challenge.rw_wakeorder_k65_too_many_or_none) rfl rfl (fun w h Y=>PySem.W.kIn_of Y) ?F
 case F=>
  intro w mg fa h KX G hmg;refine' Tactic.fin_mk KX G hmg ?z
  case z=>
   constructor
   all_goals first|exact Lake.dF KX G|exact PySem.W.mg_none_of KX G (by k_is)|exact ⟨_,mg_of KX G (by k_is)⟩|exact mg_of KX G (by k_is)|exact Lake.mF|exact Lake.kF KX G|exact Lake.tF KX G|exact Lake.iF|exact Lake.xF KX G|exact Lake.xM KX G Lake.mF|exact Lake.lF KX G|exact Lake.rS Lake.mF|k_is|kernel_rfl|exact ⟨mg_of KX G (by k_is),by k_is,by k_is⟩|exact ⟨by k_is,Lake.iF⟩|exact ⟨⟨_,_,_,_,rfl,by first|k_is|kernel_rfl,by first|k_is|kernel_rfl,by first|k_is|kernel_rfl,by first|k_is|kernel_rfl⟩⟩|decide +kernel|(constructor<;>first|k_is|kernel_rfl|rfl|decide +kernel)|(simp only [List.mem_cons,List.not_mem_nil,or_false,forall_eq_or_imp,forall_eq];repeat' constructor)<;>first|k_is|kernel_rfl
