import PyProof.Rows.All
import Wide.All
import OpenK.AllK
import PySem.Challenge.RW_wakeorder_k57_great_papers
open Option renaming some->a_,none->e_,map_some->Iz,isSome_iff_exists->JD,getD_some->MX,isSome_map->OX,getD_none->Pj
open PySem renaming wpAny_bind->b_,wpAny_pure->g_,Value->h_,Addr->iF,Shared->k_,starEach->l_,sizeLine->o_,wpAny->r_,model->y_,wpAny_call_entry->FT,eval->FV,wpAny_newObj_type->Ge,Str->Gf,boot_len->Gg,wpAny_dictEntries->Gm,Heap->Gu,wpAny_callSpecial?_slot->Gx,compareOp->Gy,Program->GD,cLine->GQ,wpAny_mono->GX,mainGlobals->G3,Expr->G4,sysModules->G5,Stmt->G6,wpAny_holding->G8,wpAny_field->He,mem_of_lookup->Hg,backTo->Hi,wpAny_truthy_bool->Hm,wpAny_dictEpoch->Hv,World->Hw,cellsFrom->Hy,DictEntry->HA,attributeBase->HK,Around->HL,swapsWith->HM,wpAny_notOrdered_dict->HS,wpAny_isInstance->HV,wpAny_seqItems->H_,foldedSetIterable->Ii,assignEach->Il,bootBuiltins->Ir,wpAny_setField_rec->IC,wpAny_rule->ID,rawInt->IE,binaryOp->IF,FuncData->IG,holding->II,sizeLine_eq->IS,wpAny_attempt->IZ,Paired->I_,wpAny_typeNameOfWhole_itemiter->Jf,wpAny_typeNameOfWhole_valiter->Jo,wpAny_typeNameOfWhole_keyiter->Jp,wpAny_pyIter_tuple->Jr,NameKind->Jv,wpAny_setField->JF,pyNext->JG,keywordEach->JI,codeAny_mono->JM,codeAny_builtin->JS,wpAny_tupleItemsOf->JW,tupleKind_room_in1->JX,assign->JY,wpAny_pyIter_list->Kb,wpAny_pyIter_enum->Kc,wpAny_fieldsOf->Kd,ZipApart->Ke,wpAny_forIn_list->Kq,eqBool->Kr,IsItemIter->Ks,behindInMarks->Kv,call->Kz,wpAny_specialOf->KI,wpAny_passesOwn->KJ,wpAny_richCompare_same_room->KW,codeAny->KY,wpAny_Call_Name_kw->K_,reduceHash->La,backToKw->Lb,standAt->Lv,Keyword->Lw,wpAny_onRaise->LA,swapsWithSole->LB,swappedStores->LC,Sem->LI,wpAny_Call_method0_late->LP,setField->LQ,wpAny_typeOf->L8,wpAny_load->L9,wpAny_isOneOf_itemiter->L_,evalArgs_none->Ma,letOwnedTupleGo->Mg,wpAny_isOneOf_valiter->Ml,isSubtype_tuple_tuple->Mm,Obj->Mx,wpAny_letGo->MB,sliceBounds->MC,pyHash->MD,isSubtype_stop->ME,firstArgMember->MF,IsPair->MH,storedH->MR,getMethod->MS,BindsTo->MW,wpAny_handled->M_,plainId_quiet->Na,call_meets->Nf,wpAny_pyIter_slot->Nr,concat_meets->Nt,callerA->Nu,bindArgs->Nv,Scope->Nw,HeapKind->Nx,noFill_tuple_add->NM,IsPart->NQ,wpAny_throw->NT,wpAny_of_eq->NU,Pos->NV,wpAny_execs_nil->NZ,pushCells_keeps->N0,Within->N1,intKind->N_,wpAny_newTuple->Of,wpAny_letOwnedTupleGo_enum->Og,numAt->Oh,newFunctionEnv->Oi,newExc->Oj,Env->OF,wpAny_standAt->OI,wpAny_newList->OJ,wpAny_comprehension_free->OM,seq_tuple_add->ON,rangeSize_one->OO,nums_intItems->OQ,lastMarks->O3,eqIsQuiet->O4,bindL->O5,bindC->O6,atKey->O7,Fin->Pd,wpAny_pyNext_list_item->Pr,wpAny_Assign_Subscript->Pt,setItem->Pu,seqIndex_neg->Pw,pyIter->Px,isTrue->Py,getItem->Pz,call_meetsIn->PB,Result->PD,wpAny_pyNext_list_end->PQ,wpAny_isOneOf_keyiter->PR,wpAny_pyIter_keyiter->PZ,seqIndex_of->P0,raiseNew->P1,numAt_eq->P2,newTuple->P4,intItems_at->P5,callWith->P6,Model->P8,call_enumerate_list->Qn,wpAny_setItem_heap->Qy,wpAny_dictSet_heap->Qz,wpAny_Name->QA,isInstance->QB,intKind_is->QC,getattributeRaised->QD,builtinsNs->QE,wpAny_assign_Name->QM,unaryOp->QN,slot_list_getitem->QO,release->QP,newList->QQ,collect->QR,call_sum_walkAnyS->QS,wpAny_pyIter_zip->QX,wpAny_execs_cons->QY,wpAny_Dict_empty->QZ,small_one->Q0,kt_code_dict_new->Q1
open Bool renaming false->c_,true->d_,and_eq_true->m_,false_ne_true->Gj,false_eq_true->Gk,not_true->Jm,not_eq_true'->K3,true_and->K9,not_false->L6,false_and->L7,or_eq_true->Np,eq_iff_iff->Nq,and_false->NL,and_eq_false_iff->OC,and_true->QL
open PySem.Heap renaming get?_push_of_some->f_,get?_push_size->j_,lt_size->s_,size_push->G9,ExtBut->G_,SameBut->HD,get?_update_self->Iu,get?_update_other->Jd,get?_none_of_le->LZ,IsTuple->Oc
open Nat renaming le_refl->i_,lt_of_lt_of_le->A_,le_trans->C_,ne_of_lt->FO,zero_le->Gr,lt_of_le_of_ne->Gs,le_of_lt->GN,lt_of_succ_lt->Hk,ne_of_gt->HG,succ_le_succ->HQ,add_le_add_left->Ig,le_add_right->Iq,lt_irrefl->IQ,pos_of_ne_zero->Jh,lt_of_le_of_lt->JQ,le_of_eq->J1,eq_zero_of_not_pos->J2,sub_le->Kh,add_assoc->Ki,pow_le_pow_right->Ko,le_antisymm->Kt,mul_le_mul_left->Kx,add_lt_add_left->Ky,zero_add->KA,sub_self->KC,mul_le_mul->KS,sub_pos_of_lt->K5,lt_trichotomy->K6,mul_succ->LG,min_eq_left->LO,le_of_sub_eq_zero->LX,le_succ->Me,add_le_add_right->Mf,lt_or_gt_of_ne->MN,sub_zero->M5,pred_lt_of_lt->M6,le_of_succ_le->M7,le_of_lt_succ->M8,succ_ne_self->Nh,not_lt_of_le->Ni,lt_succ_self->Nj,mul_add->Nl,not_lt_zero->NA,add_sub_cancel_left->Od,lt_trans->Ox,one_pos->OY,mul_le_mul_right->OZ,add_sub_cancel->PJ,add_right_comm->PK,lt_succ_of_lt->PX,not_le_of_lt->Qe,min_eq_right->Qf,max_eq_right->Qg,lt_of_not_le->Qh,le_of_not_lt->Qi,le_max_right->Qj,min_le_left->Qu,lt_or_ge->Q6
open List renaming getElem?_eq_some_iff->n_,length_map->oe,map_cons->pk,getElem?_set_ne->tF,mem_cons->t_,set_cons_zero->u_,getElem?_eq_getElem->v_,set_cons_succ->xM,range->x_,getD_eq_getElem?_getD->z_,length_cons->B_,replicate->D_,getElem?_set_self->E_,foldl_cons->FH,length_append->FJ,map_map->FK,getElem?_map->FL,mem_append_right->FP,append_assoc->FQ,mem_append->FW,getElem_mem->FX,length_set->FZ,drop_eq_getElem_cons->Gd,mem_singleton->Gi,mem_of_getElem?->Gn,mem_map->Gq,mem_range->Gv,getElem?_append_left->Gw,length_take->GC,not_mem_nil->GH,mem_filter->GI,size_toArray->GJ,pairwise_append->GK,map_nil->GL,pairwise_cons->GP,take_append_drop->GR,lookup->GS,getElem?_cons_succ->GV,range'->GZ,pairwise_iff_getElem->G2,getElem_map->G7,mem_append_left->Ha,getElem?_append_right->Hb,map_append->Hc,all_eq_true->Hd,append_nil->Hn,mem_cons_self->Hq,mem_cons_of_mem->Hr,lookup_cons->Ht,length_drop->Hu,length_range->HE,find?_cons->HJ,mem_eraseIdx_iff_getElem->HU,take_sublist->HW,getElem?_cons_zero->HX,map_congr_left->Ib,take_of_length_le->Ij,range_succ_eq_map->Ik,nil_append->IH,mem_of_mem_take->IJ,getElem_of_mem->IU,range'_succ->IV,mem_reverse->IW,drop_zero->IX,nodup_cons->Jj,mem_iff_getElem?->Jq,nodup_append->Js,flatMap_cons->Jt,drop_length->JB,replicate_succ->JE,length_nil->JO,length_eq_zero_iff->JR,flatten_cons->JU,drop_drop->JV,getElem?_eq_none->J6,take_length->J9,any_eq_true->J_,range_eq_range'->Kj,length_eraseIdx->Kk,length->Kl,getElem?_range->Ku,map_singleton->KH,mem_or_eq_of_mem_set->KV,getElem_take->K1,foldl_append->K2,eq_of_mem_replicate->K7,ext_getElem->Lq,drop_of_length_le->Ly,drop_eq_nil_of_le->Lz,forIn_cons->LH,nodup_nil->L4,forIn_nil->L5,length_pos_iff->Mi,filterMap_cons->Mj,map_take->Mt,map_drop->Mu,zip_cons_cons->My,map_replicate->Mz,foldl->MA,reverse_perm->MY,pairwise_map->MZ,getElem_drop->M0,drop_sublist->M1,eraseIdx_eq_take_drop_succ->M9,mem_flatMap->Nc,of_mem_zip->Nm,map_const'->Nn,take_succ->NI,setIfInBounds_toArray->NJ,drop_left->NK,isEmpty_eq_false_iff->NS,getElem?_replicate->N7,filter_cons_of_pos->N8,filter_cons_of_neg->N9,filter_eq_nil_iff->Oe,set_append_right->Oy,length_singleton->Oz,length_replicate->OA,eraseIdx_sublist->OB,mem_of_mem_drop->OG,mem_filterMap->Pk,getElem?_take->Pm,getElem?_drop->Po,find?_eq_none->Pp,mapM_toArray->PL,all_eq_false->PM,cons_append->PY,range_succ->Qk,drop_take->Qv,sum_cons->QI,all_cons->QJ,zipIdx->Q7
open PySem.Value renaming ref->w_,none->FY,type->Hz,int->Lc,bool->Mo,builtin->Qq
open Decidable renaming decide->xF
open PyProof.Rows renaming wpS_pure->Cb,pendingOf->FN,SortSt->FU,boot_tuple->GA,callWith_type1->GG,Keyed->GO,boot_list->GU,wpS_bind->HB,seqObj->Iv,slot_tuple_getitem->Jb,wpS_modify->JZ,boot_sorted->J4,kindOf->Kg,wpS->Kp,IntsAre->K0,failedOf->Lh,wpS_get->Lx,envOfC->LF,subscriptTail_builtinR->Mc,AllBare->Md,wpS_lift->MK,boot_max->ML,arrOf->MM,boot_int->Ng,IsTup->NY,boot_range->Ou,boot_all->Ov,SortKind->Ow,listUpdate_at->OW,lt_int->Ph,wpS_mono->P_,seqEpoch_at->Qa,mergeAt'->Qb,elem'->Qc,Call_->Qd,setPending->QH
open PySem.NameKind renaming free->F_,cell->Ia
open PySem.Builtin.Tuple renaming tupleHashOf->Ga,tupleExact->Kn,tupleItemsOf->Mr
open Array renaming length_toList->Gb,getElem?_eq_none->Ih,getElem?_toList->Jn,getElem?_eq_getElem->JC,toList_inj->Lj,toList->MQ,perm_iff_toList_perm->NB,forIn_toList->O1,toList_zip->PN
open False renaming elim->Gh
open PySem.Builtin.Dict renaming showsAll->Gz,updateFrom->JA,noArgs->Lo,dictSlotArgs->MJ,selfAndRest->MU,addKeywords->MV,samePairs->Nb,quietEq->Nk
open PySem.Builtin.Dict_items renaming ownsTuple->GB,ownedTupleIsFree->KQ,ownedTupleFields->KR,pairFromOwner->K4,newIterator->Ln,dictOf->LW
open Option.some renaming injEq->GF,inj->Hh
open Pure renaming pure->GW
open Except renaming ok->GY,error->Ie,bind->QK
open PySem.Heap.SameBut renaming update->G1
open PySem.F renaming slot_dict_valueiterator_next->Hf,slot_dict_itemiterator_next->Hj,slot_dict_keyiterator_next->Hl,slot_tuple_iterator_next->Iy,plainAttrs_list->JJ,plainAttrs_dict->JK,slot_list_append->JP,slot_zip_next->JT,slot_tuple_lt->KD,type_list_append->KO,args_tuple_add_2->KP,entry_tuple_add->KZ,slot_tuple_add->Le,slot_dict_iter->Lf,slot_tuple_hash->Lk,slot_tuple_eq->Ll,plain_list_iadd->Lm,slot_list_getattribute->Lu,args_dict_valueiterator_next_1->LD,entry_dict_valueiterator_next->LJ,args_dict_itemiterator_next_1->LN,entry_dict_itemiterator_next->LU,args_dict_keyiterator_next_1->LV,entry_dict_keyiterator_next->L1,args_tuple_iterator_next_1->Mb,entry_tuple_iterator_next->Mh,slot_dict_values_iter->MT,slot_dict_items_iter->M4,slot_dict_values->Ny,slot_dict_items->NC,slot_dict_clear->ND,args_zip_next_1->NF,entry_zip_next->NR,sub_dict_dict->NW,slot_dict_get->NX,slot_dict_eq->N4,args_object_init_2->N5,slot_list_extend->Oq,args_tuple_lt_2->OE,entry_tuple_lt->OV,plain_proto_collect->Pe,entry_proto_collect->Pf,kt_typeCall_dict_1->PF,args_dict_init_2->P9,entry_list_iadd->Qs,entry_dict_init->Qt,kt_called_dict->QF,slot_int_rmul->QV
open Int renaming le_trans->Ho,emod_lt_of_pos->HR,toNat_natCast->HZ,le_of_lt->Ip,emod_nonneg->IL,le_refl->Je,neg_le_neg->J3,not_lt->MP,le_antisymm->Qw,sub_zero->Q_
open PySem.W renaming emptyDict->Hx,instObj->Iw,cellsFrom_some->I9,kitOne->Jz,keepIn->KL,findIn->KN,methodCall_KW->Lr,plainGet_of->LR,methodObj->Mn,OpenLaw->MG,fnOf->NO,kas_ask->Oa,plainGet->Ol,codeIn->Om,callWith_K->Oo,handedIn->OR,WalkO->OS,takesIn->O8,specialIn->O9,readsIn->O_,hasDictIn->Pa,findCls->Pb,kia_one->PC,mroIn->PU,makesIn->QT,plainOver->Q3
open LawfulBEq renaming eq_of_beq->HC
open Ne renaming symm->HI
open Prod renaming fst->HN,ext->NH
open PySem.Obj renaming mapSeq->HP,data_mapFields->Jg,data_mapDictKeys->Km,isFreed_of_fields->LS,mapFields->Mw,cls_mapFields->M3,isFreed_of_dict->Pc,mapDictKeys->Qr
open PySem.Str renaming ofString->Im
open List.Pairwise renaming nil->Io,imp_of_mem->MO,sublist->Nd,imp->Q8,cons->Q9
open Except.ok renaming inj->IA
open PySem.Around renaming under_plainId->IB
open List.Perm renaming refl->IM,swap->O0
open PySem.Builtin.SmallTypes renaming nextOf->Ja,ownedTupleIsFree->PV
open PySem.Calls renaming callWith_builtin->Jc,spliced_cons->Mp,Name_function_global->Nz,call_function_entry->NG,evalArgs_plain->Ot,spliced_nil->Pg
open PySem.Builtin.Slice renaming slicePlaces->Ji,sliceAdjust->Kf,sliceApplied->Ms,slicePartIndex->Q4,sliceFields->Q5
open PySem.Builtin.List renaming listTooLong->Ju
open PySem.Builtin.Range renaming rangeSize->Jx,small->Lg
open PySem.SeqAt renaming EqAt->JN,ne_of_list_tuple->N2,RcNeAt->N3,RcAt->OU
open PySem.Shared renaming TypeIs->J5,heap->Ob
open List.cons renaming injEq->J7
open True renaming intro->J8
open PyProof.Rows.SortSt renaming mk'->Kw
open PySem.AutoSeq1 renaming wpAny_loadPart'->KG
open PySem.Paired renaming length->KU
open ForInStep renaming yield->K8
open Function renaming comp->LY
open Prod.mk renaming injEq->L3
open Min renaming min->N6
open PySem.PassesOwn renaming never->OD
open PySem.W.Looks renaming here->OT,of_pure->Qo
open ForIn renaming forIn->Pq
open PyProof.Rows.IsTup renaming new->PH
open PySem.W.KatTups renaming cons->P7,nil->Qp
open Std.Legacy.Range renaming size->Ql,forIn_eq_forIn_range'->Qm
open PySem.Challenge renaming pw_wakeorder_k57_great_papers->QG
open PySem.Heap.IsSliceOf renaming new->QU
open Max renaming max->QW
open PySem.Walks renaming list->Q2
abbrev p_:=@if_pos
abbrev q_:=@if_neg
abbrev FG:=@decide_eq_true_eq
abbrev FR:=@absurd
abbrev HF:=@if_false
abbrev HY:=@decide_eq_false
abbrev IP:=@StateT
abbrev IY:=@decide_eq_true
abbrev Jk:=@congrArg
abbrev Jl:=@DecidableEq
abbrev Jw:=@if_true
abbrev Jy:=@decide_eq_false_iff_not
abbrev Ka:=@beq_eq_false_iff_ne
abbrev Li:=@ForInStep
abbrev Mv:=@of_decide_eq_true
abbrev OH:=@decide_false
abbrev Qx:=@or_false
set_option Elab.async false
set_option linter.all false
set_option maxRecDepth 100000
set_option maxHeartbeats 4000000
open PySem.W (lookIn plainGet hasDictIn findIn isFn plainOver takerIn makesIn keepIn callWith_K fnOf codeIn nsIn mg_of specialIn kitOne kia_one)
abbrev Pn:=PySem.W.Frag
abbrev Vp:=List (iF×Mx)
abbrev Mq:=h_->k_->Prop
abbrev Ld:=Gf->Option h_
set_option compiler.extract_closed false
noncomputable section
theorem Jq0(_:True:=by rfl):True:=trivial
local macro_rules|`(~~~$t)=>`(autoParam $t Jq0._auto_1)
theorem Jq1(_:True:=by decide):True:=trivial
local macro_rules|`($t⁻¹)=>`(autoParam $t Jq1._auto_1)
theorem Jq2_(_:True:=by k_is):True:=trivial
def Jq2:Lean.Syntax:=Jq2_._auto_1
theorem Jq3_(_:True:=by intro _;rfl):True:=trivial
def Jq3:Lean.Syntax:=Jq3_._auto_1
theorem Jq4_(_:True:=by first|exact .inl rfl|exact .inr rfl|assumption):True:=trivial
def Jq4:Lean.Syntax:=Jq4_._auto_1
theorem Jq5_(_:True:=by first|exact Or.inl rfl|exact Or.inr (Or.inl rfl)|exact Or.inr (Or.inr rfl)):True:=trivial
def Jq5:Lean.Syntax:=Jq5_._auto_1
theorem Jq6_(_:True:=by first|exact Or.inl rfl|exact Or.inr rfl):True:=trivial
def Jq6:Lean.Syntax:=Jq6_._auto_1
theorem Jq7_(_:True:=by with_unfolding_all rfl):True:=trivial
def Jq7:Lean.Syntax:=Jq7_._auto_1
theorem Jq8_(_:True:=by exact λ_ _=>rfl):True:=trivial
def Jq8:Lean.Syntax:=Jq8_._auto_1
theorem Jq9_(_:True:=by first|k_is|kernel_rfl):True:=trivial
def Jq9:Lean.Syntax:=Jq9_._auto_1
theorem Jq10_(_:True:=by first|exact DM _|with_unfolding_all rfl):True:=trivial
def Jq10:Lean.Syntax:=Jq10_._auto_1
theorem Jq11_(_:True:=by exact⟨rfl,rfl,rfl,by decide +kernel,rfl,by decide +kernel,by decide +kernel⟩):True:=trivial
def Jq11:Lean.Syntax:=Jq11_._auto_1
theorem Jq12_(_:True:=by intro _ _ _ _ _ _ us hl;repeat' (first|(simp at hl;done)|rfl|(cases us<;>try rename_i us))):True:=trivial
def Jq12:Lean.Syntax:=Jq12_._auto_1
theorem dkK{p:Prop}(h:p:=by decide +kernel):p:=h
theorem ad{p:Prop}(h:p:=by lia):p:=h
theorem am{p:Prop}(h:p:=by simp):p:=h
theorem as{p:Prop}(h:p:=by decide):p:=h
theorem aV{p:Prop}(h:p:=by grind):p:=h
theorem aW{p:Prop}(h:p:=by simp_all):p:=h
abbrev PySem.Shared.z(s:PySem.Shared):=s.heap.objs.size
set_option bootstrap.genMatcherCode false
set_option genSizeOf false
set_option genInjectivity false
namespace Lake
open PySem PySem.Spec PyProof.Rows
abbrev a8:=List h_
abbrev a5:=List Nat
abbrev a0:=List Int
variable{a b dx C:iF}{h h':Gu}{x name m qual:Gf}{e c tg:G4}{B2:Vp}{g':Array GenState}{ch fp:List iF}{N ps:List Gf}{i j k:Nat}{A:HL}{E:Mq}{u:h_}{Q:Unit->k_->Prop}{s':k_}{pos pos' p:NV}{K:Pn}{es:List G4}{g:Int->Int->Int}{P:GD}{w:Hw}{body:List G6}{op op':CmpOp}{us:List h_}{mA mg:Ld}{pl:LI Bool}{kw:List (Gf×h_)}{outer:List OF}{fd:IG}{scope:Nw}
set_option genInjectivity true in
set_option bootstrap.genMatcherCode true in
inductive V where
 |non|bl (b:Bool)|int (i:Int)|ref (a:iF)|ty (n:String)
 deriving DecidableEq
abbrev a7:=List V
variable{v y:V}{xs vs:List V}
def B':V->h_->Prop
 |.non,u=>u=FY|.bl b,u=>u=Mo b|.int i,u=>∃t,u=Lc i t
 |.ref a,u=>u=w_ a|.ty n,u=>u=Hz n
abbrev C':a7->a8->Prop:=I_ B'
theorem C'.length{xs:a7}{us:a8}(r:C' xs us):xs.length=us.length:=KU r
inductive AtI{α:Type}(S P:α->Prop):Prop
 |mk (u:α) (e:S u) (r:P u)
theorem C'.get:∀{xs:a7} {us:a8} {i:Nat} {x:V},C' xs us->xs[i]?=a_ x->AtI (λu=>us[i]?=a_ u) (B' x)
 |_,_,_,_,.nil,e=>by simp at e|_,_,0,_,.cons r _,e=>by simp at e;subst e;exact⟨_,rfl,r⟩|_,_,i+1,x,.cons _ t,e=>by obtain⟨u,h1,B⟩:=C'.get (i:=i) (x:=x) t (by simpa using e);exact⟨u,aW,B⟩
theorem C'.set{x:V}{u:h_}(r:B' x u):∀{xs:a7} {us:a8} (i:Nat),C' xs us->C' (xs.set i x) (us.set i u)
 |_,_,_,.nil=>.nil|_,_,0,.cons _ t=>.cons r t|_,_,i+1,.cons q t=>.cons q (C'.set r i t)
theorem C'.append:∀{xs ys:a7} {us ws:a8},C' xs us->C' ys ws->C' (xs++ys) (us++ws)
 |_,_,_,_,.nil,s=>s|_,_,_,_,.cons r t,s=>.cons r (C'.append t s)
theorem C'.take:∀{xs:a7} {us:a8} (n:Nat),C' xs us->C' (xs.take n) (us.take n)
 |_,_,0,_=>.nil|_,_,_+1,.nil=>.nil|_,_,n+1,.cons r t=>.cons r (C'.take n t)
theorem C'.drop:∀{xs:a7} {us:a8} (n:Nat),C' xs us->C' (xs.drop n) (us.drop n)
 |_,_,0,r=>r|_,_,_+1,.nil=>.nil|_,_,n+1,.cons _ t=>C'.drop n t
def B0:Option V->Option h_->Prop
 |some v,a_ u=>B' v u|none,e_=>True|_,_=>False
set_option genInjectivity true in
inductive HO where
  |lst (xs:List V)
  |tup (xs:List V)
  |ins (C dx:iF) (fs:List (Gf×V))
  |own (x:iF)
  |met (f x:iF)
  |rng (lo hi:Int)
  |frz (o:Mx) (u:HO)
  |tbl (ps:Array h_)
  |ext (φ:Gu->Prop)
noncomputable abbrev Hp:=iF->Option HO
variable{H H':Hp}
def upd(H:Hp)(a:iF)(o:HO):Hp:=λb=>if b=a then a_ o else H b
def av{o:HO}:upd H a o a=a_ o:=by simp[upd,p_]
theorem ax{o:HO}(h:b≠a):upd H a o b=H b:=by simp_all[upd,q_]
theorem aC{o:HO}(h:H a=a_ o)(h':H b=e_):a≠b:=ad
section
variable(P:GD)(w:Hw)
def gW(H:Hp)(h:Gu)(a:iF):HO->Prop
 |.lst xs=>xs.length<=o_/\∃(its:a8) (n:Nat),C' xs its/\h.get? a=a_ {cls:=.type "list",data:=.seq its.toArray n}
 |.tup xs=>xs.length<=o_/\∃its:a8,C' xs its/\NY h a its.toArray
 |.ins C dx fs=>H dx=a_ (.own a)/\fs.length<=1000/\dx≠a/\h.get? a=a_ (Iw C dx) /\
   ∃mA,h.Ns1 dx mA/\(∀f,B0 (fs.lookup f) (mA f))/\N1 mA (fs.map (·.1))
 |.own _=>∃o,h.get? a=a_ o
 |.rng lo hi=>∃t u v,h.get? a=a_ {cls:=.type "range",data:=.fields #[.int lo t,.int hi u,.int 1 v]}
 |.frz o u=>h.get? a=a_ o/\gW H h a u|.tbl ps=>h.get? a=a_ {cls:=.none,data:=.fields ps}|.met f x=>h.get? a=a_ (Mn (.ref f) (.ref x))|.ext B=>B h/\(∃o,h.get? a=a_ o)/\∀h1 I:Gu,B h1->(∀o,h1.get? a=a_ o->I.get? a=a_ o)->B I
def HOk(H:Hp)(h:Gu):Prop:=∀a o,H a=a_ o->gW H h a o
end
section
variable{o:HO}
theorem gW.lt(x:gW H h a o):a<h.objs.size:=by
 cases o with
 |lst xs=>obtain⟨_,_,_,_,e⟩:=x;exact s_ e
 |tup xs=>obtain⟨_,_,_,p⟩:=x;exact p.lt
 |ins C dx fs=>obtain⟨_,_,_,e,_⟩:=x;exact s_ e
 |own y=>obtain⟨_,e⟩:=x;exact s_ e
 |rng lo hi=>obtain⟨_,_,_,e⟩:=x;exact s_ e
 |frz I u=>obtain⟨e,_⟩:=x;exact s_ e
 |tbl ps=>exact s_ (show h.get? a=a_ _ from x)|met f y=>exact s_ (show h.get? a=a_ _ from x)|ext B=>obtain⟨_,⟨_,e⟩,_⟩:=x;exact s_ e
theorem Paired.mapP{α β:Type}{F G:α->β->Prop}:∀{l₁:List α} {B:List β},I_ F l₁ B->(∀a b,F a b->G a b)->I_ G l₁ B
 |_,_,.nil,_=>.nil|_,_,.cons r t,f=>.cons (f _ _ r) (Paired.mapP t f)
def gW.stay(x:gW H h a o)(k:∀b u,(b=a\/H b=a_ (.own a))->h.get? b=a_ u->h'.get? b=a_ u)(S:∀b,H b=a_ (.own a)->H' b=a_ (.own a))(Y:∀b xs,H b=a_ (.tup xs)->H' b=a_ (.tup xs)):gW H' h' a o:=by
 induction o with
 |lst xs=>obtain⟨z,its,n,r,e⟩:=x;exact⟨z,its,n,r,k _ _ (.inl rfl) e⟩
 |tup xs=>obtain⟨z,its,r,B,e,c⟩:=x;exact⟨z,its,r,B,k _ _ (.inl rfl) e,c⟩
 |ins C dx fs=>obtain⟨d,z,I,e,mA,⟨od,es,ep,e2,c⟩,r⟩:=x;exact⟨S _ d,z,I,k _ _ (.inl rfl) e,mA,⟨od,es,ep,k _ _ (.inr d) e2,c⟩,r⟩
 |own y=>obtain⟨B,e⟩:=x;exact⟨B,k _ _ (.inl rfl) e⟩
 |rng lo hi=>obtain⟨t,u,v,e⟩:=x;exact⟨t,u,v,k _ _ (.inl rfl) e⟩
 |frz B u J=>obtain⟨e,q⟩:=x;exact⟨k _ _ (.inl rfl) e,J q⟩
 |tbl ps=>have e:h.get? a=a_ {cls:=.none,data:=.fields ps}:=x;show h'.get? a=a_ {cls:=.none,data:=.fields ps};exact k a _ (.inl rfl) e|met f y=>have e:h.get? a=a_ (Mn (.ref f) (.ref y)):=x;show h'.get? a=a_ (Mn (.ref f) (.ref y));exact k a _ (.inl rfl) e|ext U=>obtain⟨p,⟨o,e⟩,st⟩:=x;exact⟨st _ _ p λo q=>k _ _ (.inl rfl) q,⟨o,k _ _ (.inl rfl) e⟩,st⟩
theorem HOk.lt(x:HOk H h)(e:H a=a_ o):a<h.objs.size:=(x a o e).lt
def HOk.fresh(x:HOk H h)(e:h.objs.size<=a):H a=e_:=by
 cases q:H a with
 |none=>rfl|some u=>exact FR (A_ (x.lt q) e) (IQ _)
def HOk.kept(x:HOk H h)(k:∀b u,h.get? b=a_ u->h'.get? b=a_ u):HOk H h':=λa o e=>(x a o e).stay (λb u _ q=>k b u q) (λ_ q=>q) λ_ _ q=>q
theorem HOk.laid(x:HOk H h)(k:∀b u,h.get? b=a_ u->h'.get? b=a_ u)(J:h.objs.size<=a)(I:gW (upd H a o) h' a o):HOk (upd H a o) h':=λb u e=>by
 have B:=x.fresh J;by_cases S:b=a
 .simp_all[av]
 .rw[ax S]at e;exact(x b u e).stay (λc v _ q=>k c v q) (λc q=>by rw[ax (aC q B)];exact q) λc xs q=>by rw[ax (aC q B)];exact q
end
def Rd(H:Hp)(a:iF)(u:HO):Prop:=H a=a_ u\/∃o,H a=a_ (.frz o u)
def Rd.ok{u:HO}(r:Rd H a u)(x:HOk H h):gW H h a u:=by
 rcases r with r|⟨o,r⟩
 .exact x a u r
 .obtain⟨_,q⟩:=x a _ r;exact q
def Mut:Option HO->Prop
 |some (.lst _)=>True|some (.ins _ _ _)=>True|some (.ext _)=>True|_=>False
section
variable{x e:iF}{o':HO}
theorem HOk.write(ok:HOk H h)(J:Mut (H x))(d:e=x\/H e=a_ (.own x))(k:∀b u,b≠e->h.get? b=a_ u->h'.get? b=a_ u)(S:∃u,h'.get? e=a_ u)(a:gW (upd H x o') h' x o'):HOk (upd H x o') h':=λb u q=>by
 have I:∀c y,H c=a_ (.own y)->c≠x:=λc y r z=>by subst z;rw[r]at J;exact J
 have B:∀c xs,H c=a_ (.tup xs)->c≠x:=λc xs r z=>by subst z;rw[r]at J;exact J
 by_cases f:b=x
 .simp_all[av]
 .rw[ax f]at q;by_cases U:b=e
  .have Y:H b=a_ (.own x):=by
    rcases d with z|z
    .simp_all
    .rw[U];exact z
   rw[q]at Y;cases Y;obtain⟨v,g⟩:=S;exact⟨v,aW⟩
  .refine(ok b u q).stay (λc v i r=>k c v ?_ r) (λc r=>by rw[ax (I c b r)];exact r) λc xs r=>by rw[ax (B c xs r)];exact r
   grind
end
structure Un(fs ex:List iF)(H H':Hp)(h h':Gu):Prop where
 keep:∀b o,h.get? b=a_ o->H b=e_->b∉fs->b∉ex->h'.get? b=a_ o
 slot:∀b o,h.get? b=a_ o->H b=e_->b∈fs->b∉ex->∃sl,h'.get? b=a_ {o with slots:=sl}
 free:∀b o,h.get? b=a_ o->H b=e_->b∉ex->H' b=e_
 there:∀b o,h.get? b=a_ o->b∉ex->∃o',h'.get? b=a_ o'
 tups:∀b xs,H b=a_ (.tup xs)->H' b=a_ (.tup xs)
 frzs:∀b o u,H b=a_ (.frz o u)->H' b=a_ (.frz o u)
 tbls:∀b ps,H b=a_ (.tbl ps)->∃more,H' b=a_ (.tbl (ps++more))
section
variable{fs ex:List iF}{H1:Hp}{h1:Gu}{x e:iF}{o:HO}
def Un.any(u:Un fs ex H H1 h h1){B:Mx}(q:h.get? b=a_ B)(n:H b=e_)(I:b∉ex):∃sl,h1.get? b=a_ {B with slots:=sl}:=by
 by_cases J:b∈fs
 .exact u.slot b B q n J I
 .exact⟨B.slots,u.keep b B q n J I⟩
theorem Un.kept(k:∀b u,h.get? b=a_ u->h'.get? b=a_ u):Un fs ex H H h h':=
 ⟨λb B q _ _ _=>k b B q,λb B q _ _ _=>⟨B.slots,k b B q⟩,λ_ _ _ n _=>n,λb B q _=>⟨B,k b B q⟩,λ_ _ q=>q,λ_ _ _ q=>q,λ_ ps q=>⟨#[],aW⟩⟩
def Un.refl:Un fs ex H H h h:=Un.kept λ_ _ q=>q
def Un.laid(k:∀b u,h.get? b=a_ u->h'.get? b=a_ u)(I:h.objs.size<=a)(B:H a=e_):Un fs ex H (upd H a o) h h' where
 keep:=λb u q _ _ _=>k b u q
 slot:=λb u q _ _ _=>⟨u.slots,k b u q⟩
 free:=λb u q n _=>by rw[ax (FO (A_ (s_ q) I))];exact n
 there:=λb u q _=>⟨u,k b u q⟩
 tups:=λb xs q=>by rw[ax (aC q B)];exact q
 frzs:=λb u xs q=>by rw[ax (aC q B)];exact q
 tbls:=λb ps q=>⟨#[],by rw[ax (aC q B),q];simp⟩
theorem Un.write(I:Mut (H x))(a:e=x\/H e=a_ (.own x))(k:∀b u,b≠e->h.get? b=a_ u->h'.get? b=a_ u)(U:∃u,h'.get? e=a_ u):Un fs ex H (upd H x o) h h':=by
 have S:∀b,H b=e_->b≠x:=λb n z=>by subst z;rw[n]at I;exact I
 have J:∀b,H b=e_->b≠e:=λb n z=>by simp_all
 have B:∀b u,H b=a_ u->¬Mut (a_ u)->b≠x:=λb u q Y z=>by simp_all
 refine⟨λb u q n _ _=>k b u (J b n) q,λb u q n _ _=>⟨u.slots,k b u (J b n) q⟩,λb u q n _=>by rw[ax (S b n)];exact n,λb u q _=>?_,
  λb xs q=>by rw[ax (B b _ q λz=>z)];exact q,λb u xs q=>by rw[ax (B b _ q λz=>z)];exact q,λb ps q=>⟨#[],by rw[ax (B b _ q λz=>z),q];simp⟩⟩
 grind
end
noncomputable def trk(h:Gu)(H:Hp):List iF:=(x_ h.objs.size).filter λa=>(H a).isSome
def hidT(h:Gu)(H:Hp):Gu:=PySem.W.hideAll h (trk h H)
def Ex(h:Gu)(H:Hp):(hidT h H).objs.size=h.objs.size:=PySem.W.hideAll_size _ _
theorem hidT_get{o:Mx}(e:h.get? b=a_ o)(n:H b=e_):(hidT h H).get? b=a_ o:=
 PySem.W.hideAll_get _ e λB=>by
  have q:(H b).isSome=d_:=(GI.mp B).2
  simp_all
theorem of_hidT{o:Mx}(e:(hidT h H).get? b=a_ o):h.get? b=a_ o/\H b=e_:=by
 have B:h.get? b=a_ o:=PySem.W.of_hideAll (trk h H) e;refine⟨B,?_⟩
 cases q:H b with
 |none=>rfl|some x=>
  have I:b∈trk h H:=GI.mpr ⟨Gv.mpr (s_ B),by simp[q]⟩;have z:(hidT h H).get? b=e_:=PySem.W.hideAll_none (trk h H) I
  simp_all
structure Mod(K:Pn)(mg:Ld)(base:Gu):Prop where
 kin:K.In base
 glob:base.Ns G3 mg
 blt:∃mb,base.Ns QE mb/\∀x:Gf,x≠"__name__"->mb x=Ir x
 nolimit:base.NoLimit
structure Cx where
 prog:GD
 w:Hw
 K:Pn
 mg:Ld
 base:Gu
 A:HL
 N:List Gf
 s₀:k_
 H₀:Hp
 env:OF
 outer:List OF
 stack:List OF
 ex:List iF
 fn:Gf->Bool
 calm:Bool
 pn:Vp
 xe:Mq
variable{X:Cx}
noncomputable def frs(l:List OF):List iF:=l.filterMap (·.frame)
abbrev Cx.fs(X:Cx):List iF:=frs X.outer
def Vis(sc:Nw)(x:Gf):Prop:=sc.names.lookup x=a_ .local\/sc.names.lookup x=a_ .cell\/sc.names.lookup x=a_ .free
def Loc(sc:Nw)(x:Gf):Prop:=sc.names.lookup x=a_ .local\/sc.names.lookup x=a_ .cell
def Look(env:OF)(h:Gu)(m:Ld)(x:Gf)(u:h_):Prop:=
 (env.kindOf x=a_ .local/\m x=a_ u)\/((env.kindOf x=a_ .cell\/env.kindOf x=a_ .free)/\∃c,env.cells.lookup x=a_ c/\h.IsCell c (a_ u))
structure Cx.Ok(X:Cx):Prop where
 mod:Mod X.K X.mg X.base
 kind:X.env.scope.kind=.function
 glob:X.env.globals=G3
 blt:X.env.builtins=QE
 above:X.s₀.heap.objs.size<=X.env.locals
 inj:∀x y c,X.env.cells.lookup x=a_ c->X.env.cells.lookup y=a_ c->x=y
 has:∀x,(X.env.kindOf x=a_ .cell\/X.env.kindOf x=a_ .free)->∃c,X.env.cells.lookup x=a_ c
 cab:∀x c,X.fn x=d_->X.env.cells.lookup x=a_ c->X.s₀.heap.objs.size<=c
 hd:X.calm=d_->X.A.handled=e_
 frames:X.A.frames=a_ X.stack
 stk:X.stack=X.outer\/(X.stack=X.env::X.outer/\X.env.frame=a_ X.env.locals)
 exf:∀b∈X.ex,b≠X.env.locals/\∀x c,X.env.cells.lookup x=a_ c->c≠b
 bs:∀b o,X.base.get? b=a_ o->X.s₀.heap.get? b=a_ o/\X.H₀ b=e_
 bsz:X.base.objs.size<=X.s₀.heap.objs.size
 noex:∀b o,X.base.get? b=a_ o->b∉X.ex
 exfs:∀b∈X.ex,b∉X.fs
 Co:X.s₀.heap.FunFrames X.base X.outer
 frf:∀b∈X.fs,X.H₀ b=e_
structure B5(X:Cx)(B2:Vp)(σ:List (Option V))(H:Hp)(s:k_):Prop where
 ok:X.Ok
 os:s.os=X.s₀.os
 bare:Md s.gens
 base:Un X.fs X.ex X.H₀ H X.s₀.heap s.heap
 loc:∃m,s.heap.Ns X.env.locals m/\∀(i:Nat) (x:Gf) (v:V),X.N[i]?=a_ x->σ[i]?=a_ (a_ v)->Vis X.env.scope x->∃u,B' v u/\Look X.env s.heap m x u
 cell:∀x c,X.env.cells.lookup x=a_ c->∃v,s.heap.IsCell c v
 free:H X.env.locals=e_
 freeC:∀x c,X.env.cells.lookup x=a_ c->H c=e_
 pin:∀p∈X.pn++B2,s.heap.get? p.1=a_ p.2/\H p.1=e_/\p.1≠X.env.locals/\p.1∉X.fs/\∀v,p.2.data≠.cell v
 hok:HOk H s.heap
 len:σ.length=X.N.length
section
variable{σ:List (Option V)}{s:k_}
theorem Cx.Ok.nofr(ok:X.Ok){o:Mx}(e:X.base.get? b=a_ o):b∉X.fs:=λB=>by
 have:=(ok.Co.mem B).1
 simp_all
theorem B5.bs(I:B5 X B2 σ H s):∀b o,X.base.get? b=a_ o->s.heap.get? b=a_ o/\H b=e_:=λb o e=>⟨I.base.keep b o (I.ok.bs b o e).1 (I.ok.bs b o e).2 (I.ok.nofr e) (I.ok.noex b o e),I.base.free b o (I.ok.bs b o e).1 (I.ok.bs b o e).2 (I.ok.noex b o e)⟩
def B5.bk(I:B5 X B2 σ H s):∀b o,X.base.get? b=a_ o->s.heap.get? b=a_ o:=λb o e=>(I.bs b o e).1
theorem B5.mod(I:B5 X B2 σ H s):Mod X.K X.mg X.base:=I.ok.mod
def B5.kIn(I:B5 X B2 σ H s):X.K.In s.heap:=I.ok.mod.kin.keeps I.bk
theorem B5.lt(I:B5 X B2 σ H s):X.env.locals<s.heap.objs.size:=let ⟨_,B,_⟩:=I.loc;B.lt
def B5.sz(I:B5 X B2 σ H s):X.s₀.heap.objs.size<=s.heap.objs.size:=C_ I.ok.above (GN I.lt)
def B5.nofs(I:B5 X B2 σ H s)(h:s.heap.objs.size<=a):a∉X.fs:=λJ=>by obtain⟨_,o,B,_⟩:=I.ok.Co.mem J;exact FR (A_ (s_ B) (C_ I.sz h)) (IQ _)
theorem B5.cne(I:B5 X B2 σ H s):∀x c,X.env.cells.lookup x=a_ c->c≠X.env.locals:=λx c e z=>by
 obtain⟨v,o,S,U⟩:=I.cell x c e;obtain⟨m,⟨o',es,ep,B,J,_⟩,_⟩:=I.loc
 simp_all
theorem B5.Co(I:B5 X B2 σ H s):s.heap.FunFrames X.base X.outer:=by
 have J:∀(l:List OF),(∀b∈frs l,b∈X.fs)->X.s₀.heap.FunFrames X.base l->s.heap.FunFrames X.base l:=by
  intro l
  induction l with
  |nil=>intro _ _;trivial|cons env r Y=>intro S f;obtain⟨g,⟨L,o,h,d,c,i⟩,a⟩:=f;have B:L∈X.fs:=S L (by simp_all[frs,Mj]);obtain⟨sl,e⟩:=I.base.slot L o c (I.ok.frf L B) B λz=>I.ok.exfs L z B;exact⟨g,⟨L,_,h,d,e,i⟩,Y (λb U=>S b (by simp_all[frs,Mj])) a⟩
 exact J X.outer (λ_ U=>U) I.ok.Co
theorem B5.stack(I:B5 X B2 σ H s):s.heap.FunFrames X.base X.stack:=by
 rcases I.ok.stk with e|⟨e,J⟩
 .rw[e];exact I.Co
 .rw[e];obtain⟨m,B,_⟩:=I.loc;refine .cons (by rw[I.ok.kind];decide) J B ?_ I.Co;exact LZ (C_ I.ok.bsz I.ok.above)
theorem B5.vm(I:B5 X B2 σ H s):∀b∈frs X.stack,b∈X.env.locals::X.fs:=λb J=>by
 rcases I.ok.stk with e|⟨e,B⟩
 .simp_all
 simp_all[frs,Mj]
def B5.CU(I:B5 X B2 σ H s):∀b∈frs X.stack,H b=e_:=λb B=>by
 rcases t_.mp (I.vm b B)with e|B
 .rw[e];exact I.free
 .obtain⟨_,o,J,_⟩:=I.ok.Co.mem B;exact I.base.free b o J (I.ok.frf b B) λz=>I.ok.exfs b z B
theorem B5.step{t':Nat}{d':Drawn}(I:B5 X B2 σ H s)(Y:∀b∈ch,(b∈X.ex\/X.s₀.heap.objs.size<=b)/\b≠X.env.locals/\(∀x c,X.env.cells.lookup x=a_ c->c≠b)/\∀p∈X.pn++B2,p.1≠b)(U:∀b o,b≠X.env.locals->b∉X.fs->b∉ch->s.heap.get? b=a_ o->H b=e_->h'.get? b=a_ o)(g:∀b o,b≠X.env.locals->b∈X.fs->b∉ch->s.heap.get? b=a_ o->H b=e_->∃sl,h'.get? b=a_ {o with slots:=sl})(J:∀b o,b∉ch->s.heap.get? b=a_ o->H b=e_->H' b=e_)(h:∀b o,b∉ch->s.heap.get? b=a_ o->∃o',h'.get? b=a_ o')(w:∀b xs,H b=a_ (.tup xs)->H' b=a_ (.tup xs))(C:∀b o u,H b=a_ (.frz o u)->H' b=a_ (.frz o u))(G:∀b ps,H b=a_ (.tbl ps)->∃A,H' b=a_ (.tbl (ps++A)))(ns:∀m,s.heap.Ns X.env.locals m->h'.Ns X.env.locals m)(E:HOk H' h')(R:Md g'):
  B5 X B2 σ H' {s with heap:=h',gens:=g',drawn:=d',toks:=t'}:=by
 have y:∀b o,X.s₀.heap.get? b=a_ o->b≠X.env.locals:=λb o e=>FO (A_ (s_ e) I.ok.above);have f:∀b o,X.s₀.heap.get? b=a_ o->b∉X.ex->b∉ch:=λb o e B j=>by
  rcases(Y b j).1 with z|z
  .exact B z
  .exact FR (A_ (s_ e) z) (IQ _)
 have a:∀x c,X.env.cells.lookup x=a_ c->∀v,s.heap.IsCell c v->h'.IsCell c v:=λx c e v ⟨o,t,F⟩=>by
  have S:c∉ch:=λz=>(Y c z).2.2.1 x c e rfl;by_cases O:c∈X.fs
  .obtain⟨sl,q⟩:=g c o (I.cne x c e) O S t (I.freeC x c e);exact⟨_,q,F⟩
  .exact⟨o,U c o (I.cne x c e) O S t (I.freeC x c e),F⟩
 refine⟨I.ok,I.os,R,⟨λb o e n j B=>?_,λb o e n j B=>?_,λb o e n B=>?_,λb o e B=>?_,λb xs e=>w b xs (I.base.tups b xs e),λb o xs e=>C b o xs (I.base.frzs b o xs e),λb ps e=>?_⟩,?_,λx c e=>?_,?_,λx c e=>?_,λp N=>?_,E,I.len⟩
 .exact U b o (y b o e) j (f b o e B) (I.base.keep b o e n j B) (I.base.free b o e n B)
 .obtain⟨sl,e1⟩:=I.base.slot b o e n j B;obtain⟨D,e2⟩:=g b _ (y b o e) j (f b o e B) e1 (I.base.free b o e n B);exact⟨D,e2⟩
 .obtain⟨o',e1⟩:=I.base.there b o e B;exact J b o' (f b o e B) e1 (I.base.free b o e n B)
 .obtain⟨o',e1⟩:=I.base.there b o e B;exact h b o' (f b o e B) e1
 .obtain⟨T,e1⟩:=I.base.tbls b ps e
  grind
 .obtain⟨m,P,Q⟩:=I.loc;refine⟨m,ns m P,λi x v e1 e2 e3=>?_⟩
  obtain⟨u,r,l⟩:=Q i x v e1 e2 e3;refine⟨u,r,?_⟩
  rcases l with l|⟨k,c,e,z⟩
  .exact .inl l
  .exact .inr ⟨k,c,e,a x c e _ z⟩
 .obtain⟨v,z⟩:=I.cell x c e;exact⟨v,a x c e v z⟩
 .obtain⟨m,⟨o,_,_,t,_⟩,_⟩:=I.loc;exact J _ o (λz=>(Y _ z).2.1 rfl) t I.free
 .obtain⟨v,o,t,F⟩:=I.cell x c e;exact J c o (λz=>(Y c z).2.2.1 x c e rfl) t (I.freeC x c e)
 .obtain⟨e,n,L,K,d⟩:=I.pin p N;have S:p.1∉ch:=λz=>(Y p.1 z).2.2.2 p N rfl;exact⟨U p.1 p.2 L K S e n,J p.1 p.2 S e n,L,K,d⟩
def B5.un{t':Nat}(I:B5 X B2 σ H s)(u:Un X.fs [] H H' s.heap h')(J:HOk H' h'):B5 X B2 σ H' {s with heap:=h',toks:=t'}:=by
 obtain⟨m,⟨o,es,ep,Y,r⟩,_⟩:=id I.loc;obtain⟨sl,c⟩:=u.any Y I.free am;exact I.step (g':=s.gens) (d':=s.drawn) (ch:=[]) (λ_ z=>nomatch z) (λb o _ S _ e n=>u.keep b o e n S am) (λb o _ S _ e n=>u.slot b o e n S am) (λb o _ e n=>u.free b o e n am) (λb o _ e=>u.there b o e am) u.tups u.frzs u.tbls (λd a=>by obtain⟨o',U,ep',B,r'⟩:=a;rw[Y]at B;cases B;exact⟨_,U,ep',c,r'⟩) J I.bare
def B5.call{t':Nat}{d':Drawn}(I:B5 X B2 σ H s)(u:Un (frs X.stack) ch H H' s.heap h')(U:HOk H' h')(g:Md g')(S:∀b∈ch,(b∈X.ex\/X.s₀.heap.objs.size<=b)/\b≠X.env.locals/\(∀x c,X.env.cells.lookup x=a_ c->c≠b)/\∀p∈X.pn++B2,p.1≠b):
  B5 X B2 σ H' {s with heap:=h',gens:=g',drawn:=d',toks:=t'}:=by
 obtain⟨m,⟨o,es,ep,d,r⟩,_⟩:=id I.loc;obtain⟨sl,Y⟩:=u.any d I.free λz=>(S _ z).2.1 rfl;exact I.step (ch:=ch) S (λb o Y h B e n=>u.keep b o e n (λz=>(t_.mp (I.vm b z)).elim Y h) B) (λb o _ _ B e n=>u.any e n B) (λb o B e n=>u.free b o e n B) (λb o B e=>u.there b o e B) u.tups u.frzs u.tbls (λi f=>by obtain⟨o',a,ep',J,r'⟩:=f;rw[d]at J;cases J;exact⟨_,a,ep',Y,r'⟩) U g
theorem B5.turned{t':Nat}{B:iF}(I:B5 X B2 σ H s)(k:∀b o,b≠B->s.heap.get? b=a_ o->h'.get? b=a_ o)(h:H B=e_)(S:B≠X.env.locals)(h1:B∈X.ex\/X.s₀.heap.objs.size<=B)(g:∀x c,X.env.cells.lookup x=a_ c->c≠B)(f:∀p∈X.pn++B2,p.1≠B):B5 X B2 σ H {s with heap:=h',toks:=t'}:=by
 have U:∀b u,H b=a_ u->b≠B:=λb u e z=>by simp_all
 refine I.step (g':=s.gens) (d':=s.drawn) (ch:=[B]) (λb d=>?_) (λb o _ _ J e _=>k b o (λz=>J (by simp[z])) e) (λb o _ _ J e _=>⟨o.slots,k b o (λz=>J (by simp[z])) e⟩) (λ_ _ _ _ n=>n)
  (λb o J e=>⟨o,k b o (λz=>J (by simp[z])) e⟩) (λ_ _ e=>e) (λ_ _ _ e=>e) (λb ps e=>⟨#[],aW⟩) (λm a=>?_) (λb u e=>?_) I.bare
 .have e:b=B:=by simpa using d
  subst e;exact⟨h1,S,g,f⟩
 .obtain⟨o,es,ep,Y,r⟩:=a;exact⟨o,es,ep,k _ o (HI S) Y,r⟩
 .refine(I.hok b u e).stay (λc v J q=>k c v ?_ q) (λ_ q=>q) λ_ _ q=>q
  lia
def B5.tok(I:B5 X B2 σ H s)(t:Nat):B5 X B2 σ H {s with toks:=t}:=I.un (h':=s.heap) (t':=t) Un.refl I.hok
theorem B5.kept{t':Nat}(I:B5 X B2 σ H s)(k:∀b u,s.heap.get? b=a_ u->h'.get? b=a_ u):B5 X B2 σ H {s with heap:=h',toks:=t'}:=I.un (Un.kept k) (I.hok.kept k)
theorem B5.laid{a:iF}{o:HO}{t':Nat}(I:B5 X B2 σ H s)(k:∀b u,s.heap.get? b=a_ u->h'.get? b=a_ u)(J:s.heap.objs.size<=a)(B:gW (upd H a o) h' a o):
  B5 X B2 σ (upd H a o) {s with heap:=h',toks:=t'}:=I.un (Un.laid k J (I.hok.fresh J)) (I.hok.laid k J B)
theorem B5.write{x e:iF}{o:HO}{t':Nat}(I:B5 X B2 σ H s)(S:Mut (H x))(U:e=x\/H e=a_ (.own x))(k:∀b u,b≠e->s.heap.get? b=a_ u->h'.get? b=a_ u)(B:∃u,h'.get? e=a_ u)(J:gW (upd H x o) h' x o):B5 X B2 σ (upd H x o) {s with heap:=h',toks:=t'}:=I.un (Un.write S U k B) (I.hok.write S U k B J)
def B5.weak{B:List (Option V)}(I:B5 X B2 σ H s)(U:B.length=σ.length)(w:∀(i:Nat) v,B[i]?=a_ (a_ v)->σ[i]?=a_ (a_ v)):B5 X B2 B H s:=
 ⟨I.ok,I.os,I.bare,I.base,let ⟨m,S,J⟩:=I.loc;⟨m,S,λi x v e1 e2 e3=>J i x v e1 (w i v e2) e3⟩,I.cell,I.free,I.freeC,I.pin,I.hok,U.trans I.len⟩
def B5.tJ{pins':Vp}(I:B5 X B2 σ H s)(h:∀p∈pins',s.heap.get? p.1=a_ p.2/\H p.1=e_/\p.1≠X.env.locals/\p.1∉X.fs/\∀v,p.2.data≠.cell v):B5 X pins' σ H s:=
 ⟨I.ok,I.os,I.bare,I.base,I.loc,I.cell,I.free,I.freeC,λp B=>(FW.mp B).elim (λz=>I.pin p (Ha _ z)) (h p),I.hok,I.len⟩
def A3(B:N.Nodup)(a:N[i]?=a_ x)(b:N[j]?=a_ x):i=j:=by obtain⟨h1,e1⟩:=n_.mp a;obtain⟨I,e2⟩:=n_.mp b;exact(List.getElem_inj B).mp (e1.trans e2.symm)
theorem vk{M:P8}(I:B5 X B2 σ H s)(hN:X.N.Nodup)(hi:X.N[i]?=a_ x)(S:Loc X.env.scope x)(r:B' v u)(h:∀s',B5 X B2 (σ.set i (a_ v)) H s'->(∃a,HD a s.heap s'.heap/\(a=X.env.locals\/X.env.cells.lookup x=a_ a))->Q () s')(hf:autoParam (X.fn x=d_\/X.env.scope.names.lookup x=a_ .local) Jq4):r_ M A (storeName X.env x u) Q E s:=by
 obtain⟨m,W,hl⟩:=id I.loc;have C:(X.env.scope.kind==.class||(X.env.scope.kind==.module&&X.env.locals != X.env.globals))=c_:=by rw[I.ok.kind];rfl
 have Y:i<σ.length:=by rw[I.len];exact(n_.mp hi).1
 have t:=I.cne;have J:∀{a:iF} {h':Gu},(∃o,s.heap.get? a=a_ o/\H a=e_)->HD a s.heap h'->HOk H h':=λ{a h'} ha B b ob e=>by
  obtain⟨_,_,Z⟩:=ha;refine(I.hok b ob e).stay (λc G U q=>(B.2 c ?_).trans q) (λ_ q=>q) λ_ _ q=>q
  lia
 rcases S with w|w
 .refine wpAny_storeName_local w W (λh' T B=>?_) C;obtain⟨oL,_,_,R,_⟩:=id W;refine h _ ⟨I.ok,I.os,I.bare,⟨λb o e n l S=>?_,λb o e n l S=>?_,I.base.free,λb o e S=>?_,I.base.tups,I.base.frzs,I.base.tbls⟩,⟨_,T,λj y K e1 e2 e3=>?_⟩,λy c e=>?_,I.free,I.freeC,λp O=>?_,J ⟨oL,R,I.free⟩ B,by simpa using I.len⟩ ⟨_,B,.inl rfl⟩
  .exact(B.2 b (FO (A_ (s_ e) I.ok.above))).trans (I.base.keep b o e n l S)
  .obtain⟨sl,e1⟩:=I.base.slot b o e n l S;exact⟨sl,(B.2 b (FO (A_ (s_ e) I.ok.above))).trans e1⟩
  .obtain⟨o',e1⟩:=I.base.there b o e S;exact⟨o',(B.2 b (FO (A_ (s_ e) I.ok.above))).trans e1⟩
  .by_cases f:j=i
   .subst f;rw[hi]at e1;cases e1;rw[E_ Y]at e2;cases e2;exact⟨u,r,.inl ⟨w,am⟩⟩
   .rw[tF (HI f)]at e2;obtain⟨L,r',q⟩:=hl j y K e1 e2 e3;refine⟨L,r',?_⟩
    rcases q with⟨k,e⟩|⟨k,c,e,z⟩
    .refine .inl ⟨k,?_⟩;have:y≠x:=λe=>f (A3 hN e1 (e▸hi))
     simp_all
    .exact .inr ⟨k,c,e,z.sameBut B (t y c e)⟩
  .obtain⟨G,z⟩:=I.cell y c e;exact⟨G,z.sameBut B (t y c e)⟩
  .obtain⟨e,n,D,N,d⟩:=I.pin p O;exact⟨(B.2 p.1 D).trans e,n,D,N,d⟩
 .have g:X.fn x=d_:=by
   rcases hf with z|z
   .exact z
   .simp_all
  obtain⟨c,U⟩:=I.ok.has x (.inl w);obtain⟨G,z⟩:=I.cell x c U;refine wpAny_storeName_cell I.ok.kind w U z (λh' hc' B=>?_);obtain⟨oc,P,hocd⟩:=id z;refine h {s with heap:=h'} ⟨I.ok,I.os,I.bare,⟨λb o e n l S=>?_,λb o e n l S=>?_,I.base.free,λb o e S=>?_,I.base.tups,I.base.frzs,I.base.tbls⟩,⟨m,W.sameBut B (HI (t x c U)),λj y K e1 e2 e3=>?_⟩,λy F e=>?_,I.free,I.freeC,λp O=>?_,J ⟨oc,P,I.freeC x c U⟩ B,by simpa using I.len⟩ ⟨c,B,.inr U⟩
  .exact(B.2 b (FO (A_ (s_ e) (I.ok.cab x c g U)))).trans (I.base.keep b o e n l S)
  .obtain⟨sl,e1⟩:=I.base.slot b o e n l S;exact⟨sl,(B.2 b (FO (A_ (s_ e) (I.ok.cab x c g U)))).trans e1⟩
  .obtain⟨o',e1⟩:=I.base.there b o e S;exact⟨o',(B.2 b (FO (A_ (s_ e) (I.ok.cab x c g U)))).trans e1⟩
  .by_cases f:j=i
   .subst f;rw[hi]at e1;cases e1;rw[E_ Y]at e2;cases e2;exact⟨u,r,.inr ⟨.inl w,c,U,hc'⟩⟩
   .rw[tF (HI f)]at e2;obtain⟨L,r',q⟩:=hl j y K e1 e2 e3;refine⟨L,r',?_⟩
    rcases q with q|⟨k,F,e,z'⟩
    .exact .inl q
    .refine .inr ⟨k,F,e,z'.sameBut B ?_⟩;rintro rfl;exact f (A3 hN e1 (I.ok.inj _ _ _ e U▸hi))
  .by_cases hcc:F=c
   .grind
   .obtain⟨w2,z2⟩:=I.cell y F e;exact⟨w2,z2.sameBut B hcc⟩
  .obtain⟨e,n,D,N,d⟩:=I.pin p O;refine⟨(B.2 p.1 ?_).trans e,n,D,N,d⟩
   grind
def zt{M:P8}(I:B5 X B2 σ H s)(S:X.N.Nodup)(hi:X.N[i]?=a_ x)(B:Loc X.env.scope x)(r:B' v u)(h:∀s',B5 X B2 (σ.set i (a_ v)) H s'->Q () s')(J:autoParam (X.fn x=d_\/X.env.scope.names.lookup x=a_ .local) Jq4):r_ M A (storeName X.env x u) Q E s:=
 vk I S hi B r (λs' U _=>h s' U) J
def B5.call'(I:B5 X B2 σ H s)(S:s'.os=s.os)(u:Un (frs X.stack) ch H H' s.heap s'.heap)(B:HOk H' s'.heap)(U:Md s'.gens)(J:∀b∈ch,(b∈X.ex\/X.s₀.heap.objs.size<=b)/\b≠X.env.locals/\(∀x c,X.env.cells.lookup x=a_ c->c≠b)/\∀p∈X.pn++B2,p.1≠b):B5 X B2 σ H' s':=by obtain⟨h',g',d',t',o'⟩:=s';have e:o'=s.os:=S;subst e;exact I.call (g':=g') (t':=t') (d':=d') u B U J
end
abbrev XK:=h_->Option iF->Hp->Prop
noncomputable abbrev St:=List (Option V)
variable{σ:St}
abbrev VK:=V->Hp->Prop
abbrev TE:=St->Hp->VK->Prop
variable{ta tb te:TE}
abbrev TT:=St->Hp->(Bool->Hp->Prop)->Prop
abbrev TA:=St->Hp->(a7->Hp->Prop)->Prop
structure Ends where
 nx:St->Hp->Prop
 rt:VK
 bk:St->Hp->Prop:=λ_ _=>False
 ct:St->Hp->Prop:=λ_ _=>False
abbrev TS:=Ends->St->Hp->Prop
inductive EP(X:Cx)(B2:Vp)(σ:St)(Q:VK)(u:h_)(s':k_):Prop
 |mk (v:V) (H':Hp) (I:B5 X B2 σ H' s') (r:B' v u) (q:Q v H')
inductive TP(X:Cx)(B2:Vp)(σ:St)(Q:Bool->Hp->Prop)(b:Bool)(s':k_):Prop
 |mk (H':Hp) (I:B5 X B2 σ H' s') (q:Q b H')
inductive AP(X:Cx)(B2:Vp)(σ:St)(Q:List V->Hp->Prop)(us:List h_)(s':k_):Prop
 |mk (vs:List V) (H':Hp) (I:B5 X B2 σ H' s') (r:C' vs us) (q:Q vs H')
inductive NP(X:Cx)(B2:Vp)(Q:St->Hp->Prop)(s':k_):Prop
 |mk (σ':St) (H':Hp) (I:B5 X B2 σ' H' s') (q:Q σ' H')
inductive RP(X:Cx)(B2:Vp)(Q:VK)(u:h_)(s':k_):Prop
 |mk (v:V) (σ':St) (H':Hp) (I:B5 X B2 σ' H' s') (r:B' v u) (q:Q v H')
def SP(X:Cx)(B2:Vp)(D:Ends)(f:Flow)(s':k_):Prop:=
 match f with
 |.next=>NP X B2 D.nx s'|.brk=>NP X B2 D.bk s'|.cont=>NP X B2 D.ct s'|.ret u=>RP X B2 D.rt u s'
def PE(X:Cx)(e:G4)(t:TE):Prop:=
 ∀(B2:Vp) (s:k_) (σ:St) (H:Hp) (Q:VK),B5 X B2 σ H s->t σ H Q->r_ (y_ X.prog X.w) X.A (FV e X.env) (EP X B2 σ Q) X.xe s
def PT(X:Cx)(e:G4)(t:TT):Prop:=
 ∀(B2:Vp) (s:k_) (σ:St) (H:Hp) (Q:Bool->Hp->Prop),B5 X B2 σ H s->t σ H Q->r_ (y_ X.prog X.w) X.A (Py e X.env (FV e X.env)) (TP X B2 σ Q) X.xe s
def PW(X:Cx)(e:G4)(t:TT):Prop:=
 ∀(B:LI h_) (B2:Vp) (s:k_) (σ:St) (H:Hp) (Q:Bool->Hp->Prop),B5 X B2 σ H s->t σ H Q->r_ (y_ X.prog X.w) X.A (Py e X.env B) (TP X B2 σ Q) X.xe s
def PW.pt{t:TT}(h:PW X e t):PT X e t:=h _
def PA(X:Cx)(es:List G4)(t:TA):Prop:=
 ∀(pos:NV) (B2:Vp) (s:k_) (σ:St) (H:Hp) (Q:a7->Hp->Prop),B5 X B2 σ H s->t σ H Q->r_ (y_ X.prog X.w) X.A (spliced (Hi pos (l_ es X.env))) (AP X B2 σ Q) X.xe s
def PS(X:Cx)(st:G6)(t:TS):Prop:=
 ∀(B2:Vp) (s:k_) (σ:St) (H:Hp) (D:Ends),B5 X B2 σ H s->t D σ H->r_ (y_ X.prog X.w) X.A (exec st X.env) (SP X B2 D) X.xe s
def PSs(X:Cx)(st:List G6)(t:TS):Prop:=
 ∀(B2:Vp) (s:k_) (σ:St) (H:Hp) (D:Ends),B5 X B2 σ H s->t D σ H->r_ (y_ X.prog X.w) X.A (execs st X.env) (SP X B2 D) X.xe s
def D'{α:Type}{t:LI α}{Q B:α->k_->Prop}{M:P8}{s:k_}(h:r_ M A t Q E s)(I:∀a s,Q a s->B a s):r_ M A t B E s:=GX h I λ_ _ x=>x
section
noncomputable def vi(i:Nat):TE:=λσ H Q=>∃v,σ[i]?=a_ (a_ v)/\Q v H
noncomputable def tC(v:V):TE:=λ_ H Q=>Q v H
def pe_int{i j pos}:PE X (.Constant (.int i) j pos) (tC (.int i)):=λ_ _ _ H _ I h=>wpAny_Constant_int ⟨.int i,H,I.tok _,⟨_,rfl⟩,h⟩
def pe_bl{b j pos}:PE X (.Constant (.bool b) j pos) (tC (.bl b)):=λ_ _ _ H _ I h=>Constant_bool ⟨.bl b,H,I,rfl,h⟩
def pe_non{j pos}:PE X (.Constant .none j pos) (tC .non):=λ_ _ _ H _ I h=>Constant_none ⟨.non,H,I,rfl,h⟩
def Gl(X:Cx)(x:Gf):Prop:=X.env.kindOf x=a_ .globalImplicit
def tZ{s:k_}{Q:Mq}(I:B5 X B2 σ H s)(J:Gl X x)(B:X.mg x=a_ u)(h:Q u s)(S:((x==("__debug__":Gf))=c_)⁻¹):r_ (y_ X.prog X.w) X.A (FV (.Name x pos) X.env) Q E s:=
 Nz I.ok.kind J (Calls.loadGlobal_global (by rw[I.ok.glob];exact I.mod.glob.keeps I.bk) B h) S
def kz{s:k_}{Q:Mq}(I:B5 X B2 σ H s)(U:Gl X x)(S:X.mg x=e_)(B:Ir x=a_ u)(h:Q u s)(J:(x≠"__name__")⁻¹)(Y:((x==("__debug__":Gf))=c_)⁻¹):r_ (y_ X.prog X.w) X.A (FV (.Name x pos) X.env) Q E s:=by obtain⟨b,h1,a⟩:=I.mod.blt;exact Nz I.ok.kind U (Calls.loadGlobal_builtin (by rw[I.ok.glob];exact I.mod.glob.keeps I.bk) S (by rw[I.ok.blt];exact h1.keeps I.bk) ((a x J).trans B) h) Y
def pe_glob(J:Gl X x)(B:X.mg x=a_ u)(r:B' v u)(S:((x==("__debug__":Gf))=c_)⁻¹):PE X (.Name x pos) (tC v):=
 λ_ _ _ H _ I h=>tZ I J B ⟨v,H,I,r,h⟩ S
def pe_bltn(U:Gl X x)(S:X.mg x=e_)(B:Ir x=a_ u)(r:B' v u)(J:(x≠"__name__")⁻¹)(Y:((x==("__debug__":Gf))=c_)⁻¹):PE X (.Name x pos) (tC v):=
 λ_ _ _ H _ I h=>kz I U S B ⟨v,H,I,r,h⟩ J Y
variable{a b:G4}
variable{tA tB':TT}{rest:List G4}
def tAnd(t u:TT):TT:=λσ H Q=>t σ H λc H1=>if c=d_ then u σ H1 Q else Q c_ H1
def tOr(t u:TT):TT:=λσ H Q=>t σ H λc H1=>if c=d_ then Q d_ H1 else u σ H1 Q
def tNot(t:TT):TT:=λσ H Q=>t σ H λc H1=>Q (!c) H1
def pw_and(Y:PT X a tA)(U:PW X (.BoolOp .And (b::rest) pos) tB'):PW X (.BoolOp .And (a::b::rest) pos) (tAnd tA tB'):=by
 intro J B2 s σ H Q I h;refine isTrue_and (D' (Y B2 s σ H _ I h) λc s1 S=>?_);obtain⟨H1,B,q1⟩:=S;cases c with
 |true=>exact U J B2 s1 σ H1 Q B q1|false=>exact⟨H1,B,q1⟩
def pw_or(Y:PT X a tA)(U:PW X (.BoolOp .Or (b::rest) pos) tB'):PW X (.BoolOp .Or (a::b::rest) pos) (tOr tA tB'):=by
 intro J B2 s σ H Q I h;refine isTrue_or (D' (Y B2 s σ H _ I h) λc s1 S=>?_);obtain⟨H1,B,q1⟩:=S;cases c with
 |true=>exact⟨H1,B,q1⟩|false=>exact U J B2 s1 σ H1 Q B q1
def pt_not(J:PT X a tA):PT X (.UnaryOp .Not a pos) (tNot tA):=by intro B2 s σ H Q I h;refine isTrue_not (D' (J B2 s σ H (λc H1=>Q (!c) H1) I h) λ_ _ B=>?_);obtain⟨H1,S,q1⟩:=B;exact⟨H1,S,q1⟩
noncomputable def tAndV(ta tb:TE):TE:=λσ H Q=>ta σ H λx H1=>∃c,x=.bl c/\if c=d_ then tb σ H1 Q else Q (.bl c_) H1
def pe_and(Y:PE X a ta)(U:PE X (.BoolOp .And (b::rest) pos) tb):PE X (.BoolOp .And (a::b::rest) pos) (tAndV ta tb):=by
 intro B2 s σ H Q I h;refine BoolOp_and (D' (Y B2 s σ H _ I h) λv s1 S=>?_);obtain⟨x,H1,B,J,q1⟩:=S;obtain⟨c,rfl,q1⟩:=q1;cases J;refine Hm ?_;cases c with
 |true=>exact U B2 s1 σ H1 Q B q1|false=>exact⟨.bl c_,H1,B,rfl,q1⟩
def tIf(t:TT)(ta tb:TE):TE:=λσ H Q=>t σ H λc H1=>if c=d_ then ta σ H1 Q else tb σ H1 Q
def pe_ifExp(S:PT X c tA)(Y:PE X a ta)(U:PE X b tb):PE X (.IfExp c a b pos) (tIf tA ta tb):=by
 intro B2 s σ H Q I h;refine wpAny_IfExp (D' (S B2 s σ H _ I h) λd s1 J=>?_);obtain⟨H1,B,q1⟩:=J;cases d with
 |true=>exact Y B2 s1 σ H1 Q B q1|false=>exact U B2 s1 σ H1 Q B q1
end
inductive KLs(K:Pn)(a:iF)(xs:List V):Prop
 |mk (o:Mx) (its:Array h_) (n:Nat) (k:K.lookup a=a_ o) (c:o.cls=.type "list") (d:o.dict=e_) (s:o.data=.seq its n) (z:its.size<=o_) (r:C' xs its.toList)
inductive KTp(K:Pn)(a:iF)(xs:List V):Prop
 |mk (o:Mx) (its:Array h_) (n:Nat) (k:K.lookup a=a_ o) (c:o.cls=.type "tuple") (s:o.data=.seq its n) (z:its.size<=o_) (r:C' xs its.toList)
def SqL(K:Pn)(H:Hp)(a:iF)(xs:a7):Prop:=Rd H a (.lst xs)\/KLs K a xs
def SqT(K:Pn)(H:Hp)(a:iF)(xs:a7):Prop:=Rd H a (.tup xs)\/KTp K a xs
noncomputable def absV:h_->Option V
 |.none=>a_ .non|.bool b=>a_ (.bl b)|.int i _=>a_ (.int i)|.ref a=>a_ (.ref a)|.type n=>a_ (.ty n)|_=>e_
def B'.abs{x:V}(r:B' x u):absV u=a_ x:=by
 cases x with
 |non=>cases r;rfl|bl _=>cases r;rfl|int _=>obtain⟨t,rfl⟩:=r;rfl
 |ref _=>cases r;rfl|ty _=>cases r;rfl
def B'.inj{x y:V}{u:h_}(r:B' x u)(q:B' y u):x=y:=Hh (r.abs.symm.trans q.abs)
theorem C'.inj:∀{xs ys:a7} {us:a8},C' xs us->C' ys us->xs=ys
 |_,_,_,.nil,.nil=>rfl|_,_,_,.cons r t,.cons r' t'=>by rw[r.inj r',C'.inj t t']
section
variable{s:k_}{ys:List V}
def SqL.of(h:H a=a_ (.lst xs)):SqL K H a xs:=.inl (.inl h)
def SqT.of(h:H a=a_ (.tup xs)):SqT K H a xs:=.inl (.inl h)
inductive AsQ(P:Array h_->Prop)(xs:List V):Prop
 |mk (its:List h_) (r:C' xs its) (p:P its.toArray) (z:xs.length<=o_)
theorem B5.list(I:B5 X B2 σ H s)(h:SqL X.K H a xs):AsQ (PlainL s.heap a) xs:=by
 rcases h with h|⟨o,its,n,B,S,J,U,hz,r⟩
 .obtain⟨z,its,n,r,e⟩:=h.ok I.hok;exact⟨its,r,⟨_,n,e,rfl,rfl,rfl⟩,z⟩
 .refine⟨its.toList,r,⟨o,n,I.kIn a o B,S,J,aW⟩,?_⟩
  have e:=r.length
  simp_all
theorem B5.tuple(I:B5 X B2 σ H s)(h:SqT X.K H a xs):AsQ (NY s.heap a) xs:=by
 rcases h with h|⟨o,its,n,B,J,S,hz,r⟩
 .obtain⟨z,its,r,p⟩:=h.ok I.hok;exact⟨its,r,p,z⟩
 .refine⟨its.toList,r,⟨o,I.kIn a o B,J,n,aW⟩,?_⟩
  have e:=r.length
  simp_all
def B5.Ad(I:B5 X B2 σ H s)(h:SqL X.K H a xs)(h':SqL X.K H a ys):xs=ys:=by
 obtain⟨its,r,⟨o,n,e,_,_,d⟩,_⟩:=I.list h;obtain⟨its',r',⟨o',J,B,_,_,d'⟩,_⟩:=I.list h';rw[e]at B;cases B;rw[d]at d';injection d' with d1 _
 have:its=its':=by simpa using Jk MQ d1
 subst this;exact r.inj r'
def B5.l8(I:B5 X B2 σ H s)(h:SqT X.K H a xs)(h':SqT X.K H a ys):xs=ys:=by
 obtain⟨its,r,⟨o,e,_,n,d⟩,_⟩:=I.tuple h;obtain⟨its',r',⟨o',B,_,J,d'⟩,_⟩:=I.tuple h';rw[e]at B;cases B;rw[d]at d';injection d' with d1 _
 have:its=its':=by simpa using Jk MQ d1
 subst this;exact r.inj r'
end
noncomputable abbrev Cx.wish(X:Cx)(E:Mq):Cx:={X with xe:=E}
abbrev Cx.nox(X:Cx):Cx:=X.wish λ_ _=>False
theorem Cx.Ok.wish{X:Cx}(ok:X.Ok)(E:Mq):(X.wish E).Ok:=
 ⟨ok.mod,ok.kind,ok.glob,ok.blt,ok.above,ok.inj,ok.has,ok.cab,ok.hd,ok.frames,ok.stk,ok.exf,ok.bs,ok.bsz,ok.noex,ok.exfs,ok.Co,ok.frf⟩
def Cx.Ok.mM(ok:(X.wish E).Ok):X.Ok:=
 ⟨ok.mod,ok.kind,ok.glob,ok.blt,ok.above,ok.inj,ok.has,ok.cab,ok.hd,ok.frames,ok.stk,ok.exf,ok.bs,ok.bsz,ok.noex,ok.exfs,ok.Co,ok.frf⟩
section
variable{s:k_}
theorem B5.wish(I:B5 X B2 σ H s)(E:Mq):B5 (X.wish E) B2 σ H s:=⟨I.ok.wish E,I.os,I.bare,I.base,I.loc,I.cell,I.free,I.freeC,I.pin,I.hok,I.len⟩
theorem B5.mM(I:B5 (X.wish E) B2 σ H s):B5 X B2 σ H s:=⟨I.ok.mM,I.os,I.bare,I.base,I.loc,I.cell,I.free,I.freeC,I.pin,I.hok,I.len⟩
theorem SP.mM{D:Ends}{f:Flow}{s':k_}(h:SP (X.wish E) B2 D f s'):SP X B2 D f s':=by
 cases f with
 |next=>obtain⟨B,H',I,q⟩:=h;exact⟨B,H',I.mM,q⟩
 |brk=>obtain⟨B,H',I,q⟩:=h;exact⟨B,H',I.mM,q⟩
 |cont=>obtain⟨B,H',I,q⟩:=h;exact⟨B,H',I.mM,q⟩
 |ret u=>obtain⟨v,B,H',I,r,q⟩:=h;exact⟨v,B,H',I.mM,r,q⟩
theorem PSs.nox{st:List G6}{t:TS}(h:PSs X.nox st t):PSs X st t:=λB2 s σ H D I hw=>GX (h B2 s σ H D (I.wish _) hw) (λ_ _ q=>q.mM) λ_ _ z=>Gh z
end
section
variable{st:G6}{rest:List G6}{t u:TS}
def tNext:TS:=λD σ H=>D.nx σ H
def nP(t u:TS):TS:=λD σ H=>t {D with nx:=u D} σ H
def ye:PSs X [] tNext:=λ_ _ σ H _ I h=>NZ ⟨σ,H,I,h⟩
def bB(h1:PS X st t)(J:PSs X rest u):PSs X (st::rest) (nP t u):=by
 intro B2 s σ H D I h;refine QY (D' (h1 B2 s σ H {D with nx:=u D} I h) λf s1 q=>?_);cases f with
 |next=>obtain⟨B,H',S,q⟩:=q;exact J B2 s1 B H' D S q
 |ret v=>exact q|brk=>exact q|cont=>exact q
def jy(h1:PS X st t):PSs X [st] t:=by
 intro B2 s σ H D I h;refine QY (D' (h1 B2 s σ H D I h) λf s1 q=>?_);cases f with
 |next=>exact NZ q|ret v=>exact q|brk=>exact q|cont=>exact q
def B5.quiet{s:k_}(I:B5 X B2 σ H s):interactive X.env=c_:=by simp[interactive,I.ok.kind]
def tDrop(te:TE):TS:=λD σ H=>te σ H λ_ H1=>D.nx σ H1
def kJ(S:PE X e te)(B: ~~~(HM e e_ pos.line X.env=GW c_)):PS X (.Expr e pos) (tDrop te):=by intro B2 s σ H D I h;refine wpAny_Expr_any (D' (S B2 s σ H _ I h) λv s1 J=>?_) I.quiet B;obtain⟨x,H1,U,Y,q1⟩:=J;exact⟨σ,H1,U,q1⟩
def tRet(te:TE):TS:=λD σ H=>te σ H D.rt
def zT(S:PE X e te):PS X (.Return (a_ e) pos) (tRet te):=by intro B2 s σ H D I h;refine wpAny_Return_some (D' (S B2 s σ H _ I h) λv s1 J=>?_);obtain⟨x,H1,U,B,q1⟩:=J;exact⟨x,σ,H1,U,B,q1⟩
def tIfS(c:TT)(t u:TS):TS:=λD σ H=>c σ H λb H1=>if b=d_ then t D σ H1 else u D σ H1
def ps_if{a b:List G6}{tc:TT}(S:PT X c tc)(Y:PSs X a t)(U:PSs X b u):PS X (.If c a b pos) (tIfS tc t u):=by
 intro B2 s σ H D I h;refine wpAny_If (D' (S B2 s σ H _ I h) λd s1 J=>?_);obtain⟨H1,B,q1⟩:=J;cases d with
 |true=>exact Y B2 s1 σ H1 D B q1|false=>exact U B2 s1 σ H1 D B q1
noncomputable def tNever:TS:=λ_ _ _=>False
def Dm{sts:List G6}:PSs X sts tNever:=λ_ _ _ _ _ _ h=>h.elim
end
abbrev TG:=V->St->Hp->(St->Hp->Prop)->Prop
abbrev TGs:=a7->St->Hp->(St->Hp->Prop)->Prop
def PG(X:Cx)(B:G4)(t:TG):Prop:=
 ∀(B2:Vp) (s:k_) (σ:St) (H:Hp) (v:V) (u:h_) (Q:St->Hp->Prop),B5 X B2 σ H s->B' v u->t v σ H Q ->
  r_ (y_ X.prog X.w) X.A (JY B X.env u) (λ_ s'=>NP X B2 Q s') X.xe s
def PGs(X:Cx)(ts:List G4)(t:TGs):Prop:=
 ∀(B2:Vp) (s:k_) (σ:St) (H:Hp) (vs:a7) (us:a8) (Q:St->Hp->Prop),B5 X B2 σ H s->C' vs us->t vs σ H Q ->
  r_ (y_ X.prog X.w) X.A (assignInOrder ((Il ts X.env).map (·.2)) us) (λ_ s'=>NP X B2 Q s') X.xe s
abbrev TSet:=V->V->V->Hp->(Hp->Prop)->Prop
def PSet(X:Cx)(t:TSet):Prop:=
 ∀(B2:Vp) (s:k_) (σ:St) (H:Hp) (o i v:V) (ov B u:h_) (Q:Hp->Prop),B5 X B2 σ H s->B' o ov->B' i B->B' v u->t o i v H Q ->
  r_ (y_ X.prog X.w) X.A (Pu ov B u) (λ_ s'=>TP X B2 σ (λ_=>Q) d_ s') X.xe s
noncomputable def jm(i:Nat):TG:=λv σ H Q=>Q (σ.set i (a_ v)) H
def yf(S:X.N.Nodup)(hi:X.N[i]?=a_ x)(B:Loc X.env.scope x)(J:autoParam (X.fn x=d_\/X.env.scope.names.lookup x=a_ .local) Jq4):PG X (.Name x pos) (jm i):=by intro B2 s σ H v u Q I r h;exact QM (zt I S hi B r (λs' U=>⟨_,H,U,h⟩) J)
noncomputable def gNil:TGs:=λvs σ H Q=>vs=[]/\Q σ H
def gCons(t:TG)(u:TGs):TGs:=λvs σ H Q=>∃v r,vs=v::r/\t v σ H λB H'=>u r B H' Q
def zU{t:TG}{u:TGs}(h1:PG X e t)(Y:PGs X es u)(S: ~~~((Il (e::es) X.env).map (·.2)=JY e X.env::(Il es X.env).map (·.2))):PGs X (e::es) (gCons t u):=by
 intro B2 s σ H vs us Q I r h;obtain⟨v,b,e1,h⟩:=h;subst e1;cases r with
 |cons r J=>rw[S];refine assignInOrder_cons (D' (h1 B2 s σ H _ _ _ I r h) λ_ s1 U=>?_);obtain⟨B,H1,a,q1⟩:=U;exact Y B2 s1 B H1 _ _ Q a J q1
def gTup(K:Pn)(n:Nat)(t:TGs):TG:=λv σ H Q=>∃a xs,v=.ref a/\SqT K H a xs/\xs.length=n/\t xs σ H Q
def gSub(to B:TE)(t:TSet):TG:=λv σ H Q=>to σ H λo H1=>B σ H1 λi H2=>t o i v H2 λI=>Q σ I
def Dt{o i:G4}{to S:TE}{t:TSet}(c:PE X o to)(hi:PE X i S)(b:PSet X t)(d:autoParam (∀v,JY (.Subscript o i pos) X.env v=(do
   let ov <- II [v] (FV o X.env)
   let B <- II [v,ov] (FV i X.env)
   Lv pos
   II [v,ov,B] (Pu ov B v)
   QP [v,ov,B] [])) Jq3):PG X (.Subscript o i pos) (gSub to S t):=by
 intro B2 s σ H v u Q I r h;rw[d];refine b_ (G8 (D' (c B2 s σ H _ I h) λov s1 J=>?_));obtain⟨x,H1,g,Y,q1⟩:=J;refine b_ (G8 (D' (hi B2 s1 σ H1 _ g q1) λB s2 J=>?_));obtain⟨y,H2,f,U,q2⟩:=J;refine b_ (OI (b_ (G8 (D' (b B2 s2 σ H2 x y v ov B u _ f Y U r q2) λ_ k J=>?_))));obtain⟨j,e,a⟩:=J;exact wpAny_release ⟨σ,j,e,a⟩
def r9(te:TE)(g:TG):TS:=λD σ H=>te σ H λx H1=>g x σ H1 D.nx
def vM{g:TG}(Y:PE X e te)(U:PG X tg g)(J: ~~~(LB [tg] e pos.line X.env=GW c_))(hw: ~~~(LC [tg] e X.env=GW e_))(h1: ~~~((Il [tg] X.env).map (·.2)=[JY tg X.env])):PS X (.Assign [tg] e pos) (r9 te g):=by intro B2 s σ H D I h;refine wpAny_Assign_stores (D' (Y B2 s σ H _ I h) λv s1 S=>?_) J hw;obtain⟨x,H1,a,B,q1⟩:=S;rw[h1];exact D' (U B2 s1 σ H1 x v _ a B q1) λ_ s2 q=>q
def mQ(b:X.N.Nodup)(hi:X.N[i]?=a_ x)(J:Loc X.env.scope x)(a:PE X e te)(S: ~~~(HM e (a_ (.Name x pos')) pos.line X.env=GW c_))(Y:autoParam (X.fn x=d_\/X.env.scope.names.lookup x=a_ .local) Jq4):
  PS X (.Assign [.Name x pos'] e pos) (r9 te (jm i)):=by
 intro B2 s σ H D I h;refine wpAny_Assign_Name (D' (a B2 s σ H _ I h) λv s1 U=>?_) S;obtain⟨y,H1,d,B,q1⟩:=U;exact zt d b hi J B (λs2 c=>⟨_,H1,c,q1⟩) Y
structure It where
 go:Nat->Hp->Prop
 yld:Nat->Hp->V->Hp->Prop
 stop:Nat->Hp->Prop
def Cj(X:Cx)(B2:Vp)(H:Hp)(b:iF):Prop:=
 H b=e_/\b≠X.env.locals/\b∉X.fs/\(b∈X.ex\/X.s₀.heap.objs.size<=b)/\(∀x c,X.env.cells.lookup x=a_ c->c≠b)/\∀p∈X.pn++B2,p.1≠b
theorem B5.fpOk{s:k_}(I:B5 X B2 σ H s)(B:s.heap.objs.size<=b)(S:H' b=e_):Cj X B2 H' b:=by
 refine⟨S,HG (A_ I.lt B),I.nofs B,.inr (C_ I.sz B),λx c e z=>?_,λp J z=>?_⟩
 .obtain⟨v,q⟩:=I.cell x c e;exact FR (A_ q.lt aW) (IQ _)
 .exact FR (A_ (s_ (I.pin p J).1) aW) (IQ _)
inductive TnP(X:Cx)(B2:Vp)(σ:St)(u:h_)(s:k_)(Y:V->Hp->Prop)(T:Prop)(fp:List iF):Prop
 |mk (x:V) (H':Hp) (I:B5 X B2 σ H' s) (r:B' x u) (y:Y x H') (t:T) (n:∀b∈fp,H' b=e_)
structure Turn(P:GD)(w:Hw)(K:Pn)(tg:G4)(J:It)(fp:List iF)(it:iF)(tn:Nat->Gu->Prop):Prop where
 mem:it∈fp
 obj:∀i h,tn i h->∀b∈fp,∃o,h.get? b=a_ o/\∀v,o.data≠.cell v
 keep:∀i h h',tn i h->(∀b∈fp,∀o,h.get? b=a_ o->h'.get? b=a_ o)->tn i h'
 item:∀(X:Cx),X.prog=P->X.w=w->X.K=K->X.calm=d_->∀(i:Nat) (B2:Vp) (s:k_) (σ:St) (H:Hp) (E:Mq),B5 X B2 σ H s->(∀b∈fp,Cj X B2 H b)->tn i s.heap->J.go i H ->
  r_ (y_ P w) X.A (JG (.ref it)) (λr s1=>∃u,r=a_ u /\
   r_ (y_ P w) X.A (Mg tg (.ref it) u) (λ_ s2=>TnP X B2 σ u s2 (J.yld i H) (tn (i+1) s2.heap) fp) E s1) E s
 done:∀(X:Cx),X.prog=P->X.w=w->X.K=K->X.calm=d_->∀(i:Nat) (B2:Vp) (s:k_) (σ:St) (H:Hp) (E:Mq),B5 X B2 σ H s->(∀b∈fp,Cj X B2 H b)->tn i s.heap->J.stop i H ->
  r_ (y_ P w) X.A (JG (.ref it)) (λr s1=>r=e_/\B5 X B2 σ H s1) E s
 self:∀(A:HL) (i:Nat) (s:k_) (Q:Mq) (E:Mq),tn i s.heap->Q (.ref it) s->r_ (y_ P w) A (Px (.ref it)) Q E s
abbrev TI:=St->Hp->(It->Hp->Prop)->Prop
inductive PIE(X:Cx)(B2:Vp)(σ:St)(tg:G4)(R:It->Hp->Prop)(itv:h_)(s2:k_):Prop
 |mk (it:iF) (fp:List iF) (tn:Nat->Gu->Prop) (J:It) (H':Hp) (e:itv=.ref it) (I:B5 X B2 σ H' s2) (t:Turn X.prog X.w X.K tg J fp it tn) (z:tn 0 s2.heap) (f:∀b∈fp,Cj X B2 H' b) (r:R J H')
def PI(X:Cx)(tg iter:G4)(wi:TI):Prop:=
 ∀(B2:Vp) (s:k_) (σ:St) (H:Hp) (R:It->Hp->Prop),B5 X B2 σ H s->wi σ H R ->
  r_ (y_ X.prog X.w) X.A (FV iter X.env) (λv s1=>r_ (y_ X.prog X.w) X.A (Px v) (PIE X B2 σ tg R) X.xe s1) X.xe s
def go_of{M : P8}{A : HL}{E : h_ -> k_ -> Prop}{s : k_}{tg : G4}{I : iF}{u : h_}{o : Mx}{n : String}{vs : Array h_}{Q : Unit -> k_ -> Prop}(J : s.heap.get? I = a_ o)(Y : o.cls = .type n)(U : o.data = .fields vs)(S : ["enumerate", "zip", "dict_itemiterator", "dict_reverseitemiterator", "odict_iterator", "itertools.zip_longest", "itertools.pairwise"].contains n = c_)(B : Q () s): r_ M A (Mg tg (.ref I) u) Q E s := by
  unfold Mg;cases tg <;> first
    | exact g_ B
    | (cases u <;> first
        | exact g_ B
        | (refine b_ (L9 J ?_)
           rw[Y,U];show r_ M A (if (["enumerate", "zip", "dict_itemiterator", "dict_reverseitemiterator", "odict_iterator", "itertools.zip_longest", "itertools.pairwise"].contains n && vs[0]?== a_ (IE _)) = d_ then _ else _) Q E s;rw[q_ (by intro h; rw[S,L7]at h; cases h)];exact g_ B))
def Itl(K:Pn)(a:iF):It:=
 ⟨λi H=>∃xs x,SqL K H a xs/\xs[i]?=a_ x,λi H x H'=>H'=H/\∀xs,SqL K H a xs->xs[i]?=a_ x,λi H=>∃xs,SqL K H a xs/\xs.length<=i⟩
def Itt(K:Pn)(a:iF):It:=
 ⟨λi H=>∃xs x,SqT K H a xs/\xs[i]?=a_ x,λi H x H'=>H'=H/\∀xs,SqT K H a xs->xs[i]?=a_ x,λi H=>∃xs,SqT K H a xs/\xs.length<=i⟩
noncomputable def Itr(lo:Int)(n:Nat):It:=⟨λi _=>i<n,λi H x H'=>H'=H/\x=.int (lo+i),λi _=>n<=i⟩
theorem oz(a B:iF):Turn P w K tg (Itl K a) [B] B (λi h=>h.IsListIter B a i) where
 mem:=by simp
 obj:=λi h st b J=>by
  have e:b=B:=by simpa using J
  subst e;obtain⟨o,e,c,d⟩:=st
  simp_all
 keep:=λi h h' st k=>st.at λo e=>k B am o e
 item:=by intro X l hw m n i B2 s σ H E I Y st j;subst l hw m;obtain⟨xs,x,U,g⟩:=j;obtain⟨its,f,p,hz⟩:=I.list U;obtain⟨u,v,q⟩:=f.get g;obtain⟨f0,f1,f2,f3,f4,f5⟩:=Y B am;refine Pr st p.isList (x:=u) aW λh' S sb=>?_;have t:B5 X B2 σ H {s with heap:=h'}:=I.turned (t':=s.toks) (λb o J e=>(sb.2 b J).trans e) f0 f1 f3 f4 f5;obtain⟨o,e,c,d⟩:=id S;exact⟨u,rfl,go_of (s:={s with heap:=h'}) e c d as ⟨x,H,t,q,⟨rfl,λys r=>by rw[I.Ad r U];exact g⟩,S,λb J=>(Y b J).1⟩⟩
 done:=by intro X l hw m n i B2 s σ H E I Y st j;subst l hw m;obtain⟨xs,U,g⟩:=j;obtain⟨its,f,p,hz⟩:=I.list U;obtain⟨f0,f1,f2,f3,f4,f5⟩:=Y B am;have y:=f.length;exact PQ (I.ok.hd n) st p.isList aW λh' eb=>⟨rfl,I.turned (t':=s.toks) (λb o J e=>eb b o J e) f0 f1 f3 f4 f5⟩
 self:=λ_ _ _ _ _ st h=>wpAny_pyIter_listiter st h
theorem qZ(a B:iF):Turn P w K tg (Itt K a) [B] B (λi h=>h.IsTupleIter B a i) where
 mem:=by simp
 obj:=λi h st b J=>by
  have e:b=B:=by simpa using J
  subst e;obtain⟨o,e,c,d⟩:=st
  simp_all
 keep:=λi h h' st k=>st.at λo e=>k B am o e
 item:=by intro X l hw m n i B2 s σ H E I Y st j;subst l hw m;obtain⟨xs,x,U,g⟩:=j;obtain⟨its,f,p,hz⟩:=I.tuple U;obtain⟨u,v,q⟩:=f.get g;obtain⟨f0,f1,f2,f3,f4,f5⟩:=Y B am;refine wpAny_pyNext_tuple_item st (show s.heap.IsTuple a its.toArray from p) (x:=u) aW λh' S sb=>?_;have t:B5 X B2 σ H {s with heap:=h'}:=I.turned (t':=s.toks) (λb o J e=>(sb.2 b J).trans e) f0 f1 f3 f4 f5;obtain⟨o,e,c,d⟩:=id S;exact⟨u,rfl,go_of (s:={s with heap:=h'}) e c d as ⟨x,H,t,q,⟨rfl,λys r=>by rw[I.l8 r U];exact g⟩,S,λb J=>(Y b J).1⟩⟩
 done:=by intro X l hw m n i B2 s σ H E I Y st j;subst l hw m;obtain⟨xs,U,g⟩:=j;obtain⟨its,f,p,hz⟩:=I.tuple U;obtain⟨f0,f1,f2,f3,f4,f5⟩:=Y B am;have y:=f.length;exact wpAny_pyNext_tuple_end (I.ok.hd n) st (show s.heap.IsTuple a its.toArray from p) aW λh' eb=>⟨rfl,I.turned (t':=s.toks) (λb o J e=>eb b o J e) f0 f1 f3 f4 f5⟩
 self:=λ_ _ _ _ _ st h=>wpAny_pyIter_tupleiter st h
theorem Bf(B:iF)(lo:Int)(n:Nat):Turn P w K tg (Itr lo n) [B] B (λi h=>IsRangeIter h B (lo+(i:Nat)*1) ((n:Int)-(i:Nat)) 1) where
 mem:=by simp
 obj:=λi h st b S=>by simp_all
 keep:=λi h h' st k=>k B am _ st
 item:=by
  intro X c hw d a i B2 s σ H E I U st Y;subst c hw d;obtain⟨f0,f1,f2,f3,f4,f5⟩:=U B am;have W:=Walks.range (prog:=X.prog) (w:=X.w) (I.ok.hd a) B lo 1 n;refine W.item i s _ _ Y st λv h' tk g J f=>?_;obtain⟨t,rfl⟩:=g;have j:B5 X B2 σ H {s with heap:=h',toks:=tk}:=I.turned (λb o S e=>f b o aW e) f0 f1 f3 f4 f5;refine⟨_,rfl,go_of (s:={s with heap:=h',toks:=tk}) (n:="range_iterator") J rfl rfl as ⟨.int (lo+i),H,j,⟨t,?_⟩,⟨rfl,rfl⟩,J,λb S=>(U b S).1⟩⟩
  simp
 done:=by intro X c hw d a i B2 s σ H E I U st Y;subst c hw d;obtain⟨f0,f1,f2,f3,f4,f5⟩:=U B am;exact wpAny_pyNext_range_end (I.ok.hd a) st (by have:n<=i:=Y;lia) λh' eb=>⟨rfl,I.turned (t':=s.toks) (λb o S e=>eb b o S e) f0 f1 f3 f4 f5⟩
 self:=λ_ _ _ _ _ st h=>wpAny_pyIter_rangeiter st h
theorem zQ{s:k_}{R:It->Hp->Prop}{lo hi:Int}{t u v:Tok}{tk:Nat}(I:B5 X B2 σ H s)(h1: -(2^62)<=lo)(Y:lo<2^62)(U: -(2^62)<=hi)(S:hi<2^62)(q:R (Itr lo (hi-lo).toNat) H):r_ (y_ X.prog X.w) X.A (Px (.ref s.heap.objs.size)) (PIE X B2 σ tg R) E {s with heap:=s.heap.push {cls:=.type "range",data:=.fields #[.int lo t,.int hi u,.int 1 v]},toks:=tk}:=by
 refine wpAny_pyIter_range (IsRange.new ..) (Q0 h1 Y U S) ?_;have B:B5 X B2 σ H {s with heap:=s.heap.push {cls:=.type "range",data:=.fields #[.int lo t,.int hi u,.int 1 v]},toks:=tk}:=I.kept λb o e=>f_ _ e;refine⟨(s.heap.push {cls:=.type "range",data:=.fields #[.int lo t,.int hi u,.int 1 v]}).objs.size,[(s.heap.push {cls:=.type "range",data:=.fields #[.int lo t,.int hi u,.int 1 v]}).objs.size],_,_,H,rfl,
  B.kept (t':=tk) λb o e=>f_ _ e,Bf _ lo (hi-lo).toNat,?_,λb J=>?_,q⟩
 .have e1:lo+((0:Nat):Int)*1=lo:=by simp
  have e2:(((hi-lo).toNat:Nat):Int)-((0:Nat):Int)=Jx lo hi 1:=by rw[OO];split<;>lia
  show IsRangeIter _ _ (lo+((0:Nat):Int)*1) ((((hi-lo).toNat:Nat):Int)-((0:Nat):Int)) 1;rw[e1,e2];exact j_ _ rfl
 .have e:b=(s.heap.push {cls:=.type "range",data:=.fields #[.int lo t,.int hi u,.int 1 v]}).objs.size:=by simpa using J
  subst e;exact B.fpOk (i_ _) (B.hok.fresh (i_ _))
def iRng1(ta:TA):TI:=λσ H R=>ta σ H λvs H1=>∃j:Int,vs=[.int j]/\ -(2^62)<=j/\j<2^62/\R (Itr 0 j.toNat) H1
def iRng2(ta:TA):TI:=λσ H R=>ta σ H λvs H1=>∃i j:Int,vs=[.int i,.int j]/\(-(2^62)<=i/\i<2^62/\ -(2^62)<=j/\j<2^62)/\R (Itr i (j-i).toNat) H1
theorem Ds{a:G4}{ta:TA}(b:Gl X "range")(Y:X.mg "range"=e_)(c:PA X [a] ta)(S: ~~~(l_ [a] X.env=[(c_,FV a X.env)])):PI X tg (.Call (.Name "range" p) [a] [] pos) (iRng1 ta):=by
 intro B2 s σ H R I h;refine Qd (kz I b Y Ou (GG (D' (c pos B2 s σ H _ I h) λus s1 U=>?_) S rfl));obtain⟨vs,H1,d,J,q1⟩:=U;obtain⟨j,e,q1,q2,q⟩:=q1;subst e;cases J with
 |cons r B=>cases B;obtain⟨t,rfl⟩:=r;exact call_range_1 (zQ d ad ad q1 q2 aW)
theorem Dr{a b:G4}{ta:TA}(f:Gl X "range")(d:X.mg "range"=e_)(g:PA X [a,b] ta)(l: ~~~(l_ [a,b] X.env=[(c_,FV a X.env),(c_,FV b X.env)]))(J: ~~~(l_ [b] X.env=[(c_,FV b X.env)])):
  PI X tg (.Call (.Name "range" p) [a,b] [] pos) (iRng2 ta):=by
 intro B2 s σ H R I h;refine Qd (kz I f d Ou (GG (D' (g pos B2 s σ H _ I h) λus s1 c=>?_) aW (by rw[J];rfl)));obtain⟨vs,H1,k,S,q1⟩:=c;obtain⟨i,j,e,⟨q1,q2,Y,U⟩,q⟩:=q1;subst e;cases S with
 |cons r B=>
  cases B with
  |cons r' B=>cases B;obtain⟨t,rfl⟩:=r;obtain⟨t',rfl⟩:=r';exact call_range_2 (zQ k q1 q2 Y U q)
def tFor(wi:TI)(g:TG)(tb:TS):TS:=λD σ H=>wi σ H λJ H1=>∃W:Nat->Nat->St->Hp->Prop,(∃m,W 0 m σ H1)/\∀i m σ H,W i m σ H ->
 (J.stop i H/\D.nx σ H)\/(J.go i H/\∃N:St->Hp->Prop,(∀B H',N B H'->∃S,S<m/\W (i+1) S B H')/\∀x H',J.yld i H x H'->g x σ H' λI H2=>tb {D with nx:=N,ct:=N,bk:=D.nx} I H2)
def vP(fp:List iF)(h:Gu):Vp:=fp.filterMap λb=>(h.get? b).map λo=>(b,o)
theorem jY{o:Mx}(B:b∈fp)(e:h.get? b=a_ o):(b,o)∈vP fp h:=Pk.mpr ⟨b,B,aW⟩
theorem DF{p:iF×Mx}(B:p∈vP fp h):p.1∈fp/\h.get? p.1=a_ p.2:=by
 obtain⟨b,I,e⟩:=Pk.mp B;cases q:h.get? b with
 |none=>simp_all|some o=>grind
theorem B5.pinned{s:k_}(I:B5 X B2 σ H s)(J:∀b∈fp,Cj X B2 H b)(U:∀b∈fp,∃o,s.heap.get? b=a_ o/\∀v,o.data≠.cell v):B5 X (B2++vP fp s.heap) σ H s:=
 I.tJ λp B=>(FW.mp B).elim (λz=>I.pin p (FP _ z)) λz=>by
  obtain⟨S,e⟩:=DF z;obtain⟨f0,f1,f2,_⟩:=J p.1 S
  grind
def B5.sU{pl:Vp}{s:k_}(I:B5 X (B2++pl) σ H s):B5 X B2 σ H s:=I.tJ λp B=>I.pin p (FP _ (Ha _ B))
def Dn{iter:G4}{wi:TI}{g:TG}{tb:TS}(S:PassesOwn (y_ X.prog X.w) X.A X.env X.xe)(Z:X.calm=d_)(hi:PI X tg iter wi)(hg:PG X tg g)(c:PSs X body tb)(hs:autoParam (∀x,Ii iter X.env x=GW x) Jq3):PS X (.For tg iter body [] pos) (tFor wi g tb):=by
 intro B2 s σ H D I h;refine wpAny_For (D' (hi B2 s σ H _ I h) λv s1 h1=>D' h1 λitv s2 h2=>?_) hs;obtain⟨it,fp,P,J,H2,e,I2,T,F,f2,W,⟨m0,w0⟩,t⟩:=h2;subst e;have a:∀{H':Hp},(∀b∈fp,H' b=e_)->∀b∈fp,Cj X B2 H' b:=λhn b c=>⟨hn b c,(f2 b c).2⟩
 refine codeAny_forLoop_any (λn s'=>∃i Y H',B5 X B2 Y H' s'/\P i s'.heap/\(∀b∈fp,H' b=e_)/\W i n Y H') ?_ m0 ⟨0,σ,H2,I2,F,λb c=>(f2 b c).1,w0⟩;rintro n R ⟨i,U,C,I3,y,A,w3⟩;rcases t i n U C w3 with⟨w,qn⟩|⟨go,N,hN,step⟩
 .refine KJ S (D' (T.done X rfl rfl rfl Z i B2 R U C X.xe I3 (a A) y w) λr s4 S=>?_);obtain⟨K,I4⟩:=S;subst K;exact NZ ⟨U,C,I4,qn⟩
 .refine KJ S (D' (T.item X rfl rfl rfl Z i B2 R U C X.xe I3 (a A) y go) λr s4 S=>?_);obtain⟨u,K,h4⟩:=S;subst K;refine KJ S (D' h4 λ_ Q S=>?_);obtain⟨x,H5,I5,r5,y5,q,L⟩:=S;have O:=I5.pinned (a L) (T.obj _ _ q);refine KJ S (D' (hg _ Q U H5 x u _ O r5 (step x H5 y5)) λ_ s6 S=>?_);obtain⟨E,H6,I6,q6⟩:=S;refine KJ S (D' (c _ s6 E H6 _ I6 q6) λf G p=>?_);have j:∀{B:St} {l:Hp},B5 X (B2++vP fp Q.heap) B l G->N B l->∃m,m<n/\∃i Y H',B5 X B2 Y H' G/\P i G.heap/\(∀b∈fp,H' b=e_)/\W i m Y H':=λ{B l} k z=>by
   obtain⟨m',hm,w7⟩:=hN B l z;refine⟨m',hm,i+1,B,l,k.sU,T.keep _ _ _ q λb c o e=>(k.pin (b,o) (FP _ (FP _ (jY c e)))).1,λb c=>?_,w7⟩
   obtain⟨o,e,d⟩:=T.obj _ _ q b c;exact(k.pin (b,o) (FP _ (FP _ (jY c e)))).2.1
  cases f with
  |next=>obtain⟨B,l,k,z⟩:=p;exact j k z
  |cont=>obtain⟨B,l,k,z⟩:=p;exact j k z
  |brk=>obtain⟨B,l,k,p⟩:=p;exact⟨B,l,k.sU,p⟩
  |ret v=>obtain⟨x7,B,l,k,r7,p⟩:=p;exact⟨x7,B,l,k.sU,r7,p⟩
abbrev R2:=V->V->Hp->VK->Prop
variable{r r':R2}
def OpR(X:Cx)(f:h_->h_->LI h_)(r:R2):Prop:=
 ∀(B2:Vp) (s:k_) (σ:St) (H:Hp) (x y:V) (v u:h_) (Q:VK),B5 X B2 σ H s->B' x v->B' y u->r x y H Q ->
  r_ (y_ X.prog X.w) X.A (f v u) (EP X B2 σ Q) X.xe s
def UnR(X:Cx)(f:h_->LI h_)(r:V->Hp->VK->Prop):Prop:=
 ∀(B2:Vp) (s:k_) (σ:St) (H:Hp) (x:V) (v:h_) (Q:VK),B5 X B2 σ H s->B' x v->r x H Q ->
  r_ (y_ X.prog X.w) X.A (f v) (EP X B2 σ Q) X.xe s
def eD(X:Cx)(f:h_)(r:a7->Hp->VK->Prop):Prop:=
 ∀(B2:Vp) (s:k_) (σ:St) (H:Hp) (xs:a7) (us:a8) (Q:VK),B5 X B2 σ H s->C' xs us->r xs H Q ->
  r_ (y_ X.prog X.w) X.A (Kz f us) (EP X B2 σ Q) X.xe s
def TruR(X:Cx)(r:V->Hp->(Bool->Hp->Prop)->Prop):Prop:=
 ∀(B2:Vp) (s:k_) (σ:St) (H:Hp) (x:V) (v:h_) (Q:Bool->Hp->Prop),B5 X B2 σ H s->B' x v->r x H Q ->
  r_ (y_ X.prog X.w) X.A (truthy v) (TP X B2 σ Q) X.xe s
noncomputable def tOp(r:R2)(ta tb:TE):TE:=λσ H Q=>ta σ H λx H1=>tb σ H1 λy H2=>r x y H2 Q
noncomputable def tUn(r:V->Hp->VK->Prop)(ta:TE):TE:=λσ H Q=>ta σ H λx H1=>r x H1 Q
noncomputable def rI(C:Int->Int->Prop)(g:Int->Int->V):R2:=λx y H Q=>∃i j,x=.int i/\y=.int j/\C i j/\Q (g i j) H
noncomputable def rI0(g:Int->Int->V):R2:=λx y H Q=>∃i j,x=.int i/\y=.int j/\Q (g i j) H
def rU(g:Int->V):V->Hp->VK->Prop:=λx H Q=>∃i,x=.int i/\Q (g i) H
section
variable{a b:G4}
def binT(e:PE X a ta)(d:PE X b tb){s:k_}{R:V->V->Hp->Prop}(I:B5 X B2 σ H s)(h:ta σ H λx H1=>tb σ H1 λy H2=>R x y H2){Q:Mq}{f:h_->h_->LI h_}(c:∀v u s2 x y H2,B5 X B2 σ H2 s2->B' x v->B' y u->R x y H2->r_ (y_ X.prog X.w) X.A (f v u) Q X.xe s2):
  r_ (y_ X.prog X.w) X.A (FV a X.env) (λv J=>r_ (y_ X.prog X.w) X.A (FV b X.env) (λu B=>r_ (y_ X.prog X.w) X.A (f v u) Q X.xe B) X.xe J) X.xe s:=by
 refine D' (e B2 s σ H _ I h) λv s1 S=>?_;obtain⟨x,H1,i,Y,q1⟩:=S;refine D' (d B2 s1 σ H1 _ i q1) λu s2 S=>?_;obtain⟨y,H2,g,U,q2⟩:=S;exact c v u s2 x y H2 g Y U q2
def pe_op{op:Operator}(S:OpR X (IF op) r)(Y:PE X a ta)(U:PE X b tb):PE X (.BinOp a op b pos) (tOp r ta tb):=by intro B2 s σ H Q I h;exact wpAny_BinOp (binT Y U I h λv u s2 x y H2 c J B q=>S B2 s2 σ H2 x y v u Q c J B q)
def pe_un{op:UnaryOp}{r:V->Hp->VK->Prop}(S:UnR X (QN op) r)(U:PE X a ta):PE X (.UnaryOp op a pos) (tUn r ta):=by intro B2 s σ H Q I h;refine UnaryOp_ (D' (U B2 s σ H _ I h) λv s1 J=>?_);obtain⟨x,H1,Y,B,q1⟩:=J;exact S B2 s1 σ H1 x v Q Y B q1
def opI{f:h_->h_->LI h_}{C:Int->Int->Prop}(B:∀(i j:Int) (t u:Tok) (s:k_) (Q:Mq) (E:Mq),C i j->Q (.int (g i j) s.toks) {s with toks:=s.toks+1}->r_ (y_ X.prog X.w) X.A (f (.int i t) (.int j u)) Q E s):
  OpR X f (rI C λi j=>.int (g i j)):=by
 intro B2 s σ H x y v u Q I S J h;obtain⟨i,j,rfl,rfl,U,q⟩:=h;obtain⟨t,rfl⟩:=S;obtain⟨t',rfl⟩:=J;exact B i j t t' s _ _ U ⟨.int (g i j),H,I.tok _,⟨_,rfl⟩,q⟩
def opI0{f:h_->h_->LI h_}(B:∀(i j:Int) (t u:Tok) (s:k_) (Q:Mq) (E:Mq),Q (.int (g i j) s.toks) {s with toks:=s.toks+1}->r_ (y_ X.prog X.w) X.A (f (.int i t) (.int j u)) Q E s):
  OpR X f (rI0 λi j=>.int (g i j)):=by
 intro B2 s σ H x y v u Q I S J h;obtain⟨i,j,rfl,rfl,q⟩:=h;obtain⟨t,rfl⟩:=S;obtain⟨t',rfl⟩:=J;exact B i j t t' s _ _ ⟨.int (g i j),H,I.tok _,⟨_,rfl⟩,q⟩
def opB0{f:h_->h_->LI h_}{g:Int->Int->Bool}(B:∀(i j:Int) (t u:Tok) (s:k_) (Q:Mq) (E:Mq),Q (.bool (g i j)) s->r_ (y_ X.prog X.w) X.A (f (.int i t) (.int j u)) Q E s):
  OpR X f (rI0 λi j=>.bl (g i j)):=by
 intro B2 s σ H x y v u Q I S J h;obtain⟨i,j,rfl,rfl,q⟩:=h;obtain⟨t,rfl⟩:=S;obtain⟨t',rfl⟩:=J;exact B i j t t' s _ _ ⟨.bl (g i j),H,I,rfl,q⟩
def CMul(i j:Int):Prop:=(-(2^64)<i/\i<2^64)\/(-(2^64)<j/\j<2^64)
def CMul.ok{i j:Int}(h:CMul i j):IntMulOk i j:=by
 rcases h with⟨h1,B⟩|⟨h1,B⟩
 .exact .of_left (intBits_le_64 h1 B)
 .exact .of_right (intBits_le_64 h1 B)
def op_add:OpR X (IF .Add) (rI0 λi j=>.int (i+j)):=opI0 λ_ _ _ _ _ _ _ q=>add_int q
def op_sub:OpR X (IF .Sub) (rI0 λi j=>.int (i-j)):=opI0 λ_ _ _ _ _ _ _ q=>sub_int q
def op_mul:OpR X (IF .Mult) (rI CMul λi j=>.int (i*j)):=opI λ_ _ _ _ _ _ _ B q=>mul_int q B.ok
theorem op_mod:OpR X (IF .Mod) (rI (λ_ j=>0<j) λi j=>.int (i%j)):=opI λi j _ _ _ _ _ B q=>by have h1:(0:Int)<j:=B;exact mod_int' ad (by rw[Int.fmod_eq_emod_of_nonneg i ad];exact q)
def unI{f:h_->LI h_}{g:Int->Int}(B:∀(i:Int) (t:Tok) (s:k_) (Q:Mq) (E:Mq),Q (.int (g i) s.toks) {s with toks:=s.toks+1}->r_ (y_ X.prog X.w) X.A (f (.int i t)) Q E s):
  UnR X f (rU λi=>.int (g i)):=by
 intro B2 s σ H x v Q I J h;obtain⟨i,rfl,q⟩:=h;obtain⟨t,rfl⟩:=J;exact B i t s _ _ ⟨.int (g i),H,I.tok _,⟨_,rfl⟩,q⟩
def un_neg:UnR X (QN .USub) (rU λi=>.int (-i)):=unI λ_ _ _ _ _ q=>neg_int q
end
noncomputable def scal:V->V->Bool
 |.non,.non=>d_|.non,.int _=>d_|.int _,.non=>d_|.non,.bl _=>d_|.bl _,.non=>d_|.int _,.int _=>d_|.bl _,.bl _=>d_|_,_=>c_
def rNe:R2:=λx y H Q=>scal x y=d_/\Q (.bl (!decide (x=y))) H
def dec_int{i j:Int}:xF (V.int i=V.int j)=(i==j):=by rw[Nq];simp
def dec_bl{i j:Bool}:xF (V.bl i=V.bl j)=(i==j):=by rw[Nq];simp
section
variable{a b:G4}{tc:TE}
def iA{s:k_}{Q:VK}{k k':Bool}(I:B5 X B2 σ H s)(q:Q (.bl k) H)(e:k=k'):EP X B2 σ Q (.bool k') s:=by subst e;exact⟨.bl k,H,I,rfl,q⟩
def op_ne:OpR X (Gy .NotEq) rNe:=by
 intro B2 s σ H x y v u Q I S B h;obtain⟨J,q⟩:=h;cases x with
 |non=>
  cases S;cases y with
  |non=>cases B;exact PySem.EqNone.ne_none_none (iA I q am)|bl j=>cases B;exact PySem.EqNone.ne_none_bool (iA I q am)|int j=>obtain⟨t',rfl⟩:=B;exact PySem.EqNone.ne_none_int (iA I q am)
  |_=>exact FR (show c_=d_ from J) Gj
 |bl i=>
  cases S;cases y with
  |non=>cases B;exact PySem.EqNone.ne_bool_none (iA I q am)|bl j=>cases B;exact ne_bool (iA I q (Jk not dec_bl))|_=>exact FR (show c_=d_ from J) Gj
 |int i=>
  obtain⟨t,rfl⟩:=S;cases y with
  |non=>cases B;exact PySem.EqNone.ne_int_none (iA I q am)|int j=>obtain⟨t',rfl⟩:=B;exact ne_int (iA I q (Jk not dec_int))
  |_=>exact FR (show c_=d_ from J) Gj
 |_=>cases y<;>exact FR (show c_=d_ from J) Gj
def op_lt:OpR X (Gy .Lt) (rI0 λi j=>.bl (xF (i<j))):=opB0 λ_ _ _ _ _ _ _ q=>Ph q
def op_le:OpR X (Gy .LtE) (rI0 λi j=>.bl (xF (i<=j))):=opB0 λ_ _ _ _ _ _ _ q=>le_int q
def op_gt:OpR X (Gy .Gt) (rI0 λi j=>.bl (xF (j<i))):=opB0 λ_ _ _ _ _ _ _ q=>gt_int q
def op_notN:OpR X (Gy .IsNot) (λx y H Q=>y=.non/\Q (.bl (!decide (x=.non))) H):=by
 intro B2 s σ H x y v u Q I B J h;obtain⟨rfl,q⟩:=h;cases J;refine isnot_none_gen (iA I q ?_);cases x<;>first
  |(cases B;rfl)
  |(obtain⟨t,rfl⟩:=B;rfl)
def OpR.or{f:h_->h_->LI h_}(h:OpR X f r)(h':OpR X f r'):OpR X f (λx y H Q=>r x y H Q\/r' x y H Q):=by
 intro B2 s σ H x y v u Q I J B q;rcases q with q|q
 .exact h B2 s σ H x y v u Q I J B q
 .exact h' B2 s σ H x y v u Q I J B q
theorem DM(b:G4)(h:(op≠.In)⁻¹)(B:(op≠.NotIn)⁻¹):Kv op b=c_:=by
 have e1:(op==CmpOp.In)=c_:=by cases op<;>first|rfl|simp_all
 have e2:(op==CmpOp.NotIn)=c_:=by cases op<;>first|rfl|simp_all
 cases b<;>simp[Kv,e1,e2]
def pe_cmpR(S:OpR X (Gy op) r)(c:PE X a ta)(Y:PE X b tb)(U:Kv op b=c_):PE X (.Compare a [op] [b] pos) (tOp r ta tb):=by intro B2 s σ H Q I h;exact wpAny_Compare1 (binT c Y I h λv u s2 x y H2 d J B q=>S B2 s2 σ H2 x y v u Q d J B q) U
def tTest(t:TE):TT:=λσ H Q=>t σ H λx H'=>∃k,x=.bl k/\Q k H'
def Dl(Y:OpR X (Gy op) r)(g:PE X a ta)(f:PE X b tb)(d:Kv op b=c_):PT X (.Compare a [op] [b] pos) (tTest (tOp r ta tb)):=by
 intro B2 s σ H Q I h;refine wpAny_isTrue_Compare1 (D' (g B2 s σ H _ I h) λv s1 ⟨x,H1,l,S,q1⟩=>D' (f B2 s1 σ H1 _ l q1) λu s2 ⟨y,H2,j,J,q2⟩=>D' (Y B2 s2 σ H2 x y v u _ j S J q2) λc n ⟨z,m,i,B,k,e,U⟩=>?_) d
 subst e;cases B;exact Hm ⟨m,i,U⟩
noncomputable def CS(r r':R2)(ta tb tc:TE):TE:=λσ H Q=>ta σ H λx H1=>tb σ H1 λy H2=>r x y H2 λz B=>∃k,z=.bl k /\
 (if k=d_ then tc σ B λI J=>r' y I J Q else Q (.bl c_) B)
def pe_chain(p:OpR X (Gy op) r)(B:OpR X (Gy op') r')(A:PE X a ta)(w:PE X b tb)(t:PE X c tc)(q:autoParam (O3 [op,op'] [b,c]=c_) Jq7):PE X (.Compare a [op,op'] [b,c] pos) (CS r r' ta tb tc):=by
 intro B2 s σ H Q I h;refine Compare_chain (D' (A B2 s σ H _ I h) λv s1 ⟨x,H1,E,n,q1⟩=>chain_link (D' (w B2 s1 σ H1 _ E q1) λu s2 ⟨y,H2,D,J,q2⟩=>D' (p B2 s2 σ H2 x y v u _ D n J q2) λd j ⟨z,Y,U,m,k,e,S⟩=>?_)) q
 subst e;cases m;refine Hm ?_;cases k with
 |false=>exact ite_ff ⟨.bl c_,Y,U,rfl,S⟩|true=>exact ite_tt (chain_last (D' (t B2 j σ Y _ U S) λg i ⟨f,F,C,l,o⟩=>B B2 i σ F y f u g Q C J l o))
def pt_chain(A:OpR X (Gy op) r)(J:OpR X (Gy op') r')(F:PE X a ta)(E:PE X b tb)(D:PE X c tc)(C:autoParam (O3 [op,op'] [b,c]=c_) Jq7):PT X (.Compare a [op,op'] [b,c] pos) (tTest (CS r r' ta tb tc)):=by
 intro B2 s σ H Q I h;refine isTrue_chain (D' (F B2 s σ H _ I h) λv s1 ⟨x,H1,O,p,q1⟩=>test_link (D' (E B2 s1 σ H1 _ O q1) λu s2 ⟨y,H2,N,S,q2⟩=>D' (A B2 s2 σ H2 x y v u _ N p S q2) λd l ⟨z,f,Y,o,k,e,U⟩=>?_)) C
 subst e;cases o;refine Hm ?_;cases k with
 |false=>obtain⟨k',G,w⟩:=U;cases G;exact ite_ff ⟨f,Y,w⟩
 |true=>refine ite_tt (test_last (D' (D B2 l σ f _ Y U) λi j B=>?_));obtain⟨g,R,L,n,t⟩:=B;refine D' (J B2 j σ R y g u i _ L S n t) λd' W B=>?_;obtain⟨T,P,K,m,k2,e2,q⟩:=B;subst e2;cases m;exact Hm ⟨P,K,q⟩
def TruV(K:Pn)(x:V)(H:Hp)(k:Bool):Prop:=
 match x with
 |.non=>k=c_|.bl b=>k=b|.int i=>k=(i != 0)|.ref p=>(∃xs,SqL K H p xs/\k= !xs.isEmpty)\/∃xs,SqT K H p xs/\k= !xs.isEmpty
 |_=>False
def rR{its:a8}(r:C' xs its):(!its.toArray.isEmpty)= !xs.isEmpty:=by cases r<;>simp
def wo:(o_:Nat)<2^63:=by simp[IS]
theorem tru_ok:TruR X (λx H Q=>∃k,TruV X.K x H k/\Q k H):=by
 intro B2 s σ H x v Q I S h;obtain⟨k,e,q⟩:=h;have a:=wo;have Y:o_=16777216:=IS;cases x with
 |non=>cases S;have B:k=c_:=e;subst B;exact truthy_none ⟨H,I,q⟩|bl b=>cases S;have B:k=b:=e;subst B;exact Hm ⟨H,I,q⟩|int i=>obtain⟨t,rfl⟩:=S;have B:k=(i != 0):=e;subst B;exact PySem.P.truthy_int ⟨H,I,q⟩
 |ref p=>
  cases S;have B:(∃xs,SqL X.K H p xs/\k= !xs.isEmpty)\/∃xs,SqT X.K H p xs/\k= !xs.isEmpty:=e;rcases B with⟨xs,U,B⟩|⟨xs,U,B⟩
  .subst B;obtain⟨its,r,pl,hz⟩:=I.list U;have J:=r.length;exact wpAny_truthy_list pl.isList aV ⟨H,I.tok _,by rw[rR r];exact q⟩
  .subst B;obtain⟨its,r,pl,hz⟩:=I.tuple U;have J:=r.length;exact truthy_tuple pl aV ⟨H,I.tok _,by rw[rR r];exact q⟩
 |_=>exact(show False from e).elim
def pt_truth(Y:PE X a ta)(U:∀B,Py a X.env B=(do let v <- B;Lv a.pos;II [v] (truthy v))):
  PT X a (λσ H Q=>ta σ H λx H'=>∃k,TruV X.K x H' k/\Q k H'):=by
 intro B2 s σ H Q I h;refine isTrue_plain (D' (Y B2 s σ H _ I h) λv s1 S=>?_) (U _);obtain⟨x,H1,b,J,q1⟩:=S;exact tru_ok B2 s1 σ H1 x v Q b J q1
def vals1{x:V}(r:C' [x] us):∃u,us=[u]/\B' x u:=by
 cases r with
 |cons I B=>cases B;exact⟨_,rfl,I⟩
def vals2{x:V}(r:C' [x,y] us):∃u B,us=[u,B]/\B' x u/\B' y B:=by
 cases r with
 |cons U S=>
  cases S with
  |cons J I=>cases I;exact⟨_,_,rfl,U,J⟩
def call_abs:eD X (.builtin "abs") (λxs H Q=>∃i,xs=[.int i]/\Q (.int (if i<0 then -i else i)) H):=by intro B2 s σ H xs us Q I r h;obtain⟨i,rfl,q⟩:=h;obtain⟨u,rfl,t,rfl⟩:=vals1 r;exact call_abs_int λu tk=>⟨.int (if i<0 then -i else i),H,I.tok _,⟨_,rfl⟩,q⟩
def Fg(J:X.calm=d_):eD X (.builtin "max") (λxs H Q=>∃i j,xs=[.int i,.int j]/\Q (.int (if j>i then j else i)) H):=by
 intro B2 s σ H xs us Q I r h;obtain⟨i,j,rfl,q⟩:=h;obtain⟨u,S,rfl,⟨t,rfl⟩,⟨t',rfl⟩⟩:=vals2 r;refine max_two_ints (I.ok.hd J) λh' tk k=>⟨_,H,I.kept k,?_,q⟩
 by_cases B:j>i
 .rw[p_ B,p_ B];exact⟨_,rfl⟩
 .rw[q_ B,q_ B];exact⟨_,rfl⟩
def Fe(J:X.calm=d_):eD X (.builtin "min") (λxs H Q=>∃i j,xs=[.int i,.int j]/\Q (.int (if j<i then j else i)) H):=by
 intro B2 s σ H xs us Q I r h;obtain⟨i,j,rfl,q⟩:=h;obtain⟨u,S,rfl,⟨t,rfl⟩,⟨t',rfl⟩⟩:=vals2 r;refine min_two_ints (I.ok.hd J) λh' tk k=>⟨_,H,I.kept k,?_,q⟩
 by_cases B:j<i
 .rw[p_ B,p_ B];exact⟨_,rfl⟩
 .rw[q_ B,q_ B];exact⟨_,rfl⟩
def Fh:eD X (.type "int") (λxs H Q=>(∃i,xs=[.int i]/\Q (.int i) H)\/∃k,xs=[.bl k]/\Q (.int (if k then 1 else 0)) H):=by
 intro B2 s σ H xs us Q I r h;rcases h with⟨i,rfl,q⟩|⟨k,rfl,q⟩
 .obtain⟨u,rfl,t,rfl⟩:=vals1 r;exact call_int_int ⟨.int i,H,I,⟨_,rfl⟩,q⟩
 .obtain⟨u,rfl,B⟩:=vals1 r;cases B;exact call_int_bool ⟨.int (if k then 1 else 0),H,I.tok _,⟨_,rfl⟩,q⟩
end
structure ObjM(h:Gu)(x dx C:iF)(mA:Ld):Prop where
 obj:h.get? x=a_ (Iw C dx)
 ns:h.Ns1 dx mA
 ne:dx≠x
theorem E2(n:h.Ns1 dx mA):∃od,h.get? dx=a_ od/\∀name,lookIn name od=a_ (mA name):=by
 obtain⟨o,es,ep,J,Y,U,_,S⟩:=n;refine⟨o,J,λname=>?_⟩
 have e:=S name;unfold nsFind findBy at e;rw[<- Array.find?_toList]at e;unfold lookIn;rw[Y];dsimp only;split
 .simp_all
 .rename_i q;rw[q]at e;have a:es.toList.any (·.refKey)=c_:=by
   rw[List.any_eq_false];intro y I;obtain⟨z,t,B⟩:=U y (Array.mem_toList_iff.mp I);simp[DictEntry.refKey,B]
  grind
theorem ObjM.look{x:iF}(I:ObjM h x dx C mA):∃od,PySem.W.InstAt h x (Iw C dx) C (a_ od)/\∀name,lookIn name od=a_ (mA name):=
 let ⟨od,B,J⟩:=E2 I.ns
 ⟨od,⟨I.obj,rfl,rfl,B⟩,J⟩
section
variable{prog:GD}{s:k_}{x f:iF}{v:h_}
theorem get_map{B:Bool}{Q:Mq}(X:K.In s.heap)(I:ObjM s.heap x dx C mA)(Y:Ol K C name=d_)(U:Pa K C=d_)(a:KN K (.ref C) name=a_ e_)(b:mA name=a_ v)(S:OR v=d_)(h:Q v {s with toks:=s.toks+1}):
  r_ (y_ prog w) A (getAttr (.ref x) name B) Q E s:=by
 obtain⟨od,J,c⟩:=I.look;exact PySem.W.get_value X J (LR Y).1 (PySem.W.findObj_own U a rfl aW) S h
theorem get_meth{Q:h_×a8->k_->Prop}(X:K.In s.heap)(I:ObjM s.heap x dx C mA)(B:Ol K C name=d_)(U:KN K (.ref C) name=a_ (a_ (.ref f)))(S:isFn K (.ref f)=d_)(Y:mA name=e_)(h:Q (.ref f,[.ref x]) s):
  r_ (y_ prog w) A (MS (.ref x) name pl) Q E s:=by
 obtain⟨od,J,a⟩:=I.look;exact PySem.W.method_fn X J (LR B).1 (LR B).2 U (beq_iff_eq.mp S) (by show(lookIn name od).map (·.isSome)=a_ c_;simp_all) h
theorem set_map{ns:List Gf}(X:K.In s.heap)(I:ObjM s.heap x dx C mA)(g:KN K (.ref C) "__setattr__"=a_ (a_ (.builtin "object.__setattr__")))(i:Q3 K C=d_)(f:takerIn K C name=a_ e_)(j:Pa K C=d_)(hw:N1 mA ns)(hsz:ns.length<=o_)(h:∀h',ObjM h' x dx C (λy=>if y=name then a_ v else mA y)->HD dx s.heap h'->Q () {s with heap:=h',toks:=s.toks+2}):
  r_ (y_ prog w) A (setAttr (.ref x) name v) Q E s:=by
 obtain⟨od,J,o⟩:=I.look;refine PySem.W.set_plain X J g (PySem.W.osa_open (s:={s with toks:=s.toks+1}) (r:=e_) X J i f λb=>?_);obtain⟨p,k,c⟩:=PySem.W.any_some j;have e:s.heap.get? x=a_ ⟨.ref C,a_ dx,.plain,#[]⟩:=I.obj;refine b_ (g_ (b_ (b_ (wpAny_loadPart e (b_ (OT (s:={s with toks:=s.toks+1}) (PySem.W.looks_clsIn X k) ?_))))));rw[c];refine g_ (a:=a_ dx) (b_ (g_ (b_ ?_)));refine wpAny_nsSet1 (s:={s with toks:=s.toks+1}) I.ns λh' S B=>?_;obtain⟨n,l,m,U,Y,d⟩:=S.count (PySem.Within.cons name v hw);refine b_ (wpAny_lookBehind U (by rw[Y];exact pastItsLine_dict (C_ d aW)) ?_);exact g_ (h _ ⟨(B.2 _ (HI I.ne)).trans I.obj,S,I.ne⟩ B)
def make_map{R:PD->k_->Prop}{vs:a8}(X:K.In s.heap)(I:QT K C=d_)(hi:KN K (.ref C) "__init__"=a_ (a_ (.ref f)))(J:PySem.W.typeIn K (.ref f)=a_ (.type "function"))(h:KY (y_ prog w) (A.under (.builtin "type.__call__" ⟨.ref C::vs,kw⟩)) (.call (.ref f) ⟨.ref (s.heap.objs.size+1)::vs,kw⟩) (PySem.W.InitBack (s.heap.objs.size+1) R)
   {s with heap:=(s.heap.push Hx).push (Iw C s.heap.objs.size)}):
  KY (y_ prog w) A (.call (.ref C) ⟨vs,kw⟩) R s:=by
 obtain⟨U,g,d,t,S⟩:=s;exact PySem.W.make_core (PySem.W.makes_of X I) (PySem.W.looks_findIn X hi) (λB=>PySem.W.bind_fn X B J) (.inl rfl) h
end
def uV(f:Gf)(v:V):List (Gf×V)->List (Gf×V)
 |[]=>[(f,v)]|(g,x)::r=>if g=f then(g,v)::r else(g,x)::uV f v r
theorem p7(f g:Gf)(v:V):∀fs:List (Gf×V),(uV f v fs).lookup g=if g=f then a_ v else fs.lookup g
 |[]=>by
  show GS g [(f,v)]=_
  grind
 |(k,x)::r=>by
  have B:=p7 f g v r;rw[show uV f v ((k,x)::r)=(if k=f then(k,v)::r else(k,x)::uV f v r)from rfl]
  grind
theorem pj(f:Gf)(v:V):∀fs:List (Gf×V),f∈(uV f v fs).map (·.1)/\∀g,g∈fs.map (·.1)->g∈(uV f v fs).map (·.1)
 |[]=>⟨by simp[uV],λg h=>by simp at h⟩|(k,x)::r=>by
  obtain⟨I,B⟩:=pj f v r;rw[show uV f v ((k,x)::r)=(if k=f then(k,v)::r else(k,x)::uV f v r)from rfl]
  grind
theorem ph(f:Gf)(v:V):∀fs:List (Gf×V),(uV f v fs).length<=fs.length+1
 |[]=>by simp[uV]|(k,x)::r=>by
  have B:=ph f v r;rw[show uV f v ((k,x)::r)=(if k=f then(k,v)::r else(k,x)::uV f v r)from rfl]
  grind
def B0.some_of{o:Option h_}(r:B0 (a_ v) o):∃u,o=a_ u/\B' v u:=by
 cases o with
 |none=>exact(show False from r).elim|some u=>exact⟨u,rfl,r⟩
def B0.none_of{o:Option h_}(r:B0 e_ o):o=e_:=by
 cases o with
 |none=>rfl|some u=>exact(show False from r).elim
def Ey(r:B' v u):OR u=d_:=by
 cases v with
 |non=>cases(show u=FY from r);rfl|bl b=>cases(show u=Mo b from r);rfl|int i=>obtain⟨t,e⟩:=(show ∃t,u=Lc i t from r);cases e;rfl
 |ref a=>cases(show u=w_ a from r);rfl|ty n=>cases(show u=Hz n from r);rfl
section
variable{fs:List (Gf×V)}
def yt(B:HOk H h)(e:H a=a_ (.ins C dx fs)):∃mA,ObjM h a dx C mA/\(∀f,B0 (fs.lookup f) (mA f))/\N1 mA (fs.map (·.1))/\fs.length<=1000/\H dx=a_ (.own a):=by
 obtain⟨d,z,J,I,mA,n,r,q⟩:=(show gW H h a (.ins C dx fs)from B a _ e)
 exact⟨mA,⟨I,n,J⟩,r,q,z,d⟩
end
structure Cls(K:Pn)(C:iF):Prop where
 pg:Ol K C Str.empty=d_
 hd:Pa K C=d_
 po:Q3 K C=d_
 sa:KN K (.ref C) "__setattr__"=a_ (a_ (.builtin "object.__setattr__"))
def Cls.get(c:Cls K C)(f:Gf):Ol K C f=d_:=c.pg
def jj(K:Pn)(C:iF)(f:Gf):Prop:=KN K (.ref C) f=a_ e_
def jj.taker{f:Gf}(n:jj K C f):takerIn K C f=a_ e_:=by unfold takerIn;rw[show KN K (.ref C) f=a_ e_ from n];rfl
structure Meth(K:Pn)(C:iF)(m:Gf)(f:iF):Prop where
 at_:KN K (.ref C) m=a_ (a_ (.ref f))
 fn:isFn K (.ref f)=d_
 kp:KL K (.ref f)=d_
section
variable{s:k_}{fs:List (Gf×V)}{f:Gf}
def BV{b:Bool}{Q:Mq}(I:B5 X B2 σ H s)(e:H a=a_ (.ins C dx fs))(c:Cls X.K C)(n:jj X.K C f)(l:fs.lookup f=a_ v)(h:∀u s',B5 X B2 σ H s'->B' v u->Q u s'):r_ (y_ X.prog X.w) A (getAttr (.ref a) f b) Q E s:=by obtain⟨mA,O,r,_,_,_⟩:=yt I.hok e;obtain⟨u,J,B⟩:=B0.some_of (v:=v) (o:=mA f) (by rw[<- l];exact r f);exact get_map I.kIn O (c.get f) c.hd n J (Ey B) (h u _ (I.tok _) B)
def rT{g:iF}{Q:h_×a8->k_->Prop}(I:B5 X B2 σ H s)(e:H a=a_ (.ins C dx fs))(c:Cls X.K C)(k:Meth X.K C m g)(l:fs.lookup m=e_)(h:Q (.ref g,[.ref a]) s):r_ (y_ X.prog X.w) A (MS (.ref a) m pl) Q E s:=by obtain⟨mA,O,r,_,_,_⟩:=yt I.hok e;have B:mA m=e_:=B0.none_of (by rw[<- l];exact r m);exact get_meth I.kIn O (c.get m) k.at_ k.fn B h
theorem Bk(I:B5 X B2 σ H s)(e:H a=a_ (.ins C dx fs))(c:Cls X.K C)(n:jj X.K C f)(i:fs.length<1000)(J:B' y u)(h:∀s',B5 X B2 σ (upd H a (.ins C dx (uV f y fs))) s'->Q () s'):r_ (y_ X.prog X.w) A (setAttr (.ref a) f u) Q E s:=by
 obtain⟨mA,O,r,wi,_,B⟩:=yt I.hok e;have hz:(fs.map (·.1)).length<=o_:=by rw[oe,IS];lia
 refine set_map I.kIn O c.sa c.po n.taker c.hd wi hz λh' O' sb=>h _ ?_;have U:∃o,h'.get? dx=a_ o:=let ⟨o,_,_,d,_⟩:=O'.ns;⟨o,d⟩;refine I.write (x:=a) (e:=dx) (by rw[e];exact J8) (.inr B) (λb q Y z=>(sb.2 b Y).trans z) U ?_;refine⟨by rw[ax O.ne];exact B,?_,O.ne,O'.obj,_,O'.ns,λg=>?_,λg S=>?_⟩
 .have:=ph f y fs;lia
 .show B0 ((uV f y fs).lookup g) (if g=f then a_ u else mA g);rw[p7];by_cases q:g=f
  .rw[p_ q,p_ q];exact J
  simp_all
 .by_cases q:g=f
  .rw[q];exact(pj f y fs).1
  .refine(pj f y fs).2 g (wi g λz=>S ?_)
   simp_all
def B5.made(I:B5 X B2 σ H s):B5 X B2 σ (upd (upd H s.heap.objs.size (.own (s.heap.objs.size+1))) (s.heap.objs.size+1) (.ins C s.heap.objs.size []))
  {s with heap:=(s.heap.push Hx).push (Iw C s.heap.objs.size)}:=by
 have e1:(s.heap.push Hx).get? s.z=a_ Hx:=j_ s.heap rfl;have e2:((s.heap.push Hx).push (Iw C s.z)).get? (s.z+1)=a_ (Iw C s.z):=by
  have:=j_ (s.heap.push Hx) (o:=Iw C s.z) rfl
  rwa [G9]at this
 have e3:(s.heap.push Hx).Ns s.z (λ_=>e_):=⟨Hx,#[],_,e1,rfl,(λe S=>FR S am),λ_=>rfl⟩
 have U:=I.laid (a:=s.z) (o:=.own (s.z+1)) (h':=s.heap.push Hx) (t':=s.toks) (λb u q=>f_ _ q) (i_ _) ⟨_,e1⟩;refine U.laid (a:=s.z+1) (o:=.ins C s.z []) (t':=s.toks) (λb u q=>f_ _ q) (J1 (G9 _ _)) ?_;have B:s.z≠s.z+1:=FO (Nj _);refine⟨by rw[ax B,av],Gr _,B,e2,λ_=>e_,(Heap.Ns1.of_empty e3).at λo q=>f_ _ q,λ_=>J8,λy J=>FR rfl J⟩
end
def tFld(K:Pn)(ta:TE)(f:Gf):TE:=λσ H Q=>ta σ H λx H1=>∃a C dx fs v,x=.ref a/\H1 a=a_ (.ins C dx fs)/\Cls K C/\jj K C f/\fs.lookup f=a_ v/\Q v H1
def sFld(K:Pn)(ta tv:TE)(f:Gf):TS:=λD σ H=>tv σ H λy H1=>ta σ H1 λx H2=>∃a C dx fs,x=.ref a/\H2 a=a_ (.ins C dx fs)/\Cls K C/\jj K C f/\fs.length<1000 /\
 D.nx σ (upd H2 a (.ins C dx (uV f y fs)))
section
variable{o value:G4}{f:Gf}{tv:TE}
def Dw(U:PE X e ta)(Y:HK e f X.env (FV e X.env)=FV e X.env):PE X (.Attribute e f pos) (tFld X.K ta f):=by intro B2 s σ H Q I h;refine Attribute_any_ (D' (U B2 s σ H _ I h) λu s1 S=>?_) (by rw[arm_eval_Attribute,Y]);obtain⟨x,H1,d,B,a,C,dx,fs,v,ex,ea,c,n,l,q⟩:=S;subst ex;obtain rfl:u=w_ a:=B;exact BV d ea c n l λg s2 b J=>⟨v,H1,b,J,q⟩
def ps_fld(b:PE X o ta)(U:PE X value tv)(Y:HM value (a_ (.Attribute o f pos')) pos.line X.env=GW c_):PS X (.Assign [.Attribute o f pos'] value pos) (sFld X.K ta tv f):=by intro B2 s σ H D I h;refine plainObj_wpAny_Assign_Attribute (D' (U B2 s σ H _ I h) λu s1 B=>?_) Y;obtain⟨y,H1,g,J,q⟩:=B;refine D' (b B2 s1 σ H1 _ g q) λov s2 B=>?_;obtain⟨x,H2,e,S,a,C,dx,fs,ex,ea,c,n,l,q2⟩:=B;subst ex;obtain rfl:ov=w_ a:=S;exact Bk e ea c n l J λi d=>⟨σ,_,d,q2⟩
end
structure ji(k:Nat)(A:HL):Prop where
 hd:A.handled=e_
 dp:A.depth+3*k+5<recursionLimit
 un:A.units+16*k+200<GQ
theorem ji.mono(r:ji k A)(h:j<=k):ji j A:=⟨r.hd,by have:=r.dp;lia,by have:=r.un;lia⟩
theorem ji.deeper{k:Nat}{A:HL}(r:ji (k+1) A)(env:OF):ji k (A.deeper env):=
 ⟨r.hd,by have:=r.dp;show A.depth+1+3*k+5<_;lia,by have:=r.un;show A.units+3+16*k+200<_;lia⟩
theorem BO:(A.under (.builtin "type.__call__" ⟨.ref C::us,kw⟩)).depth=A.depth+1:=by rfl
theorem BN:(A.under (.builtin "type.__call__" ⟨.ref C::us,kw⟩)).units=A.units+1:=by rfl
theorem ji.make(r:ji (k+1) A)(C:iF)(us:a8)(kw:List (Gf×h_)):ji k (A.under (.builtin "type.__call__" ⟨.ref C::us,kw⟩)):=
 ⟨r.hd,by have:=r.dp;grind[BO],by have:=r.un;grind[BN]⟩
theorem ji.depth{k:Nat}{A:HL}(r:ji k A):A.depth<recursionLimit:=by have:=r.dp;lia
theorem ji.units{k:Nat}{A:HL}(r:ji k A):A.units+64<GQ:=by have:=r.un;lia
noncomputable def tNil:TA:=λ_ H Q=>Q [] H
noncomputable def Bi(ta:TE)(B:TA):TA:=λσ H Q=>ta σ H λx H1=>B σ H1 λxs H2=>Q (x::xs) H2
section
variable{t:TA}
def eG:PA X [] tNil:=λ_ _ _ _ H Q I h=>Pg ⟨[],H,I,.nil,h⟩
def bT(a:PE X e te)(Y:PA X es t)(U: ~~~(l_ (e::es) X.env=(c_,FV e X.env)::l_ es X.env)):PA X (e::es) (Bi te t):=by intro pos B2 s σ H Q I h;rw[U];show r_ _ _ (spliced ((c_,FV e X.env)::Hi pos (l_ es X.env))) _ _ s;refine Mp (D' (a B2 s σ H _ I h) λu s1 B=>?_);obtain⟨x,H1,c,S,q1⟩:=B;refine D' (Y pos B2 s1 σ H1 _ c q1) λus s2 B=>?_;obtain⟨xs,H2,b,J,q2⟩:=B;exact⟨x::xs,H2,b,.cons S J,q2⟩
def tTup(t:TA):TE:=λσ H Q=>t σ H λxs H1=>xs.length<=o_/\∀p,H1 p=e_->Q (.ref p) (upd H1 p (.tup xs))
def tLst(t:TA):TE:=λσ H Q=>t σ H λxs H1=>xs.length<=o_/\∀p,H1 p=e_->Q (.ref p) (upd H1 p (.lst xs))
def pe_tup{J}(h:PA X es t):PE X (.Tuple es J pos) (tTup t):=by
 intro B2 s σ H Q I S;refine wpAny_Tuple_spliced (D' (h pos B2 s σ H _ I S) λus s1 U=>?_);obtain⟨xs,H1,B,r,z,q⟩:=U;refine⟨by rw[<- r.length];exact z,?_⟩
 have Y:H1 s1.z=e_:=B.hok.fresh (i_ _);refine⟨.ref s1.z,upd H1 s1.z (.tup xs),B.laid (t':=s1.toks) (λb u e=>f_ _ e) (i_ _) ?_,rfl,q _ Y⟩
 exact⟨z,us,r,⟨_,j_ _ rfl,rfl,_,rfl⟩⟩
def pe_lst(h:PA X es t):PE X (.List es pos) (tLst t):=by
 intro B2 s σ H Q I J;refine wpAny_List_spliced (D' (h pos B2 s σ H _ I J) λus s1 S=>?_);obtain⟨xs,H1,B,r,z,q⟩:=S;refine⟨by rw[<- r.length];exact z,?_⟩
 have U:H1 s1.z=e_:=B.hok.fresh (i_ _);refine⟨.ref s1.z,upd H1 s1.z (.lst xs),B.laid (t':=s1.toks) (λb u e=>f_ _ e) (i_ _) ?_,rfl,q _ U⟩
 exact⟨z,us,0,r,j_ _ rfl⟩
end
abbrev Sp:=a7->Hp->VK->XK->Prop
variable{sp:Sp}
abbrev CXT:=List OF->Hp->k_->XK->Mq
variable{CX:CXT}
structure Env0(P:GD)(w:Hw)(K:Pn)(mg:Ld)(base:Gu)(A:HL)(outer:List OF)(s:k_)(H:Hp):Prop where
 frames:A.frames=a_ outer
 mod:Mod K mg base
 bs:∀b o,base.get? b=a_ o->s.heap.get? b=a_ o/\H b=e_
 bsz:base.objs.size<=s.heap.objs.size
 Co:s.heap.FunFrames base outer
 frf:∀b∈frs outer,H b=e_
 hok:HOk H s.heap
 bare:Md s.gens
inductive CE(outer:List OF)(P:GD)(w:Hw)(H:Hp)(s:k_)(Q:VK)(u:h_)(s':k_):Prop
 |mk (v:V) (H':Hp) (o:s'.os=s.os) (b:Md s'.gens) (n:Un (frs outer) [] H H' s.heap s'.heap) (k:HOk H' s'.heap) (r:B' v u) (q:Q v H')
def CR(CX:CXT)(outer:List OF)(P:GD)(w:Hw)(H:Hp)(s:k_)(Q:VK)(E:XK)(r:PD)(s':k_):Prop:=
 match r with
 |.ok (.ret u)=>CE outer P w H s Q u s'|.ok _=>False|.error e=>CX outer H s E e s'
structure jk(P:GD)(w:Hw)(K:Pn)(mg:Ld)(base:Gu)(CX:CXT)(k:Nat)(f:iF)(fd:IG)(ps:List Gf)(sp:Sp):Prop where
 len:∀vs H Q E,sp vs H Q E->vs.length=ps.length
 run:∀(A:HL) (outer:List OF) (s:k_) (H:Hp) (args:Args) (us:a8) (vs:a7) (Q:VK) (E:XK),ji k A->Env0 P w K mg base A outer s H->MW s fd args (ps.zip us)->C' vs us->sp vs H Q E ->
  KY (y_ P w) A (.call (.ref f) args) (CR CX outer P w H s Q E) s
def Env0.make{base:Gu}{s:k_}(e:Env0 P w K mg base A outer s H)(C:iF)(us:a8)(kw:List (Gf×h_)):
  Env0 P w K mg base (A.under (.builtin "type.__call__" ⟨.ref C::us,kw⟩)) outer s H:=⟨by first|exact e.frames|(simpa[Around.under,Code.envs,Code.isFrame,pushEnvs] using e.frames),e.mod,e.bs,e.bsz,e.Co,e.frf,e.hok,e.bare⟩
section
variable{s:k_}
def B5.env0(I:B5 X B2 σ H s):Env0 X.prog X.w X.K X.mg X.base X.A X.stack s H:=
 ⟨I.ok.frames,I.ok.mod,I.bs,C_ I.ok.bsz I.sz,I.stack,I.CU,I.hok,I.bare⟩
def B5.after{Q:VK}(I:B5 X B2 σ H s)(h:CE X.stack X.prog X.w H s Q u s'):EP X B2 σ Q u s':=by obtain⟨v,H',Y,B,U,S,r,q⟩:=h;obtain⟨a,g,d,t,J⟩:=s';obtain rfl:J=s.os:=Y;exact⟨v,H',I.call (h':=a) (g':=g) (d':=d) (t':=t) (ch:=[]) U S B (λb z=>FR z am),r,q⟩
end
def tCall(sp:Sp)(dvs:a7)(E:XK)(t:TA):TE:=λσ H Q=>t σ H λvs H1=>sp (vs++dvs) H1 Q E
def tMeth(C:iF)(m:Gf)(sp:Sp)(dvs:a7)(E:XK)(ta:TE)(t:TA):TE:=λσ H Q=>ta σ H λx H1=>∃a dx fs,x=.ref a/\H1 a=a_ (.ins C dx fs)/\fs.lookup m=e_ /\
 t σ H1 λvs H2=>sp (x::(vs++dvs)) H2 Q E
def tMake(C:iF)(sp:Sp)(dvs:a7)(E:XK)(t:TA):TE:=λσ H Q=>t σ H λvs H1=>∀x dx,H1 x=e_->H1 dx=e_->dx≠x ->
 sp (.ref x::(vs++dvs)) (upd (upd H1 dx (.own x)) x (.ins C dx [])) (λv H2=>v=.non/\Q (.ref x) H2) E
def Binds(K:Pn)(fd:IG)(ps:List Gf)(ds:a8):Prop:=
 ∀(s:k_) (us:a8),K.In s.heap->(us++ds).length=ps.length->MW s fd ⟨us,[]⟩ (ps.zip (us++ds))
def Binds.all(h:∀us:a8,us.length=ps.length->Nv fd ⟨us,[]⟩=GW (ps.zip us)):Binds K fd ps []:=λs us _ B=>by rw[Hn]at B ⊢;exact .of_eq (h us B)
def Passes(CX:CXT)(X:Cx)(E:XK):Prop:=∀(B2:Vp) (σ:St) (H:Hp) (s:k_) (e:h_) (s':k_),B5 X B2 σ H s->CX X.stack H s E e s'->X.xe e s'
section
variable{f:iF}{dvs:List V}{ds:List h_}{E:XK}{apos:NV}{o:G4}{t:TA}
theorem zy{s:k_}{Q:VK}(F:jk X.prog X.w X.K X.mg X.base CX k f fd ps sp)(U:ji k X.A)(b:Binds X.K fd ps ds)(a:C' dvs ds)(S:Passes CX X E)(I:B5 X B2 σ H s)(r:C' vs us)(h:sp (vs++dvs) H Q E):r_ (y_ X.prog X.w) X.A (Kz (.ref f) us) (EP X B2 σ Q) X.xe s:=by
 have J:C' (vs++dvs) (us++ds):=r.append a;have Y:(us++ds).length=ps.length:=by rw[<- J.length];exact F.len _ _ _ _ h
 refine wpAny_call (JM (F.run X.A X.stack s H ⟨us,[]⟩ (us++ds) (vs++dvs) Q E U I.env0 (b s us I.kIn Y) J h) λr s' B=>?_);cases r with
 |error e=>exact S B2 σ H s e s' I B|ok fl=>
  cases fl with
  |ret u=>exact I.after B|next=>exact Gh B|brk=>exact Gh B|cont=>exact Gh B
def yg(F:jk X.prog X.w X.K X.mg X.base CX k f fd ps sp)(Y:ji k X.A)(d:Gl X x)(b:X.mg x=a_ (.ref f))(c:KL X.K (.ref f)=d_)(j:Binds X.K fd ps ds)(i:C' dvs ds)(U:Passes CX X E)(l:PA X (e::es) t)(J:((x==("__debug__":Gf))=c_)⁻¹)(g: ~~~(l_ (e::es) X.env=(c_,FV e X.env)::l_ es X.env))(B: ~~~((Hi pos (l_ es X.env)).any (·.1)=c_)):
  PE X (.Call (.Name x p) (e::es) [] pos) (tCall sp dvs E t):=by
 intro B2 s σ H Q I h;refine K_ (tZ I d b ?_ J);refine Oo (h₀:=X.base) I.ok.mod.kin c (D' (l pos B2 s σ H _ I h) λus s1 a=>?_) g B;obtain⟨vs,H1,S,r,q⟩:=a;refine⟨S.kIn,?_⟩
 exact zy F Y j i U S r q
def pe_meth(n:PE X o ta)(c:Cls X.K C)(U:Meth X.K C m f)(F:jk X.prog X.w X.K X.mg X.base CX k f fd ps sp)(j:ji k X.A)(v:Binds X.K fd ps ds)(p:C' dvs ds)(g:Passes CX X E)(w:PA X (e::es) t)(B: ~~~(l_ (e::es) X.env=(c_,FV e X.env)::l_ es X.env))(J: ~~~((Hi pos (l_ es X.env)).any (·.1)=c_))(i: ~~~(FV (.Call (.Attribute o m apos) (e::es) [] pos) X.env=(do
   let ov <- FV o X.env
   Lv apos.atName
   let (f,first) <- II [ov] (MS ov m pl)
   P6 pos f first (Hi pos (l_ (e::es) X.env)) (Lb pos (JI [] X.env))))):
  PE X (.Call (.Attribute o m apos) (e::es) [] pos) (tMeth C m sp dvs E ta t):=by
 intro B2 s σ H Q I h;refine Lr (pl:=pl) (D' (n B2 s σ H _ I h) λu s1 S=>?_) i;obtain⟨x,H1,b,d,a,dx,fs,ex,ea,l,q⟩:=S;subst ex;obtain rfl:u=w_ a:=d;refine rT b ea c U l ?_;refine Oo (first:=[.ref a]) (h₀:=X.base) I.ok.mod.kin U.kp (D' (w pos B2 s1 σ H1 _ b q) λus s2 S=>?_) B J;obtain⟨vs,H2,Y,r,q2⟩:=S;refine⟨Y.kIn,?_⟩
 exact zy (us:=.ref a::us) (vs:=.ref a::vs) F j v p g Y (.cons rfl r) q2
def pe_meth0(e:PE X o ta)(c:Cls X.K C)(J:Meth X.K C m f)(F:jk X.prog X.w X.K X.mg X.base CX k f fd ps sp)(b:ji k X.A)(i:Binds X.K fd ps ds)(g:C' dvs ds)(U:Passes CX X E)(Y: ~~~(FV (.Call (.Attribute o m apos) [] [] pos) X.env=(do
   let ov <- FV o X.env
   Lv apos.atName
   let (f,first) <- II [ov] (MS ov m pl)
   P6 pos f first (Hi pos (l_ [] X.env)) (Lb pos (JI [] X.env))))):
  PE X (.Call (.Attribute o m apos) [] [] pos) (tMeth C m sp dvs E ta tNil):=by
 intro B2 s σ H Q I h;refine Lr (pl:=pl) (D' (e B2 s σ H _ I h) λu s1 d=>?_) Y;obtain⟨x,H1,B,S,a,dx,fs,ex,ea,l,q⟩:=d;subst ex;obtain rfl:u=w_ a:=S;refine rT B ea c J l ?_;exact PySem.W.callWith_K0 (first:=[.ref a]) B.kIn J.kp (zy (us:=[.ref a]) (vs:=[.ref a]) F b i g U B (.cons rfl .nil) q)
structure Mk(K:Pn)(C f:iF):Prop where
 makes:QT K C=d_
 init:KN K (.ref C) "__init__"=a_ (a_ (.ref f))
 fn:isFn K (.ref f)=d_
 kp:KL K (.ref C)=d_
theorem run_make{s:k_}{Q:VK}(M:Mk X.K C f)(F:jk X.prog X.w X.K X.mg X.base CX k f fd ps sp)(c:ji (k+1) X.A)(i:Binds X.K fd ps ds)(g:C' dvs ds)(b:Passes CX X E)(I:B5 X B2 σ H s)(r:C' vs us)(h:∀x dx,H x=e_->H dx=e_->dx≠x->sp (.ref x::(vs++dvs)) (upd (upd H dx (.own x)) x (.ins C dx [])) (λv H2=>v=.non/\Q (.ref x) H2) E):
  r_ (y_ X.prog X.w) X.A (Kz (.ref C) us) (EP X B2 σ Q) X.xe s:=by
 have U:=h (s.z+1) s.z (I.hok.fresh (Me _)) (I.hok.fresh (i_ _)) (FO (Nj _));have J:=B5.made (C:=C) I;have S:C' (V.ref (s.z+1)::(vs++dvs)) (w_ (s.z+1)::(us++ds)):=.cons rfl (r.append g);have d:(w_ (s.z+1)::us++ds).length=ps.length:=by have e:=S.length;rw[F.len _ _ _ _ U]at e;exact e.symm
 refine wpAny_call (make_map (f:=f) I.kIn M.makes M.init (beq_iff_eq.mp M.fn) (JM (F.run _ X.stack _ _ ⟨w_ (s.z+1)::us,[]⟩ (w_ (s.z+1)::(us++ds)) _ _ E (c.make C us [])
  (J.env0.make C us []) (i _ (w_ (s.z+1)::us) J.kIn d) S U) λr s' B=>?_))
 cases r with
 |error e=>exact b B2 σ _ _ e s' J B|ok fl=>
  cases fl with
  |ret u=>obtain⟨v,H',j,Y,ev,a⟩:=J.after B;subst ev;exact⟨Y,⟨V.ref (s.z+1),H',j,rfl,a⟩⟩
  |next=>exact Gh B|brk=>exact Gh B|cont=>exact Gh B
def Dv(M:Mk X.K C f)(F:jk X.prog X.w X.K X.mg X.base CX k f fd ps sp)(Y:ji (k+1) X.A)(c:Gl X x)(b:X.mg x=a_ (.ref C))(i:Binds X.K fd ps ds)(g:C' dvs ds)(U:Passes CX X E)(j:PA X (e::es) t)(J:((x==("__debug__":Gf))=c_)⁻¹)(d: ~~~(l_ (e::es) X.env=(c_,FV e X.env)::l_ es X.env))(B: ~~~((Hi pos (l_ es X.env)).any (·.1)=c_)):
  PE X (.Call (.Name x p) (e::es) [] pos) (tMake C sp dvs E t):=by
 intro B2 s σ H Q I h;refine K_ (tZ I c b ?_ J);refine Oo (h₀:=X.base) I.ok.mod.kin M.kp (D' (j pos B2 s σ H _ I h) λus s1 a=>?_) d B;obtain⟨vs,H1,S,r,q⟩:=a;refine⟨S.kIn,?_⟩
 exact run_make M F Y i g U S r q
end
structure j6(N P:List Gf)(sc:Nw):Prop where
 kind:sc.kind=.function
 co:sc.isCoroutine=c_
 gen:sc.isGenerator=c_
 nd:N.Nodup
 pre:N.take P.length=P
 par:∀x∈P,sc.names.lookup x=a_ .local\/sc.names.lookup x=a_ .cell
 nofree:∀y∈sc.names,y.2≠.free
theorem xn{I:Gf->Option Jv}{x:Gf}:∀{B:List (Gf×h_)} {m:Ld},(∀v,(x,v)∉B)->O5 I B m x=m x
 |[],_,_=>rfl|(n,v)::r,m,h=>by
  unfold O5;rw[xn λw hw=>h w (Hr _ hw)];split
  .grind
  .rfl
theorem xp{I:Gf->Option Jv}{x:Gf}:∀{B:List (Gf×h_)} {m:Ld},(∀v,(x,v)∉B)->O6 I B m x=m x
 |[],_,_=>rfl|(n,v)::r,m,h=>by
  unfold O6;rw[xp λw hw=>h w (Hr _ hw)];split
  .rfl
  grind
theorem xo{B:Gf->Option Jv}{x:Gf}{v:h_}:∀{P:List Gf} {vs:a8} {i:Nat} {m:Ld},P.Nodup->P[i]?=a_ x->vs[i]?=a_ v->B x=a_ .local ->
  O5 B (P.zip vs) m x=a_ v
 |[],_,_,_,_,h,_,_=>by simp at h|_::_,[],_,_,_,_,h,_=>by simp at h|p::P,w::vs,0,m,J,h1,I,S=>by simp at h1 I;subst h1;subst I;show O5 B ((p,w)::P.zip vs) m p=_;unfold O5;rw[xn λv U=>(Jj.mp J).1 (Nm U).1,p_ S];simp|p::P,w::vs,i+1,m,J,h1,I,S=>by show O5 B ((p,w)::P.zip vs) m x=_;unfold O5;exact xo (i:=i) (Jj.mp J).2 (by simpa using h1) (by simpa using I) S
theorem xq{B:Gf->Option Jv}{x:Gf}{v:h_}:∀{P:List Gf} {vs:a8} {i:Nat} {m:Ld},P.Nodup->P[i]?=a_ x->vs[i]?=a_ v->B x≠a_ .local ->
  O6 B (P.zip vs) m x=a_ v
 |[],_,_,_,_,h,_,_=>by simp at h|_::_,[],_,_,_,_,h,_=>by simp at h|p::P,w::vs,0,m,J,h1,I,S=>by simp at h1 I;subst h1;subst I;show O6 B ((p,w)::P.zip vs) m p=_;unfold O6;rw[xp λv U=>(Jj.mp J).1 (Nm U).1,q_ S];simp|p::P,w::vs,i+1,m,J,h1,I,S=>by show O6 B ((p,w)::P.zip vs) m x=_;unfold O6;exact xq (i:=i) (Jj.mp J).2 (by simpa using h1) (by simpa using I) S
noncomputable def start(N:List Gf)(vs:a7):St:=vs.map a_++D_ (N.length-vs.length) e_
def cxOf(CX:CXT)(P:GD)(w:Hw)(K:Pn)(mg:Ld)(base:Gu)(N:List Gf)(qual:Gf)(scope:Nw)(f:iF)(I:h_)(A:HL)(outer:List OF)(s:k_)(H:Hp)(E:XK):Cx where
 prog:=P
 w:=w
 K:=K
 mg:=mg
 base:=base
 A:=A.deeper (LF qual scope s.heap.objs.size f I)
 N:=N
 s₀:=s
 H₀:=H
 env:=LF qual scope s.heap.objs.size f I
 outer:=outer
 stack:=LF qual scope s.heap.objs.size f I::outer
 ex:=[]
 calm:=d_
 fn:=λ_=>d_
 pn:=[]
 xe:=λe s'=>r_ (y_ P w) (A.deeper (LF qual scope s.heap.objs.size f I)) (leaving (LF qual scope s.heap.objs.size f I) e) (λ_ B=>CX outer H s E e B) (λJ B=>CX outer H s E J B) s'
def AL{sc:Nw}{n:Nat}(h:sc.names.lookup x=a_ .cell):∃c,(Hy n sc.names []).lookup x=a_ c:=by have q:=I9 sc.names n [] (.inl h);exact JD.mp q
theorem Eu{base:Gu}{f:iF}{g:h_}{s s1:k_}{E:XK}(S:j6 N ps scope)(t:A.handled=e_)(B:Env0 P w K mg base A outer s H)(D:vs.length=ps.length)(r:C' vs us)(x:InCallC s s.heap.objs.size (O5 (LF qual scope s.heap.objs.size f g).kindOf (ps.zip us) λ_=>e_) (Hy (s.heap.objs.size+1) scope.names []) (O6 (LF qual scope s.heap.objs.size f g).kindOf (ps.zip us) λ_=>e_) s1):
  B5 (cxOf CX P w K mg base N qual scope f g A outer s H E) [] (start N vs) H s1:=by
 have o:ps.length<=N.length:=by have:=Jk Kl S.pre;rw[GC]at this;lia
 obtain⟨h1,tk,rfl,l⟩:=x.done;have I:∀b:iF,b∉(cxOf CX P w K mg base N qual scope f g A outer s H E).ex:=λb z=>FR (show b∈([]:List iF)from z) am;refine⟨⟨B.mod,S.kind,rfl,rfl,i_ _,λy z c h1 d=>?_,λy J=>?_,λy c _ h=>?_,λ_=>t,Around.frames_deeper B.frames,.inr ⟨rfl,rfl⟩,λb z=>FR z (I b),B.bs,B.bsz,λb _ _=>I b,λb z=>FR z (I b),B.Co,B.frf⟩,
  rfl,B.bare,Un.kept l,⟨_,x.toInCall.ns,λi y v h1 d F=>?_⟩,λy c h=>⟨_,x.cell y c h⟩,B.hok.fresh (i_ _),λy c h=>?_,λp Y=>FR (show p∈([]:Vp)from Y) am,B.hok.kept l,?_⟩
 .exact name_of_addr x.apart (Hg h1) (Hg d)
 .have J:scope.names.lookup y=a_ .cell\/scope.names.lookup y=a_ .free:=J;rcases J with J|J
  .exact AL J
  .exact FR rfl (S.nofree _ (Hg J))
 .exact GN (x.above y c (Hg h))
 .have hi:i<vs.length:=by
   unfold start at d;by_cases hi:i<vs.length
   .exact hi
   .simp_all[Hb,N7]
  have C:vs[i]?=a_ v:=by
   unfold start at d;rw[Gw aW,FL]at d;cases e:vs[i]? with
   |none=>simp_all|some a=>simp_all
  obtain⟨u,j,m⟩:=r.get C;have Y:ps[i]?=a_ y:=by rw[<- S.pre,List.getElem?_take_of_lt ad];exact h1
  have U:ps.Nodup:=by rw[<- S.pre];exact S.nd.sublist (HW _ _)
  refine⟨u,m,?_⟩
  rcases S.par y (Gn Y)with k|k
  .exact .inl ⟨k,xo U Y j k⟩
  .obtain⟨c,e⟩:=AL (n:=s.z+1) k;refine .inr ⟨.inl k,c,e,?_⟩;have q:=x.cell y c e;rw[xq U Y j (by show scope.names.lookup y≠_;simp_all)]at q;exact q
 .exact B.hok.fresh (GN (x.above y c (Hg h)))
 .unfold start;show _=N.length
  simp_all
theorem fn_of{base:Gu}{f:iF}{B:Arguments}{z kV doc pm cdv ct oc:h_}{an od:Option iF}{osl:Array (Option h_)}(F:K.lookup f=a_ ⟨oc,od,.func (NO name qual B body scope z kV doc pm an cdv ct),osl⟩)(p:Om K cdv qual=d_)(S:j6 N ps scope)(d:∀vs H Q E,sp vs H Q E->vs.length=ps.length)(a:∀(A:HL) (outer:List OF) (s:k_) (H:Hp) (vs:a7) (Q:VK) (E:XK),ji k (A.deeper (LF qual scope s.heap.objs.size f cdv))->sp vs H Q E ->
   ∃t,PSs (cxOf CX P w K mg base N qual scope f cdv A outer s H E) body t/\t {nx:=λ_ H'=>Q .non H',rt:=Q} (start N vs) H):
  jk P w K mg base CX (k+1) f (NO name qual B body scope z kV doc pm an cdv ct) ps sp:=by
 refine⟨d,λA outer s H C us vs Q E m i W r g=>?_⟩
 have R:=d _ _ _ _ g;have D:K.In s.heap:=i.mod.kin.keeps λb o e=>(i.bs b o e).1;have l:s.heap.NoLimit:=i.mod.nolimit.keeps λb o e=>(i.bs b o e).1;have Y:∀y∈ps.zip us,scope.names.lookup y.1=a_ .local\/(scope.names.lookup y.1=a_ .cell/\((Hy (s.z+1) scope.names []).lookup y.1).isSome=d_):=λ⟨n,v⟩ G=>by
  rcases S.par n (Nm G).1 with q|q
  .exact .inl q
  .exact .inr ⟨q,I9 _ _ _ (.inl q)⟩
 refine codeAny_call_function m.depth (D _ _ F) rfl S.co S.gen rfl (PySem.W.codeRec_of D p) (W _ _ _ _ ?_);refine wpAny_newFunctionEnv_cells S.kind Y λenv T s1 x=>?_;subst T;refine⟨l.keeps x.toInCall.keep,codeAny_func ?_⟩
 obtain⟨t,L,O⟩:=a A outer s H vs Q E (m.deeper _) g;have I:B5 (cxOf CX P w K mg base N qual scope f cdv A outer s H E) [] (start N vs) H s1:=Eu S m.hd i R r x;refine GX (L [] s1 (start N vs) H _ I O) (λfl s' c=>?_) λe s' c=>c;have h:∀{U:St} {H':Hp} {v:V} {u:h_},B5 (cxOf CX P w K mg base N qual scope f cdv A outer s H E) [] U H' s'->B' v u->Q v H'->CE outer P w H s Q u s':=
  λ{U H' v u} J j q=>⟨v,H',J.os,J.bare,J.base,J.hok,j,q⟩
 cases fl with
 |ret u=>obtain⟨v,U,H',J,j,q⟩:=c;exact h J j q
 |next=>obtain⟨U,H',J,q⟩:=c;exact h (v:=V.non) (u:=FY) J rfl q
 |brk=>
  obtain⟨_,_,_,q⟩:=c
  simp_all
 |cont=>
  obtain⟨_,_,_,q⟩:=c
  simp_all
section
variable{t:TA}{id T:String}{r:List V->Hp->VK->Prop}
def tCB(r:a7->Hp->VK->Prop)(t:TA):TE:=λσ H Q=>t σ H λvs H1=>r vs H1 Q
def lE(f:eD X (.builtin id) r)(c:Gl X x)(b:X.mg x=e_)(U:Ir x=a_ (.builtin id))(g:PA X (e::es) t)(a:(x≠"__name__")⁻¹)(J:((x==("__debug__":Gf))=c_)⁻¹)(d: ~~~(l_ (e::es) X.env=(c_,FV e X.env)::l_ es X.env))(B: ~~~((Hi pos (l_ es X.env)).any (·.1)=c_)):PE X (.Call (.Name x p) (e::es) [] pos) (tCB r t):=by intro B2 s σ H Q I h;refine K_ (kz I c b U ?_ a J);refine PyProof.Rows.callWith_builtin1 (D' (g pos B2 s σ H _ I h) λus s1 Y=>?_) d B;obtain⟨vs,H1,i,S,q1⟩:=Y;exact f B2 s1 σ H1 vs us Q i S q1
def lC(f:eD X (.type T) r)(c:Gl X x)(b:X.mg x=e_)(U:Ir x=a_ (.type T))(g:PA X (e::es) t)(a:(x≠"__name__")⁻¹)(J:((x==("__debug__":Gf))=c_)⁻¹)(d: ~~~(l_ (e::es) X.env=(c_,FV e X.env)::l_ es X.env))(B: ~~~((Hi pos (l_ es X.env)).any (·.1)=c_)):PE X (.Call (.Name x p) (e::es) [] pos) (tCB r t):=by intro B2 s σ H Q I h;refine K_ (kz I c b U ?_ a J);refine GG (D' (g pos B2 s σ H _ I h) λus s1 Y=>?_) d B;obtain⟨vs,H1,i,S,q1⟩:=Y;exact f B2 s1 σ H1 vs us Q i S q1
end
end Lake
namespace Lake.HT
open PySem PyProof.Rows
section
open PySem.SeqAt
open PySem.AutoSeq1 (wpAny_loadPart')
open PySem.MeetsSeq PySem.MeetsSeq2 PySem.MeetsSeq3
end
section
variable{prog:GD}{w:Hw}{A:HL}{E:Mq}{s:k_}
theorem cat_tup{t b:iF}{vs ws:a8}{Q:Mq}(h:NY s.heap t vs.toArray)(i:NY s.heap b ws.toArray)(k:vs≠[])(h1:ws=[]->Q (.ref t) s)(j:ws≠[]->Q (.ref s.heap.objs.size) {s with heap:=s.heap.push {cls:=.type "tuple",data:=.seq (vs++ws).toArray}})(hsz:vs.length+ws.length<=o_):r_ (y_ prog w) A (IF .Add (.ref t) (.ref b)) Q E s:=by
 obtain⟨⟨cls,f,data,sl⟩,Y,d,n,c⟩:=id h;obtain⟨⟨g,U,a,I⟩,B,S,n2,J⟩:=id i;simp only at d c S J;subst d c S J;have e:vs.toArray++ws.toArray=(vs++ws).toArray:=by simp
 by_cases hw:ws=[]
 .exact Nt ⟨_,Y,rfl⟩ ⟨_,B,rfl⟩ NM ON Le KZ (KP _ _)
   (tuple_addW1 t b vs.toArray ws.toArray n n2 f U sl I aW (by simp[hw])) ⟨Y,B,h1 hw⟩
 .refine Nt ⟨_,Y,rfl⟩ ⟨_,B,rfl⟩ NM ON Le KZ (KP _ _)
   (tuple_addW2 t b vs.toArray ws.toArray n n2 f U sl I aW aW aW) ⟨Y,B,?_⟩
  rw[e];exact j hw
noncomputable def sIx(n d:Nat):Option Int->Nat
 |none=>d|some v=>if v<0 then(v+(n:Int)).toNat else N6 v.toNat n
theorem sIx_le(n d:Nat)(B:d<=n)(o:Option Int):sIx n d o<=n:=by
 cases o with
 |none=>exact B|some v=>
  show(if v<0 then(v+(n:Int)).toNat else N6 v.toNat n)<=n
  lia
theorem EZ(v:Int)(n d:Nat):(if v<0 then QW (v+(n:Int)) 0 else N6 v (n:Int))=((sIx n d (a_ v):Nat):Int):=by
 show(if v<0 then QW (v+(n:Int)) 0 else N6 v (n:Int))=(((if v<0 then(v+(n:Int)).toNat else N6 v.toNat n):Nat):Int)
 grind
theorem Cg(lo hi:Option Int)(n:Nat):Kf lo hi 1 (n:Int)=(((sIx n 0 lo:Nat):Int),((sIx n n hi:Nat):Int)):=by
 have h1:¬((1:Int)<0):=ad
 unfold Kf;simp only[h1,HF];refine NH ?_ ?_
 .cases lo with
  |none=>rfl|some v=>exact EZ v n 0
 .cases hi with
  |none=>rfl|some v=>exact EZ v n n
theorem BF(i j:Nat):Ji (i:Int) (j:Int) 1=j-i:=by
 unfold Ji
 lia
def rl{v:h_}{o:Option Int}{Q:Option Int->k_->Prop}(p:NQ v o)(h:Q o s):r_ (y_ prog w) A (Q4 v) Q E s:=by
 cases p with
 |none=>exact slicePart_none h|int i t=>exact slicePart_int h
def nj{sl:iF}{S J:h_}{lo hi:Option Int}{n:Nat}{Q:Int×Int×Nat->k_->Prop}(Y:s.heap.IsSliceOf sl S J .none)(pl:NQ S lo)(U:NQ J hi)(h:Q (((sIx n 0 lo:Nat):Int),1,sIx n n hi-sIx n 0 lo) s):r_ (y_ prog w) A (Ms (.ref sl) (GW (n:Int))) Q E s:=by obtain⟨b,B,a,I⟩:=id Y;unfold Ms Q5;refine b_ (b_ (He B I (x:=S) rfl (b_ (He B I (x:=J) rfl (b_ (He B I (x:=.none) rfl (g_ ?_)))))));refine b_ (slicePart_none ?_);show r_ _ _ (if ((1:Int)==0)=d_ then _ else _) _ _ s;rw[q_ as];refine b_ (rl pl (b_ (rl U (b_ (g_ ?_)))));show r_ _ _ (match Kf lo hi 1 (n:Int)with|(lo,hi)=>GW (lo,(1:Int),Ji lo hi 1)) _ _ s;rw[Cg lo hi n];show r_ _ _ (GW (((sIx n 0 lo:Nat):Int),(1:Int),Ji ((sIx n 0 lo:Nat):Int) ((sIx n n hi:Nat):Int) 1)) _ _ s;rw[BF];exact g_ h
theorem pick_gen(xs:Array h_)(i k:Nat):((x_ k).filterMap λ(m:Nat)=>xs[((i:Int)+(m:Int)*1).toNat]?).toArray=((xs.toList.drop i).take k).toArray:=by
 have e:(λ(m:Nat)=>xs[((i:Int)+(m:Int)*1).toNat]?)=λm=>xs[i+m]?:=by
  funext m
  have:((i:Int)+(m:Int)*1).toNat=i+m:=ad
  rw[this]
 rw[e];have:=pick_run xs i k;rw[List.filterMap_map]at this;have e2:((λx=>xs[x]?)∘λx=>i+x)=λm=>xs[i+m]?:=rfl
 simp_all
theorem mz{t sl:iF}{items:Array h_}{a Y:h_}{lo hi:Option Int}{Q:Mq}(B:NY s.heap t items)(b:s.heap.IsSliceOf sl a Y .none)(pl:NQ a lo)(c:NQ Y hi)(hw:¬(sIx items.size 0 lo=0/\sIx items.size items.size hi=items.size))(h:Q (.ref s.heap.objs.size) {s with heap:=s.heap.push {cls:=.type "tuple",data:=.seq ((items.toList.drop (sIx items.size 0 lo)).take (sIx items.size items.size hi-sIx items.size 0 lo)).toArray}})(hsz:items.size<=o_):r_ (y_ prog w) A (Pz (.ref t) (.ref sl)) Q E s:=by
 have htake:sizeOk (.seq ((items.toList.drop (sIx items.size 0 lo)).take (sIx items.size items.size hi-sIx items.size 0 lo)).toArray):=by show((items.toList.drop (sIx items.size 0 lo)).take (sIx items.size items.size hi-sIx items.size 0 lo)).toArray.size<=o_;rw[GJ,GC,Hu,Gb];lia
 have f:sIx items.size items.size hi<=items.size:=sIx_le _ _ (i_ _) hi;obtain⟨d,I,S,e⟩:=id b;have U:s.TypeIs (.ref sl) "slice":=⟨d,I,S⟩
 unfold Pz
 try with_reducible refine G8 ?_
 first|refine b_ (g_ ?_)|skip
 refine b_ (wpAny_sequenceKey B.typeIs as ?_);refine b_ (Gx (name:=Im "__getitem__") B.typeIs Jb
  (FT Jb B.typeIs entry_tuple_getitem ?_ (args_tuple_getitem _ _)))
 show r_ _ _ (Mr (.ref t) >>= _) _ _ s;refine b_ (tupleItemsOf_ B ?_);refine b_ (L8 U ?_);rw[p_ as];refine b_ (nj b pl c ?_);have J:¬((((sIx items.size 0 lo:Nat):Int)==0&&(1:Int)==1&&(sIx items.size items.size hi-sIx items.size 0 lo)==items.size)=d_):=by intro q;rw[m_,m_]at q;have q1:((sIx items.size 0 lo:Nat):Int)=0:=HC q.1.1;have q2:sIx items.size items.size hi-sIx items.size 0 lo=items.size:=HC q.2;exact hw ⟨ad,ad⟩
 show r_ _ _ (if (((sIx items.size 0 lo:Nat):Int)==0&&(1:Int)==1&&(sIx items.size items.size hi-sIx items.size 0 lo)==items.size)=d_ then _ else _) _ _ s;rw[q_ J,pick_gen]
 first
  |exact b_ (m:=Kn _) (Ge (g_ ⟨_,rfl,g_ h⟩) htake)
  |exact wpAny_bind (m:=Builtin.Tuple.tupleExact _) (wpAny_newObj_type (wpAny_bind (wpAny_pure (wpAny_pure ⟨_,rfl,wpAny_pure h⟩))) htake)
  |exact wpAny_bind (wpAny_bind (m:=Builtin.Tuple.tupleExact _) (wpAny_newObj_type (wpAny_pure (wpAny_pure ⟨_,rfl,wpAny_pure h⟩)) htake))
  |exact wpAny_bind (wpAny_bind (m:=Builtin.Tuple.tupleExact _) (wpAny_newObj_type (wpAny_pure ⟨_,rfl,wpAny_pure h⟩) htake))
end
end Lake.HT
namespace Lake
open PySem PySem.Spec PyProof.Rows
variable{X:Cx}{e:G4}{pos:NV}{r:V->Option Int->Option Int->Hp->VK->Prop}{xs ys:List V}{us its its':List h_}{α:Type}{n:Nat}{i:Int}{B2:Vp}{σ:St}{H:Hp}{T:String}{x:V}
abbrev TO:=St->Hp->(Option Int->Hp->Prop)->Prop
inductive OP(X:Cx)(B2:Vp)(σ:St)(Q:Option Int->Hp->Prop)(u:h_)(s':k_):Prop
 |mk (o:Option Int) (H':Hp) (I:B5 X B2 σ H' s') (r:NQ u o) (q:Q o H')
def PO(X:Cx)(e:Option G4)(t:TO):Prop:=
 ∀(B2:Vp) (s:k_) (σ:St) (H:Hp) (Q:Option Int->Hp->Prop),B5 X B2 σ H s->t σ H Q ->
  r_ (y_ X.prog X.w) X.A (evalPart e X.env) (λu s'=>OP X B2 σ Q u s') X.xe s
noncomputable def tNoPart:TO:=λ_ H Q=>Q e_ H
def tPart(t:TE):TO:=λσ H Q=>t σ H λx H1=>∃i,x=.int i/\Q (a_ i) H1
def intsAre_of{ns:a0}:∀{us:a8},C' (ns.map V.int) us->K0 us ns:=by
 induction ns with
 |nil=>intro us r;rw[GL]at r;cases r;exact .nil|cons n ns J=>
  intro us r;rw[pk]at r;cases r with
  |cons I B=>obtain⟨t,e⟩:=I;subst e;exact .cons n t (J B)
section
variable{te:TE}{lo hi:Option G4}{tl th:TO}{p2:NV}
def po_none:PO X e_ tNoPart:=by intro B2 s σ H Q I h;rw[evalPart_none];exact g_ ⟨e_,H,I,.none,h⟩
def po_some(h:PE X e te):PO X (a_ e) (tPart te):=by intro B2 s σ H Q I hw;rw[evalPart_some];refine D' (h B2 s σ H _ I hw) λu s1 J=>?_;obtain⟨x,H1,S,B,q1⟩:=J;obtain⟨i,rfl,q⟩:=q1;obtain⟨t,rfl⟩:=B;exact⟨a_ i,H1,S,.int i t,q⟩
def SlR(X:Cx)(r:V->Option Int->Option Int->Hp->VK->Prop):Prop:=
 ∀(B2:Vp) (s:k_) (σ:St) (H:Hp) (x:V) (v I B:h_) (lo hi:Option Int) (sl:iF) (Q:VK),B5 X B2 σ H s->B' x v->s.heap.IsSliceOf sl I B .none->NQ I lo->NQ B hi->r x lo hi H Q ->
  ∃T id,typeLookup (.type T) "__getitem__"=GW (a_ (.builtin id))/\s.TypeIs v T/\r_ (y_ X.prog X.w) X.A (Pz v (.ref sl)) (EP X B2 σ Q) X.xe s
def SlR.or{r':V->Option Int->Option Int->Hp->VK->Prop}(h:SlR X r)(h':SlR X r'):SlR X (λx lo hi H Q=>r x lo hi H Q\/r' x lo hi H Q):=by
 intro B2 s σ H x v J B lo hi sl Q I S Y pl U q;rcases q with q|q
 .exact h B2 s σ H x v J B lo hi sl Q I S Y pl U q
 .exact h' B2 s σ H x v J B lo hi sl Q I S Y pl U q
noncomputable def tSl(r:V->Option Int->Option Int->Hp->VK->Prop)(te:TE)(tl th:TO):TE:=λσ H Q=>te σ H λx H1=>tl σ H1 λl H2=>th σ H2 λu B=>r x l u B Q
def pe_slice(i:SlR X r)(m:PE X e te)(j:PO X lo tl)(f:PO X hi th):PE X (.Subscript e (.Slice lo hi e_ p2) pos) (tSl r te tl th):=by intro B2 s σ H Q I h;refine Subscript_ (D' (m B2 s σ H _ I h) λv s1 J=>?_);obtain⟨x,H1,w,a,q1⟩:=J;refine wpAny_Slice (D' (j B2 s1 σ H1 _ w q1) λU s2 J=>?_);obtain⟨l,H2,t,pl,q2⟩:=J;refine D' (f B2 s2 σ H2 _ t q2) λS B J=>?_;obtain⟨u,Y,p,d,c⟩:=J;rw[evalPart_none];refine g_ ?_;have o:B5 X B2 σ Y {B with heap:=B.heap.push {cls:=.type "slice",data:=.fields #[U,S,.none]}}:=p.kept (t':=B.toks) λb y q=>f_ _ q;obtain⟨T,id,n,g,k⟩:=i B2 {B with heap:=B.heap.push {cls:=.type "slice",data:=.fields #[U,S,.none]}} σ Y x v U S l u B.z Q o a (QU ..) pl d c;show r_ (y_ X.prog X.w) X.A (subscriptTail e (.Slice lo hi e_ p2) v (.ref B.z)) (EP X B2 σ Q) X.xe {B with heap:=B.heap.push {cls:=.type "slice",data:=.fields #[U,S,.none]}};exact tail_any (ops:=[.ref B.z,v]) g n k (by rfl)
def cutV(xs:a7)(lo hi:Option Int):a7:=(xs.drop (HT.sIx xs.length 0 lo)).take (HT.sIx xs.length xs.length hi-HT.sIx xs.length 0 lo)
theorem pX(xs:a7)(lo hi:Option Int):(cutV xs lo hi).length<=xs.length:=by unfold cutV;rw[GC,Hu];lia
def rSlT(K:Pn):V->Option Int->Option Int->Hp->VK->Prop:=λx lo hi H Q=>∃a xs,x=.ref a/\SqT K H a xs /\
 ¬(HT.sIx xs.length 0 lo=0/\HT.sIx xs.length xs.length hi=xs.length)/\∀p,H p=e_->Q (.ref p) (upd H p (.tup (cutV xs lo hi)))
theorem sl_tup:SlR X (rSlT X.K):=by
 intro B2 s σ H x v e d lo hi sl Q I S c pl U h;obtain⟨a,xs,rfl,Y,hw,q⟩:=h;cases S;obtain⟨its,r,J,hz⟩:=I.tuple Y;have B:its.toArray.size=xs.length:=by rw[GJ];exact r.length.symm
 refine⟨"tuple",_,Jb.lookup,J.typeIs,?_⟩
 refine HT.mz J c pl U (by rw[B];exact hw) ?_ aW;rw[B];refine⟨.ref s.z,_,I.laid (t':=s.toks) (o:=.tup (cutV xs lo hi)) (λb f q=>f_ _ q) (i_ _) ?_,rfl,q _ (I.hok.fresh (i_ _))⟩
 exact⟨C_ (pX xs lo hi) hz,_,(r.drop (HT.sIx xs.length 0 lo)).take (HT.sIx xs.length xs.length hi-HT.sIx xs.length 0 lo),PH _ _⟩
def rCatT(K:Pn):R2:=λx y H Q=>∃a b xs ys,x=.ref a/\y=.ref b/\SqT K H a xs/\SqT K H b ys/\xs≠[]/\xs.length+ys.length<=o_ /\
 (ys=[]->Q (.ref a) H)/\(ys≠[]->∀p,H p=e_->Q (.ref p) (upd H p (.tup (xs++ys))))
def C'.yn(r:C' xs us):us=[]↔xs=[]:=by
 cases r with
 |nil=>simp|cons _ _=>simp
theorem op_catT:OpR X (IF .Add) (rCatT X.K):=by
 intro B2 s σ H x y v u Q I Y U h;obtain⟨a,b,xs,ys,rfl,rfl,e,d,c,hz,q1,q2⟩:=h;cases Y;cases U;obtain⟨its,J,p1,_⟩:=I.tuple e;obtain⟨S,B,p2,_⟩:=I.tuple d;refine HT.cat_tup p1 p2 (λz=>c (J.yn.mp z)) (λz=>⟨.ref a,H,I,rfl,q1 (B.yn.mp z)⟩) (λz=>?_) (by rw[<- J.length,<- B.length];exact hz);refine⟨.ref s.z,_,I.laid (t':=s.toks) (o:=.tup (xs++ys)) (λb f q=>f_ _ q) (i_ _) ?_,rfl,q2 (λw=>z (B.yn.mpr w)) _ (I.hok.fresh (i_ _))⟩
 exact⟨aW,_,J.append B,PH _ _⟩
end
noncomputable def ixN(n:Nat)(i:Int):Option Nat:=if 0<=i then(if i<n then a_ i.toNat else e_)else if -(n:Int)<=i then a_ (i+n).toNat else e_
def atI(xs:List α)(i:Int):Option α:=(ixN xs.length i).bind λj=>xs[j]?
theorem u5{j:Nat}(h:ixN n i=a_ j):seqIndex? i n=a_ j/\j<n/\ -(n:Int)<=i/\i<n:=by
 unfold ixN at h;by_cases h0:0<=i
 .rw[p_ h0]at h;by_cases h1:i<n
  .rw[p_ h1]at h
   grind[P0]
  simp_all
 .rw[q_ h0]at h;by_cases h1: -(n:Int)<=i
  .rw[p_ h1]at h
   grind[Pw]
  simp_all
theorem Fu{xs:List α}{v:α}(h:atI xs i=a_ v):∃j,seqIndex? i xs.length=a_ j/\xs[j]?=a_ v/\j<xs.length/\ -(xs.length:Int)<=i/\i<xs.length:=by
 unfold atI at h;cases e:ixN xs.length i with
 |none=>simp_all|some j=>rw[e]at h;obtain⟨h1,J,I,B⟩:=u5 e;exact⟨j,h1,h,J,I,B⟩
def uT(b:G4):Prop:=∀o i,subscripted b c_ o i=operate [o,i] (Pz o i)
def IxR(X:Cx)(r:R2):Prop:=
 ∀(value B:G4) (B2:Vp) (s:k_) (σ:St) (H:Hp) (x y:V) (v u:h_) (Q:VK),B5 X B2 σ H s->B' x v->B' y u->r x y H Q ->
  subscripted B c_ v u=operate [v,u] (Pz v u)->r_ (y_ X.prog X.w) X.A (subscriptTail value B v u) (EP X B2 σ Q) X.xe s
def MtR(X:Cx)(id:String)(r:V->a7->Hp->VK->Prop):Prop:=
 ∀(B2:Vp) (s:k_) (σ:St) (H:Hp) (x:V) (xs:a7) (v:h_) (us:a8) (Q:VK),B5 X B2 σ H s->B' x v->C' xs us->r x xs H Q ->
  r_ (y_ X.prog X.w) X.A (Kz (.builtin id) (v::us)) (EP X B2 σ Q) X.xe s
section
variable{a b:G4}{ta tb:TE}
def IxR.or{r r':R2}(h:IxR X r)(h':IxR X r'):IxR X (λx y H Q=>r x y H Q\/r' x y H Q):=by
 intro value B B2 s σ H x y v u Q I S J q U;rcases q with q|q
 .exact h value B B2 s σ H x y v u Q I S J q U
 .exact h' value B B2 s σ H x y v u Q I S J q U
def pe_ix{r:R2}(U:IxR X r)(c:PE X a ta)(Y:PE X b tb)(S:uT b):PE X (.Subscript a b pos) (tOp r ta tb):=by intro B2 s σ H Q I h;exact Subscript_ (binT c Y I h λv u s2 x y H2 d J B q=>U a b B2 s2 σ H2 x y v u Q d J B q (S _ _))
def rIxL(K:Pn):R2:=λx y H Q=>∃p xs i v,x=.ref p/\y=.int i/\SqL K H p xs/\atI xs i=a_ v/\Q v H
def rIxT(K:Pn):R2:=λx y H Q=>∃p xs i v,x=.ref p/\y=.int i/\SqT K H p xs/\atI xs i=a_ v/\Q v H
theorem ix_list:IxR X (rIxL X.K):=by
 intro value J B2 s σ H x y v u Q I c b h Y;obtain⟨p,xs,i,z,rfl,rfl,d,f,q⟩:=h;cases c;obtain⟨t,rfl⟩:=b;obtain⟨its,r,pl,hz⟩:=I.list d;obtain⟨j,h1,l,n,k,g⟩:=Fu f;obtain⟨w,a,S⟩:=r.get l;have e:=r.length;have m:=wo;have B:EP X B2 σ Q w s:=⟨z,H,I,S,q⟩
 by_cases h0:0<=i
 .have U:i.toNat=j:=by
   rw[P0 h0 g]at h1;exact Hh h1
  exact item_listR pl.isList h0 ad (by rw[U];simpa using a) B Y
 .have U:(i+(its.toArray.size:Int)).toNat=j:=by
   rw[Pw ad k]at h1;rw[GJ,<- e];exact Hh h1
  exact Mc (x:=w) pl.isList.typeIs QO.lookup
   (wpAny_getItem_list_neg (Q:=λr s'=>r=w/\EP X B2 σ Q r s') pl.isList ad aW ad (by rw[U];simpa using a) ⟨rfl,B⟩) Y
theorem ix_tup:IxR X (rIxT X.K):=by
 intro value B B2 s σ H x y v u Q I Y U h a;obtain⟨p,xs,i,z,rfl,rfl,b,c,q⟩:=h;cases Y;obtain⟨t,rfl⟩:=U;obtain⟨its,r,pl,hz⟩:=I.tuple b;obtain⟨j,h1,d,m,l,k⟩:=Fu c;obtain⟨w,e,J⟩:=r.get d;have g:=r.length;have f:=wo;have S:EP X B2 σ Q w s:=⟨z,H,I,J,q⟩
 exact Mc (x:=w) pl.typeIs Jb.lookup
  (getItem_tuple (j:=j) (Q:=λr s'=>r=w/\EP X B2 σ Q r s') pl ad ad aW (by simpa using e) ⟨rfl,S⟩) a
def rIx(K:Pn):R2:=λx y H Q=>rIxL K x y H Q\/rIxT K x y H Q
def Ej:IxR X (rIx X.K):=ix_list.or ix_tup
def BM(its:a8)(n j:Nat)(u:h_):HP (·.setIfInBounds j u) {cls:=.type "list",data:=.seq its.toArray n}={cls:=.type "list",data:=.seq (its.set j u).toArray n}:=by simp[HP]
theorem B5.lst{B2:Vp}{σ:St}{H:Hp}{s:k_}{p:iF}{xs:a7}(I:B5 X B2 σ H s)(h:H p=a_ (.lst xs)):
  ∃(its:a8) (n:Nat),C' xs its/\s.heap.get? p=a_ {cls:=.type "list",data:=.seq its.toArray n}/\xs.length<=o_:=by
 obtain⟨z,its,n,r,e⟩:=I.hok p _ h;exact⟨its,n,r,e,z⟩
def B5.lstUpd{s:k_}{p:iF}{B:Nat}{f:Mx->Mx}(I:B5 X B2 σ H s)(h:H p=a_ (.lst xs))(S:s.heap.get? p=a_ {cls:=.type "list",data:=.seq its.toArray n})(J:f {cls:=.type "list",data:=.seq its.toArray n}={cls:=.type "list",data:=.seq its'.toArray B})(r:C' ys its')(hz:ys.length<=o_)(t:Nat):
  B5 X B2 σ (upd H p (.lst ys)) {s with heap:=s.heap.update p f,toks:=t}:=by
 have e:(s.heap.update p f).get? p=a_ {cls:=.type "list",data:=.seq its'.toArray B}:=by rw[Iu f S (by rw[J]<;>rfl),J]
 refine I.write (x:=p) (e:=p) (by rw[h];trivial) (.inl rfl) (λb u U q=>(Jd _ _ (HI U)).trans q) ⟨_,e⟩ ?_;exact⟨hz,its',B,r,e⟩
def Bx:V->V->V->Hp->(Hp->Prop)->Prop:=λo i v H Q=>∃p xs k j,o=.ref p/\i=.int k/\H p=a_ (.lst xs)/\ixN xs.length k=a_ j/\Q (upd H p (.lst (xs.set j v)))
theorem set_list:PSet X Bx:=by
 intro B2 s σ H o i v ov f u Q I ro a Y h;obtain⟨p,xs,k,j,rfl,rfl,S,c,q⟩:=h;cases ro;obtain⟨t,rfl⟩:=a;obtain⟨its,n,r,B,hz⟩:=I.lst S;obtain⟨h1,l,e,d⟩:=u5 c;have b:=r.length;have g:=wo;have U:B5 X B2 σ (upd H p (.lst (xs.set j v))) {s with heap:=s.heap.update p (HP (·.setIfInBounds j u))}:=
  I.lstUpd S B (BM its n j u) (r.set Y j) aW s.toks
 by_cases h0:0<=k
 .have J:k.toNat=j:=by
   rw[P0 h0 d]at h1;exact Hh h1
  exact PySem.W.ki_setAt B h0 ad aW (by rw[J];exact⟨_,U,q⟩)
 .have J:(k+(its.toArray.size:Int)).toNat=j:=by
   rw[Pw ad e]at h1;rw[GJ,<- b];exact Hh h1
  exact PySem.W.ki_setBack B ad aW ad (by rw[J];exact⟨_,U,q⟩)
theorem vq(lo hi:Option Int)(n:Nat):(MC lo hi e_ n).1=((HT.sIx n 0 lo:Nat):Int)/\(MC lo hi e_ n).2.1=((HT.sIx n n hi:Nat):Int)/\(MC lo hi e_ n).2.2=1:=by
 refine⟨?_,?_,rfl⟩
 .cases lo with
  |none=>rfl|some i=>
   simp only[MC,HT.sIx,Pj,show(1:Int)>0 by decide,Jw]
   grind
 .cases hi with
  |none=>rfl|some i=>
   simp only[MC,HT.sIx,Pj,show(1:Int)>0 by decide,Jw]
   grind
def t6(its:a8)(lo hi:Option Int):slicePick its.toArray lo hi e_=((its.drop (HT.sIx its.length 0 lo)).take (HT.sIx its.length its.length hi-HT.sIx its.length 0 lo)).toArray:=by obtain⟨h1,I,B⟩:=vq lo hi its.toArray.size;unfold slicePick;rw[h1,I,B];simp only[sliceRange_one,pick_run,GJ]<;>rfl
def rSlL(K:Pn):V->Option Int->Option Int->Hp->VK->Prop:=λx lo hi H Q=>∃a xs,x=.ref a/\SqL K H a xs/\∀p,H p=e_->Q (.ref p) (upd H p (.lst (cutV xs lo hi)))
theorem sl_list:SlR X (rSlL X.K):=by
 intro B2 s σ H x v e d lo hi sl Q I S c pl U h;obtain⟨a,xs,rfl,Y,q⟩:=h;cases S;obtain⟨its,r,J,hz⟩:=I.list Y;have B:=r.length;refine⟨"list",_,QO.lookup,J.isList.typeIs,?_⟩
 refine wpAny_getItem_list_slice J.isList c pl U .none am ?_ aW;rw[t6,<- B];refine⟨.ref s.z,_,I.laid (t':=s.toks) (o:=.lst (cutV xs lo hi)) (λb f q=>f_ _ q) (i_ _) ?_,rfl,q _ (I.hok.fresh (i_ _))⟩
 exact⟨C_ (pX xs lo hi) hz,_,0,(r.drop (HT.sIx xs.length 0 lo)).take (HT.sIx xs.length xs.length hi-HT.sIx xs.length 0 lo),j_ _ rfl⟩
theorem jR:eD X (.builtin "len") (λxs H Q=>∃p ys,xs=[.ref p]/\(SqL X.K H p ys\/SqT X.K H p ys)/\Q (.int ys.length) H):=by
 intro B2 s σ H xs us Q I r h;obtain⟨p,ys,rfl,B,q⟩:=h;obtain⟨u,rfl,S⟩:=vals1 r;cases S;have U:=wo;rcases B with B|B
 .obtain⟨its,r',pl,hz⟩:=I.list B;have J:=r'.length;exact Calls.call_len_list pl.isList aV ⟨.int ys.length,H,I.tok _,⟨s.toks+1,aW⟩,q⟩
 .obtain⟨its,r',pl,hz⟩:=I.tuple B;have J:=r'.length;exact len_tuple pl aV ⟨.int ys.length,H,I.tok _,⟨s.toks+1,aW⟩,q⟩
def eD.or{f:h_}{r r':a7->Hp->VK->Prop}(h:eD X f r)(h':eD X f r'):eD X f (λxs H Q=>r xs H Q\/r' xs H Q):=by
 intro B2 s σ H xs us Q I rs q;rcases q with q|q
 .exact h B2 s σ H xs us Q I rs q
 .exact h' B2 s σ H xs us Q I rs q
theorem xj:eD X (.type "list") (λxs H Q=>∃p ys,xs=[.ref p]/\(SqL X.K H p ys\/SqT X.K H p ys)/\∀l,H l=e_->Q (.ref l) (upd H l (.lst ys))):=by
 intro B2 s σ H xs us Q I r h;obtain⟨p,ys,rfl,S,q⟩:=h;obtain⟨u,rfl,f⟩:=vals1 r;cases f;have Y:∀(its:a8),C' ys its->ys.length<=o_->∀(h':Gu) (B:Nat),(∀b o',s.heap.get? b=a_ o'->h'.get? b=a_ o') ->
   h'.get? s.z=a_ {cls:=.type "list",dict:=e_,data:=.seq its.toArray B,slots:=#[]}->EP X B2 σ Q (.ref s.z) {s with heap:=h'}:=λits r' hz h' B J e=>
  ⟨.ref s.z,_,I.laid (t':=s.toks) J (i_ _) (show gW _ h' _ (.lst ys)from⟨hz,its,B,r',e⟩),rfl,q _ (I.hok.fresh (i_ _))⟩
 rcases S with S|S
 .obtain⟨its,r',pl,hz⟩:=I.list S;have U:=r'.length;obtain⟨o,a,d,n,c⟩:=pl.isList;exact call_list_seq p (.inl rfl) a d c (λh' B J e=>Y its r' hz h' B J e) aW
 .obtain⟨its,r',pl,hz⟩:=I.tuple S;have U:=r'.length;obtain⟨o,a,d,n,c⟩:=pl;exact call_list_seq p (.inr rfl) a d c (λh' B J e=>Y its r' hz h' B J e) aW
theorem uD:eD X (.type "tuple") (λxs H Q=>∃p ys,xs=[.ref p]/\((SqL X.K H p ys/\∀l,H l=e_->Q (.ref l) (upd H l (.tup ys)))\/(SqT X.K H p ys/\Q (.ref p) H))):=by
 intro B2 s σ H xs us Q I r h;obtain⟨p,ys,rfl,h⟩:=h;obtain⟨u,rfl,U⟩:=vals1 r;cases U;rcases h with⟨B,q⟩|⟨B,q⟩
 .obtain⟨its,r',pl,hz⟩:=I.list B;have J:=r'.length;refine call_tuple_list pl.isList (λh' Y=>?_) aW;have S:B5 X B2 σ H {s with heap:=h'}:=I.kept (t':=s.toks) Y;have a:B5 X B2 σ (upd H h'.objs.size (.tup ys)) {s with heap:=h'.push {cls:=.type "tuple",data:=.seq its.toArray}}:=
   S.laid (t':=s.toks) (λb o e=>f_ _ e) (i_ _) (show gW _ _ _ (.tup ys)from⟨hz,its,r',PH _ _⟩)
  exact⟨.ref h'.objs.size,_,a,rfl,q _ (S.hok.fresh (i_ _))⟩
 .obtain⟨its,r',pl,hz⟩:=I.tuple B;exact call_tuple_same pl ⟨.ref p,H,I,rfl,q⟩
def tyV(K:Pn)(T:String)(x:V)(H:Hp):Prop:=T="list"/\∃p xs,x=.ref p/\SqL K H p xs
def tyV_is{s:k_}{v:h_}(I:B5 X B2 σ H s)(r:B' x v)(ty:tyV X.K T x H):
  s.TypeIs v T/\∀a,v=.ref a->∃B,s.heap.get? a=a_ B/\B.dict=e_:=by
 obtain⟨rfl,p,xs,rfl,J⟩:=ty;cases r;obtain⟨its,_,pl,_⟩:=I.list J;refine⟨pl.isList.typeIs,λa e=>?_⟩
 cases e;obtain⟨o,n,e,c,S,_⟩:=pl;exact⟨o,e,S⟩
def tBM(K:Pn)(T:String)(r:V->a7->Hp->VK->Prop)(to:TE)(t:TA):TE:=λσ H Q=>to σ H λx H1=>tyV K T x H1/\t σ H1 λxs H2=>r x xs H2 Q
variable{o:G4}{es:List G4}{to:TE}{t:TA}{name:Gf}{apos cpos:NV}{id:String}{r:V->List V->Hp->VK->Prop}
def pe_bm(pa:PlainAttrs T)(U:Slot T name id)(a:typeOf (.builtin id)=GW (.type "method_descriptor"))(k:MtR X id r)(j:PE X o to)(l:PA X (e::es) t)(S: ~~~(HK o name X.env (FV o X.env)=FV o X.env))(Y: ~~~(((Hi cpos (l_ (e::es) X.env)).all (λx=> !x.1)&&(Lb cpos (JI [] X.env)).all (λx=>x.1.isSome)
   &&xF ((e::es).length+([]:List Lw).length+(if ([]:List Lw).isEmpty then 0 else 1)<30))=d_))(J: ~~~((apos.endLine==cpos.line)=d_))(i: ~~~(l_ (e::es) X.env=(c_,FV e X.env)::l_ es X.env))(B: ~~~((Hi cpos (l_ es X.env)).any (·.1)=c_)):
  PE X (.Call (.Attribute o name apos) (e::es) [] cpos) (tBM X.K T r to t):=by
 intro B2 s σ H Q I h;refine wpAny_Call_method_late S Y J rfl (D' (j B2 s σ H _ I h) λv s1 b=>?_);obtain⟨x,H1,f,c,ty,q1⟩:=b;obtain⟨h1,m⟩:=tyV_is f c ty;refine⟨T,id,pa,U,a,h1,m,?_⟩
 have d:=l cpos B2 s1 σ H1 _ f q1;rw[i]at d ⊢;refine Jc (by show(c_||(Hi cpos (l_ es X.env)).any (·.1))=c_;rw[B]<;>rfl) (Ot ?_);refine D' d λus s2 b=>?_;obtain⟨vs,H2,n,g,q2⟩:=b;exact k B2 s2 σ H2 x vs v us Q n c g q2
/- xs.append(e),list.index on a module's tuple .. are MtR facts of 06m -/
end
def MtM(X:Cx)(id:String)(r:V->a7->Hp->VK->Prop):Prop:=
 ∀(B2:Vp) (s:k_) (σ:St) (H:Hp) (x:V) (xs:a7) (v:h_) (us:a8) (Q:VK),B5 X B2 σ H s->B' x v->C' xs us->r x xs H Q ->
  r_ (y_ X.prog X.w) X.A (Kz (.builtin id) (v::us)) (EP X B2 σ Q) X.xe s
def C'.one(h:C' [x] us):∃u,us=[u]/\B' x u:=by
 cases h with
 |cons r t=>cases t;exact⟨_,rfl,r⟩
def C'.two{y:V}(h:C' [x,y] us):∃u v,us=[u,v]/\B' x u/\B' y v:=by
 cases h with
 |cons r t=>obtain⟨v,rfl,q⟩:=C'.one t;exact⟨_,_,rfl,r,q⟩
theorem C'.rep{xs:a7}{us:a8}(h:C' xs us):∀k:Nat,C' (D_ k xs).flatten (D_ k us).flatten
 |0=>.nil|k+1=>by rw[JE,JE,JU,JU];exact C'.append h (C'.rep h k)
theorem foldl_rep(its:a8):∀(k:Nat) (B:a8),
  MA (λJ I=>J++I) B.toArray (D_ k its.toArray)=(B++(D_ k its).flatten).toArray
 |0,B=>by simp|k+1,B=>by simp[JE,JU,FQ,foldl_rep,FH]
section
variable{s:k_}{l:iF}
def B5.lset{f:Array h_->Array h_}{t':Nat}(I:B5 X B2 σ H s)(Y:H l=a_ (.lst xs))(e:s.heap.get? l=a_ {cls:=.type "list",data:=.seq its.toArray n})(S:f its.toArray=its'.toArray)(B:C' ys its')(hz:ys.length<=o_):
  B5 X B2 σ (upd H l (.lst ys)) {s with heap:=s.heap.update l (HP f),toks:=t'}:=by
 have q:=PySem.IsL.update e f;rw[S]at q;refine I.write (x:=l) (e:=l) (by rw[Y];exact trivial) (.inl rfl) (λb' u U J=>(Jd s.heap (HP f) (HI U)).trans J) ⟨_,q⟩ ?_;exact⟨hz,its',_,B,q⟩
def B5.lnew{t':Nat}(I:B5 X B2 σ H s)(B:C' ys its)(hz:ys.length<=o_):
  B5 X B2 σ (upd H s.heap.objs.size (.lst ys)) {s with heap:=s.heap.push {cls:=.type "list",data:=.seq its.toArray},toks:=t'}:=
 I.laid (λ_ _ q=>f_ _ q) (i_ _) ⟨hz,its,0,B,j_ _ rfl⟩
theorem B5.fresh(I:B5 X B2 σ H s):H s.heap.objs.size=e_:=I.hok.fresh (i_ _)
def B5.lstM(I:B5 X B2 σ H s)(B:H l=a_ (.lst xs)):xs.length<=o_/\∃(its:a8) (n:Nat),C' xs its/\xs.length=its.length/\s.heap.get? l=a_ {cls:=.type "list",data:=.seq its.toArray n}:=by obtain⟨z,its,n,r,e⟩:=I.hok l _ B;exact⟨z,its,n,r,r.length,e⟩
theorem A0(h:n<=o_):Ju n=c_:=by simp_all[Ju]
end
def Dj:V->a7->Hp->VK->Prop:=λx vs H Q=>∃l xs y,x=.ref l/\vs=[y]/\H l=a_ (.lst xs)/\xs.length<o_/\Q .non (upd H l (.lst (xs++[y])))
theorem oX:MtM X "list.append" Dj:=by
 intro B2 s σ H x vs v us Q I J S h;obtain⟨l,xs,y,rfl,rfl,B,hz,q⟩:=h;cases J;obtain⟨u,rfl,U⟩:=S.one;obtain⟨z,its,n,r,Y,e⟩:=I.lstM B;refine Nf JP ⟨_,e,rfl⟩ F.entry_list_append (F.args_list_append_2 _ _) (PySem.list_append l its.toArray n u aW) ⟨e,?_⟩;refine⟨.non,_,I.lset (its':=its++[u]) B e am (r.append (.cons U .nil)) ?_,rfl,q⟩
 grind[FJ,Oz]
def rExtend:V->a7->Hp->VK->Prop:=λx vs H Q=>∃l b xs B,x=.ref l/\vs=[.ref b]/\H l=a_ (.lst xs)/\H b=a_ (.lst B)/\xs.length+B.length<=o_/\Q .non (upd H l (.lst (xs++B)))
theorem DU:MtM X "list.extend" rExtend:=by
 intro B2 s σ H x vs v us Q I U Y h;obtain⟨l,b,xs,g,rfl,rfl,S,f,hz,q⟩:=h;cases U;obtain⟨u,rfl,a⟩:=Y.one;cases a;obtain⟨z,its,n,r,j,e⟩:=I.lstM S;obtain⟨i,B,n2,c,d,e2⟩:=I.lstM f;have hsz:its.toArray.size+B.toArray.size<=o_:=by rw[GJ,GJ];lia
 have J:¬(!its.toArray.isEmpty&&Ju (its.toArray.size+B.toArray.size))=d_:=by rw[A0 hsz,NL];exact Gj
 refine Nf Oq ⟨_,e,rfl⟩ F.entry_list_extend (F.args_list_extend_2 _ _)
  (AutoSeq1.list_extend_list_list_0 l its.toArray n b B.toArray n2 J aW ad) ⟨e,e2,?_⟩
 refine⟨.non,_,I.lset (its':=its++B) S e am (r.append c) ?_,rfl,q⟩
 simp_all
def rRep:R2:=λx y H Q=>∃l k xs,x=.ref l/\y=.int k/\H l=a_ (.lst xs)/\ -(2^63)<=k/\k<2^63/\xs.length*k.toNat<=o_ /\
 ∀p,H p=e_->Q (.ref p) (upd H p (.lst (D_ k.toNat xs).flatten))
def len_rep(xs:List α)(k:Nat):(D_ k xs).flatten.length=k*xs.length:=by simp
theorem op_rep:OpR X (IF .Mult) rRep:=by
 intro B2 s σ H x y v u Q I g f h;obtain⟨l,k,xs,rfl,rfl,j,h1,o,hz,q⟩:=h;cases g;obtain⟨t,rfl⟩:=f;obtain⟨z,its,n,r,i,e⟩:=I.lstM j;have S:its.toArray.size*k.toNat<=o_:=by rw[GJ,<- i];exact hz
 have b:¬its.toArray.size*k.toNat>(2^63-1)/8:=by
  have:(o_:Nat)<=(2^63-1)/8:=by decide
  lia
 have Y:¬(!Builtin.List.listFitsIndex k)=d_:=by rw[fitsIndex_both h1 o];exact Gj
 have B:¬Ju (its.toArray.size*k.toNat)=d_:=by rw[A0 S];exact Gj
 have J:MA (λd c=>d++c) #[] (D_ (if its.toArray.isEmpty=d_ then 0 else k.toNat) its.toArray)=(D_ k.toNat its).flatten.toArray:=by
  have f0:∀m:Nat,MA (λd c=>d++c) #[] (D_ m its.toArray)=(D_ m its).flatten.toArray:=λm=>by
   have:=foldl_rep its m []
   simp_all
  rw[f0];cases its with
  |nil=>simp|cons a r'=>rfl
 refine wpAny_binaryOp_repeat_ref (T:="list") (U:="int") as ⟨_,e,rfl⟩ (λs'=>typeIs_int s' k t) noFill_list_mul F.fills_int_mul QV repeat_list F.slot_int_index.lookup
  (Nf QV (typeIs_int s k t) F.entry_int_rmul (F.args_int_rmul_2 _ _) (int___rmul___int_list k t l its.toArray n)
   ⟨e,rfl,⟨_,e,rfl⟩,Nf F.slot_list_mul ⟨_,e,rfl⟩ F.entry_list_mul (F.args_list_mul_2 _ _) (AutoListH.list___mul___list_int_3 l its.toArray n k t Y b B) ⟨e,?_⟩⟩)
 rw[J];exact⟨.ref _,_,I.lnew (t':=s.toks) (r.rep k.toNat) (by rw[len_rep,Nat.mul_comm];exact hz),rfl,q _ I.fresh⟩
end Lake
namespace Lake.Att
open PySem PySem.W PySem.Calls PyProof.Rows
def pC{P:Params}{h:Gu}:∀(ns:a0) (vs:a8),WellAll P h vs (ns.map WData.int)->K0 vs ns:=by
 intro ns
 induction ns with
 |nil=>intro vs w;rw[GL]at w;cases w;exact .nil|cons n ns B=>
  intro vs w;rw[pk]at w;cases w with
  |cons a b=>cases a;exact .cons _ _ (B _ b)
theorem D4{l:MG}{n:Nat}(i:l.most=a_ n){P:Params}{h:Gu}{args:List WData}{B:a8}(I:l.row.toRowW.claim.pre args=d_)(Y:WellAll P h B args):
  ∃a vs ns,B=[w_ a]/\args=[WData.list (ns.map WData.int)]/\h.get? a=a_ {cls:=.type "list",data:=.seq vs.toArray}/\K0 vs ns/\ns.length<=n:=by
 have b:WShape.hasAll [] args [.list .int]=d_:=(pre_splitW I).1;have c:l.pre.holds [] {args:=args}=d_:=(pre_splitW I).2;obtain⟨d,r,rfl,h1,k⟩:=hasAllW_cons b;obtain rfl:=hasAllW_nil k;obtain⟨xs,rfl,j⟩:=hasW_list h1;obtain⟨ns,rfl⟩:=items_int j;have J:ns.length<=n:=by
  unfold OpenLaw.pre at c;have U:(WTm.not (.lt (.lit (.int (n:Int))) (.len (.arg 0)))).holds [] {args:=[.list (ns.map .int)]}=d_:=by have U:=(holds_andW c).1;rw[i]at U;exact U
  have h5:=condW_of U (w_not (w_lt w_lit (w_len_list (w_arg rfl))));rw[oe]at h5;refine Qi λq=>?_;have m:(n:Int)<((ns.length:Nat):Int):=ad
  first
   |simp_all
   |(simp at h5;lia)
 cases Y with
 |cons f e=>
  cases e;cases f with
  |list g S=>exact⟨_,_,ns,rfl,rfl,g,pC ns _ S,J⟩
def Dp(l:MG)(args:List WData):l.row.toRowW.claim.post args (.bool d_) args=d_:=
 postW_of (r:=l.row.toRowW) (X:=(d_==d_))
  (show WShape.has [] (.bool d_) .bool=d_ by rfl)
  (show(WTm.eq .res (.lit (.bool d_))).value [] {args:=args,res:=a_ (.bool d_),after:=args}=a_ (.bool (d_==d_))from w_eq_bool (w_res rfl) w_lit) rfl
def yT{l:MG}{n:Nat}{q:GD}{J:List Gf}{x:(Ld)->Gu->Prop}{v:Hw->Gu->Prop}{d:DefRec}(C:l.most=a_ n)(k:d.params.defaults=[])(e:∀(w:Hw) (I B:k_) (mg h:Ld) (fa:iF) (o:Mx) (pm g doc:h_) (a:iF) (vs:a8) (ns:a0),
   Ground q J [] x w I mg h B.heap->v w B.heap ->
   B.heap.get? fa=a_ o->o.data=.func (docDef d.name d.params d.body d.scope pm g doc)->B.heap.CodeRec g d.name->mg d.name=a_ (.ref fa) ->
   B.heap.get? a=a_ {cls:=.type "list",data:=.seq vs.toArray}->K0 vs ns->ns.length<=n->B.gens=#[] ->
   KY (y_ l.prog w) Nu (.call (.ref fa) ⟨[.ref a],[]⟩) (λr s'=>r=.ok (.ret (.bool d_))/\OldK B.heap s'.heap/\s'.os=B.os/\Md s'.gens) B):
  OS q J x v l.row.toRowW d [] (λf vs=>Kz f vs):=by
 intro w I B mg h G Y fa o pm g doc O kV A H m t j F u p P U s y i E;obtain rfl:O=.none:=Dflts.none t k;obtain rfl:kV=.none:=Dflts.noKw t;obtain⟨a,vs,ns,rfl,rfl,b,S,c⟩:=D4 C U i;refine enter_call (JM (e w I B mg h fa o pm g doc a vs ns G Y A (fd_plain H) m j b S c F) λr s' z=>?_);obtain⟨rfl,N,L,K⟩:=z;exact⟨.inl ⟨.bool d_,.bool d_,[],rfl,λ_=>rfl,.bool d_,Dp l _,λ_=>⟨Io,λ_ D=>(nomatch D)⟩⟩,N,L,K⟩
end Lake.Att
namespace Lake
open PySem PySem.Spec PyProof.Rows
variable{P prog:GD}{w:Hw}{K:Pn}{mg:Ld}{CX:CXT}{k n j i m lo t' nN nN2 n2 k2 ep ep' hint ia ib:Nat}{a c l b L C r fad fI z:iF}{fd fdI:IG}{x qual:Gf}{sp:Sp}{vs us its:List h_}{X:Cx}{st st1:FU}{ps N' N ps2:List Gf}{oc kV doc pm cdv ct mc u k' a' b' ov:h_}{od an:Option iF}{osl sl:Array (Option h_)}{pos spos py apos pos' q p2 q1 q2 p1 p3 p4 cpos:NV}{H H1 H2 H' F F' H0 F1 F0 FB:Hp}{scope sc:Nw}{env:OF}{A:HL}{E:Mq}{B2:Vp}{σ:St}{ix:List (Option Nat)}{fp ch:List iF}{h1 h h':Gu}{R:Bool->Hp->Prop}{elt tg iter e ex ea eb value ek ev e1 e2 e3 e4 e5:G4}{ifs elts:List G4}{tt:TT}{te tl tv td:TE}{y v:V}{xs ys ws:List V}{T:Unit->k_->Prop}{cs:List (Gf×iF)}{p O O2 OL O' out pa pb p' rest:List Nat}{es:Array HA}{pl:LI Bool}{Q:Option h_->k_->Prop}{ro:Bool}{α β:Type}{is:List Int}{op op':CmpOp}{sts:List G6}{r':Array GO}{ta:TA}{κ:Ow}{items:Array h_}{bd:Nat->Bool}{gs:List (List Nat×Nat)}
theorem v7:∀{vs:a8} {ns:a0},K0 vs ns->C' (ns.map V.int) vs
 |_,_,.nil=>.nil|_,_,.cons n t h=>.cons ⟨t,rfl⟩ (v7 h)
def Only(H:Hp):Prop:=∀b,H b=e_\/∃o xs,H b=a_ (.frz o (.lst xs))
theorem law_call{t:Ld}{fa:iF}{B:k_}{ns:a0}(O:K.In B.heap)(g:B.heap.Ns G3 mg)(Y:B.heap.Ns QE t)(C:∀x:Gf,x≠"__name__"->t x=Ir x)(i:B.heap.NoLimit)(hg:B.gens=#[])(D:B.heap.get? a=a_ {cls:=.type "list",data:=.seq vs.toArray})(hi:K0 vs ns)(hl:ns.length<=o_)(hr:ji k Nu)(F:∀base:Gu,K.In base->base.Ns G3 mg->jk P w K mg base CX k fa fd [x] sp)(U:∀(s:k_) (u:h_),MW s fd ⟨[u],[]⟩ [(x,u)])(y:∀H:Hp,Only H->SqL K H a (ns.map V.int)->sp [.ref a] H (λv _=>v=.bl d_) λ_ _ _=>False)(E:∀H e s',CX [] H B (λ_ _ _=>False) e s'->False):
  KY (y_ P w) Nu (.call (.ref fa) ⟨[.ref a],[]⟩) (λr s'=>r=.ok (.ret (.bool d_))/\OldK B.heap s'.heap/\s'.os=B.os/\Md s'.gens) B:=by
 have T:=v7 hi;have L:=hi.length;have S:∀H:Hp,Only H->SqL K H a (ns.map V.int)->HOk H B.heap->(∀b,H b≠e_->b=a)->(H a≠e_->K.lookup a=e_) ->
   KY (y_ P w) Nu (.call (.ref fa) ⟨[.ref a],[]⟩) (λr s'=>r=.ok (.ret (.bool d_))/\OldK B.heap s'.heap/\s'.os=B.os/\Md s'.gens) B:=by
  intro H N hS f hA hK;have I:∀{b:iF} {o:Mx},B.heap.get? b=a_ o->H b=e_->(hidT B.heap H).get? b=a_ o:=λe n=>hidT_get e n;have p:∀{b:iF} {o:Mx} {es:Array HA} {ep:Nat},B.heap.get? b=a_ o->o.data=.dict es ep->H b=e_:=λ{b o es ep} e d=>by grind
  have J:∀{b:iF} {m:Ld},B.heap.Ns b m->(hidT B.heap H).Ns b m:=λ{b m} ⟨o,es,ep,e,d,r⟩=>⟨o,es,ep,I e (p e d),d,r⟩
  have j:K.In (hidT B.heap H):=λb o e=>I (O b o e) aV
  have hM:Mod K mg (hidT B.heap H):=⟨j,J g,⟨t,J Y,C⟩,let ⟨mc,h1,h2⟩:=i;⟨mc,J h1,h2⟩⟩
  have e0:Env0 P w K mg (hidT B.heap H) Nu [] B H:=⟨rfl,hM,λb o e=>of_hidT e,J1 (Ex _ _),trivial,λb Y=>FR (show b∈([]:List iF)from Y) am,f,.of_eq hg⟩
  refine JM ((F _ j (J g)).run Nu [] B H ⟨[.ref a],[]⟩ [.ref a] [.ref a] _ _ hr e0 (U B (.ref a)) (.cons rfl .nil) (y H N hS)) λr s' h=>?_;cases r with
  |error e=>exact(E H e s' h).elim|ok fl=>
   cases fl with
   |next=>exact Gh h|brk=>exact Gh h|cont=>exact Gh h|ret u=>
    obtain⟨v,H',X,l,G,c,r',q⟩:=h;have W:v=.bl d_:=q;subst W;obtain rfl:u=Mo d_:=r';refine⟨rfl,OldK.of_keep λb o e=>?_,X,l⟩
    cases q:H b with
    |none=>exact G.keep b o e q (by intro z;exact FR (show b∈([]:List iF)from z) am) am|some u=>
     rcases N b with z|⟨Z,xs,z⟩
     .simp_all
     .have Q:=G.frzs b Z _ z;obtain⟨e1,_⟩:=f b _ z;obtain⟨e2,_⟩:=c b _ Q
      simp_all
 cases A:K.lookup a with
 |some o=>have e:=O a o A;rw[D]at e;cases e;refine S (λ_=>e_) (λ_=>.inl rfl) (.inr ⟨_,vs.toArray,_,A,rfl,rfl,rfl,aW,aW⟩) (λb u z=>by simp_all) (λb z=>FR rfl z) λz=>FR rfl z|none=>
  refine S (λb=>if b=a then a_ (.frz {cls:=.type "list",data:=.seq vs.toArray} (.lst (ns.map V.int)))else e_) (λb=>?_) (.inl (.inr ⟨{cls:=.type "list",data:=.seq vs.toArray},p_ rfl⟩)) (λb u z=>?_) (λb z=>?_) λ_=>A
  .grind
  .by_cases Y:b=a
   .have R:=(p_ Y).symm.trans z;cases R;subst Y;exact⟨D,aW,vs,_,T,D⟩
   simp_all
  simp_all
def walk_of{l:MG}{q:GD}{I:List Gf}{O:(Ld)->Gu->Prop}{p:Hw->Gu->Prop}{d:DefRec}{K:Params->Pn}{CX:Hw->CXT}{sp:Hw->Sp}(y:l.most=a_ n)(c:n<=o_)(i:d.params.defaults=[])(t:ji k Nu)(D:∀(w:Hw) (h:Gu),p w h->(K w.params).In h)(F:∀(w:Hw) (mg:Ld) (fa:iF) (h:Gu),(K w.params).In h->h.Ns G3 mg->mg d.name=a_ (.ref fa) ->
   ∃fd:IG,(∀(s:k_) (u:h_),MW s fd ⟨[u],[]⟩ [(x,u)]) /\
    ∀base:Gu,(K w.params).In base->base.Ns G3 mg->jk l.prog w (K w.params) mg base (CX w) k fa fd [x] (sp w))(b:∀(w:Hw) (H:Hp) (a:iF) (ns:a0),ns.length<=n->Only H->SqL (K w.params) H a (ns.map V.int)->sp w [.ref a] H (λv _=>v=.bl d_) λ_ _ _=>False)(j:∀(w:Hw) (H:Hp) (s:k_) (e:h_) (s':k_),CX w [] H s (λ_ _ _=>False) e s'->False):
  OS q I O p l.row.toRowW d [] (λf vs=>Kz f vs):=by
 refine Att.yT y i λw m S mg P fa o pm T doc a vs ns G Y Q R A g U J B z=>?_;have r:=D w _ Y;obtain⟨fd,C,N⟩:=F w mg fa _ r G.T.g g;exact law_call r G.T.g G.T.b G.T.builtins G.T.nolimit z U J (C_ B c) t N C (λH L E=>b w H a ns B L E) λH e s'=>j w H S e s'
def inClass(s:G6)(j:Nat):G6:=match s with
 |.ClassDef _ _ _ body _ _ _ _ _ _ _=>body.getD j (.Pass ⟨0,0,0,0⟩)|_=>.Pass ⟨0,0,0,0⟩
def eR(s:G6):Arguments:=match s with
 |.FunctionDef _ a _ _ _ _ _ _ _ _=>a|_=>{posonlyargs:=[],args:=[],vararg:=e_,kwonlyargs:=[],kw_defaults:=[],kwarg:=e_,defaults:=[]}
def cL(s:G6):List G6:=match s with
 |.FunctionDef _ _ b _ _ _ _ _ _ _=>b|_=>[]
def aS(s:G6):Nw:=match s with
 |.FunctionDef _ _ _ _ _ _ sc _ _ _=>sc|_=>{kind:=.function,names:=[],isGenerator:=c_,isCoroutine:=c_}
noncomputable abbrev CX0:CXT:=λ_ _ _ _ _ _=>False
noncomputable abbrev E0:XK:=λ_ _ _=>False
def vR:Passes CX0 X E0:=λ_ _ _ _ _ _ _ h=>h.elim
structure Fun(K:Pn)(x qual:Gf)(st:G6)(f:iF)(fd:IG):Prop where
 ex:∃(oc:h_) (od:Option iF) (kV doc pm:h_) (an:Option iF) (cdv ct:h_) (osl:Array (Option h_)),
  fd=NO x qual (eR st) (cL st) (aS st) .none kV doc pm an cdv ct/\K.lookup f=a_ ⟨oc,od,.func fd,osl⟩/\Om K cdv qual=d_
 kp:KL K (.ref f)=d_
theorem Fun.binds{st:G6}{f:iF}(F:Fun K x qual st f fd)(h:∀(kV doc pm:h_) (an:Option iF) (cdv ct:h_) (us:a8),us.length=ps.length->Nv (NO x qual (eR st) (cL st) (aS st) .none kV doc pm an cdv ct) ⟨us,[]⟩=GW (ps.zip us)):Binds K fd ps []:=by obtain⟨oc,od,kV,doc,pm,an,cdv,ct,osl,rfl,I,B⟩:=F.ex;exact .all (h kV doc pm an cdv ct)
def Ar{st:G6}{f:iF}(l:K.lookup f=a_ ⟨oc,od,.func (NO x qual (eR st) (cL st) (aS st) .none kV doc pm an cdv ct),osl⟩)(c:Om K cdv qual=d_)(k:KL K (.ref f)=d_):Fun K x qual st f (NO x qual (eR st) (cL st) (aS st) .none kV doc pm an cdv ct):=⟨⟨oc,od,kV,doc,pm,an,cdv,ct,osl,rfl,l,c⟩,k⟩
def pv(i:Nat)(j: ~~~(X.N[i]?=a_ x))(b:autoParam (Vis X.env.scope x) Jq5)(U:((x==("__debug__":Gf))=c_)⁻¹)(Y:((x==("__classdict__":Gf))=c_)⁻¹):PE X (.Name x pos) (vi i):=by
    intro B2 s σ H Q I h;obtain⟨v,e,h⟩:=h;obtain⟨m,d,g⟩:=I.loc;obtain⟨u,r,l⟩:=g i x v j e b;have S:EP X B2 σ Q u s:=⟨v,H,I,r,h⟩
    rcases l with⟨J,f⟩|⟨J,c,a,B⟩
    .exact QA (wpAny_loadName_local I.ok.kind J d f S) U
    .rcases J with J|J
     .exact QA (wpAny_loadName_cell I.ok.kind J a B S) U
     .exact QA (wpAny_loadName_free I.ok.kind J a B S Y) U
theorem iteNS{c A B:Prop}[Decidable c](I:c)(h:B):if (!decide c)=d_ then A else B:=by simp_all
def aX(H H':Hp):Prop:=∀b o,H b=a_ o->H' b=a_ o
def aX.refl(H:Hp):aX H H:=λ_ _ h=>h
def aX.trans(a:aX H H1)(b:aX H1 H2):aX H H2:=λc o h=>b c o (a c o h)
theorem aX.free(e:aX H H')(h:H' l=e_):H l=e_:=by
 cases q:H l with
 |none=>rfl|some o=>
  rw[e l o q]at h
  lia
noncomputable def sI(cells:List (Gf×iF)):List (Gf×Jv)->List (Gf×iF)->List (Gf×iF)
 |[],B=>B|(x,k)::r,B=>sI cells r (if (k==F_)=d_ then(x,(cells.lookup x).getD 0)::B else B)
theorem lt_ne(h1:a<n)(B:n<=b):a≠b:=ad
theorem sH{cells:List (Gf×iF)}{x:Gf}{c:iF}:∀(ns:List (Gf×Jv)) (B:List (Gf×iF)),(sI cells ns B).lookup x=a_ c ->
  ((x,F_)∈ns/\c=(cells.lookup x).getD 0)\/B.lookup x=a_ c
 |[],_,h=>.inr h|(y,k)::r,B,h=>by
  unfold sI at h;rcases sH r _ h with⟨m,e⟩|q
  .simp_all
  grind
theorem pZ{cells:List (Gf×iF)}{x:Gf}:∀(ns:List (Gf×Jv)) (B:List (Gf×iF)),((x,F_)∈ns\/(B.lookup x).isSome=d_)->((sI cells ns B).lookup x).isSome=d_
 |[],_,h=>h.elim (λz=>nomatch z) id
 |(y,k)::r,B,h=>by
  unfold sI;refine pZ r _ ?_
  grind
theorem kT{x:Gf}{c:iF}:∀(ns:List (Gf×Jv)) (n:Nat) (B:List (Gf×iF)),(Hy n ns B).lookup x=a_ c->(n<=c/\(x,Ia)∈ns)\/B.lookup x=a_ c
 |[],_,_,h=>.inr h|(y,k)::r,n,B,h=>by
  unfold Hy at h;by_cases I:(k==Ia)=d_
  .rw[p_ I]at h;rcases kT r (n+1) _ h with⟨a,m⟩|q
   .grind
   grind
  .rw[q_ I]at h;rcases kT r n B h with⟨a,m⟩|q
   .simp_all
   .exact .inr q
theorem qf:∀(ns:List (Gf×Jv)) (n:Nat) (B:List (Gf×iF)),(∀x y c,B.lookup x=a_ c->B.lookup y=a_ c->x=y)->(∀x c,B.lookup x=a_ c->c<n) ->
  ∀x y c,(Hy n ns B).lookup x=a_ c->(Hy n ns B).lookup y=a_ c->x=y
 |[],_,_,hi,_=>hi|(z,k)::r,n,B,hi,J=>by
  unfold Hy;by_cases I:(k==Ia)=d_
  .rw[p_ I];refine qf r (n+1) _ (λx y c h1 S=>?_) (λx c h1=>?_)
   .grind
   grind
  .rw[q_ I];exact qf r n B hi J
theorem mm{x:Gf}{c:iF}:∀(ns:List (Gf×Jv)) (h:Gu) (B:List (Gf×iF)),(Hy h.objs.size ns B).lookup x=a_ c ->
  B.lookup x=a_ c\/(h.objs.size<=c/\(pushCells h ns).IsCell c e_)
 |[],_,_,e=>.inl e|(y,k)::r,h,B,e=>by
  unfold Hy at e;unfold pushCells;by_cases I:(k==Ia)=d_
  .rw[p_ I]at e ⊢;have q:=mm (x:=x) (c:=c) r (h.push {cls:=.type "cell",data:=.cell e_}) ((y,h.objs.size)::B) aW;rcases q with q|⟨q1,q2⟩
   .rw[Ht]at q;cases J:x==y with
    |true=>rw[J]at q;have e1:=Hh q;subst e1;exact .inr ⟨i_ _,Heap.IsCell.keeps ⟨_,j_ _ rfl,rfl⟩ (N0 r _)⟩|false=>simp_all
   grind[G9]
  .rw[q_ I]at e ⊢;exact mm r h B e
theorem mB{env:OF}(f:Gf×Jv->List (Gf×iF)->LI (Li (List (Gf×iF))))(J:∀n k cs,f (n,k) cs=if (k==F_)=d_ then(do let a <- cellOf env n;GW (.yield ((n,a)::cs)))else GW (.yield cs)):
  ∀(ns:List (Gf×Jv)) (B:List (Gf×iF)),(∀x∈ns,x.2=F_->∃c,env.cells.lookup x.1=a_ c)->Pq ns B f=(GW (sI env.cells ns B):LI _)
 |[],B,_=>by rfl|(y,k)::r,B,U=>by
  have S:∀x∈r,x.2=F_->∃c,env.cells.lookup x.1=a_ c:=λx b=>U x (Hr _ b);rw[LH,J];unfold sI;by_cases I:(k==F_)=d_
  .rw[p_ I,p_ I];obtain⟨c,e⟩:=U (y,k) Hq (HC I);have Y:env.cells.lookup y=a_ c:=e;have e2:cellOf env y=GW c:=by unfold cellOf;rw[Y]
   rw[e2,Y];exact mB f J r _ S
  .rw[q_ I,q_ I];exact mB f J r _ S
def sG(B:∀x∈scope.names,x.2=F_->∃c,env.cells.lookup x.1=a_ c):closureFor scope env=GW (sI env.cells scope.names []):=by simp only[closureFor];rw[mB (env:=env) _ (λn k cs=>by rfl) scope.names [] B];rfl
theorem DQ{M:P8}{s:k_}{gl:iF}{I:List (Gf×iF)}{B:OF}{Q:OF->k_->Prop}(S:∀h1:Gu,(∀b o,s.heap.get? b=a_ o->h1.get? b=a_ o)->h1.Ns s.heap.objs.size (λ_=>e_) ->
   (∀x c,(Hy (s.heap.objs.size+1) scope.names I).lookup x=a_ c->I.lookup x=a_ c\/(s.heap.objs.size<c/\h1.IsCell c e_)) ->
   Q {scope:=scope,locals:=s.heap.objs.size,globals:=gl,cells:=Hy (s.heap.objs.size+1) scope.names I,qual:=qual,func:=e_,code:=B.code,frame:=B.frame,builtins:=B.builtins} {s with heap:=h1}):
  r_ M A (Oi scope gl I [] qual e_ .none (a_ B)) Q E s:=by
 simp only[Oi,Option.isSome_some,Jw];refine b_ (wpAny_alloc ?_);refine b_ (wpAny_layCells _ (λname J cells=>by rfl) _ _ _ _ ?_);rw[show({s with heap:=s.heap.push {cls:=.type "dict",data:=.dict #[]}}:k_).heap.objs.size=s.z+1 from G9 ..];rw[L5];refine b_ (g_ (g_ ?_));refine S _ (λb o e=>N0 _ _ b o (f_ _ e)) ((Heap.Ns.new s.heap (.type "dict")).keeps (N0 _ _)) λx c e=>?_;have q:=mm (x:=x) (c:=c) scope.names (s.heap.push {cls:=.type "dict",data:=.dict #[]}) I aW
 grind[G9]
theorem rp{env:OF}{x:Gf}:∀{ns:List (Gf×Jv)},ns.lookup x=a_ .free ->
  (ns.map λ(n,k)=>if (k==F_&&env.scope.kind==.function&&env.kindOf n==a_ .cell)then(n,Ia)else(n,k)).lookup x=a_ .cell \/
  (ns.map λ(n,k)=>if (k==F_&&env.scope.kind==.function&&env.kindOf n==a_ .cell)then(n,Ia)else(n,k)).lookup x=a_ .free
 |[],h=>by simp at h|(n,k)::r,h=>by
  have I:=@rp env x r;rw[pk];dsimp only;by_cases J:(k==F_&&env.scope.kind==.function&&env.kindOf n==a_ .cell)=d_
  .rw[p_ J,Ht];cases B:x==n with
   |true=>simp|false=>rw[Ht,B]at h;exact I h
  .rw[q_ J,Ht];cases B:x==n with
   |true=>rw[Ht,B]at h;have e:=Hh h;subst e;simp|false=>rw[Ht,B]at h;exact I h
theorem rq{env:OF}{x:Gf}:∀{ns:List (Gf×Jv)},
  ((ns.map λ(n,k)=>if (k==F_&&env.scope.kind==.function&&env.kindOf n==a_ .cell)then(n,Ia)else(n,k)).lookup x=a_ .cell \/
  (ns.map λ(n,k)=>if (k==F_&&env.scope.kind==.function&&env.kindOf n==a_ .cell)then(n,Ia)else(n,k)).lookup x=a_ .free) ->
  ns.lookup x=a_ .cell\/ns.lookup x=a_ .free
 |[],h=>by simp at h|(n,k)::r,h=>by
  have B:=@rq env x r
  grind
def bo(X:Cx)(N':List Gf)(sc:Nw)(L:iF)(cs:List (Gf×iF))(s:k_)(H:Hp)(fp:List iF):Cx:=
 {X with
  N:=N',s₀:=s,H₀:=H,outer:=X.stack,ex:=fp,pn:=[],xe:=λ_ _=>False
  fn:=λx=> !(sc.names.any λp=>p.1==x&&p.2==F_)
  env:={scope:=relabel sc X.env,locals:=L,globals:=X.env.globals,cells:=cs,qual:=X.env.qual,func:=e_,code:=X.env.code,frame:=X.env.frame,builtins:=X.env.builtins}}
def inS(ix:List (Option Nat))(σ:St):St:=ix.map λo=>match o with
 |none=>e_|some j=>(σ[j]?).join
def bF(N:List Gf)(B:Nw)(N':List Gf)(sc:Nw)(ix:List (Option Nat)):Bool:=
 xF (ix.length=N'.length) &&
 ((x_ ix.length).all λi=>match ix[i]? with
  |some (a_ j)=>(match N'[i]?,N[j]? with
   |some x,a_ y=>x==y&&sc.names.lookup x==a_ F_|_,_=>c_)
  |_=>d_) &&
 (sc.names.all λp=>(p.2 != F_||(B.names.lookup p.1==a_ Ia||B.names.lookup p.1==a_ F_))&&(p.2 != NameKind.local||sc.names.lookup p.1==a_ NameKind.local)) &&
 (sc.names.all λp=>sc.names.all λq=> !(p.1==q.1)||p.2==q.2)
section
variable{s:k_}
def bF.len(ok:bF X.N X.env.scope N' sc ix=d_):ix.length=N'.length:=by unfold bF at ok;rw[m_,m_,m_]at ok;exact Mv ok.1.1.1
theorem bF.at(ok:bF X.N X.env.scope N' sc ix=d_){i j:Nat}{x:Gf}(h:ix[i]?=a_ (a_ j))(B:N'[i]?=a_ x):X.N[j]?=a_ x/\sc.names.lookup x=a_ .free:=by
 unfold bF at ok;rw[m_,m_,m_]at ok;have q:=Hd.mp ok.1.1.2 i (Gv.mpr (n_.mp h).1);rw[h,B]at q;dsimp only at q;cases e:X.N[j]? with
 |none=>rw[e]at q;cases q|some y=>rw[e]at q;dsimp only at q;rw[m_]at q;exact⟨by rw[HC q.1],HC q.2⟩
theorem bF.fr(ok:bF X.N X.env.scope N' sc ix=d_)(h:(x,F_)∈sc.names):X.env.kindOf x=a_ .cell\/X.env.kindOf x=a_ .free:=by
 unfold bF at ok;rw[m_,m_]at ok;have q:=Hd.mp ok.1.2 _ h;rw[m_]at q;have q1:=q.1;rw[Np]at q1;rcases q1 with z|z
 .simp_all
 .rw[Np]at z;exact z.imp (λe=>HC e) λe=>HC e
theorem bF.loc(ok:bF X.N X.env.scope N' sc ix=d_):∀x∈sc.names,x.2=NameKind.local->sc.names.lookup x.1=a_ .local:=λx B e=>by
 unfold bF at ok
 grind
def bF.apart(ok:bF X.N X.env.scope N' sc ix=d_)(h1:(x,Ia)∈sc.names)(B:(x,F_)∈sc.names):False:=by unfold bF at ok;rw[m_]at ok;have q:=Hd.mp (Hd.mp ok.2 _ h1) _ B;simp at q
def pY(I:B5 X B2 σ H s)(ok:bF X.N X.env.scope N' sc ix=d_):∀x∈sc.names,x.2=F_->∃c,X.env.cells.lookup x.1=a_ c:=λx B e=>by obtain⟨n,k⟩:=x;have J:k=F_:=e;subst J;exact I.ok.has n (bF.fr ok B)
theorem EY(I:B5 X B2 σ H s)(ok:bF X.N X.env.scope N' sc ix=d_)(h:(sI X.env.cells sc.names []).lookup x=a_ c):(x,F_)∈sc.names/\X.env.cells.lookup x=a_ c:=by
 rcases sH _ _ h with⟨m,e⟩|z
 .obtain⟨d,B⟩:=pY I ok _ m rfl
  simp_all
 simp_all
theorem comp_inv(I:B5 X B2 σ H s)(d:∀b∈fp,Cj X B2 H b)(Z:∀b∈fp,∃o,s.heap.get? b=a_ o)(ok:bF X.N X.env.scope N' sc ix=d_)(W:sc.kind=.function)(S:s.heap.objs.size<=L)(a:∀b o,s.heap.get? b=a_ o->h1.get? b=a_ o)(ns:h1.Ns L λ_=>e_)(U:∀x c,(Hy (L+1) sc.names (sI X.env.cells sc.names [])).lookup x=a_ c->(sI X.env.cells sc.names []).lookup x=a_ c\/(L<c/\h1.IsCell c e_)):
  B5 (bo X N' sc L (Hy (L+1) sc.names (sI X.env.cells sc.names [])) s H fp) [] (inS ix σ) H {s with heap:=h1}:=by
 have B:∀x c,(sI X.env.cells sc.names []).lookup x=a_ c->(x,F_)∈sc.names/\X.env.cells.lookup x=a_ c/\(∃v,s.heap.IsCell c v)/\c<s.z:=λx c e=>by obtain⟨m,K⟩:=EY I ok e;obtain⟨v,z⟩:=I.cell x c K;exact⟨m,K,⟨v,z⟩,z.lt⟩
 have Y:∀b∈fp,b<s.z:=λb z=>let ⟨o,e⟩:=Z b z;s_ e;have D:∀b∈fp,∀x c,(Hy (L+1) sc.names (sI X.env.cells sc.names [])).lookup x=a_ c->c≠b:=λb z x c e=>by
  have J:=Y b z;rcases U x c e with q|⟨q,_⟩
  .exact(d b z).2.2.2.2.1 x c (B x c q).2.1
  .exact by
    have h1:=(A_ J S)
    lia
 have h:(bo X N' sc L (Hy (L+1) sc.names (sI X.env.cells sc.names [])) s H fp).Ok:=by
  refine⟨I.ok.mod,W,I.ok.glob,I.ok.blt,S,?_,?_,?_,I.ok.hd,I.ok.frames,.inl rfl,?_,I.bs,C_ I.ok.bsz I.sz,?_,?_,I.stack,I.CU⟩
  .refine qf sc.names (L+1) _ (λx y c e1 e2=>I.ok.inj x y c (B x c e1).2.1 (B y c e2).2.1) λx c e=>?_;exact PX (A_ (B x c e).2.2.2 S)
  .intro x P;have n:=rq (env:=X.env) (x:=x) (ns:=sc.names) P;have q:((Hy (L+1) sc.names (sI X.env.cells sc.names [])).lookup x).isSome=d_:=by
    rcases n with z|z
    .exact I9 _ _ _ (.inl z)
    .exact I9 _ _ _ (.inr (pZ _ _ (.inl (Hg z))))
   exact JD.mp q
  .intro x c A e;show s.z<=c;rcases U x c e with q|⟨q,_⟩
   .have m:=(B x c q).1;have F:(!(sc.names.any λp=>p.1==x&&p.2==F_))=d_:=A
    grind
   .exact C_ S (GN q)
  .intro b z;have J:=Y b z;exact⟨FO (A_ J S),D b z⟩
  .intro b o e z;rcases(d b z).2.2.2.1 with q|q
   .exact I.ok.noex b o e q
   .exact FR (A_ (s_ e) (C_ I.ok.bsz q)) (IQ _)
  .intro b z Q;rcases t_.mp (I.vm b Q)with q|q
   .exact(d b z).2.1 q
   .exact(d b z).2.2.1 q
 refine⟨h,rfl,I.bare,Un.kept a,⟨_,ns,λi x v C G h3=>?_⟩,λx c e=>?_,I.hok.fresh S,λx c e=>?_,λp R=>FR R (by simp[bo]),I.hok.kept a,?_⟩
 .have t:∃j,ix[i]?=a_ (a_ j)/\σ[j]?=a_ (a_ v):=by
   unfold inS at G;rw[FL]at G;cases e:ix[i]? with
   |none=>simp_all|some o=>grind
  obtain⟨j,e1,e2⟩:=t;obtain⟨e3,e4⟩:=bF.at ok e1 C;have w:=bF.fr ok (Hg e4);obtain⟨m,hn,T⟩:=I.loc;obtain⟨u,r,l⟩:=T j x v e3 e2 (w.elim (λz=>.inr (.inl z)) λz=>.inr (.inr z));refine⟨u,r,.inr ⟨rp (env:=X.env) (x:=x) (ns:=sc.names) e4,?_⟩⟩
  rcases l with⟨k,_⟩|⟨k,c,e,z⟩
  .simp_all
  .have q1:=pZ (cells:=X.env.cells) sc.names [] (.inl (Hg e4));obtain⟨c2,q2⟩:=JD.mp q1;have E:=(B x c2 q2).2.1;rw[e]at E;cases E;have N:=I9 (x:=x) sc.names (L+1) (sI X.env.cells sc.names []) (.inr q1);obtain⟨c3,g⟩:=JD.mp N;rcases U x c3 g with f|⟨f,q7⟩
   .rw[q2]at f;cases f;exact⟨c,g,z.keeps a⟩
   .exfalso;rcases kT _ _ _ g with⟨_,O⟩|q8
    .exact bF.apart ok O (Hg e4)
    grind
 .rcases U x c e with q|⟨_,q⟩
  .obtain⟨v,z⟩:=(B x c q).2.2.1;exact⟨v,z.keeps a⟩
  .exact⟨_,q⟩
 .rcases U x c e with q|⟨q,_⟩
  .exact I.freeC x c (B x c q).2.1
  .exact I.hok.fresh (C_ S (GN q))
 .show(inS ix σ).length=N'.length;unfold inS;rw[oe];exact bF.len ok
end
def PTs(X:Cx)(ifs:List G4)(t:TT):Prop:=
 ∀(B2:Vp) (s:k_) (σ:St) (H:Hp) (Q:Bool->Hp->Prop),B5 X B2 σ H s->t σ H Q ->
  r_ (y_ X.prog X.w) X.A (Pq ifs d_ λc r=>if r=d_ then do let ok <- Py c X.env (FV c X.env);GW (K8 ok)else GW (K8 r)) (TP X B2 σ Q) X.xe s
noncomputable def tYes:TT:=λ_ H Q=>Q d_ H
def pts_nil:PTs X [] tYes:=λ_ _ _ H _ I h=>wpAny_tests_nil ⟨H,I,h⟩
def mn{c:G4}{t:TT}(h:PT X c t):PTs X [c] t:=λB2 s σ H Q I q=>wpAny_tests_one (h B2 s σ H Q I q)
def xh{R:PD->k_->Prop}{s:k_}{U B:h_}(J:Nat->k_->Prop)(I:∀n s,J n s->r_ (y_ prog w) A (JG U) (λr s1=>match r with
   |none=>R (.ok .next) s1|some v=>r_ (y_ prog w) A (Mg tg U v) (λ_ S=>r_ (y_ prog w) A (JY tg env v) (λ_ s2=>
     r_ (y_ prog w) A (Pq ifs d_ λc r=>if r=d_ then do let ok <- Py c env (FV c env);GW (K8 ok)else GW (K8 r)) (λok Y=>
      if ok=d_ then r_ (y_ prog w) A (FV elt env) (λx d=>r_ (y_ prog w) A (Kz (.builtin "list.append") [B,x]) (λ_ b=>∃m,m<n/\J m b) (λ_ _=>False) d) (λ_ _=>False) Y
      else ∃m,m<n/\J m Y) (λ_ _=>False) s2) (λ_ _=>False) S) (λ_ _=>False) s1) (λ_ _=>False) s)(n:Nat)(h:J n s):KY (y_ prog w) A (.compLoop (.ListComp elt [⟨tg,iter,ifs,0⟩] scope pos) 0 U B env) R s:=by
 refine codeAny_loop rfl J (λn s f=>?_) n h;show r_ _ A ((compTurn (.ListComp elt [⟨tg,iter,ifs,0⟩] scope pos) 0 U B env).onRaise (λx=>do noteFrame x env;theTreesLotGoes x)) _ _ s;refine wpAny_noted ?_;rw[compTurn_list];refine b_ (OI (b_ (GX (I n s f) (λr s1 h1=>?_) λ_ _ z=>z.elim)));cases r with
 |none=>exact g_ h1|some v=>
  refine b_ (GX h1 (λ_ S a=>?_) λ_ _ z=>z.elim);refine b_ (GX a (λ_ s2 j=>b_ (GX j (λok Y e=>?_) λ_ _ z=>z.elim)) λ_ _ z=>z.elim);cases ok with
  |false=>exact g_ ⟨rfl,e⟩|true=>exact b_ (b_ (GX e (λx d i=>b_ (GX i (λ_ b g=>g_ (g_ ⟨rfl,g⟩)) λ_ _ z=>z.elim)) λ_ _ z=>z.elim))
def lW(J:It)(ix:List (Option Nat))(g:TG)(tt:TT)(te:TE)(σ:St)(F:a7->Hp->Prop)(H:Hp):Prop:=
 ∃W:Nat->Nat->a7->Hp->Prop,(∃m,W 0 m [] H)/\∀i m ys H,W i m ys H ->
  (J.stop i H/\ys.length<=o_/\F ys H)\/(J.go i H/\ys.length<=o_/\∃N:a7->Hp->Prop,(∀I H',N I H'->∃S,S<m/\W (i+1) S I H') /\
   ∀x H',J.yld i H x H'->g x (inS ix σ) H' λB H2=>tt B H2 λb U=>if b=d_ then te B U λy Y=>N (ys++[y]) Y else N ys U)
section
variable{s:k_}
def B5.slots0{B:St}(I:B5 X B2 B H s)(h:∀(i:Nat) v,(inS ix σ)[i]?=a_ (a_ v)->B[i]?=a_ (a_ v))(J:(inS ix σ).length=X.N.length):B5 X B2 (inS ix σ) H s:=
 I.weak (by rw[J,I.len]) h
inductive CEnd(X:Cx)(B2:Vp)(σ:St)(F:List V->Hp->Prop)(acc:h_)(L:iF):PD->k_->Prop
 |mk {s':k_} {fl:Flow} {ys:List V} {H2:Hp} {m:Ld} (p:iF) (a:acc=.ref p) (I:B5 X B2 σ (upd H2 p (.lst ys)) s') (n:H2 p=e_) (f:F ys H2) (ns:s'.heap.Ns L m) (u:(upd H2 p (.lst ys)) L=e_) (l:L≠X.env.locals) (z:X.s₀.heap.objs.size<=L) (c:∀x c,X.env.cells.lookup x=a_ c->c≠L) (q:∀q∈X.pn++B2,q.1≠L):CEnd X B2 σ F acc L (.ok fl) s'
theorem xg{g:TG}{J:It}{it:iF}{tn:Nat->Gu->Prop}{F:a7->Hp->Prop}{E:Mq}(hc:X.calm=d_)(I:B5 X B2 σ H s)(T:Turn X.prog X.w X.K tg J fp it tn)(st:tn 0 s.heap)(hf:∀b∈fp,Cj X B2 H b)(ok:bF X.N X.env.scope N' sc ix=d_)(hk:sc.kind=.function)(hg:∀L cs s H fp,PG (bo X N' sc L cs s H fp) tg g)(hkeep:∀x σ' H' (Q:St->Hp->Prop),g x σ' H' Q->g x σ' H' λσ2 H2=>Q σ2 H2/\∀(i:Nat) v,σ'[i]?=a_ (a_ v)->(∃j,ix[i]?=a_ (a_ j))->σ2[i]?=a_ (a_ v))(ht:∀L cs s H fp,PTs (bo X N' sc L cs s H fp) ifs tt)(he:∀L cs s H fp,PE (bo X N' sc L cs s H fp) elt te)(tr:lW J ix g tt te σ F H):
  r_ (y_ X.prog X.w) X.A (QQ []) (λacc s3=>r_ (y_ X.prog X.w) X.A (Oi sc X.env.globals (sI X.env.cells sc.names []) [] X.env.qual e_ .none (a_ X.env)) (λP s4=>KY (y_ X.prog X.w) X.A (.compStart (.ListComp elt [⟨tg,iter,ifs,0⟩] sc pos) 0 (.ref it) acc {P with scope:=relabel sc X.env}) (CEnd X B2 σ F acc P.locals) s4) E s3) E s:=by
 obtain⟨W,⟨m0,w0⟩,turn⟩:=tr;refine Ge (DQ λh1 kp ns G=>?_);dsimp only at kp ns G ⊢;generalize hH2:s.heap.push {cls:=.type "list",dict:=e_,data:=.seq ([]:a8).toArray}=K at kp ns G ⊢;have eL:K.objs.size=s.z+1:=by rw[<- hH2,G9]
 have kp0:∀b o,s.heap.get? b=a_ o->h1.get? b=a_ o:=λb o e=>kp b o (hH2▸f_ _ e);have hD0:h1.PlainList s.z #[]:=⟨_,kp _ _ (hH2▸j_ _ rfl)⟩
 have fpo:∀b∈fp,∃o,s.heap.get? b=a_ o:=λb z=>let ⟨o,e,_⟩:=T.obj 0 _ st b z;⟨o,e⟩;have fpl:∀b∈fp,b<s.z:=λb z=>let ⟨o,e⟩:=fpo b z;s_ e;have sL:s.z<=K.objs.size:=by rw[eL];exact Me _
 have C:s.z<K.objs.size:=by rw[eL];exact Nj _
 have I0:=comp_inv (h1:=h1) I hf fpo ok hk sL kp0 ns G;generalize B:bo X N' sc K.objs.size (Hy (K.objs.size+1) sc.names (sI X.env.cells sc.names [])) s H fp=Y at I0;have p:Y.prog=X.prog:=by subst B;rfl
 have m:Y.w=X.w:=by subst B;rfl
 have eY3:Y.K=X.K:=by subst B;rfl
 have eY4:Y.calm=d_:=by subst B;exact hc
 have l:Y.A=X.A:=by subst B;rfl
 have S:Y.env={scope:=relabel sc X.env,locals:=K.objs.size,globals:=X.env.globals,cells:=Hy (K.objs.size+1) sc.names (sI X.env.cells sc.names []),qual:=X.env.qual,func:=e_,code:=X.env.code,frame:=X.env.frame,builtins:=X.env.builtins}:=by subst B;rfl
 have eY7:Y.xe=λ_ _=>False:=by subst B;rfl
 have eY8:Y.pn=[]:=by subst B;rfl
 have eY9:Y.fs=frs X.stack:=by subst B;rfl
 have O:Y.s₀=s:=by subst B;rfl
 have eY11:Y.H₀=H:=by subst B;rfl
 have eY12:Y.ex=fp:=by subst B;rfl
 have eY13:Y.N=N':=by subst B;rfl
 have hgY:PG Y tg g:=by subst B;exact hg _ _ _ _ _
 have htY:PTs Y ifs tt:=by subst B;exact ht _ _ _ _ _
 have heY:PE Y elt te:=by subst B;exact he _ _ _ _ _
 have lenI:(inS ix σ).length=Y.N.length:=by rw[eY13];unfold inS;rw[oe];exact bF.len ok
 have t:∀(b:iF),b<=K.objs.size->(∀x c,X.env.cells.lookup x=a_ c->c≠b)->∀x c,Y.env.cells.lookup x=a_ c->c≠b:=λb U hx x c e=>by
  rw[S]at e;rcases G x c e with q|⟨q,_⟩
  .exact hx x c (EY I ok q).2
  lia
 have N:∀x c,X.env.cells.lookup x=a_ c->c<s.z:=λx c e=>let ⟨v,z⟩:=I.cell x c e;z.lt;have nfs:∀b,s.z<=b->b∉frs X.stack:=λb U z=>by
  rcases t_.mp (I.vm b z)with q|q
  .exact lt_ne I.lt U q.symm
  .exact I.nofs U q
 have fpY:∀(pp:Vp) (H':Hp),(∀b∈fp,H' b=e_)->(∀q∈pp,q.1∉fp)->∀b∈fp,Cj Y pp H' b:=λpp H' hn hq b z=>by
  have hlt:=fpl b z;refine⟨hn b z,?_,?_,.inl aW,t b (GN (Ox hlt C)) ((hf b z).2.2.2.2.1),λq hq' e=>?_⟩
  .rw[S];exact lt_ne hlt sL
  .rw[eY9];intro hs;rcases t_.mp (I.vm b hs)with q|q
   .exact(hf b z).2.1 q
   .exact(hf b z).2.2.1 q
  grind
 have Dfp:s.z∉fp:=λz=>FR (fpl _ z) (IQ _);have Dok:∀(pp:Vp) (H':Hp),H' s.z=e_->(∀q∈pp,q.1≠s.z)->Cj Y pp H' s.z:=λpp H' hn hq=>by
  refine⟨hn,?_,by rw[eY9];exact nfs _ (i_ _),.inr (by rw[O];exact i_ _),t _ sL (λx c e=>FO (N x c e)),λq hq'=>?_⟩
  .rw[S];exact FO C
  .rw[eY8]at hq';exact hq q (by simpa using hq')
 have a:KY (y_ X.prog X.w) X.A (.compLoop (.ListComp elt [⟨tg,iter,ifs,0⟩] sc pos) 0 (.ref it) (.ref s.z) Y.env) (CEnd X B2 σ F (.ref s.z) K.objs.size) {s with heap:=h1}:=by
  refine xh (λn s'=>∃i ys its H',B5 Y [] (inS ix σ) H' s'/\tn i s'.heap/\(∀b∈fp,H' b=e_)/\H' s.z=e_/\s'.heap.PlainList s.z its/\C' ys its.toList/\W i n ys H') ?_ m0
   ⟨0,[],#[],H,I0,T.keep _ _ _ st λb _ o e=>kp0 b o e,λb z=>(hf b z).1,I.hok.fresh (i_ _),hD0,.nil,w0⟩
  rintro n s3 ⟨i,ys,its,H3,I3,st3,fr3,h,pl3,w,w3⟩;obtain⟨D,oD⟩:=pl3;have hpD:∀q∈[((s.z:iF),({cls:=.type "list",data:=.seq its D}:Mx))],q.1∉fp:=λq hq=>by have:q=_:=Gi.mp hq;rw[this];exact Dfp
  have I3':B5 Y [((s.z:iF),({cls:=.type "list",data:=.seq its D}:Mx))] (inS ix σ) H3 s3:=I3.tJ λq hq=>by grind
  rcases turn i n ys H3 w3 with⟨stop,ln,qn⟩|⟨go,ln,NN,hNN,step⟩
  .have h1:=T.done Y p m eY3 eY4 i _ s3 _ H3 (λ_ _=>False) I3' (fpY _ H3 fr3 hpD) st3 stop;rw[l]at h1;refine GX h1 (λr s4 f=>?_) λ_ _ z=>z;obtain⟨hr,I4⟩:=f;subst hr;obtain⟨oD4,hD4,_⟩:=I4.pin ((s.z:iF),({cls:=.type "list",data:=.seq its D}:Mx)) am;obtain⟨m4,hn4,_⟩:=I4.loc;rw[S]at hn4;refine .mk s.z rfl ?_ h qn hn4 ?_ ?_ ?_ ?_ ?_
   .have A:Un (frs X.stack) fp H H3 s.heap s4.heap:=by
     have:=I4.base;rw[eY9,O,eY11,eY12]at this;exact this
    have hok4:HOk H3 s4.heap:=I4.hok;refine I.call' (ch:=fp) (by have:=I4.os;lia) ⟨A.keep,A.slot,λb o e nn hx=>?_,A.there,λb xs q=>?_,λb o u q=>?_,λb ps q=>?_⟩ (λb u e=>?_) I4.bare (λb U=>?_)
    .rw[ax (FO (s_ e))];exact A.free b o e nn hx
    .rw[ax (aC (A.tups b xs q) h)];exact A.tups b xs q
    .rw[ax (aC (A.frzs b o u q) h)];exact A.frzs b o u q
    .obtain⟨more,z⟩:=A.tbls b ps q
     grind[ax]
    .by_cases U:b=s.z
     .subst U;rw[av]at e;cases e;exact⟨ln,its.toList,D,w,by simpa using oD4⟩
     .rw[ax U]at e;exact(hok4 b u e).stay (λ_ _ _ q=>q) (λc q=>by rw[ax (aC q h)];exact q) λc xs q=>by rw[ax (aC q h)];exact q
    .obtain⟨f0,f1,f2,f3,f4,f5⟩:=hf b U;exact⟨f3,f1,f4,f5⟩
   .rw[ax (HG C)];have:=I4.free;rw[S]at this;exact this
   .exact HG (Ox I.lt C)
   .exact C_ I.sz sL
   .exact λx c e=>lt_ne (N x c e) sL
   .exact λq hq=>lt_ne (s_ (I.pin q hq).1) sL
  .have h1:=T.item Y p m eY3 eY4 i _ s3 _ H3 (λ_ _=>False) I3' (fpY _ H3 fr3 hpD) st3 go;rw[l]at h1;refine GX h1 (λr s4 f=>?_) λ_ _ z=>z;obtain⟨u,hr,h4⟩:=f;subst hr;refine GX h4 (λ_ s5 f=>?_) λ_ _ z=>z;obtain⟨x,H5,I5,r5,y5,st5,fr5⟩:=f;have I5':=I5.pinned (fpY _ H5 fr5 hpD) (T.obj _ _ st5);have h5:=hgY _ s5 _ H5 x u _ I5' r5 (hkeep x _ H5 _ (step x H5 y5));rw[p,m,l,eY7]at h5;refine GX h5 (λ_ s6 f=>?_) λ_ _ z=>z;obtain⟨σ6,H6,I6,q6,k6⟩:=f;have h6:=htY _ s6 σ6 H6 _ I6 q6;rw[p,m,l,eY7]at h6;refine GX h6 (λb s7 f=>?_) λ_ _ z=>z;obtain⟨H7,I7,q7⟩:=f;have R:∀{s8:k_} {Z:Hp},B5 Y ([((s.z:iF),({cls:=.type "list",data:=.seq its D}:Mx))]++vP fp s5.heap) σ6 Z s8->B5 Y [] (inS ix σ) Z s8/\tn (i+1) s8.heap/\(∀b∈fp,Z b=e_)/\Z s.z=e_/\s8.heap.get? s.z=a_ {cls:=.type "list",data:=.seq its D}:=λ{s8 Z} I8=>by
    obtain⟨a1,a2,_⟩:=I8.pin ((s.z:iF),({cls:=.type "list",data:=.seq its D}:Mx)) am;refine⟨(I8.tJ (pins':=[]) λ_ z=>nomatch z).slots0 (λk v e=>?_) lenI,T.keep _ _ _ st5 λb U o e=>(I8.pin (b,o) (FP _ (FP _ (jY U e)))).1,λb U=>?_,a2,a1⟩
    .refine k6 k v e ?_;unfold inS at e;rw[FL]at e;cases e2:ix[k]? with
     |none=>rw[e2]at e;cases e|some o=>
      cases o with
      |none=>rw[e2]at e;cases e|some j=>exact⟨j,rfl⟩
    .obtain⟨o,e,d⟩:=T.obj _ _ st5 b U;exact(I8.pin (b,o) (FP _ (FP _ (jY U e)))).2.1
   cases b with
   |false=>rw[q_ Gj]at q7 ⊢;obtain⟨m',hm,w7⟩:=hNN _ _ q7;obtain⟨b1,b2,b3,b4,b5⟩:=R I7;exact⟨m',hm,i+1,ys,its,H7,b1,b2,b3,b4,⟨D,b5⟩,w,w7⟩
   |true=>
    rw[p_ rfl]at q7 ⊢;have h7:=heY _ s7 σ6 H7 _ I7 q7;rw[p,m,l,eY7,S]at h7;rw[S];refine GX h7 (λuu s8 f=>?_) λ_ _ z=>z;obtain⟨y,Z,I8,r8,q8⟩:=f;obtain⟨m',hm,w8⟩:=hNN _ _ q8;obtain⟨b1,b2,b3,b4,b5⟩:=R I8;have ez:its.size<=o_:=by
     have h1:=w.length;have h2:its.toList.length=its.size:=by simp
     lia
    refine wpAny_list_append_plain (hsz:=ez) ⟨D,b5⟩ λh9 pl9 sb9=>?_;obtain⟨d0,d1,d2,d3,d4,d5⟩:=Dok [] Z b4 (λ_ z=>nomatch z);refine⟨m',hm,i+1,ys++[y],its.push uu,Z,b1.turned (t':=s8.toks) (λb o U e=>(sb9.2 b U).trans e) d0 d1 d3 d4 d5,T.keep _ _ _ b2 λb U o e=>(sb9.2 b ?_).trans e,b3,b4,pl9,?_,w8⟩
    .lia
    .rw[Array.toList_push];exact w.append (.cons r8 .nil)
 rw[S]at a;exact codeAny_compStart_list a (T.self X.A 0 _ _ _ (T.keep _ _ _ st λb _ o e=>kp0 b o e) a)
end
def tComp(wi:TI)(ix:List (Option Nat))(g:TG)(tt:TT)(te:TE):TE:=λσ H Q=>wi σ H λJ H1=>lW J ix g tt te σ (λys H2=>∀p,H2 p=e_->Q (.ref p) (upd H2 p (.lst ys))) H1
def n6(ix:List (Option Nat))(g:TG):Prop:=∀x B H' (Q:St->Hp->Prop),g x B H' Q->g x B H' λI H2=>Q I H2/\∀(i:Nat) v,B[i]?=a_ (a_ v)->(∃j,ix[i]?=a_ (a_ j))->I[i]?=a_ (a_ v)
def aK(h:ix[k]?=a_ e_):n6 ix (jm k):=λx I H' Q q=>⟨q,λi v e ⟨j,B⟩=>by
 have:k≠i:=by rintro rfl;rw[h]at B;cases B
 rw[tF this];exact e⟩
section
variable{wi:TI}{g:TG}
def pe_comp(N':List Gf)(ix:List (Option Nat))(t:X.calm=d_)(hi:PI X tg iter wi)(m:∀L cs s H fp,PG (bo X N' sc L cs s H fp) tg g)(l:n6 ix g)(d:∀L cs s H fp,PTs (bo X N' sc L cs s H fp) ifs tt)(n:∀L cs s H fp,PE (bo X N' sc L cs s H fp) elt te)(ok: ~~~(bF X.N X.env.scope N' sc ix=d_))(S: ~~~(sc.kind=.function))(f:autoParam (∀x,Ii iter X.env x=GW x) Jq3):
  PE X (.ListComp elt [⟨tg,iter,ifs,0⟩] sc pos) (tComp wi ix g tt te):=by
 intro B2 s σ H Q I h;rw[eval_ListComp];refine OM (use:=e_) rfl f (sG (pY I ok)) S (bF.loc ok) (D' (hi B2 s σ H _ I h) λv s1 h1=>D' h1 λc s2 z=>?_);obtain⟨W,fp,O,J,H2,e,N,T,B,f2,Y⟩:=z;subst e;refine D' (xg t N T B f2 ok S m l d n Y) λG R y=>D' y λU P w=>JM w λr a i=>?_;obtain⟨p,e2,K,j,q,k,F,E,D,C,A⟩:=i;subst e2;exact⟨_,k,λh' sb=>⟨.ref p,_,K.turned (t':=a.toks) (λb o u e=>(sb.2 b u).trans e) F E (.inr D) C A,rfl,q p j⟩⟩
def lg(j:Nat)(wi:TI)(ix:List (Option Nat))(g:TG)(tt:TT)(te:TE):TS:=λD σ H=>wi σ H λJ H1=>lW J ix g tt te σ (λys H2=>∀p,H2 p=e_->D.nx (σ.set j (a_ (.ref p))) (upd H2 p (.lst ys))) H1
theorem mq(N':List Gf)(ix:List (Option Nat)){y:Gf}(R:X.N.Nodup)(F:X.N[j]?=a_ y)(d:X.env.scope.names.lookup y=a_ .local)(N:X.calm=d_)(hi:PI X tg iter wi)(G:∀L cs s H fp,PG (bo X N' sc L cs s H fp) tg g)(E:n6 ix g)(t:∀L cs s H fp,PTs (bo X N' sc L cs s H fp) ifs tt)(K:∀L cs s H fp,PE (bo X N' sc L cs s H fp) elt te)(Y: ~~~(HM (.ListComp elt [⟨tg,iter,ifs,0⟩] sc pos) (a_ (.Name y py)) spos.line X.env=GW d_))(ok: ~~~(bF X.N X.env.scope N' sc ix=d_))(f: ~~~(sc.kind=.function))(u:autoParam (∀x,Ii iter X.env x=GW x) Jq3):
  PS X (.Assign [.Name y py] (.ListComp elt [⟨tg,iter,ifs,0⟩] sc pos) spos) (lg j wi ix g tt te):=by
 intro B2 s σ H D I h;rw[exec_Assign_Name_used _ _ _ _ Y];refine b_ (OI (b_ ?_));show r_ _ X.A (do let _ <- comprehension (.ListComp elt [⟨tg,iter,ifs,0⟩] sc pos) sc X.env _ (QQ []) c_ (FV iter X.env) (a_ (JY (.Name y py) X.env))) _ _ s;refine b_ (GX (OM (use:=a_ (JY (.Name y py) X.env)) (Q:=λ_ s'=>SP X B2 D .next s') rfl u (sG (pY I ok)) f (bF.loc ok) (D' (hi B2 s σ H _ I h) λv s1 h1=>D' h1 λn s2 h2=>?_)) (λ_ s' A=>g_ (g_ A)) λ_ _ z=>z);obtain⟨it,fp,tn,J,H2,e,I2,T,S,f2,k⟩:=h2;subst e;refine D' (xg N I2 T S f2 ok f G E t K k) λacc s3 Z=>D' Z λB s4 W=>JM W λr m w=>?_;obtain⟨p,e2,I5,c,q,C,c0,c1,c2,i,c4⟩:=w;subst e2;show r_ _ X.A (JY (.Name y py) X.env (.ref p)) _ _ m;refine QM (vk (v:=.ref p) I5 R F (.inl d) rfl (λl I6 c=>?_) (.inr d));obtain⟨a,sb,P⟩:=c;have ea:B.locals≠a:=by
  rcases P with z|z
  .simp_all
  .exact λe=>i y a z e.symm
 refine⟨_,C.sameBut sb ea,λh' U=>?_⟩
 exact⟨_,_,I6.turned (t':=l.toks) (λb o O e=>(U.2 b O).trans e) c0 c1 (.inr c2) i c4,q p c⟩
end
theorem AN:∀{B:List Bool} {us:a8},C' (B.map V.bl) us->LSm.BoolsAre us B
 |[],_,.nil=>.nil|b::r,_,.cons e t=>by cases e;exact .cons b (AN t)
def call_all(j:X.calm=d_):eD X (.builtin "all") (λxs H Q=>∃(a:iF) (B:List Bool),xs=[.ref a]/\SqL X.K H a (B.map V.bl)/\Q (.bl (B.all id)) H):=by
 intro B2 s σ H xs us Q I r h;obtain⟨a,B,rfl,f,q⟩:=h;obtain⟨u,rfl,d⟩:=r.one;cases d;obtain⟨its,c,p,hz⟩:=I.list f;have U:=AN c;have S:=p.isList;have J:a<s.z:=by obtain⟨_,e,_⟩:=S;exact s_ e
 refine call_all_walk (Kb S ?_);refine⟨s.z,[s.z,a],[s.z],its.toArray.size,_,_,λi=>(B[i]?).getD d_,rfl,Q2 (A:=X.A.in1) (I.ok.hd j) _ a (FO J) its.toArray,
  ⟨⟨_,j_ _ rfl,rfl,rfl⟩,S.push _⟩,λi v s' l m k Y=>?_,λh' tk g=>?_⟩
 .obtain⟨b,e,rfl⟩:=U.get i v (by simpa using k);simp only[e,MX]at Y;exact Hm Y
 .have e:((x_ its.toArray.size).all λi=>(B[i]?).getD d_)=B.all id:=by
   rw[GJ,U.length];exact LSm.range_all B
  rw[e];exact⟨.bl (B.all id),H,I.kept (LSm.kept_iter g),rfl,q⟩
def C'.atA(r:C' xs us)(h:j<us.toArray.size):∃x,xs[j]?=a_ x/\B' x us.toArray[j]:=by
 have B:=r.length;have I:j<xs.length:=by rw[B];simpa using h
 obtain⟨u,e1,e2⟩:=r.get (i:=j) (x:=xs[j]) am;refine⟨xs[j],by simp[I],?_⟩
 have:us.toArray[j]=u:=by
  have h':j<us.length:=by simpa using h
  rw[v_ h']at e1;simpa using Hh e1
 rw[this];exact e2
def pe_tyN{T:String}(S:Gl X x)(J:X.mg x=e_)(B:Ir x=a_ (.type T))(I:(x≠"__name__")⁻¹)(U:((x==("__debug__":Gf))=c_)⁻¹):PE X (.Name x pos) (tC (.ty T)):=pe_bltn (v:=.ty T) S J B rfl I U
def pe_gint{n:Int}(I:Gl X x)(B:∃t,X.mg x=a_ (.int n t))(J:((x==("__debug__":Gf))=c_)⁻¹):PE X (.Name x pos) (tC (.int n)):=by obtain⟨t,e⟩:=B;exact pe_glob (v:=.int n) I e ⟨t,rfl⟩ J
section
variable{base:Gu}
theorem Fun.okX{st:G6}{f:iF}(F:Fun K x qual st f fd)(S:j6 N ps (aS st))(I:∀vs H Q E,sp vs H Q E->vs.length=ps.length)(B:∀(cdv:h_) (A:HL) (outer:List OF) (s:k_) (H:Hp) (vs:a7) (Q:VK) (E:XK),ji k (A.deeper (LF qual (aS st) s.heap.objs.size f cdv))->sp vs H Q E ->
   ∃t,PSs (cxOf CX P w K mg base N qual (aS st) f cdv A outer s H E).nox (cL st) t/\t {nx:=λ_ H'=>Q .non H',rt:=Q} (start N vs) H):jk P w K mg base CX (k+1) f fd ps sp:=by
 obtain⟨oc,od,kV,doc,pm,an,cdv,ct,osl,rfl,Y,U⟩:=F.ex;refine fn_of Y U S I λA outer s H vs Q E a J=>?_;obtain⟨t,h,q⟩:=B cdv A outer s H vs Q E a J;exact⟨t,h.nox,q⟩
structure Def(K:Pn)(mg:Ld)(x:Gf)(st:G6)(ps:List Gf)(f:iF)(fd:IG):Prop where
 fn:Fun K x x st f fd
 mg:mg x=a_ (.ref f)
 bd:Binds K fd ps []
def def_of(I:K.In h)(G:h.Ns G3 mg){st:G6}{f:iF}(a:nsIn K G3 x=a_ (a_ (.ref f)))(l:K.lookup f=a_ ⟨oc,od,.func (NO x x (eR st) (cL st) (aS st) .none kV doc pm an cdv ct),osl⟩)(c:Om K cdv x=d_)(k:KL K (.ref f)=d_)(B:∀(kV doc pm:h_) (an:Option iF) (cdv ct:h_) (us:a8),us.length=ps.length->Nv (NO x x (eR st) (cL st) (aS st) .none kV doc pm an cdv ct) ⟨us,[]⟩=GW (ps.zip us)):
  Def K mg x st ps f (NO x x (eR st) (cL st) (aS st) .none kV doc pm an cdv ct):=
 ⟨Ar l c k,mg_of I G a,(Ar l c k).binds B⟩
structure Mth(K:Pn)(C:iF)(x qual:Gf)(st:G6)(ps:List Gf)(f:iF)(fd:IG):Prop where
 fn:Fun K x qual st f fd
 mt:Meth K C x f
 bd:Binds K fd ps []
structure Kls(K:Pn)(mg:Ld)(x:Gf)(C:iF):Prop where
 cl:Cls K C
 mg:mg x=a_ (.ref C)
 mks:QT K C=d_
 kp:KL K (.ref C)=d_
 c1:KN K (.ref C) "__class__"=a_ (a_ (.builtin "object.__class__"))
 c2:O9 K (.builtin "object.__class__") "__get__"=a_ (a_ (.builtin "getset_descriptor.__get__"))
 c3:O8 K (.builtin "object.__class__")=a_ d_
 c4:PU K C (.type "object")=a_ d_
end
def pg_c{s:k_}(J:N'.Nodup)(hi:N'[i]?=a_ x)(B:Loc (bo X N' sc L cs s H fp).env.scope x)(I:autoParam ((bo X N' sc L cs s H fp).fn x=d_\/(bo X N' sc L cs s H fp).env.scope.names.lookup x=a_ .local) Jq4):PG (bo X N' sc L cs s H fp) (.Name x pos) (jm i):=yf J hi B I
theorem aX.upd{H:Hp}{a:iF}{o:HO}(h:H a=e_):aX H (upd H a o):=λb u e=>by rw[ax (aC e h)];exact e
section
variable{f:iF}{dvs:List V}{ds:List h_}{E:XK}{m:Gf}{p:NV}{es:List G4}{t:TA}
structure Stat(K:Pn)(C:iF)(mc:h_)(m:Gf)(f:iF):Prop where
 s1:O9 K (.ref C) "__getattribute__"=a_ (a_ (.builtin "type.__getattribute__"))
 s2:O_ K C mc=d_
 s3:Pb K (.ref C) mc m=a_ (.val (.ref f))
 s4:KL K (.ref f)=d_
def pe_cmeth(S:Stat X.K C mc m f)(i:Gl X x)(g:X.mg x=a_ (.ref C))(F:jk X.prog X.w X.K X.mg X.base CX k f fd ps sp)(c:ji k X.A)(l:Binds X.K fd ps ds)(j:C' dvs ds)(a:Passes CX X E)(n:PA X (e::es) t)(U:((x==("__debug__":Gf))=c_)⁻¹)(B: ~~~(l_ (e::es) X.env=(c_,FV e X.env)::l_ es X.env))(J: ~~~((Hi pos (l_ es X.env)).any (·.1)=c_))(b: ~~~(FV (.Call (.Attribute (.Name x p) m apos) (e::es) [] pos) X.env=(do
   let ov <- FV (.Name x p) X.env
   Lv apos.atName
   let (f,first) <- II [ov] (MS ov m pl)
   P6 pos f first (Hi pos (l_ (e::es) X.env)) (Lb pos (JI [] X.env))))):
  PE X (.Call (.Attribute (.Name x p) m apos) (e::es) [] pos) (tCall sp dvs E t):=by
 intro B2 s σ H Q I h;refine Lr (pl:=pl) (tZ I i g ?_ U) b;refine PySem.W.method_cls I.kIn S.s1 (PySem.W.cls_value I.kIn S.s2 S.s3 rfl ?_);refine Oo (first:=[]) (h₀:=X.base) I.ok.mod.kin S.s4 (D' (n pos B2 _ σ H _ (I.tok (s.toks+1)) h) λus s2 d=>?_) B J;obtain⟨vs,H2,Y,r,q2⟩:=d;refine⟨Y.kIn,?_⟩
 exact zy (us:=us) (vs:=vs) F c l j a Y r q2
end
section
variable{a:G4}
def aX.tup{a:iF}(e:aX H H')(h:SqT K H a xs):SqT K H' a xs:=by
 rcases h with(h|⟨o,h⟩)|h
 .exact .inl (.inl (e _ _ h))
 .exact .inl (.inr ⟨o,e _ _ h⟩)
 .exact .inr h
end
set_option genSizeOf true in
set_option genInjectivity true in
inductive A' where
 |non|bl (b:Bool)|int (i:Int)|tup (ds:List A')|lst (ds:List A')|ins (C:iF) (fs:List (Gf×A'))|dic (ks:List (List Int×A'))|dil (ks:List (Int×List (List Int)))
variable{d:A'}{ds rs:List A'}{ks:List (List Int×A')}
noncomputable abbrev gn:=a0×iF×V
noncomputable def vj(ks:a0):Int:=La (Ga (ks.map hashInt))
def Cm(x:a0×iF×h_):HA:=⟨vj x.1,.ref x.2.1,x.2.2⟩
def e8(p:gn)(q:a0×iF×h_):Prop:=p.1=q.1/\p.2.1=q.2.1/\B' p.2.2 q.2.2
inductive qr(h:Gu)(a:iF)(xs:List gn)(ep:Nat):Prop
 |mk (vs:List (List Int×iF×h_)) (r:I_ e8 xs vs) (m:(a==G5)=c_) (z:xs.length<=o_) (n:(vs.map (·.1)).Nodup) (o:Mx) (es:Array HA) (g:h.get? a=a_ o) (x:o.ExactDict) (d:o.data=.dict es ep) (e:es.toList=vs.map Cm)
noncomputable def iJ(a:iF)(xs:List gn)(ep:Nat):HO:=.ext λh=>qr h a xs ep
noncomputable abbrev LK:=Int×List a0
abbrev a9:=List LK
def lHash(k:LK):Int:=La (Ga [hashInt k.1,La (Ga (k.2.map vj))])
def rowL(x:LK×iF):HA:=⟨lHash x.1,.ref x.2,.bool d_⟩
inductive Ck(h:Gu)(a:iF)(xs:List (LK×iF))(ep:Nat):Prop
 |mk (m:(a==G5)=c_) (z:xs.length<=o_) (n:(xs.map (·.1)).Nodup) (o:Mx) (es:Array HA) (g:h.get? a=a_ o) (x:o.ExactDict) (d:o.data=.dict es ep) (e:es.toList=xs.map rowL)
noncomputable def xA(a:iF)(xs:List (LK×iF))(ep:Nat):HO:=.ext λh=>Ck h a xs ep
inductive ko(K:Pn)(F:Hp)(b:iF)(k:LK):Prop
 |mk (r:iF) (bs:List iF) (p:SqT K F b [V.int k.1,V.ref r]) (q:SqT K F r (bs.map V.ref)) (l:bs.length=k.2.length) (z:∀(j:Nat) (row:List Int) (c:iF),k.2[j]?=a_ row->bs[j]?=a_ c->SqT K F c (row.map V.int))
def yW(K:Pn)(F:Hp)(ks:a9)(xs:List (LK×iF)):Prop:=xs.map (·.1)=ks/\∀x∈xs,ko K F x.2 x.1
inductive AtX{α:Type}(S:iF->α->Prop)(P:α->Prop)(v:V):Prop
 |mk (a:iF) (xs:α) (e:v=.ref a) (q:S a xs) (r:P xs)
inductive CnsK(k:List Int)(S:iF->Prop)(P:V->Prop)(R:List gn->Prop)(xs:List gn):Prop
 |mk (b:iF) (v:V) (r:List gn) (e:xs=(k,b,v)::r) (t:S b) (p:P v) (z:R r)
inductive CnsF(f:Gf)(P:V->Prop)(R:List (Gf×V)->Prop)(fs:List (Gf×V)):Prop
 |mk (v:V) (r:List (Gf×V)) (e:fs=(f,v)::r) (p:P v) (t:R r)
inductive Cns{α:Type}(P:α->Prop)(R:List α->Prop)(xs:List α):Prop
 |mk (v:α) (vs:List α) (e:xs=v::vs) (p:P v) (r:R vs)
mutual
noncomputable def bf(K:Pn)(F:Hp):A'->V->Prop
 |.non,v=>v=.non|.bl b,v=>v=.bl b|.int i,v=>v=.int i|.tup ds,v=>AtX (SqT K F) (ay K F ds) v|.lst ds,v=>AtX (SqL K F) (ay K F ds) v|.ins C gs,v=>∃a dx fs,v=.ref a/\F a=a_ (.ins C dx fs)/\kX K F gs fs
 |.dic ks,v=>AtX (λa xs=>∃ep,F a=a_ (iJ a xs ep)) (bA K F ks) v
 |.dil ks,v=>AtX (λa xs=>∃ep,F a=a_ (xA a xs ep)) (yW K F ks) v
noncomputable def ay(K:Pn)(F:Hp):List A'->a7->Prop
 |[],xs=>xs=[]|d::ds,xs=>Cns (bf K F d) (ay K F ds) xs
noncomputable def kX(K:Pn)(F:Hp):List (Gf×A')->List (Gf×V)->Prop
 |[],fs=>fs=[]|(f,d)::gs,fs=>CnsF f (bf K F d) (kX K F gs) fs
noncomputable def bA(K:Pn)(F:Hp):List (a0×A')->List gn->Prop
 |[],xs=>xs=[]|(k,d)::ks,xs=>CnsK k (λb=>SqT K F b (k.map .int)) (bf K F d) (bA K F ks) xs
end
mutual
noncomputable def eC:A'->Bool
 |.tup ds=>lR ds|.lst _=>c_|.ins _ _=>c_|.dic _=>c_|.dil _=>c_|_=>d_
noncomputable def lR:List A'->Bool
 |[]=>d_|d::ds=>eC d&&lR ds
end
def aX.lst(e:aX H H')(h:SqL K H a xs):SqL K H' a xs:=by
 rcases h with(h|⟨o,h⟩)|h
 .exact .inl (.inl (e _ _ h))
 .exact .inl (.inr ⟨o,e _ _ h⟩)
 .exact .inr h
def ko.mono(s:aX F F'){k:LK}(h:ko K F b k):ko K F' b k:=
 let ⟨r,U,S,J,l,I⟩:=h;⟨r,U,s.tup S,s.tup J,l,λj B c e1 e2=>s.tup (I j B c e1 e2)⟩
theorem yW.mono{K:Pn}{F F':Hp}(s:aX F F'){ks:a9}{xs:List (LK×iF)}(h:yW K F ks xs):yW K F' ks xs:=⟨h.1,λx B=>(h.2 x B).mono s⟩
mutual
theorem bf.mono{K:Pn}{F F':Hp}(s:aX F F'):∀{d:A'} {v:V},bf K F d v->bf K F' d v
 |.non,_,h=>h|.bl _,_,h=>h|.int _,_,h=>h|.tup _,_,⟨a,xs,e,q,r⟩=>⟨a,xs,e,s.tup q,ay.mono s r⟩|.lst _,_,⟨a,xs,e,q,r⟩=>⟨a,xs,e,s.lst q,ay.mono s r⟩|.ins _ _,_,⟨a,dx,fs,e,q,r⟩=>⟨a,dx,fs,e,s _ _ q,kX.mono s r⟩|.dic _,_,⟨a,xs,e,⟨ep,q⟩,r⟩=>⟨a,xs,e,⟨ep,s _ _ q⟩,bA.mono s r⟩|.dil _,_,⟨a,xs,e,⟨ep,q⟩,r⟩=>⟨a,xs,e,⟨ep,s _ _ q⟩,yW.mono s r⟩
theorem ay.mono{K:Pn}{F F':Hp}(s:aX F F'):∀{ds:List A'} {xs:a7},ay K F ds xs->ay K F' ds xs
 |[],_,h=>h|_::_,_,⟨v,vs,e,q,r⟩=>⟨v,vs,e,bf.mono s q,ay.mono s r⟩
theorem kX.mono{K:Pn}{F F':Hp}(s:aX F F'):∀{gs:List (Gf×A')} {fs:List (Gf×V)},kX K F gs fs->kX K F' gs fs
 |[],_,h=>h|(_,_)::_,_,⟨v,r,e,q,t⟩=>⟨v,r,e,bf.mono s q,kX.mono s t⟩
theorem bA.mono{K:Pn}{F F':Hp}(s:aX F F'):∀{ks:List (a0×A')} {xs:List gn},bA K F ks xs->bA K F' ks xs
 |[],_,h=>h|(_,_)::_,_,⟨b,v,r,e,t,q,z⟩=>⟨b,v,r,e,s.tup t,bf.mono s q,bA.mono s z⟩
end
mutual
theorem bf.flat{K:Pn}{F F':Hp}(s:∀a xs,SqT K F a xs->SqT K F' a xs):∀{d:A'} {v:V},eC d=d_->bf K F d v->bf K F' d v
 |.non,_,_,h=>h|.bl _,_,_,h=>h|.int _,_,_,h=>h|.tup ds,_,f,⟨a,xs,e,q,r⟩=>⟨a,xs,e,s _ _ q,ay.flat s (by simpa[eC] using f) r⟩|.lst _,_,f,_=>by simp_all[eC]|.ins _ _,_,f,_=>by simp_all[eC]|.dic _,_,f,_=>by simp_all[eC]|.dil _,_,f,_=>by simp_all[eC]
theorem ay.flat{K:Pn}{F F':Hp}(s:∀a xs,SqT K F a xs->SqT K F' a xs):∀{ds:List A'} {xs:a7},lR ds=d_->ay K F ds xs->ay K F' ds xs
 |[],_,_,h=>h|d::ds,_,f,⟨v,vs,e,q,r⟩=>by simp only[lR,m_]at f;exact⟨v,vs,e,bf.flat s f.1 q,ay.flat s f.2 r⟩
end
theorem ay.length{K:Pn}{F:Hp}:∀{ds:List A'} {xs:a7},ay K F ds xs->xs.length=ds.length
 |[],_,h=>by rw[show _=[]from h];rfl|_::_,_,⟨_,_,e,_,r⟩=>by rw[e,B_,B_,ay.length r]
theorem ay.get{K:Pn}{F:Hp}:∀{ds:List A'} {xs:a7} {i:Nat} {d:A'},ay K F ds xs->ds[i]?=a_ d->AtI (λv=>xs[i]?=a_ v) (bf K F d)
 |[],_,_,_,_,e=>by simp at e|_::_,_,0,_,⟨v,vs,e,q,_⟩,h=>by simp only[HX,GF]at h;subst h e;exact⟨v,rfl,q⟩|_::_,_,i+1,_,⟨v,vs,e,_,r⟩,h=>by subst e;simp only[GV]at h ⊢;exact ay.get r h
theorem ay.at{K:Pn}{F:Hp}{ds:List A'}{xs:a7}{i:Nat}{v:V}(r:ay K F ds xs)(h:xs[i]?=a_ v):AtI (λd=>ds[i]?=a_ d) λd=>bf K F d v:=by
 have hi:i<ds.length:=by rw[<- r.length];exact(n_.mp h).1
 obtain⟨w,e,q⟩:=r.get (i:=i) (d:=ds[i]) am;rw[h]at e;have B:=Hh e;subst B;exact⟨ds[i],am,q⟩
theorem ay.append{K:Pn}{F:Hp}:∀{ds es:List A'} {xs ys:a7},ay K F ds xs->ay K F es ys->ay K F (ds++es) (xs++ys)
 |[],_,_,_,h,r=>by rw[show _=[]from h];exact r|_::_,_,_,_,⟨v,vs,e,q,t⟩,r=>by subst e;exact⟨v,_,rfl,q,ay.append t r⟩
theorem ay.take{K:Pn}{F:Hp}:∀{ds:List A'} {xs:a7} (n:Nat),ay K F ds xs->ay K F (ds.take n) (xs.take n)
 |_,_,0,_=>rfl|[],_,_+1,h=>by rw[show _=[]from h];rfl|_::_,_,n+1,⟨v,vs,e,q,r⟩=>by subst e;exact⟨v,_,rfl,q,ay.take n r⟩
theorem ay.drop{K:Pn}{F:Hp}:∀{ds:List A'} {xs:a7} (n:Nat),ay K F ds xs->ay K F (ds.drop n) (xs.drop n)
 |_,_,0,h=>h|[],_,_+1,h=>by rw[show _=[]from h];rfl|_::_,_,n+1,⟨v,vs,e,q,r⟩=>by subst e;exact ay.drop n r
theorem ay.set{K:Pn}{F:Hp}{d:A'}{v:V}(q:bf K F d v):∀{ds:List A'} {xs:a7} (n:Nat),ay K F ds xs->ay K F (ds.set n d) (xs.set n v)
 |[],_,_,h=>by rw[show _=[]from h];rfl|_::_,_,0,⟨w,vs,e,_,r⟩=>by subst e;exact⟨v,_,rfl,q,r⟩|_::_,_,n+1,⟨w,vs,e,p,r⟩=>by subst e;exact⟨w,_,rfl,p,ay.set q n r⟩
theorem ay.of_get{K:Pn}{F:Hp}:∀{ds:List A'} {xs:a7},xs.length=ds.length->(∀(i:Nat) d v,ds[i]?=a_ d->xs[i]?=a_ v->bf K F d v)->ay K F ds xs
 |[],[],_,_=>rfl|[],_::_,h,_=>by simp at h|_::_,[],h,_=>by simp at h|d::ds,v::vs,h,q=>⟨v,vs,rfl,q 0 d v rfl rfl,ay.of_get aW λi e w h1 B=>q (i+1) e w aW aW⟩
structure B4(F H F' H':Hp):Prop where
 ff:aX F F'
 hh:aX H H'
 fh:aX F' H'
 nw:∀b o,F' b=a_ o->F b=a_ o\/H b=e_
theorem B4.refl{F H:Hp}(s:aX F H):B4 F H F H:=⟨aX.refl _,aX.refl _,s,λ_ _ h=>.inl h⟩
theorem B4.trans{F H F1 H1 B H2:Hp}(a:B4 F H F1 H1)(b:B4 F1 H1 B H2):B4 F H B H2:=
 ⟨a.ff.trans b.ff,a.hh.trans b.hh,b.fh,λx o h=>(b.nw x o h).elim (λz=>a.nw x o z) λz=>.inr (a.hh.free z)⟩
theorem B4.lay{p:iF}{o:HO}(s:aX F H)(B:H p=e_):B4 F H (upd F p o) (upd H p o):=
 ⟨aX.upd (s.free B),aX.upd B,λb u h=>by
  by_cases e:b=p
  .simp_all[av]
  .rw[ax e]at h ⊢;exact s b u h,λb u h=>by
  grind[ax]⟩
def B4.grow{p:iF}{o:HO}(s:aX F H)(B:H p=e_):B4 F H F (upd H p o):=
 ⟨aX.refl _,aX.upd B,s.trans (aX.upd B),λ_ _ h=>.inl h⟩
inductive OwX{α:Type}(S:iF->α->Prop)(F H0:Hp)(P:α->Prop)(v:V):Prop
 |mk (a:iF) (xs:α) (e:v=.ref a) (q:S a xs) (f:F a=e_) (z:H0 a=e_) (r:P xs)
def kg(K:Pn)(F H0 H:Hp):A'->V->Prop
 |.lst ds,v=>OwX (λa xs=>H a=a_ (.lst xs)) F H0 (ay K F ds) v|.dic ks,v=>OwX (λa xs=>∃ep,H a=a_ (iJ a xs ep)) F H0 (bA K F ks) v
 |.dil ks,v=>OwX (λa xs=>∃ep,H a=a_ (xA a xs ep)) F H0 (yW K F ks) v
 |d,v=>bf K F d v
noncomputable def isO:A'->Bool
 |.lst _=>d_|.dic _=>d_|.dil _=>d_|_=>c_
noncomputable def isMu:HO->Bool
 |.lst _=>d_|.ext _=>d_|_=>c_
def kg.non(B:isO d=c_):kg K F H0 H d v=bf K F d v:=by cases d<;>first|rfl|cases B
def kg.top(B:isO d=d_)(q:kg K F H0 H d v):∃a o,v=.ref a/\H a=a_ o/\isMu o=d_/\F a=e_/\H0 a=e_:=by
 cases d with
 |lst ds=>obtain⟨a,xs,e,p,f,z,_⟩:=q;exact⟨a,_,e,p,rfl,f,z⟩
 |dic ks=>obtain⟨a,xs,e,⟨ep,p⟩,f,z,_⟩:=q;exact⟨a,_,e,p,rfl,f,z⟩
 |dil ks=>obtain⟨a,xs,e,⟨ep,p⟩,f,z,_⟩:=q;exact⟨a,_,e,p,rfl,f,z⟩
 |_=>cases B
def kg.re(J:isO d=d_)(q:kg K F H0 H d (.ref a))(I:aX F F')(fa:F' a=e_)(B:∀o,H a=a_ o->H' a=a_ o):kg K F' H0 H' d (.ref a):=by
 cases d with
 |lst ds=>obtain⟨b,xs,e,p,f,z,r⟩:=q;cases e;exact⟨a,xs,rfl,B _ p,fa,z,r.mono I⟩
 |dic ks=>obtain⟨b,xs,e,⟨ep,p⟩,f,z,r⟩:=q;cases e;exact⟨a,xs,rfl,⟨ep,B _ p⟩,fa,z,r.mono I⟩
 |dil ks=>obtain⟨b,xs,e,⟨ep,p⟩,f,z,r⟩:=q;cases e;exact⟨a,xs,rfl,⟨ep,B _ p⟩,fa,z,r.mono I⟩
 |_=>cases J
def kg.give(I:isO d=d_)(q:kg K F H0 H d (.ref a))(B:aX F F')(fa:F' a=H a):bf K F' d (.ref a):=by
 cases d with
 |lst ds=>obtain⟨b,xs,e,p,f,z,r⟩:=q;cases e;exact⟨a,xs,rfl,SqL.of (fa.trans p),r.mono B⟩
 |dic ks=>obtain⟨b,xs,e,⟨ep,p⟩,f,z,r⟩:=q;cases e;exact⟨a,xs,rfl,⟨ep,fa.trans p⟩,r.mono B⟩
 |dil ks=>obtain⟨b,xs,e,⟨ep,p⟩,f,z,r⟩:=q;cases e;exact⟨a,xs,rfl,⟨ep,fa.trans p⟩,r.mono B⟩
 |_=>cases I
def Val(K:Pn)(own:Bool)(F H0 H:Hp)(d:A')(v:V):Prop:=if own=d_ then kg K F H0 H d v else bf K F d v
def kg.back(s:aX H0 H1)(h:kg K F H1 H d v):kg K F H0 H d v:=by
 cases d with
 |lst ds=>obtain⟨a,xs,e,p,q,z,r⟩:=h;exact⟨a,xs,e,p,q,s.free z,r⟩
 |dic ks=>obtain⟨a,xs,e,p,q,z,r⟩:=h;exact⟨a,xs,e,p,q,s.free z,r⟩
 |dil ks=>obtain⟨a,xs,e,p,q,z,r⟩:=h;exact⟨a,xs,e,p,q,s.free z,r⟩
 |_=>exact h
theorem Val.back{K:Pn}{own:Bool}{F H0 H1 H:Hp}{d:A'}{v:V}(s:aX H0 H1)(h:Val K own F H1 H d v):Val K own F H0 H d v:=by
 cases own with
 |true=>exact kg.back s h|false=>exact h
theorem kg.freeze(s:aX F H)(h:kg K F H0 H d v):∃F',aX F F'/\aX F' H/\(∀b o,F' b=a_ o->F b=a_ o\/H0 b=e_)/\bf K F' d v:=by
 cases B:isO d with
 |true=>
  obtain⟨a,u,e,p,_,q,z⟩:=h.top B;subst e;refine⟨upd F a u,aX.upd q,λb o h=>?_,λb o h=>?_,h.give B (aX.upd q) (by rw[av,p])⟩
  .by_cases e:b=a
   .simp_all[av]
   .rw[ax e]at h;exact s b o h
  grind[ax]
 |false=>rw[kg.non B]at h;exact⟨F,aX.refl _,s,λ_ _ z=>.inl z,h⟩
inductive Err where
 |stuck|exc (C:iF) (fs:List (Gf×A'))
noncomputable abbrev M:=Except Err
variable{g':A'->A'->M A'}
noncomputable abbrev ag:=List (Option A')
variable{ρ ρ':ag}{fa fb fc fe fk fx fA fv f3 f4 f5 f6 f0:ag->M A'}{fi:ag->M (List A')}{ft ft0:ag->M Bool}{fu:ag->M (Option Int)}
structure cy where
 p:Err->Hp->Hp->Prop
 mono:∀{e:Err} {F H F' H':Hp},p e F H->B4 F H F' H'->p e F' H'
 ns:∀{F H:Hp},p .stuck F H->False
noncomputable def Fl:cy:=⟨λ_ _ _=>False,λh _=>h,λh=>h⟩
def aE(K:Pn)(W:cy)(own:Bool)(F H:Hp)(r:M A')(Q:VK):Prop:=match r with
 |.ok d=>∀v F' H',B4 F H F' H'->Val K own F' H H' d v->Q v H'|.error e=>W.p e F H
def aE.step{W:cy}{own:Bool}{r:M A'}{Q:VK}(p:aE K W own F H r Q)(s:B4 F H F1 H1):aE K W own F1 H1 r Q:=by
 cases r with
 |ok d=>exact λv F' H' t q=>p v F' H' (s.trans t) (q.back s.hh)|error e=>exact W.mono p s
def aE.frz{W:cy}{r:M A'}{Q:VK}(p:aE K W c_ F H r Q):aE K W d_ F H r Q:=by
 cases r with
 |ok d=>intro v F' H' t q;obtain⟨B,s1,s2,n,z⟩:=kg.freeze t.fh q;exact p v B H' ⟨t.ff.trans s1,t.hh,s2,λb o h=>(n b o h).elim (λz=>t.nw b o z) .inr⟩ z
 |error e=>exact p
structure gR(K:Pn)(F:Hp)(σ:St)(ρ:ag):Prop where
 len:ρ.length=σ.length
 sl:∀(i:Nat) (d:A'),ρ[i]?=a_ (a_ d)->AtI (λv=>σ[i]?=a_ (a_ v)) (bf K F d)
theorem gR.mono{K:Pn}{F F':Hp}{σ:St}{ρ:ag}(r:gR K F σ ρ)(s:aX F F'):gR K F' σ ρ:=
 ⟨r.len,λi d e=>let ⟨v,h,q⟩:=r.sl i d e;⟨v,h,q.mono s⟩⟩
theorem gR.set{K:Pn}{F:Hp}{σ:St}{ρ:ag}{d:A'}{v:V}(r:gR K F σ ρ)(q:bf K F d v)(i:Nat):gR K F (σ.set i (a_ v)) (ρ.set i (a_ d)):=
 ⟨by rw[FZ,FZ,r.len],λj e h=>by
  by_cases B:i=j
  .subst B;have hi:i<ρ.length:=by
    have:=(n_.mp h).1;simpa using this
   rw[E_ hi]at h;cases h;exact⟨v,by rw[E_ (by rw[<- r.len];exact hi)],q⟩
  .rw[tF B]at h;obtain⟨w,h1,I⟩:=r.sl j e h;exact⟨w,aW,I⟩⟩
inductive TDx(K:Pn)(σ:St)(H:Hp)(P:Hp->ag->Prop):Prop
 |mk (F:Hp) (ρ:ag) (r:gR K F σ ρ) (s:aX F H) (p:P F ρ)
def tD(K:Pn)(W:cy)(own:Bool)(f:ag->M A'):TE:=λσ H Q=>TDx K σ H λF ρ=>aE K W own F H (f ρ) Q
def aJ{W:cy}{own:Bool}{f:ag->M A'}{R:VK}(r:gR K F σ ρ)(s:aX F H)(I:∀e,f ρ=.error e->W.p e F H)(B:∀d,f ρ=.ok d->∀v F1 H1,B4 F H F1 H1->Val K own F1 H H1 d v->R v H1):tD K W own f σ H R:=by
 refine⟨F,ρ,r,s,?_⟩
 cases e:f ρ with
 |ok d=>exact B d e|error x=>exact I x e
def tDT(K:Pn)(W:cy)(f:ag->M Bool):TT:=λσ H Q=>TDx K σ H λF ρ=>match f ρ with
 |.ok b=>∀F' H',B4 F H F' H'->Q b H'|.error e=>W.p e F H
def jt{W:cy}{f:ag->M Bool}(r:gR K F σ ρ)(s:aX F H)(I:∀e,f ρ=.error e->W.p e F H)(B:∀b,f ρ=.ok b->∀F1 H1,B4 F H F1 H1->R b H1):tDT K W f σ H R:=by
 refine⟨F,ρ,r,s,?_⟩
 cases e:f ρ with
 |ok d=>exact B d e|error x=>exact I x e
def tDA(K:Pn)(W:cy)(f:ag->M (List A')):TA:=λσ H Q=>TDx K σ H λF ρ=>match f ρ with
 |.ok ds=>∀vs F' H',B4 F H F' H'->ay K F' ds vs->Q vs H'|.error e=>W.p e F H
def ju{W:cy}{f:ag->M (List A')}{R:a7->Hp->Prop}(r:gR K F σ ρ)(s:aX F H)(I:∀e,f ρ=.error e->W.p e F H)(B:∀ds,f ρ=.ok ds->∀vs F1 H1,B4 F H F1 H1->ay K F1 ds vs->R vs H1):tDA K W f σ H R:=by
 refine⟨F,ρ,r,s,?_⟩
 cases e:f ρ with
 |ok d=>exact B d e|error x=>exact I x e
noncomputable def ae(i:Nat):ag->M A':=λρ=>match ρ[i]? with
 |some (a_ d)=>.ok d|_=>.error .stuck
noncomputable def fC(d:A'):ag->M A':=λ_=>.ok d
noncomputable def f1(g:A'->M A')(fa:ag->M A'):ag->M A':=λρ=>(fa ρ).bind g
noncomputable def f2(g:A'->A'->M A')(fa fb:ag->M A'):ag->M A':=λρ=>(fa ρ).bind λa=>(fb ρ).bind λb=>g a b
noncomputable def aw:ag->M (List A'):=λ_=>.ok []
noncomputable def aa(fa:ag->M A')(fr:ag->M (List A')):ag->M (List A'):=λρ=>(fa ρ).bind λa=>(fr ρ).bind λr=>.ok (a::r)
noncomputable def fL(g:List A'->M A')(fr:ag->M (List A')):ag->M A':=λρ=>(fr ρ).bind g
noncomputable def cq(ds:List A'):M A':=if ds.length<=o_ then .ok (.tup ds)else .error .stuck
noncomputable def bj(ds:List A'):M A':=if ds.length<=o_ then .ok (.lst ds)else .error .stuck
noncomputable def fIte(ft:ag->M Bool)(fa fb:ag->M A'):ag->M A':=λρ=>(ft ρ).bind λb=>if b=d_ then fa ρ else fb ρ
noncomputable def yz(ft fu:ag->M Bool):ag->M Bool:=λρ=>(ft ρ).bind λb=>if b=d_ then fu ρ else .ok c_
noncomputable def fOr(ft fu:ag->M Bool):ag->M Bool:=λρ=>(ft ρ).bind λb=>if b=d_ then .ok d_ else fu ρ
noncomputable def Cp(ft:ag->M Bool):ag->M Bool:=λρ=>(ft ρ).bind λb=>.ok (!b)
noncomputable def asB:A'->M Bool
 |.bl b=>.ok b|_=>.error .stuck
def fB(fa:ag->M A'):ag->M Bool:=λρ=>(fa ρ).bind asB
def yy(fa fb:ag->M A'):ag->M A':=λρ=>(fa ρ).bind λa=>(asB a).bind λb=>if b=d_ then fb ρ else .ok (.bl c_)
noncomputable def truD:A'->M Bool
 |.non=>.ok c_|.bl b=>.ok b|.int i=>.ok (i != 0)|.tup ds=>.ok (!ds.isEmpty)|.lst ds=>.ok (!ds.isEmpty)|_=>.error .stuck
def uX(fa:ag->M A'):ag->M Bool:=λρ=>(fa ρ).bind truD
def jM(g g':A'->A'->M A')(fa fb fc:ag->M A'):ag->M A':=λρ=>(fa ρ).bind λa=>(fb ρ).bind λb=>(g a b).bind λx=>(asB x).bind λk=>if k=d_ then(fc ρ).bind λc=>g' b c else .ok (.bl c_)
inductive TX2(K:Pn)(x y:V)(H:Hp)(P:Hp->A'->A'->Prop):Prop
 |mk (F:Hp) (a b:A') (s:aX F H) (q:bf K F a x) (r:bf K F b y) (p:P F a b)
inductive TX1{α β:Type}(D:Hp->α->β->Prop)(x:β)(H:Hp)(P:Hp->α->Prop):Prop
 |mk (F:Hp) (a:α) (s:aX F H) (q:D F a x) (p:P F a)
def rD2(K:Pn)(W:cy)(own:Bool)(g:A'->A'->M A'):R2:=λx y H Q=>TX2 K x y H λF a b=>aE K W own F H (g a b) Q
def rD1(K:Pn)(W:cy)(own:Bool)(g:A'->M A'):V->Hp->VK->Prop:=λx H Q=>TX1 (bf K) x H λF a=>aE K W own F H (g a) Q
def rDL(K:Pn)(W:cy)(own:Bool)(g:List A'->M A'):a7->Hp->VK->Prop:=λxs H Q=>TX1 (ay K) xs H λF ds=>aE K W own F H (g ds) Q
section
variable{W:cy}{own:Bool}{Q:VK}
def rd_c(B:∀F,bf K F d v)(h:tD K W c_ (fC d) σ H Q):tC v σ H Q:=by obtain⟨F,ρ,r,s,p⟩:=h;exact p v F H (B4.refl s) (B F)
def aE.err{x:M A'}{e:Err}(p:aE K W own F H x Q)(h:x=.error e):W.p e F H:=by rw[h]at p;exact p
def rd_1{g:A'->M A'}(h:tD K W own (f1 g fa) σ H Q):tUn (rD1 K W own g) (tD K W c_ fa) σ H Q:=by
 obtain⟨F,ρ,r,s,p⟩:=h;refine aJ r s (λe B=>p.err (by unfold f1;rw[B];rfl)) λa I x F1 H1 s1 q1=>?_;refine⟨F1,a,s1.fh,q1,?_⟩
 have e:f1 g fa ρ=g a:=by unfold f1;rw[I];rfl
 rw[e]at p;exact p.step s1
def rd_2{g:A'->A'->M A'}(h:tD K W own (f2 g fa fb) σ H Q):tOp (rD2 K W own g) (tD K W c_ fa) (tD K W c_ fb) σ H Q:=by
 obtain⟨F,ρ,r,s,p⟩:=h;refine aJ r s (λe B=>p.err (by unfold f2;rw[B];rfl)) λa I x F1 H1 s1 q1=>?_;refine aJ (r.mono s1.ff) s1.fh (λe B=>(p.step s1).err (by unfold f2;rw[I];show(fb ρ).bind _=_;rw[B];rfl)) λb J y S H2 s2 q2=>?_;refine⟨S,a,b,s2.fh,bf.mono s2.ff q1,q2,?_⟩
 have e:f2 g fa fb ρ=g a b:=by unfold f2;rw[I];show(fb ρ).bind _=_;rw[J];rfl
 rw[e]at p;exact p.step (s1.trans s2)
def rd_nil{R:a7->Hp->Prop}(h:tDA K W aw σ H R):tNil σ H R:=by obtain⟨F,ρ,r,s,p⟩:=h;exact p [] F H (B4.refl s) rfl
def rd_L{g:List A'->M A'}{fr:ag->M (List A')}(h:tD K W own (fL g fr) σ H Q):tDA K W fr σ H λxs H1=>rDL K W own g xs H1 Q:=by
 obtain⟨F,ρ,r,s,p⟩:=h;refine ju r s (λe B=>p.err (by unfold fL;rw[B];rfl)) λds I xs F1 H1 s1 q1=>⟨F1,ds,s1.fh,q1,?_⟩
 have e:fL g fr ρ=g ds:=by unfold fL;rw[I];rfl
 rw[e]at p;exact p.step s1
theorem zi{f:ag->M Bool}(r:gR K F σ ρ)(s1:B4 F H F1 H1)(p:match f ρ with
 |.ok b=>∀F' H',B4 F H F' H'->R b H'|.error e=>W.p e F H):tDT K W f σ H1 R:=by
 refine⟨F1,ρ,r.mono s1.ff,s1.fh,?_⟩
 cases e:f ρ with
 |ok b=>rw[e]at p;exact λF' H' t=>p F' H' (s1.trans t)|error x=>rw[e]at p;exact W.mono p s1
theorem rd_B(h:tDT K W (fB fa) σ H R):tTest (tD K W c_ fa) σ H R:=by
 obtain⟨F,ρ,r,s,p⟩:=h;refine aJ r s (λe B=>?_) λa I x F1 H1 s1 q1=>?_
 .have z:fB fa ρ=.error e:=by unfold fB;rw[B];rfl
  simp_all
 .have z:fB fa ρ=asB a:=by unfold fB;rw[I];rfl
  rw[z]at p;cases a with
  |bl b=>exact⟨b,q1,p F1 H1 s1⟩|_=>exact(W.ns p).elim
def tru_of{a:A'}{x:V}{b:Bool}(s:aX F H1)(q:bf K F a x)(h:truD a=.ok b):TruV K x H1 b:=by
 cases a with
 |non=>rw[show x=.non from q];exact(IA h).symm|bl c=>rw[show x=.bl c from q];exact(IA h).symm|int i=>rw[show x=.int i from q];exact(IA h).symm|tup ds=>
  obtain⟨p,xs,e,t,r⟩:=q;subst e;refine .inr ⟨xs,s.tup t,?_⟩;rw[<- IA h];cases ds with
  |nil=>rw[show xs=[]from r];rfl|cons d ds=>obtain⟨v,vs,e,_⟩:=r;rw[e];rfl
 |lst ds=>
  obtain⟨p,xs,e,t,r⟩:=q;subst e;refine .inl ⟨xs,s.lst t,?_⟩;rw[<- IA h];cases ds with
  |nil=>rw[show xs=[]from r];rfl|cons d ds=>obtain⟨v,vs,e,_⟩:=r;rw[e];rfl
 |ins C fs=>cases h|dic ks=>cases h|dil ks=>cases h
def zP{g:A'->A'->M A'}(h:tD K W c_ (jM g g' fa fb fc) σ H Q):CS (rD2 K W c_ g) (rD2 K W c_ g') (tD K W c_ fa) (tD K W c_ fb) (tD K W c_ fc) σ H Q:=by
 obtain⟨F,ρ,r,s,p⟩:=h;refine aJ r s (λe I=>p.err (by unfold jM;rw[I];rfl)) λa Y x F1 H1 s1 q1=>?_;refine aJ (r.mono s1.ff) s1.fh (λe I=>(p.step s1).err (by unfold jM;rw[Y];show(fb ρ).bind _=_;rw[I];rfl)) λb l y n H2 s2 q2=>?_;have z:jM g g' fa fb fc ρ=(g a b).bind λx=>(asB x).bind λk=>if k=d_ then(fc ρ).bind λc=>g' b c else .ok (.bl c_):=by unfold jM;rw[Y];show(fb ρ).bind _=_;rw[l];rfl
 rw[z]at p;refine⟨n,a,b,s2.fh,bf.mono s2.ff q1,q2,?_⟩
 have p2:=p.step (s1.trans s2);cases e:g a b with
 |error x=>rw[e]at p2;exact p2|ok d=>
  rw[e]at p2;intro v U S B i;have p3:aE K W c_ U S ((asB d).bind λk=>if k=d_ then(fc ρ).bind λc=>g' b c else .ok (.bl c_)) Q:=aE.step p2 B;cases d with
  |bl k=>
   refine⟨k,i,?_⟩
   cases k with
   |false=>exact p3 (.bl c_) U S (B4.refl B.fh) rfl|true=>
    have p4:aE K W c_ U S ((fc ρ).bind λc=>g' b c) Q:=p3;refine aJ (r.mono (s1.trans (s2.trans B)).ff) B.fh (λe I=>p4.err (by rw[I];rfl)) λc j w m o J f=>⟨m,b,c,J.fh,bf.mono (B.trans J).ff q2,f,?_⟩
    rw[j]at p4;exact p4.step J
  |_=>exact(W.ns p3).elim
end
inductive Pat where
 |nm (i:Nat)|tp (is:List Nat)
variable{pt2 pt3 p0:Pat}
noncomputable def jw:a5->List A'->ag->ag
 |i::is,d::ds,ρ=>jw is ds (ρ.set i (a_ d))|_,_,ρ=>ρ
def cA:Pat->A'->ag->M ag
 |.nm i,d,ρ=>.ok (ρ.set i (a_ d))|.tp is,.tup ds,ρ=>if ds.length=is.length then .ok (jw is ds ρ)else .error .stuck
 |.tp _,_,_=>.error .stuck
def fO:a5->TGs
 |[]=>gNil|i::is=>gCons (jm i) (fO is)
def gP(K:Pn):Pat->TG
 |.nm i=>jm i|.tp is=>gTup K is.length (fO is)
theorem rX{K:Pn}{F H:Hp}{R:St->Hp->Prop}:∀{is:a5} {ds:List A'} {vs:a7} {σ:St} {ρ:ag},gR K F σ ρ->ay K F ds vs->ds.length=is.length->(∀B,gR K F B (jw is ds ρ)->R B H)->fO is vs σ H R
 |[],[],_,σ,ρ,r,q,_,h=>⟨q,h σ r⟩|[],_::_,_,_,_,_,_,e,_=>by simp at e|_::_,[],_,_,_,_,_,e,_=>by simp at e|i::is,d::ds,_,σ,ρ,r,⟨v,vs,e,q,t⟩,l,h=>⟨v,vs,e,rX (r.set q i) t aW h⟩
theorem EA{R:St->Hp->Prop}{p:Pat}(r:gR K F σ ρ)(s:aX F H)(q:bf K F d v)(e:cA p d ρ=.ok ρ')(h:∀B,gR K F B ρ'->R B H):gP K p v σ H R:=by
 cases p with
 |nm i=>have:=IA e;subst this;exact h _ (r.set q i)|tp is=>
  cases d with
  |tup ds=>
   have J:(if ds.length=is.length then GY (jw is ds ρ)else Ie Err.stuck)=GY ρ':=e;by_cases I:ds.length=is.length
   .rw[p_ I]at J;have:=IA J;subst this;obtain⟨a,xs,ev,t,z⟩:=q;exact⟨a,xs,ev,s.tup t,by rw[z.length,I],rX r z I h⟩
   simp_all
  |_=>cases e
theorem m6{p:Pat}{e:Err}(h:cA p d ρ=.error e):e=.stuck:=by
 cases p with
 |nm i=>cases h|tp is=>
  cases d with
  |tup ds=>
   have B:(if ds.length=is.length then GY (jw is ds ρ)else Ie Err.stuck)=Ie e:=h
   lia
  |_=>cases h;rfl
structure nM(K:Pn)(F1:Hp)(J:It)(ds:List A'):Prop where
 go:∀(i:Nat) (F H:Hp),aX F1 F->aX F H->i<ds.length->J.go i H
 yl:∀(i:Nat) (F H:Hp) (x:V) (H':Hp) (d:A'),aX F1 F->aX F H->ds[i]?=a_ d->J.yld i H x H'->∃F',B4 F H F' H'/\bf K F' d x
 st:∀(F H:Hp),aX F1 F->aX F H->J.stop ds.length H
def iD(K:Pn)(W:cy)(f:ag->M (List A')):TI:=λσ H R=>TDx K σ H λF ρ=>match f ρ with
 |.ok ds=>∀J F1 H1,B4 F H F1 H1->nM K F1 J ds->R J H1|.error e=>W.p e F H
noncomputable def jG:A'->M (List A')
 |.lst ds=>.ok ds|.tup ds=>.ok ds|_=>.error .stuck
def fIt(fa:ag->M A'):ag->M (List A'):=λρ=>(fa ρ).bind jG
def iSeq(K:Pn)(tl:TE):TI:=λσ H R=>tl σ H λx H1=>∃a,x=.ref a/\((∃xs,SqL K H1 a xs)/\R (Itl K a) H1\/(∃xs,SqT K H1 a xs)/\R (Itt K a) H1)
def wz(t:SqL K F a xs)(z:ay K F ds xs):nM K F (Itl K a) ds where
 go:=λi F' H' s1 s2 hi=>⟨xs,xs[i]'(by rw[z.length];exact hi),s2.lst (s1.lst t),am⟩
 yl:=λi F' H' x H2 d s1 s2 I B=>by obtain⟨e,B⟩:=B;subst e;obtain⟨v,e1,q⟩:=z.get I;have e2:=B xs (s2.lst (s1.lst t));rw[e1]at e2;cases e2;exact⟨F',B4.refl s2,q.mono s1⟩
 st:=λF' H' s1 s2=>⟨xs,s2.lst (s1.lst t),by rw[z.length];simp⟩
def iter_tup(t:SqT K F a xs)(z:ay K F ds xs):nM K F (Itt K a) ds where
 go:=λi F' H' s1 s2 hi=>⟨xs,xs[i]'(by rw[z.length];exact hi),s2.tup (s1.tup t),am⟩
 yl:=λi F' H' x H2 d s1 s2 I B=>by obtain⟨e,B⟩:=B;subst e;obtain⟨v,e1,q⟩:=z.get I;have e2:=B xs (s2.tup (s1.tup t));rw[e1]at e2;cases e2;exact⟨F',B4.refl s2,q.mono s1⟩
 st:=λF' H' s1 s2=>⟨xs,s2.tup (s1.tup t),by rw[z.length];simp⟩
noncomputable def aB(lo:Int)(n:Nat):List A':=(x_ n).map λk:Nat=>A'.int (lo+k)
theorem rO{lo:Int}:nM K F (Itr lo n) (aB lo n) where
 go:=λi F' H' s1 s2 hi=>by show i<n;simp_all[aB]
 yl:=λi F' H' x H2 d s1 s2 B I=>by
  obtain⟨e,I⟩:=I;subst e I;unfold aB at B;rw[FL]at B;have hi:i<n:=by have:=(n_.mp (show((x_ n).map λk:Nat=>A'.int (lo+k))[i]?=a_ d by simp_all)).1;simpa using this
  rw[Ku hi]at B;cases B;exact⟨F',B4.refl s2,rfl⟩
 st:=λF' H' s1 s2=>by show n<=_;simp[aB]
noncomputable def bu(i:Int):Bool:=xF (-(2^62)<=i)&&xF (i<2^62)
def jl:List A'->M (List A')
 |[.int j]=>if bu j=d_ then .ok (aB 0 j.toNat)else .error .stuck
 |_=>.error .stuck
def zL:List A'->M (List A')
 |[.int i,.int j]=>if (bu i&&bu j)=d_ then .ok (aB i (j-i).toNat)else .error .stuck
 |_=>.error .stuck
noncomputable def gF(g:List A'->M (List A'))(fr:ag->M (List A')):ag->M (List A'):=λρ=>(fr ρ).bind g
section
variable{W:cy}{Q:VK}
def eI(ix:List (Option Nat))(ρ:ag):ag:=ix.map λo=>match o with
 |none=>e_|some j=>(ρ[j]?).join
def aO(p:Pat)(ft:ag->M Bool)(fe:ag->M A')(ρ0:ag):List A'->M (List A')
 |[]=>.ok []|d::ds=>(cA p d ρ0).bind λρ=>(ft ρ).bind λb=>if b=d_ then(fe ρ).bind λy=>(aO p ft fe ρ0 ds).bind λr=>.ok (y::r)else aO p ft fe ρ0 ds
def bD(fi:ag->M (List A'))(ix:List (Option Nat))(p:Pat)(ft:ag->M Bool)(fe:ag->M A'):ag->M A':=λρ=>(fi ρ).bind λds=>if ds.length<=o_ then(aO p ft fe (eI ix ρ) ds).bind λr=>.ok (.lst r)else .error .stuck
noncomputable def gp:ag->M Bool:=λ_=>.ok d_
theorem gR.inS{F:Hp}{ρ:ag}(r:gR K F σ ρ)(ix:List (Option Nat)):gR K F (Lake.inS ix σ) (eI ix ρ):=
 ⟨by simp[Lake.inS,eI],λi d e=>by
  unfold eI at e;unfold Lake.inS;rw[FL]at e ⊢;cases h:ix[i]? with
  |none=>simp_all|some o=>
   rw[h]at e;cases o with
   |none=>cases e|some j=>
    simp only[Iz,GF]at e ⊢;have e1:ρ[j]?=a_ (a_ d):=by
     cases z:ρ[j]? with
     |none=>simp_all|some w=>simp_all
    obtain⟨v,h1,B⟩:=r.sl j d e1;exact⟨v,aW,B⟩⟩
theorem Di{p:Pat}(h:tD K W d_ (bD fi ix p ft fe) σ H Q):
  tComp (iD K W fi) ix (gP K p) (tDT K W ft) (tD K W c_ fe) σ H Q:=by
 obtain⟨F,ρ,r,s,q⟩:=h;refine⟨F,ρ,r,s,?_⟩
 cases P:fi ρ with
 |error e=>exact q.err (by unfold bD;rw[P];rfl)|ok ds=>
  intro J F1 H1 s1 C;have e0:bD fi ix p ft fe ρ=if ds.length<=o_ then(aO p ft fe (eI ix ρ) ds).bind λr=>.ok (.lst r)else .error .stuck:=by unfold bD;rw[P];rfl
  rw[e0]at q;by_cases O:ds.length<=o_
  .rw[p_ O]at q;refine⟨λi m ys H2=>m=ds.length-i/\i<=ds.length/\∃c B,B4 F1 H1 c H2/\ay K c B ys/\B.length<=i /\
    (match aO p ft fe (eI ix ρ) (ds.drop i)with
     |.ok I=>aO p ft fe (eI ix ρ) ds=.ok (B++I)|.error e=>W.p e F H),⟨ds.length,ad,Gr _,F1,[],B4.refl s1.fh,rfl,Gr _,?_⟩,?_⟩
   .rw[IX];cases e:aO p ft fe (eI ix ρ) ds with
    |ok I=>rfl|error x=>exact q.err (by rw[e];rfl)
   .rintro i m ys H2 ⟨rfl,hi,c,B,s2,A,ly,k⟩;have u:ys.length<=o_:=by rw[A.length];lia
    by_cases f:i<ds.length
    .have ed:ds.drop i=ds[i]::ds.drop (i+1):=Gd f;rw[ed]at k;refine .inr ⟨C.go i c H2 s2.ff s2.fh f,u,λo H'=>(i+1<=ds.length/\∃c B,B4 F1 H1 c H'/\ay K c B o/\B.length<=i+1 /\
      (match aO p ft fe (eI ix ρ) (ds.drop (i+1))with
       |.ok I=>aO p ft fe (eI ix ρ) ds=.ok (B++I)|.error e=>W.p e F H)),λo H' n=>⟨ds.length-(i+1),ad,rfl,n⟩,λx H' y=>?_⟩
     obtain⟨T,j,q3⟩:=C.yl i c H2 x H' ds[i] s2.ff s2.fh am y;have Z:gR K T (Lake.inS ix σ) (eI ix ρ):=(r.mono (s1.trans (s2.trans j)).ff).inS ix;have t:B4 F H T H':=s1.trans (s2.trans j);have ec:aO p ft fe (eI ix ρ) (ds[i]::ds.drop (i+1))=(cA p ds[i] (eI ix ρ)).bind λS=>(ft S).bind λb=>if b=d_ then(fe S).bind λy=>(aO p ft fe (eI ix ρ) (ds.drop (i+1))).bind λr=>.ok (y::r)else aO p ft fe (eI ix ρ) (ds.drop (i+1)):=by rw[aO]
     rw[ec]at k;cases z:cA p ds[i] (eI ix ρ)with
     |error e=>rw[z]at k;have:=m6 z;subst this;exact(W.ns k).elim|ok S=>
      rw[z]at k;refine EA Z j.fh q3 z λX N=>?_;have Y:match ((ft S).bind λb=>if b=d_ then(fe S).bind λy=>(aO p ft fe (eI ix ρ) (ds.drop (i+1))).bind λr=>.ok (y::r)else aO p ft fe (eI ix ρ) (ds.drop (i+1)))with
       |.ok I=>aO p ft fe (eI ix ρ) ds=.ok (B++I)|.error e=>W.p e F H:=k
      refine jt N j.fh (λe D=>by rw[D]at Y;exact W.mono Y t) λb E F5 H5 l=>?_;rw[E]at Y;cases b with
      |false=>
       have U:match aO p ft fe (eI ix ρ) (ds.drop (i+1))with
        |.ok I=>aO p ft fe (eI ix ρ) ds=.ok (B++I)|.error e=>W.p e F H:=Y
       exact⟨f,F5,B,s2.trans (j.trans l),A.mono (j.trans l).ff,ad,U⟩
      |true=>
       have U:match ((fe S).bind λy=>(aO p ft fe (eI ix ρ) (ds.drop (i+1))).bind λr=>.ok (y::r))with
        |.ok I=>aO p ft fe (eI ix ρ) ds=.ok (B++I)|.error e=>W.p e F H:=Y
       refine aJ (N.mono l.ff) l.fh (λe D=>by rw[D]at U;exact W.mono U (t.trans l)) λd hd v F6 H6 L q6=>?_;rw[hd]at U;refine⟨f,F6,B++[d],s2.trans (j.trans (l.trans L)),ay.append (A.mono (j.trans (l.trans L)).ff) ⟨v,[],rfl,q6,rfl⟩,by simp;lia,?_⟩
       have g:match ((aO p ft fe (eI ix ρ) (ds.drop (i+1))).bind λr=>.ok (d::r):M (List A'))with
        |.ok I=>aO p ft fe (eI ix ρ) ds=.ok (B++I)|.error e=>W.p e F H:=U
       cases R:aO p ft fe (eI ix ρ) (ds.drop (i+1))with
       |ok I=>rw[R]at g;show _=GY ((B++[d])++I);rw[FQ];exact g|error x=>rw[R]at g;exact g
    .have:i=ds.length:=ad
     subst this;rw[JB]at k;have w:aO p ft fe (eI ix ρ) ds=.ok (B++[]):=k;rw[Hn]at w;rw[w]at q;refine .inl ⟨C.st c H2 s2.ff s2.fh,u,λa G=>?_⟩;have st:B4 F H c H2:=s1.trans s2;exact q (.ref a) c _ (st.trans (B4.grow s2.fh G)) ⟨a,ys,rfl,av,s2.fh.free G,st.hh.free G,A⟩
  .rw[q_ O]at q;exact(W.ns q).elim
end
inductive B6 where
 |nx (ρ:ag)|rt (d:A')|bk (ρ:ag)|ct (ρ:ag)
variable{g g2:ag->M B6}
structure Rep(K:Pn)(F0 H0 FB:Hp)(O:a5)(F H:Hp)(σ:St)(ρ:ag):Prop where
 st:B4 F0 H0 F H
 fb:aX FB F
 len:ρ.length=σ.length
 fz:∀(i:Nat) (d:A'),ρ[i]?=a_ (a_ d)->i∉O->AtI (λv=>σ[i]?=a_ (a_ v)) (bf K F d)
 ow:∀(i:Nat) (d:A'),ρ[i]?=a_ (a_ d)->i∈O->AtI (λv=>σ[i]?=a_ (a_ v)) (kg K F H0 H d)
 ap:∀(i j:Nat) (d e:A') (a:iF),i∈O->j∈O->(ρ[i]?=a_ (a_ d)/\isO d=d_)->(ρ[j]?=a_ (a_ e)/\isO e=d_)->σ[i]?=a_ (a_ (.ref a))->σ[j]?=a_ (a_ (.ref a))->i=j
def l5(O O2:a5)(σ:St)(ρ:ag)(b:iF):Prop:=∃(i:Nat) (d:A'),i∈O/\i∉O2/\isO d=d_/\ρ[i]?=a_ (a_ d)/\σ[i]?=a_ (a_ (.ref b))
open Classical in
noncomputable def plus(F H:Hp)(A:Addr->Prop):Hp:=λb=>if A b then H b else F b
open Classical in
noncomputable def minus(F:Hp)(A:Addr->Prop):Hp:=λb=>if A b then none else F b
theorem gq{A:iF->Prop}(h:A b):plus F H A b=H b:=by simp_all[plus,p_]
theorem cN{A:iF->Prop}(h:¬A b):plus F H A b=F b:=by simp_all[plus,q_]
theorem lI{A:iF->Prop}(h:A b):minus F A b=e_:=by simp_all[minus,p_]
theorem cu{A:iF->Prop}(h:¬A b):minus F A b=F b:=by simp_all[minus,q_]
theorem Rep.own(r:Rep K F0 H0 FB O F H σ ρ)(h:l5 O O2 σ ρ b):F b=e_/\H0 b=e_/\∃o,H b=a_ o/\isMu o=d_:=by
 obtain⟨i,d,hi,_,B,e1,e2⟩:=h;obtain⟨v,e3,q⟩:=r.ow i _ e1 hi;rw[e2]at e3;cases e3;obtain⟨a,o,e,p,m,f,z⟩:=q.top B
 simp_all
theorem Rep.kK(r:Rep K F0 H0 FB O F H σ ρ):aX F (plus F H (l5 O O2 σ ρ)):=λb o h=>by
 by_cases B:l5 O O2 σ ρ b
 .rw[(r.own B).1]at h;cases h
 simp_all[cN]
theorem Rep.gu(r:Rep K F0 H0 FB O F H σ ρ):aX (plus F H (l5 O O2 σ ρ)) H:=λb o h=>by
 by_cases B:l5 O O2 σ ρ b
 .simp_all[gq]
 .rw[cN B]at h;exact r.st.fh b o h
theorem Rep.freeze(r:Rep K F0 H0 FB O F H σ ρ)(I:∀i∈O2,i∈O):Rep K F0 H0 FB O2 (plus F H (l5 O O2 σ ρ)) H σ ρ where
 st:=⟨r.st.ff.trans r.kK,r.st.hh,r.gu,λb o h=>by
  by_cases Y:l5 O O2 σ ρ b
  .exact .inr (r.own Y).2.1
  .rw[cN Y]at h;exact r.st.nw b o h⟩
 fb:=r.fb.trans r.kK
 len:=r.len
 fz:=λi d e hi=>by
  by_cases J:i∈O
  .obtain⟨v,e3,q⟩:=r.ow i d e J;refine⟨v,e3,?_⟩
   cases B:isO d with
   |true=>obtain⟨a,_,ev,_⟩:=q.top B;subst ev;exact q.give B r.kK (gq ⟨i,d,J,hi,B,e,e3⟩)
   |false=>rw[kg.non B]at q;exact q.mono r.kK
  .obtain⟨v,e3,q⟩:=r.fz i d e J;exact⟨v,e3,q.mono r.kK⟩
 ow:=λi d e hi=>by
  obtain⟨v,e3,q⟩:=r.ow i d e (I i hi);refine⟨v,e3,?_⟩
  cases B:isO d with
  |true=>
   obtain⟨a,o,ev,p,_,f,z⟩:=q.top B;subst ev;refine q.re B r.kK ?_ λ_ h=>h;have:¬l5 O O2 σ ρ a:=λ⟨j,d',S,c,U,f1,f2⟩=>by
    have:=r.ap i j d d' a (I i hi) S ⟨e,B⟩ ⟨f1,U⟩ e3 f2
    simp_all
   simp_all[cN]
  |false=>rw[kg.non B]at q ⊢;exact q.mono r.kK
 ap:=λi j d e a hi S=>r.ap i j d e a (I i hi) (I j S)
def Rep.repE(r:Rep K F0 H0 FB [] F H σ ρ):gR K F σ ρ:=⟨r.len,λi d e=>r.fz i d e am⟩
def Rep.ku(r:Rep K F0 H0 FB O F H σ ρ):gR K (plus F H (l5 O [] σ ρ)) σ ρ:=(r.freeze (O2:=[]) am).repE
noncomputable def erase:a5->ag->ag
 |[],ρ=>ρ|i::is,ρ=>erase is (ρ.set i e_)
theorem lS:∀(O:a5) (ρ:ag),(erase O ρ).length=ρ.length
 |[],_=>rfl|i::is,ρ=>by rw[erase,lS,FZ]
theorem wL:∀(O:a5) (ρ:ag) (i:Nat) (d:A'),(erase O ρ)[i]?=a_ (a_ d)->ρ[i]?=a_ (a_ d)/\i∉O
 |[],_,_,_,h=>⟨h,am⟩|j::is,ρ,i,d,h=>by
  obtain⟨h1,I⟩:=wL is (ρ.set j e_) i d h;by_cases e:j=i
  .subst e;have B:j<ρ.length:=by
    have:=(n_.mp h1).1;simpa using this
   rw[E_ B]at h1;cases h1
  .rw[tF e]at h1;exact⟨h1,by simp[I];lia⟩
def Rep.jW(r:Rep K F0 H0 FB O F H σ ρ):gR K F σ (erase O ρ):=
 ⟨by rw[lS,r.len],λi d e=>let ⟨h1,B⟩:=wL O ρ i d e;r.fz i d h1 B⟩
theorem Rep.step(r:Rep K F0 H0 FB O F H σ ρ)(s:B4 F H F1 H1):Rep K F0 H0 FB O F1 H1 σ ρ where
 st:=r.st.trans s
 fb:=r.fb.trans s.ff
 len:=r.len
 fz:=λi d e hi=>let ⟨v,e3,q⟩:=r.fz i d e hi;⟨v,e3,q.mono s.ff⟩
 ow:=λi d e hi=>by
  obtain⟨v,e3,q⟩:=r.ow i d e hi;refine⟨v,e3,?_⟩
  cases B:isO d with
  |true=>
   obtain⟨a,u,ev,p,_,f,z⟩:=q.top B;subst ev;refine q.re B s.ff ?_ (s.hh a);cases e1:F1 a with
   |none=>rfl|some o=>
    rcases s.nw a o e1 with h|h
    .simp_all
    simp_all
  |false=>rw[kg.non B]at q ⊢;exact q.mono s.ff
 ap:=r.ap
theorem Rep.i8(r:Rep K F0 H0 FB O F H σ ρ)(s:B4 (plus F H (l5 O [] σ ρ)) H F1 H1):Rep K F0 H0 FB O (minus F1 (l5 O [] σ ρ)) H1 σ ρ:=by
 refine r.step ⟨λb o h=>?_,s.hh,λb o h=>?_,λb o h=>?_⟩
 .by_cases B:l5 O [] σ ρ b
  .rw[(r.own B).1]at h;cases h
  .rw[cu B];exact s.ff b o (by simp_all[cN])
 .by_cases B:l5 O [] σ ρ b
  .simp_all[lI]
  .rw[cu B]at h;exact s.fh b o h
 .by_cases B:l5 O [] σ ρ b
  .simp_all[lI]
  .rw[cu B]at h;rcases s.nw b o h with z|z
   .simp_all[cN]
   simp_all
theorem Rep.rK(r:Rep K F0 H0 FB O F H σ ρ)(s:B4 (plus F H (l5 O [] σ ρ)) H F1 H1)(a:iF)(xs:a7)(h:SqT K F1 a xs):SqT K (minus F1 (l5 O [] σ ρ)) a xs:=by
 have key:∀{b:iF} {o:HO},F1 b=a_ o->isMu o=c_->minus F1 (l5 O [] σ ρ) b=a_ o:=λ{b o} h n=>by
  by_cases B:l5 O [] σ ρ b
  .obtain⟨_,_,u,e,m⟩:=r.own B;have:=s.ff b u (by simp_all[gq])
   simp_all
  simp_all[cu]
 rcases h with(h|⟨o,h⟩)|h
 .exact .inl (.inl (key h rfl))
 .exact .inl (.inr ⟨o,key h rfl⟩)
 .exact .inr h
theorem Rep.set{d:A'}{v:V}(r:Rep K F0 H0 FB O F H σ ρ)(q:bf K F d v)(i:Nat):Rep K F0 H0 FB (O.filter (· != i)) F H (σ.set i (a_ v)) (ρ.set i (a_ d)) where
 st:=r.st
 fb:=r.fb
 len:=by rw[FZ,FZ,r.len]
 fz:=λj e h I=>by
  by_cases B:i=j
  .subst B;have hi:i<ρ.length:=by
    have:=(n_.mp h).1;simpa using this
   rw[E_ hi]at h;cases h;exact⟨v,by rw[E_ (by rw[<- r.len];exact hi)],q⟩
  .rw[tF B]at h;rw[tF B];exact r.fz j e h λz=>I (GI.mpr ⟨z,by simpa using HI B⟩)
 ow:=λj e h I=>by
  obtain⟨h1,c⟩:=GI.mp I;have B:i≠j:=λz=>by simp[z]at c
  rw[tF B]at h ⊢;exact r.ow j e h h1
 ap:=λj k ds es a I b e1 e2 e3 e4=>by
  obtain⟨Y,U⟩:=GI.mp I;obtain⟨S,k2⟩:=GI.mp b;have B:i≠j:=λz=>by simp[z]at U
  have J:i≠k:=λz=>by simp[z]at k2
  rw[tF B]at e1 e3;rw[tF J]at e2 e4;exact r.ap j k ds es a Y S e1 e2 e3 e4
theorem Rep.setOwn(r:Rep K F0 H0 FB O F H σ ρ)(q:kg K F H0 H d v)(n:∀a,v=.ref a->isO d=d_->¬l5 O [i] σ ρ a):Rep K F0 H0 FB (i::O.filter (· != i)) F H (σ.set i (a_ v)) (ρ.set i (a_ d)) where
 st:=r.st
 fb:=r.fb
 len:=by rw[FZ,FZ,r.len]
 fz:=λj e h S=>by simp only[t_,not_or]at S;have B:i≠j:=λz=>S.1 z.symm;rw[tF B]at h ⊢;exact r.fz j e h λz=>S.2 (GI.mpr ⟨z,by simpa using HI B⟩)
 ow:=λj e h S=>by
  by_cases B:i=j
  .subst B;have hi:i<ρ.length:=by
    have:=(n_.mp h).1;simpa using this
   rw[E_ hi]at h;cases h;exact⟨v,by rw[E_ (by rw[<- r.len];exact hi)],q⟩
  .rw[tF B]at h ⊢;rcases t_.mp S with z|z
   .simp_all
   .exact r.ow j e h (GI.mp z).1
 ap:=λj k ds es a S s e1 e2 e3 e4=>by
  have key:∀{k':Nat} {J I:A'},k'∈O->k'≠i->((ρ.set i (a_ d))[i]?=a_ (a_ J)/\isO J=d_)->((ρ.set i (a_ d))[k']?=a_ (a_ I)/\isO I=d_)->(σ.set i (a_ v))[i]?=a_ (a_ (.ref a))->(σ.set i (a_ v))[k']?=a_ (a_ (.ref a))->False:=by
   intro k' J I b Y f1 f2 f3 f4;have hi:i<ρ.length:=by have:=(n_.mp f1.1).1;simpa using this
   rw[E_ hi]at f1;rw[E_ (by rw[<- r.len];exact hi)]at f3;rw[tF (HI Y)]at f2 f4;have m:v=.ref a:=by simpa using f3
   have l:d=J:=by simpa using f1.1
   exact n a m (l▸f1.2) ⟨k',I,b,aW,f2.2,f2.1,f4⟩
  rcases t_.mp S with f|f
  .grind
  .obtain⟨g,p⟩:=GI.mp f;have B:i≠j:=λz=>by simp[z]at p
   rcases t_.mp s with U|U
   .subst U;exact(key g (HI B) e2 e1 e4 e3).elim
   .obtain⟨o,k2⟩:=GI.mp U;have c:i≠k:=λz=>by simp[z]at k2
    rw[tF B]at e1 e3;rw[tF c]at e2 e4;exact r.ap j k ds es a g o e1 e2 e3 e4
theorem Rep.eJ(r:Rep K F0 H0 FB O F H σ ρ)(s:B4 (plus F H (l5 O [] σ ρ)) H F1 H1):aX F (minus F1 (l5 O [] σ ρ)):=λb o h=>by
 by_cases B:l5 O [] σ ρ b
 .rw[(r.own B).1]at h;cases h
 .rw[cu B];exact s.ff b o (by simp_all[cN])
theorem BZ(h:i∉O):O.filter (· != i)=O:=by grind[List.filter_eq_self]
theorem Rep.set'(r:Rep K F0 H0 FB O F H σ ρ)(q:bf K F d v)(hi:i∉O):Rep K F0 H0 FB O F H (σ.set i (a_ v)) (ρ.set i (a_ d)):=by
 have:=r.set q i
 simp_all[BZ]
def Rep.base{B:Hp}(r:Rep K F0 H0 FB O F H σ ρ)(s:aX B FB):Rep K F0 H0 B O F H σ ρ:=⟨r.st,s.trans r.fb,r.len,r.fz,r.ow,r.ap⟩
theorem Rep.zc{d':A'}{u:HO}(r:Rep K F0 H0 FB O F H σ ρ)(hi:i∈O)(e1:ρ[i]?=a_ (a_ d))(m:isO d=d_)(e2:σ[i]?=a_ (a_ (.ref a)))(q:F a=e_->H0 a=e_->kg K F H0 (upd H a u) d' (.ref a)):Rep K F0 H0 FB O F (upd H a u) σ (ρ.set i (a_ d')):=by
 have S:F a=e_/\H0 a=e_/\∃o,H a=a_ o/\isMu o=d_:=r.own (O2:=[]) ⟨i,d,hi,am,m,e1,e2⟩;have U:i<ρ.length:=(n_.mp e1).1;refine⟨⟨r.st.ff,λb o h=>?_,λb o h=>?_,r.st.nw⟩,r.fb,by rw[FZ,r.len],λj e h I=>?_,λj e h I=>?_,λj k es fs b I s f1 f2 f3 f4=>?_⟩
 .rw[ax (aC h S.2.1)];exact r.st.hh b o h
 .rw[ax (aC h S.1)];exact r.st.fh b o h
 .have B:i≠j:=λz=>I (z▸hi);rw[tF B]at h;exact r.fz j e h I
 .by_cases B:i=j
  .subst B;rw[E_ U]at h;cases h;exact⟨.ref a,e2,q S.1 S.2.1⟩
  .rw[tF B]at h;obtain⟨v,e3,z⟩:=r.ow j e h I;refine⟨v,e3,?_⟩
   cases Y:isO e with
   |true=>
    obtain⟨b,o,ev,p,_,f,_⟩:=z.top Y;subst ev;have c:b≠a:=λz=>by subst z;exact B (r.ap i j d e b hi I ⟨e1,m⟩ ⟨h,Y⟩ e2 e3)
    exact z.re Y (aX.refl _) f λo h=>by rw[ax c];exact h
   |false=>simp_all[kg.non]
 .have J:∀{j:Nat} {e:A'},((ρ.set i (a_ d'))[j]?=a_ (a_ e)/\isO e=d_)->∃n,ρ[j]?=a_ (a_ n)/\isO n=d_:=λ{j e} f=>by
   grind[tF]
  obtain⟨l,t⟩:=J f1;obtain⟨g,g2⟩:=J f2;exact r.ap j k l g b I s t g2 f3 f4
def Rep.write{I:List A'}{B:a7}(r:Rep K F0 H0 FB O F H σ ρ)(hi:i∈O)(e1:ρ[i]?=a_ (a_ (.lst ds)))(e2:σ[i]?=a_ (a_ (.ref a)))(q:ay K F I B):Rep K F0 H0 FB O F (upd H a (.lst B)) σ (ρ.set i (a_ (.lst I))):=
 r.zc hi e1 rfl e2 λf z=>⟨a,B,rfl,av,f,z,q⟩
noncomputable def Pat.names:Pat->a5
 |.nm i=>[i]|.tp is=>is
theorem rY{R:St->Hp->Prop}:∀{is:a5} {ds:List A'} {vs:a7} {σ:St} {ρ:ag},Rep K F0 H0 FB O F H σ ρ->(∀i∈is,i∉O)->ay K F ds vs->ds.length=is.length->(∀B,Rep K F0 H0 FB O F H B (jw is ds ρ)->R B H)->fO is vs σ H R
 |[],[],_,σ,ρ,r,_,q,_,h=>⟨q,h σ r⟩|[],_::_,_,_,_,_,_,_,e,_=>by simp at e|_::_,[],_,_,_,_,_,_,e,_=>by simp at e|i::is,d::ds,_,σ,ρ,r,n,⟨v,vs,e,q,t⟩,l,h=>⟨v,vs,e,rY (r.set' q (n i am)) (λj I=>n j (by simp[I])) t aW h⟩
theorem gP_rep{R:St->Hp->Prop}{p:Pat}(r:Rep K F0 H0 FB O F H σ ρ)(n:∀i∈p.names,i∉O)(q:bf K F d v)(e:cA p d ρ=.ok ρ')(h:∀B,Rep K F0 H0 FB O F H B ρ'->R B H):gP K p v σ H R:=by
 cases p with
 |nm i=>have:=IA e;subst this;exact h _ (r.set' q (n i (by simp[Pat.names])))|tp is=>
  cases d with
  |tup ds=>
   have J:(if ds.length=is.length then GY (jw is ds ρ)else Ie Err.stuck)=GY ρ':=e;by_cases I:ds.length=is.length
   .rw[p_ I]at J;have:=IA J;subst this;obtain⟨a,xs,ev,t,z⟩:=q;exact⟨a,xs,ev,r.st.fh.tup t,by rw[z.length,I],rY r n z I h⟩
   simp_all
  |_=>cases e
def eu(K:Pn)(W:cy)(ro:Bool)(F0 H0 FB:Hp)(OL O':a5)(D:Ends)(r:M B6):Prop:=match r with
 |.ok (.nx ρ)=>∀σ F H,Rep K F0 H0 FB O' F H σ ρ->D.nx σ H|.ok (.rt d)=>∀v F H,B4 F0 H0 F H->Val K ro F H0 H d v->D.rt v H|.ok (.bk ρ)=>∀σ F H,Rep K F0 H0 FB OL F H σ ρ->D.bk σ H|.ok (.ct ρ)=>∀σ F H,Rep K F0 H0 FB OL F H σ ρ->D.ct σ H|.error e=>W.p e F0 H0
def tS(K:Pn)(W:cy)(ro:Bool)(F0 H0:Hp)(OL O O':a5)(g:ag->M B6):TS:=λD σ H=>∃FB F ρ,Rep K F0 H0 FB O F H σ ρ/\eu K W ro F0 H0 FB OL O' D (g ρ)
def d8:ag->M B6:=λρ=>.ok (.nx ρ)
def bw(g h:ag->M B6):ag->M B6:=λρ=>(g ρ).bind λfl=>match fl with
 |.nx ρ'=>h ρ'|fl=>.ok fl
noncomputable def sIf(ft:ag->M Bool)(g h:ag->M B6):ag->M B6:=λρ=>(ft ρ).bind λb=>if b=d_ then g ρ else h ρ
def aQ(O:a5)(i:Nat)(f:ag->M A'):ag->M B6:=λρ=>(f (erase O ρ)).bind λd=>.ok (.nx (ρ.set i (a_ d)))
def Bp(O:a5)(p:Pat)(f:ag->M A'):ag->M B6:=λρ=>(f (erase O ρ)).bind λd=>(cA p d ρ).bind λρ'=>.ok (.nx ρ')
noncomputable def jD(ρ:ag)(i:Nat):M (List A'):=match ρ[i]? with
 |some (a_ (.lst ds))=>.ok ds|_=>.error .stuck
def put(ρ:ag)(i:Nat)(ds:List A'):M B6:=.ok (.nx (ρ.set i (a_ (.lst ds))))
def jx(O:a5)(i:Nat)(f:ag->M A'):ag->M B6:=λρ=>(jD ρ i).bind λds=>(f (erase O ρ)).bind λd=>if ds.length<o_ then put ρ i (ds++[d])else .error .stuck
noncomputable def asI:A'->M Int
 |.int i=>.ok i|_=>.error .stuck
def Bq(i:Nat)(fi f:ag->M A'):ag->M B6:=λρ=>(f ρ).bind λd=>(jD ρ i).bind λds=>(fi ρ).bind λk=>(asI k).bind λk=>if eC d=d_ then(match ixN ds.length k with
 |some j=>put ρ i (ds.set j d)|none=>.error .stuck)else .error .stuck
def d7(f:ag->M A'):ag->M B6:=λρ=>(f ρ).bind λd=>.ok (.rt d)
def bM(p:Pat)(g:ag->M B6):List A'->ag->M B6
 |[],ρ=>.ok (.nx ρ)|d::ds,ρ=>(cA p d ρ).bind λI=>(g I).bind λfl=>match fl with
  |.nx B=>bM p g ds B|.ct B=>bM p g ds B|.bk B=>.ok (.nx B)|.rt d=>.ok (.rt d)
def iM(O:a5)(fi:ag->M (List A'))(p:Pat)(g:ag->M B6):ag->M B6:=λρ=>(fi (erase O ρ)).bind λds=>bM p g ds ρ
section
variable{W:cy}{own:Bool}{D:Ends}{h:ag->M B6}{f fi:ag->M A'}
def eu.err{x:M B6}{e:Err}(p:eu K W ro F0 H0 FB OL O' D x)(h:x=.error e):W.p e F0 H0:=by rw[h]at p;exact p
def eu.iB{x:M B6}{e:Err}(p:eu K W ro F0 H0 FB OL O' D x)(s:B4 F0 H0 F H)(h:x=.error e):W.p e F H:=W.mono (p.err h) s
theorem eu.stuck{x:M B6}{P:Prop}(p:eu K W ro F0 H0 FB OL O' D x)(h:x=.error .stuck):P:=(W.ns (p.err h)).elim
def rs_seq(t:tS K W ro F0 H0 OL O O2 (bw g h) D σ H):nP (tS K W ro F0 H0 OL O O' g) (tS K W ro F0 H0 OL O' O2 h) D σ H:=by
 obtain⟨FB,F,ρ,r,p⟩:=t;refine⟨FB,F,ρ,r,?_⟩
 unfold bw at p;cases e:g ρ with
 |error x=>exact p.err (by rw[e];rfl)|ok fl=>
  rw[e]at p;cases fl with
  |nx ρ'=>exact λB F' H' r'=>⟨FB,F',ρ',r',p⟩|rt d=>exact p|bk ρ'=>exact p|ct ρ'=>exact p
noncomputable def aft(own:Bool)(i:Nat)(O:a5):a5:=if own=d_ then i::O.filter (· != i)else O.filter (· != i)
theorem Rep.bindV(r:Rep K F0 H0 FB O F H σ ρ)(q:Val K own F H2 H d v)(B:aX H0 H2)(I:∀a,l5 O [] σ ρ a->∃o,H2 a=a_ o):Rep K F0 H0 FB (aft own i O) F H (σ.set i (a_ v)) (ρ.set i (a_ d)):=by
 cases own with
 |false=>exact r.set q i|true=>
  refine r.setOwn (kg.back B q) λa S J z=>?_;subst S;obtain⟨b,_,e,_,_,_,n⟩:=kg.top J q;cases e;obtain⟨j,es,h1,B,c,Y,U⟩:=z;obtain⟨o,f⟩:=I a ⟨j,es,h1,am,c,Y,U⟩
  simp_all
def D9(t:tS K W ro F0 H0 OL O (aft own i O) (aQ O i f) D σ H):r9 (tD K W own f) (jm i) D σ H:=by
 obtain⟨FB,F,ρ,r,p⟩:=t;refine aJ r.jW r.st.fh (λe B=>p.iB r.st (by unfold aQ;rw[B];rfl)) λd I v F1 H1 s1 q=>?_;have z:aQ O i f ρ=.ok (.nx (ρ.set i (a_ d))):=by unfold aQ;rw[I];rfl
 rw[z]at p;exact p _ F1 H1 ((r.step s1).bindV q r.st.hh λa J=>let ⟨_,_,_,e,_⟩:=r.own J;⟨_,e⟩)
def k7(h:jD ρ i=.ok ds):ρ[i]?=a_ (a_ (.lst ds)):=by
 unfold jD at h;split at h
 .cases h;assumption
 .cases h
def p5{e:Err}(h:jD ρ i=.error e):e=.stuck:=by
 unfold jD at h;split at h
 .cases h
 .cases h;rfl
def Rep.DX(r:Rep K F0 H0 FB O F H σ ρ)(hi:i∈O)(e:ρ[i]?=a_ (a_ (.lst ds))):∃a xs,σ[i]?=a_ (a_ (.ref a))/\H a=a_ (.lst xs)/\ay K F ds xs:=by obtain⟨v,e3,a,xs,ev,p,_,_,t⟩:=r.ow i _ e hi;subst ev;exact⟨a,xs,e3,p,t⟩
def tApp(K:Pn)(i:Nat)(te:TE):TS:=tDrop (tBM K "list" Dj (vi i) (Bi te tNil))
def rs_setI(hi:i∈O)(t:tS K W ro F0 H0 OL O O (Bq i fi f) D σ H):r9 (tD K W c_ f) (gSub (vi i) (tD K W c_ fi) Bx) D σ H:=by
 obtain⟨FB,F,ρ,r,p⟩:=t;refine aJ r.ku r.gu (λe U=>p.iB (r.freeze (O2:=[]) am).st (by unfold Bq;rw[U];rfl)) λd c v F1 H1 s1 q=>?_;have h:Bq i fi f ρ=(jD ρ i).bind λds=>(fi ρ).bind λk=>(asI k).bind λk=>if eC d=d_ then(match ixN ds.length k with
  |some j=>put ρ i (ds.set j d)|none=>.error .stuck)else .error .stuck:=by unfold Bq;rw[c];rfl
 rw[h]at p;cases I:jD ρ i with
 |error e=>have:=p5 I;subst this;exact p.stuck (by rw[I];rfl)|ok ds=>
  rw[I]at p;have p:eu K W ro F0 H0 FB OL O D ((fi ρ).bind λk=>(asI k).bind λk=>if eC d=d_ then(match ixN ds.length k with
   |some j=>put ρ i (ds.set j d)|none=>.error .stuck)else .error .stuck):=p
  have B:=r.i8 s1;obtain⟨a,xs,e2,g,z⟩:=B.DX hi (k7 I);refine⟨.ref a,e2,?_⟩
  refine aJ B.ku B.gu (λe U=>p.iB (B.freeze (O2:=[]) am).st (by rw[U];rfl)) λk b w l H2 s2 q2=>?_;rw[b]at p;cases k with
  |int k=>
   have p:eu K W ro F0 H0 FB OL O D (if eC d=d_ then(match ixN ds.length k with
    |some j=>put ρ i (ds.set j d)|none=>.error .stuck)else .error .stuck):=p
   by_cases S:eC d=d_
   .rw[p_ S]at p;cases J:ixN ds.length k with
    |none=>rw[J]at p;exact p.stuck rfl|some j=>
     rw[J]at p;refine⟨a,xs,k,j,rfl,q2,s2.hh _ _ g,by rw[z.length];exact J,?_⟩
     have Y:bf K (minus F1 (l5 O [] σ ρ)) d v:=bf.flat (r.rK s1) S q;exact p σ _ _ ((B.i8 s2).write hi (k7 I) e2 (ay.set (Y.mono (B.eJ s2)) j (z.mono (B.eJ s2))))
   .rw[q_ S]at p;exact p.stuck rfl
  |_=>exact p.stuck rfl
end
noncomputable def stk:M α:=.error .stuck
def eW:A'->A'->M A'
 |.int i,.int j=>.ok (.int (i+j))|.lst xs,.lst ys=>if xs.length+ys.length<=o_ then .ok (.lst (xs++ys))else stk
 |.tup xs,.tup ys=>if xs.length+ys.length<=o_ then .ok (.tup (xs++ys))else stk
 |_,_=>stk
def zo:A'->A'->M A'
 |.int i,.int j=>.ok (.int (i-j))|_,_=>stk
noncomputable def dG(i:Int):Bool:=xF (-(2^64)<i)&&xF (i<2^64)
def nV:A'->A'->M A'
 |.int i,.int j=>if (dG i||dG j)=d_ then .ok (.int (i*j))else stk
 |_,_=>stk
def nH:A'->A'->M A'
 |.int i,.int j=>if (xF (0<j)&&xF (j<18446744073709551616))=d_ then .ok (.int (i/j))else stk
 |_,_=>stk
def kj:A'->A'->M A'
 |.int i,.int j=>if 0<j then .ok (.int (i%j))else stk
 |_,_=>stk
def BI:A'->M A'
 |.int i=>.ok (.int (-i))|_=>stk
def ltD:A'->A'->M A'
 |.int i,.int j=>.ok (.bl (xF (i<j)))|_,_=>stk
def leD:A'->A'->M A'
 |.int i,.int j=>.ok (.bl (xF (i<=j)))|_,_=>stk
def gtD:A'->A'->M A'
 |.int i,.int j=>.ok (.bl (xF (j<i)))|_,_=>stk
noncomputable def b2z(b:Bool):Int:=if b then 1 else 0
mutual
noncomputable def eqD:A'->A'->Bool
 |.non,.non=>d_|.bl a,.bl b=>a==b|.bl a,.int b=>b2z a==b|.int a,.bl b=>a==b2z b|.int a,.int b=>a==b|.tup xs,.tup ys=>ug xs ys|.lst xs,.lst ys=>ug xs ys|_,_=>c_
noncomputable def ug:List A'->List A'->Bool
 |[],[]=>d_|d::ds,e::es=>eqD d e&&ug ds es|_,_=>c_
end
mutual
noncomputable def E':A'->Nat->Bool
 |.tup ds,n=>(match n with
  |0=>c_|n+1=>iG ds n)
 |.lst ds,n=>(match n with
  |0=>c_|n+1=>iG ds n)
 |.ins _ _,_=>c_|.dic _,_=>c_|.dil _,_=>c_|.non,_=>d_|.bl _,_=>d_|.int _,_=>d_
noncomputable def iG:List A'->Nat->Bool
 |[],_=>d_|d::ds,n=>E' d n&&iG ds n
end
def eqM(a b:A'):M A':=if (E' a 40&&E' b 40)=d_ then .ok (.bl (eqD a b))else stk
def neM(a b:A'):M A':=if (E' a 40&&E' b 40)=d_ then .ok (.bl (!eqD a b))else stk
def DK(a b:A'):M A':=(jG b).bind λds=>if (E' a 40&&iG ds 40)=d_ then .ok (.bl (!ds.any λd=>eqD d a))else stk
def w9:A'->A'->M A'
 |.non,.non=>.ok (.bl c_)|_,.non=>.ok (.bl d_)|_,_=>stk
def iQ(ds:List A')(i:Int):M A':=match atI ds i with
 |some d=>.ok d|none=>stk
def ixD:A'->A'->M A'
 |.lst ds,.int i=>iQ ds i|.tup ds,.int i=>iQ ds i|_,_=>stk
def kO:List A'->M A'
 |[.lst ds]=>.ok (.int ds.length)|[.tup ds]=>.ok (.int ds.length)|_=>stk
def absD:List A'->M A'
 |[.int i]=>.ok (.int (if i<0 then -i else i))
 |_=>stk
def fF:List A'->M (List Bool)
 |[]=>.ok []|d::ds=>(asB d).bind λb=>(fF ds).bind λr=>.ok (b::r)
def cF:List A'->M a0
 |[]=>.ok []|d::ds=>(asI d).bind λb=>(cF ds).bind λr=>.ok (b::r)
def allD:List A'->M A'
 |[.lst ds]=>(fF ds).bind λB=>.ok (.bl (B.all id))|_=>stk
def sumD:List A'->M A'
 |[.lst ds]=>(cF ds).bind λis=>.ok (.int is.sum)|_=>stk
def fX:List A'->M A'
 |[.lst ds]=>.ok (.lst ds)|[.tup ds]=>.ok (.lst ds)|_=>stk
def fj:List A'->M A'
 |[.lst ds]=>.ok (.tup ds)|[.tup ds]=>.ok (.tup ds)|_=>stk
def intD:List A'->M A'
 |[.int i]=>.ok (.int i)|[.bl b]=>.ok (.int (b2z b))|_=>stk
noncomputable def fN(i j:Int):Int:=if j>i then j else i
noncomputable def wd(i j:Int):Int:=if j<i then j else i
def maxL:a0->M A'
 |[]=>stk|i::is=>.ok (.int (is.foldl fN i))
def minL:a0->M A'
 |[]=>stk|i::is=>.ok (.int (is.foldl wd i))
def maxD:List A'->M A'
 |[.int i,.int j]=>.ok (.int (fN i j))|[.lst ds]=>(cF ds).bind maxL|_=>stk
def minD:List A'->M A'
 |[.int i,.int j]=>.ok (.int (wd i j))|[.lst ds]=>(cF ds).bind minL|_=>stk
def o8:A'->M A'
 |.int _=>.ok (.bl d_)|.bl _=>.ok (.bl d_)|.ins _ _=>stk|.dic _=>stk|.dil _=>stk|_=>.ok (.bl c_)
def lL:A'->M A'
 |.bl _=>.ok (.bl d_)|.ins _ _=>stk|.dic _=>stk|.dil _=>stk|_=>.ok (.bl c_)
def lK:A'->M A'
 |.lst _=>.ok (.bl d_)|.ins _ _=>stk|.dic _=>stk|.dil _=>stk|_=>.ok (.bl c_)
def fLR(fr:ag->M (List A')):ag->M A':=λρ=>(fr ρ).bind bj
noncomputable def eO:Nat->List A'->List A'
 |_,[]=>[]|k,d::ds=>.tup [.int k,d]::eO (k+1) ds
noncomputable def Am:A'->M (List A')
 |.lst ds=>.ok ds|_=>.error .stuck
def C0(fa:ag->M A'):ag->M (List A'):=λρ=>(fa ρ).bind λd=>(Am d).bind λds=>.ok (eO 0 ds)
noncomputable def qu:List A'->List A'->List A'
 |d::ds,e::es=>.tup [d,e]::qu ds es|_,_=>[]
def bJ(nN n:Nat)(g:ag->M B6)(ds:List A'):M A':=if ds.length=n then(g (ds.map a_++D_ (nN-ds.length) e_)).bind λfl=>match fl with
 |.nx _=>.ok .non|.rt d=>.ok d|_=>stk else stk
@[simp] theorem af{α β:Type}(a:α)(f:α->M β):QK (GY a:M α) f=f a:=id rfl
@[simp]def j5{α β:Type}(e:Err)(f:α->M β):QK (Ie e:M α) f=.error e:=id rfl
@[simp] theorem fw:∀is:a0,cF (is.map A'.int)=.ok is
 |[]=>rfl|i::is=>by simp[cF,asI,fw is]
@[simp] theorem Ce:∀is:List Bool,fF (is.map A'.bl)=.ok is
 |[]=>rfl|i::is=>by simp[fF,asB,Ce is]
@[simp] theorem DC(n:Nat):∀is:a0,iG (is.map A'.int) n=d_
 |[]=>by rfl|i::is=>by simp[iG,E',DC n is]
theorem eZ(h:k<ds.length):iQ ds (k:Int)=.ok ds[k]:=by simp_all[iQ,atI,ixN,p_]
theorem getI_int{k:Int}(h0:0<=k)(h:k<is.length):iQ (is.map A'.int) k=.ok (.int (is[k.toNat]'(by omega))):=by
 have B:k.toNat<(is.map A'.int).length:=by simp;lia
 have e:k=(k.toNat:Int):=ad
 have:=eZ B;rw[<- e]at this;rw[this];simp
theorem dR{p:Pat}{fe:ag->M A'}{ρ0:ag}(f:A'->A'):∀(ds:List A'),(∀d∈ds,∃ρ,cA p d ρ0=.ok ρ/\fe ρ=.ok (f d))->aO p gp fe ρ0 ds=.ok (ds.map f)
 |[],_=>rfl|d::ds,h=>by obtain⟨ρ,e1,e2⟩:=h d am;rw[aO,e1];simp only[af,gp,e2,dR f ds λx B=>h x (by simp[B])];simp
@[simp]def vp(i:Int):dG i=(xF (-(2^64)<i)&&xF (i<2^64)):=id rfl
@[simp]def small_def2(i:Int):bu i=(xF (-(2^62)<=i)&&xF (i<2^62)):=id rfl
@[simp]def eqDs_nilR(ds:List A'):ug ds []=ds.isEmpty:=by cases ds<;>rfl
section
variable{fr:ag->M (List A')}{fu:ag->M Bool}{h:ag->M B6}
@[simp]def e_var0(d:A')(r:ag):ae 0 (a_ d::r)=.ok d:=id rfl
@[simp]def e_varS(i:Nat)(o:Option A')(r:ag):ae (i+1) (o::r)=ae i r:=by rfl
@[simp]def e_c(d:A'):fC d ρ=.ok d:=id rfl
@[simp]def e_1(k:A'->M A'):f1 k fa ρ=(fa ρ).bind k:=id rfl
@[simp]def e_2(k:A'->A'->M A'):f2 k fa fb ρ=(fa ρ).bind λa=>(fb ρ).bind λb=>k a b:=id rfl
@[simp]def e_nil:aw ρ=.ok []:=id rfl
@[simp]def e_cons:aa fa fr ρ=(fa ρ).bind λa=>(fr ρ).bind λr=>.ok (a::r):=id rfl
@[simp]def e_L(k:List A'->M A'):fL k fr ρ=(fr ρ).bind k:=id rfl
@[simp]def e_ite:fIte ft fa fb ρ=(ft ρ).bind λb=>if b=d_ then fa ρ else fb ρ:=id rfl
@[simp]def e_and:yz ft fu ρ=(ft ρ).bind λb=>if b=d_ then fu ρ else .ok c_:=id rfl
@[simp]def e_or:fOr ft fu ρ=(ft ρ).bind λb=>if b=d_ then .ok d_ else fu ρ:=id rfl
@[simp]def e_not:Cp ft ρ=(ft ρ).bind λb=>.ok (!b):=id rfl
@[simp]def e_B:fB fa ρ=(fa ρ).bind asB:=id rfl
@[simp]def e_andV:yy fa fb ρ=(fa ρ).bind λa=>(asB a).bind λb=>if b=d_ then fb ρ else .ok (.bl c_):=id rfl
@[simp]def e_tru:uX fa ρ=(fa ρ).bind truD:=id rfl
@[simp]def e_chain(k k':A'->A'->M A'):jM k k' fa fb fc ρ=(fa ρ).bind λa=>(fb ρ).bind λb=>(k a b).bind λx=>(asB x).bind λz=>if z=d_ then(fc ρ).bind λc=>k' b c else .ok (.bl c_):=id rfl
@[simp]def e_yes:gp ρ=.ok d_:=id rfl
@[simp]def e_it:fIt fa ρ=(fa ρ).bind jG:=id rfl
@[simp]def e_rng(k:List A'->M (List A')):gF k fr ρ=(fr ρ).bind k:=id rfl
@[simp]def e_LR:fLR fr ρ=(fr ρ).bind bj:=id rfl
@[simp]def e_enum:C0 fa ρ=(fa ρ).bind λd=>(Am d).bind λds=>.ok (eO 0 ds):=id rfl
@[simp]def e_comp(fi:ag->M (List A'))(ix:List (Option Nat))(p:Pat):bD fi ix p ft fa ρ=(fi ρ).bind λds=>if ds.length<=o_ then(aO p ft fa (eI ix ρ) ds).bind λr=>.ok (.lst r)else .error .stuck:=id rfl
@[simp]def e_asB(b:Bool):asB (.bl b)=.ok b:=id rfl
@[simp]def e_asI(b:Int):asI (.int b)=.ok b:=id rfl
@[simp]def e_itemsL(ds:List A'):jG (.lst ds)=.ok ds:=id rfl
@[simp]def e_itL(ds:List A'):Am (.lst ds)=.ok ds:=id rfl
@[simp]def e_itemsT(ds:List A'):jG (.tup ds)=.ok ds:=id rfl
@[simp]def e_truB(b:Bool):truD (.bl b)=.ok b:=id rfl
@[simp]def e_addI(i j:Int):eW (.int i) (.int j)=.ok (.int (i+j)):=id rfl
@[simp]def e_subI(i j:Int):zo (.int i) (.int j)=.ok (.int (i-j)):=id rfl
@[simp]def e_negI(i:Int):BI (.int i)=.ok (.int (-i)):=id rfl
@[simp]def e_ltI(i j:Int):ltD (.int i) (.int j)=.ok (.bl (xF (i<j))):=id rfl
@[simp]def e_leI(i j:Int):leD (.int i) (.int j)=.ok (.bl (xF (i<=j))):=id rfl
@[simp]def e_gtI(i j:Int):gtD (.int i) (.int j)=.ok (.bl (xF (j<i))):=id rfl
@[simp]def e_ixL(ds:List A')(i:Int):ixD (.lst ds) (.int i)=iQ ds i:=id rfl
@[simp]def e_ixT(ds:List A')(i:Int):ixD (.tup ds) (.int i)=iQ ds i:=id rfl
@[simp]def e_lenL(ds:List A'):kO [.lst ds]=.ok (.int ds.length):=id rfl
@[simp]def e_lenT(ds:List A'):kO [.tup ds]=.ok (.int ds.length):=id rfl
@[simp]def e_abs(i:Int):absD [.int i]=.ok (.int (if i<0 then -i else i)):=id rfl
@[simp]def e_all(ds:List A'):allD [.lst ds]=(fF ds).bind λB=>.ok (.bl (B.all id)):=id rfl
@[simp]def e_listL(ds:List A'):fX [.lst ds]=.ok (.lst ds):=id rfl
@[simp]def e_listT(ds:List A'):fX [.tup ds]=.ok (.lst ds):=id rfl
@[simp]def e_tupleL(ds:List A'):fj [.lst ds]=.ok (.tup ds):=id rfl
@[simp]def e_intB(b:Bool):intD [.bl b]=.ok (.int (b2z b)):=id rfl
@[simp]def e_max2(i j:Int):maxD [.int i,.int j]=.ok (.int (fN i j)):=id rfl
@[simp]def e_min2(i j:Int):minD [.int i,.int j]=.ok (.int (wd i j)):=id rfl
@[simp]def e_maxL(ds:List A'):maxD [.lst ds]=(cF ds).bind maxL:=id rfl
@[simp]def e_isiBI(i:Int):lL (.int i)=.ok (.bl c_):=id rfl
@[simp]def e_isiII(i:Int):o8 (.int i)=.ok (.bl d_):=id rfl
@[simp]def e_isiLL(ds:List A'):lK (.lst ds)=.ok (.bl d_):=id rfl
@[simp]def e_notN(d:A'):w9 d .non=.ok (.bl (match d with|.non=>c_|_=>d_)):=by cases d<;>rfl
@[simp]def e_next:d8 ρ=.ok (.nx ρ):=id rfl
@[simp] theorem e_seq:bw g h ρ=(g ρ).bind λfl=>match fl with
 |.nx ρ'=>h ρ'|fl=>.ok fl:=id rfl
@[simp]def e_if:sIf ft g h ρ=(ft ρ).bind λb=>if b=d_ then g ρ else h ρ:=id rfl
@[simp]def e_setB(O:a5)(i:Nat):aQ O i fa ρ=(fa (erase O ρ)).bind λd=>.ok (.nx (ρ.set i (a_ d))):=id rfl
@[simp]def e_ret:d7 fa ρ=(fa ρ).bind λd=>.ok (.rt d):=id rfl
@[simp]def e_for(O:a5)(fi:ag->M (List A'))(p:Pat):iM O fi p g ρ=(fi (erase O ρ)).bind λds=>bM p g ds ρ:=id rfl
@[simp]def e_appB(O:a5)(i:Nat):jx O i fa ρ=(jD ρ i).bind λds=>(fa (erase O ρ)).bind λd=>if ds.length<o_ then put ρ i (ds++[d])else .error .stuck:=id rfl
@[simp]def e_put(i:Nat)(ds:List A'):put ρ i ds=.ok (.nx (ρ.set i (a_ (.lst ds)))):=id rfl
@[simp]def e_lst0(ds:List A')(r:ag):jD (a_ (.lst ds)::r) 0=.ok ds:=id rfl
@[simp]def e_lstS(i:Nat)(o:Option A')(r:ag):jD (o::r) (i+1)=jD r i:=by rfl
@[simp]def e_er0:erase [] ρ=ρ:=id rfl
@[simp]def e_erS(i:Nat)(O:a5):erase (i::O) ρ=erase O (ρ.set i e_):=id rfl
@[simp]def iC(i:Nat)(d:A'):cA (.nm i) d ρ=.ok (ρ.set i (a_ d)):=id rfl
@[simp]def e_btp(is:a5)(ds:List A'):cA (.tp is) (.tup ds) ρ=if ds.length=is.length then .ok (jw is ds ρ)else .error .stuck:=id rfl
@[simp]def e_sa0(ds:List A'):jw [] ds ρ=ρ:=by rfl
@[simp]def e_saS(i:Nat)(is:a5)(d:A')(ds:List A'):jw (i::is) (d::ds) ρ=jw is ds (ρ.set i (a_ d)):=id rfl
@[simp]def e_in0:eI [] ρ=[]:=id rfl
@[simp]def e_inN(ix:List (Option Nat)):eI (e_::ix) ρ=e_::eI ix ρ:=id rfl
@[simp]def e_inS(j:Nat)(ix:List (Option Nat)):eI (a_ j::ix) ρ=(ρ[j]?).join::eI ix ρ:=id rfl
@[simp]def e_tup(ds:List A'):cq ds=if ds.length<=o_ then .ok (.tup ds)else .error .stuck:=id rfl
@[simp]def e_lst(ds:List A'):bj ds=if ds.length<=o_ then .ok (.lst ds)else .error .stuck:=id rfl
@[simp]def e_line:o_=16777216:=IS
@[simp] theorem e_run(a b:Nat)(ds:List A'):bJ a b g ds=if ds.length=b then(g (ds.map a_++D_ (a-ds.length) e_)).bind λfl=>match fl with
 |.nx _=>.ok .non|.rt d=>.ok d|_=>stk else stk:=id rfl
@[simp] theorem e_rng1{j:Int}(h:bu j=d_):jl [.int j]=.ok (aB 0 j.toNat):=by show(if bu j=d_ then _ else _)=_;lia
@[simp] theorem e_rng2{i j:Int}(h:bu i=d_)(B:bu j=d_):zL [.int i,.int j]=.ok (aB i (j-i).toNat):=by show(if (bu i&&bu j)=d_ then _ else _)=_;lia
@[simp]def C3{i j:Int}(h:0<j):kj (.int i) (.int j)=.ok (.int (i%j)):=by simp[kj,h]
@[simp] theorem e_fdiv{i j:Int}(h:0<j)(B:j<18446744073709551616):nH (.int i) (.int j)=.ok (.int (i/j)):=by simp_all[nH]
@[simp] theorem EJ{i j:Int}(h:dG j=d_):nV (.int i) (.int j)=.ok (.int (i*j)):=by show(if (dG i||dG j)=d_ then _ else _)=_;lia
@[simp] theorem EK{i j:Int}(h:dG i=d_):nV (.int i) (.int j)=.ok (.int (i*j)):=by show(if (dG i||dG j)=d_ then _ else _)=_;lia
end
section
variable{W:cy}{own:Bool}{a b c:G4}{es rest:List G4}{p:NV}{f:ag->M A'}{fr:ag->M (List A')}{fu:ag->M Bool}
def PE.imp{t t':TE}(h:PE X e t)(q:∀σ H Q,t' σ H Q->t σ H Q):PE X e t':=λB2 s σ H Q I z=>h B2 s σ H Q I (q σ H Q z)
def PT.imp{t t':TT}(h:PT X e t)(q:∀σ H Q,t' σ H Q->t σ H Q):PT X e t':=λB2 s σ H Q I z=>h B2 s σ H Q I (q σ H Q z)
def PW.imp{t t':TT}(h:PW X e t)(q:∀σ H Q,t' σ H Q->t σ H Q):PW X e t':=λB B2 s σ H Q I z=>h B B2 s σ H Q I (q σ H Q z)
def PA.imp{t t':TA}(h:PA X es t)(q:∀σ H Q,t' σ H Q->t σ H Q):PA X es t':=λps B2 s σ H Q I z=>h ps B2 s σ H Q I (q σ H Q z)
def PI.imp{t t':TI}(h:PI X tg e t)(q:∀σ H Q,t' σ H Q->t σ H Q):PI X tg e t':=λB2 s σ H Q I z=>h B2 s σ H Q I (q σ H Q z)
def PS.imp{st:G6}{t t':TS}(h:PS X st t)(q:∀D σ H,t' D σ H->t D σ H):PS X st t':=λB2 s σ H D I z=>h B2 s σ H D I (q D σ H z)
def PSs.imp{st:List G6}{t t':TS}(h:PSs X st t)(q:∀D σ H,t' D σ H->t D σ H):PSs X st t':=λB2 s σ H D I z=>h B2 s σ H D I (q D σ H z)
abbrev DE(K:Pn)(W:cy)(own:Bool)(X:Cx)(e:G4)(f:ag->M A'):Prop:=PE X e (tD K W own f)
abbrev DT(K:Pn)(W:cy)(X:Cx)(e:G4)(f:ag->M Bool):Prop:=PT X e (tDT K W f)
abbrev DW(K:Pn)(W:cy)(X:Cx)(e:G4)(f:ag->M Bool):Prop:=PW X e (tDT K W f)
abbrev DA(K:Pn)(W:cy)(X:Cx)(es:List G4)(f:ag->M (List A')):Prop:=PA X es (tDA K W f)
abbrev DI(K:Pn)(W:cy)(X:Cx)(tg e:G4)(f:ag->M (List A')):Prop:=PI X tg e (iD K W f)
abbrev DG(K:Pn)(X:Cx)(tg:G4)(p:Pat):Prop:=PG X tg (gP K p)
abbrev DS(K:Pn)(W:cy)(ro:Bool)(X:Cx)(OL O O':a5)(st:G6)(g:ag->M B6):Prop:=∀F0 H0:Hp,PS X st (tS K W ro F0 H0 OL O O' g)
abbrev DSs(K:Pn)(W:cy)(ro:Bool)(X:Cx)(OL O O':a5)(st:List G6)(g:ag->M B6):Prop:=∀F0 H0:Hp,PSs X st (tS K W ro F0 H0 OL O O' g)
abbrev Op2(K:Pn)(W:cy)(own:Bool)(X:Cx)(o:h_->h_->LI h_)(g:A'->A'->M A'):Prop:=OpR X o (rD2 K W own g)
abbrev jU(K:Pn)(W:cy)(own:Bool)(X:Cx)(v:h_)(g:List A'->M A'):Prop:=eD X v (rDL K W own g)
def ah(i:Nat)(S: ~~~(X.N[i]?=a_ x))(I:autoParam (Vis X.env.scope x) Jq5)(J:((x==("__debug__":Gf))=c_)⁻¹)(B:((x==("__classdict__":Gf))=c_)⁻¹):DE K W c_ X (.Name x pos) (ae i):=(pv i S I J B).imp λ_ H _=>by
    intro h;obtain⟨F,ρ,r,s,p⟩:=h;unfold ae at p
    match e:ρ[i]? with
    |some (a_ d)=>rw[e]at p;obtain⟨v,e1,q⟩:=r.sl i d e;exact⟨v,e1,p v F H (B4.refl s) q⟩
    |some e_=>rw[e]at p;exact(W.ns p).elim|none=>rw[e]at p;exact(W.ns p).elim
def ai{i:Int}{j}:DE K W c_ X (.Constant (.int i) j pos) (fC (.int i)):=pe_int.imp λ_ _ _=>rd_c λ_=>rfl
def gd{k:Bool}{j}:DE K W c_ X (.Constant (.bool k) j pos) (fC (.bl k)):=pe_bl.imp λ_ _ _=>rd_c λ_=>rfl
def AH{j}:DE K W c_ X (.Constant .none j pos) (fC .non):=pe_non.imp λ_ _ _=>rd_c λ_=>rfl
def yG{n:Int}(B:∃t,X.mg x=a_ (.int n t))(I: ~~~(Gl X x))(J:((x==("__debug__":Gf))=c_)⁻¹):DE K W c_ X (.Name x pos) (fC (.int n)):=(pe_gint I B J).imp λ_ _ _=>rd_c λ_=>rfl
def ao(h:DE K W d_ X e f):DE K W c_ X e f:=PE.imp h λ_ _ _ ⟨F,ρ,r,s,p⟩=>⟨F,ρ,r,s,p.frz⟩
def aF{op:Operator}{g:A'->A'->M A'}(B:Op2 K W own X (IF op) g)(J:DE K W c_ X a fa)(I:DE K W c_ X b fb):DE K W own X (.BinOp a op b pos) (f2 g fa fb):=(pe_op B J I).imp λ_ _ _=>rd_2
def yD{op:UnaryOp}{g:A'->M A'}(B:UnR X (QN op) (rD1 K W own g))(I:DE K W c_ X a fa):DE K W own X (.UnaryOp op a pos) (f1 g fa):=(pe_un B I).imp λ_ _ _=>rd_1
def sF{g:A'->A'->M A'}(B:Op2 K W c_ X (Gy op) g)(S:DE K W c_ X a fa)(J:DE K W c_ X b fb)(I:autoParam (Kv op b=c_) Jq10):DE K W c_ X (.Compare a [op] [b] pos) (f2 g fa fb):=
 (pe_cmpR B S J I).imp λ_ _ _=>rd_2
def bz{g:A'->A'->M A'}(B:Op2 K W c_ X (Gy op) g)(S:DE K W c_ X a fa)(J:DE K W c_ X b fb)(I:autoParam (Kv op b=c_) Jq10):DT K W X (.Compare a [op] [b] pos) (fB (f2 g fa fb)):=
 (Dl B S J I).imp λσ H Q h=>by have q:=rd_B h;exact rd_2 (own:=c_) q
def de_chain{g:A'->A'->M A'}(I:Op2 K W c_ X (Gy op) g)(B:Op2 K W c_ X (Gy op') g')(Y:DE K W c_ X a fa)(U:DE K W c_ X b fb)(S:DE K W c_ X c fc)(J:autoParam (O3 [op,op'] [b,c]=c_) Jq7):DE K W c_ X (.Compare a [op,op'] [b,c] pos) (jM g g' fa fb fc):=(pe_chain I B Y U S J).imp λ_ _ _=>zP
def Ay{g:A'->A'->M A'}(I:Op2 K W c_ X (Gy op) g)(B:Op2 K W c_ X (Gy op') g')(Y:DE K W c_ X a fa)(U:DE K W c_ X b fb)(S:DE K W c_ X c fc)(J:autoParam (O3 [op,op'] [b,c]=c_) Jq7):DT K W X (.Compare a [op,op'] [b,c] pos) (fB (jM g g' fa fb fc)):=(pt_chain I B Y U S J).imp λσ H Q h=>by have q:=rd_B h;exact zP q
theorem kD(J:DE K W c_ X a fa)(S: ~~~(X.K=K))(I:autoParam (∀B,Py a X.env B=(do let v <- B;Lv a.pos;II [v] (truthy v))) Jq3):DT K W X a (uX fa):=by
 subst S;exact(pt_truth J I).imp λ_ _ H1=>by
   intro h;obtain⟨F,ρ,r,s,p⟩:=h;refine aJ r s (λe I=>?_) λa J x F1 H1 s1 q1=>?_
   .have z:uX fa ρ=.error e:=by unfold uX;rw[I];rfl
    simp_all
   .have z:uX fa ρ=truD a:=by unfold uX;rw[J];rfl
    rw[z]at p;cases e:truD a with
    |ok b=>rw[e]at p;exact⟨b,tru_of s1.fh q1 e,p F1 H1 s1⟩|error x=>
     rw[e]at p;have:x=.stuck:=by
      cases a with
      |ins C fs=>cases e;rfl|dic ks=>cases e;rfl|dil ks=>cases e;rfl|_=>cases e
     subst this;exact(W.ns p).elim
theorem sD(J:DT K W X a ft):DT K W X (.UnaryOp .Not a pos) (Cp ft):=(pt_not J).imp λ_ _ _=>by
  intro h;obtain⟨F,ρ,r,s,p⟩:=h;refine jt r s (λe B=>?_) λb I F1 H1 s1=>?_
  .have z:Cp ft ρ=.error e:=by unfold Cp;rw[B];rfl
   simp_all
  .have z:Cp ft ρ=.ok (!b):=by unfold Cp;rw[I];rfl
   rw[z]at p;exact p F1 H1 s1
def pN(B:DT K W X a ft):DW K W X (.BoolOp .And [a] pos) ft:=by
  intro J B2 s σ H Q I h;refine isTrue_and (D' (B B2 s σ H Q I h) λc s1 e=>?_);cases c with
  |true=>exact isTrue_and_nil e|false=>exact e
def dw_or1(B:DT K W X a ft):DW K W X (.BoolOp .Or [a] pos) ft:=by
  intro J B2 s σ H Q I h;refine isTrue_or (D' (B B2 s σ H Q I h) λc s1 e=>?_);cases c with
  |false=>exact isTrue_or_nil e|true=>exact e
theorem sC(J:DT K W X a ft)(B:DW K W X (.BoolOp .And (b::rest) pos) fu):DW K W X (.BoolOp .And (a::b::rest) pos) (yz ft fu):=(pw_and J B).imp λ_ _ _=>by
  intro h;obtain⟨F,ρ,r,s,p⟩:=h;refine jt r s (λe I=>?_) λb B F1 H1 s1=>?_
  .have z:yz ft fu ρ=.error e:=by unfold yz;rw[I];rfl
   simp_all
  .have z:yz ft fu ρ=if b=d_ then fu ρ else .ok c_:=by unfold yz;rw[B];rfl
   rw[z]at p;cases b with
   |true=>exact zi r s1 p|false=>exact p F1 H1 s1
theorem dw_or(J:DT K W X a ft)(B:DW K W X (.BoolOp .Or (b::rest) pos) fu):DW K W X (.BoolOp .Or (a::b::rest) pos) (fOr ft fu):=(pw_or J B).imp λ_ _ _=>by
  intro h;obtain⟨F,ρ,r,s,p⟩:=h;refine jt r s (λe I=>?_) λb B F1 H1 s1=>?_
  .have z:fOr ft fu ρ=.error e:=by unfold fOr;rw[I];rfl
   simp_all
  .have z:fOr ft fu ρ=if b=d_ then .ok d_ else fu ρ:=by unfold fOr;rw[B];rfl
   rw[z]at p;cases b with
   |false=>exact zi r s1 p|true=>exact p F1 H1 s1
def de_one{op}(h:DE K W c_ X a f):DE K W c_ X (.BoolOp op [a] pos) f:=λB2 s σ H Q I hw=>BoolOp_one (h B2 s σ H Q I hw)
def de_and(B:DE K W c_ X a fa)(J:DE K W c_ X (.BoolOp .And (b::rest) pos) fb):DE K W c_ X (.BoolOp .And (a::b::rest) pos) (yy fa fb):=(pe_and B J).imp λ_ _ _=>by
  intro h;obtain⟨F,ρ,r,s,p⟩:=h;refine aJ r s (λe I=>p.err (by unfold yy;rw[I];rfl)) λa B x F1 H1 s1 q1=>?_;have z:yy fa fb ρ=(asB a).bind λb=>if b=d_ then fb ρ else .ok (.bl c_):=by unfold yy;rw[B];rfl
  rw[z]at p;cases a with
  |bl b=>
   refine⟨b,q1,?_⟩
   cases b with
   |true=>exact⟨F1,ρ,r.mono s1.ff,s1.fh,aE.step (own:=c_) (r:=fb ρ) p s1⟩|false=>exact p (.bl c_) F1 H1 s1 rfl
  |_=>exact(W.ns p).elim
def de_ite(J:DT K W X c ft)(S:DE K W own X a fa)(B:DE K W own X b fb):DE K W own X (.IfExp c a b pos) (fIte ft fa fb):=(pe_ifExp J S B).imp λ_ _ _=>by
  intro h;obtain⟨F,ρ,r,s,p⟩:=h;refine jt r s (λe I=>p.err (by unfold fIte;rw[I];rfl)) λb B F1 H1 s1=>?_;have e:fIte ft fa fb ρ=if b=d_ then fa ρ else fb ρ:=by unfold fIte;rw[B];rfl
  rw[e]at p;cases b with
  |true=>exact⟨F1,ρ,r.mono s1.ff,s1.fh,p.step s1⟩|false=>exact⟨F1,ρ,r.mono s1.ff,s1.fh,p.step s1⟩
def ba:DA K W X [] aw:=eG.imp λ_ _ _=>rd_nil
theorem aH(B:DE K W c_ X e fa)(S:DA K W X es fr)(J: ~~~(l_ (e::es) X.env=(c_,FV e X.env)::l_ es X.env)):DA K W X (e::es) (aa fa fr):=(bT B S J).imp λ_ _ _=>by
  intro h;obtain⟨F,ρ,r,s,p⟩:=h;refine aJ r s (λe I=>?_) λa B x F1 H1 s1 q1=>ju (r.mono s1.ff) s1.fh (λe I=>?_) λds U xs Y H2 s2 q2=>?_
  .have z:aa fa fr ρ=.error e:=by unfold aa;rw[I];rfl
   simp_all
  .have z:aa fa fr ρ=.error e:=by unfold aa;rw[B];show(fr ρ).bind _=_;rw[I];rfl
   rw[z]at p;exact W.mono p s1
  .have z:aa fa fr ρ=.ok (a::ds):=by unfold aa;rw[B];show(fr ρ).bind _=_;rw[U];rfl
   rw[z]at p;exact p (x::xs) Y H2 (s1.trans s2) ⟨x,xs,rfl,bf.mono s2.ff q1,q2⟩
theorem dQ{J}(h:DA K W X es fr):DE K W own X (.Tuple es J pos) (fL cq fr):=(pe_tup h).imp λ_ _ _=>by
  intro h;obtain⟨F,ρ,r,s,p⟩:=rd_L h;refine⟨F,ρ,r,s,?_⟩
  cases e:fr ρ with
  |error x=>simp_all|ok ds=>
   rw[e]at p;intro vs F' H' t q;obtain⟨F1,es,s1,q1,z⟩:=p vs F' H' t q;unfold cq at z;by_cases B:es.length<=o_
   .rw[p_ B]at z;refine⟨by rw[q1.length];exact B,λa I=>z (.ref a) _ _ (B4.lay s1 I) ?_⟩
    have:bf K (upd F1 a (.tup vs)) (.tup es) (.ref a):=⟨a,vs,rfl,SqT.of av,q1.mono (aX.upd (s1.free I))⟩
    cases own with
    |true=>exact this|false=>exact this
   .rw[q_ B]at z;exact(W.ns z).elim
theorem bp(h:DA K W X es fr):DE K W d_ X (.List es pos) (fL bj fr):=(pe_lst h).imp λ_ _ _=>by
  intro h;obtain⟨F,ρ,r,s,p⟩:=rd_L h;refine⟨F,ρ,r,s,?_⟩
  cases e:fr ρ with
  |error x=>simp_all|ok ds=>
   rw[e]at p;intro vs F' H' t q;obtain⟨F1,es,s1,q1,z⟩:=p vs F' H' t q;unfold bj at z;by_cases B:es.length<=o_
   .rw[p_ B]at z;exact⟨by rw[q1.length];exact B,λa I=>z (.ref a) F1 _ (B4.grow s1 I) ⟨a,vs,rfl,av,s1.free I,I,q1⟩⟩
   .rw[q_ B]at z;exact(W.ns z).elim
def aA{id:String}{g:List A'->M A'}(b:jU K W own X (.builtin id) g)(Y:X.mg x=e_)(S:Ir x=a_ (.builtin id))(c:DA K W X (e::es) fr)(a: ~~~(Gl X x))(U:(x≠"__name__")⁻¹)(J:((x==("__debug__":Gf))=c_)⁻¹)(B: ~~~(l_ (e::es) X.env=(c_,FV e X.env)::l_ es X.env))(I: ~~~((Hi pos (l_ es X.env)).any (·.1)=c_)):DE K W own X (.Call (.Name x p) (e::es) [] pos) (fL g fr):=
 (lE b a Y S c U J B I).imp λ_ _ _=>rd_L
def bg{T:String}{g:List A'->M A'}(b:jU K W own X (.type T) g)(Y:X.mg x=e_)(S:Ir x=a_ (.type T))(c:DA K W X (e::es) fr)(a: ~~~(Gl X x))(U:(x≠"__name__")⁻¹)(J:((x==("__debug__":Gf))=c_)⁻¹)(B: ~~~(l_ (e::es) X.env=(c_,FV e X.env)::l_ es X.env))(I: ~~~((Hi pos (l_ es X.env)).any (·.1)=c_)):DE K W own X (.Call (.Name x p) (e::es) [] pos) (fL g fr):=
 (lC b a Y S c U J B I).imp λ_ _ _=>rd_L
def aR{g:A'->A'->M A'}(I:IxR X (rD2 K W own g))(S:DE K W c_ X a fa)(J:DE K W c_ X b fb)(B:autoParam (uT b) Jq8):DE K W own X (.Subscript a b pos) (f2 g fa fb):=(pe_ix I S J B).imp λ_ _ _=>rd_2
def ig(J:X.N.Nodup)(hi: ~~~(X.N[i]?=a_ x))(B:autoParam (Loc X.env.scope x) Jq6)(I:autoParam (X.fn x=d_\/X.env.scope.names.lookup x=a_ .local) Jq4):DG K X (.Name x pos) (.nm i):=yf J hi B I
theorem bX(d:DE K W c_ X e fa)(i: ~~~(X.K=K)):DI K W X tg e (fIt fa):=by
 subst i;refine PI.imp (t:=iSeq X.K (tD X.K W c_ fa)) ?_ λ_ _ _=>by
   intro h;obtain⟨F,ρ,r,s,p⟩:=h;refine aJ r s (λe f=>?_) λa g x F1 H1 s1 q1=>?_
   .have z:fIt fa ρ=.error e:=by unfold fIt;rw[f];rfl
    simp_all
   .have z:fIt fa ρ=jG a:=by unfold fIt;rw[g];rfl
    rw[z]at p;cases a with
    |lst ds=>obtain⟨b,xs,e,t,z⟩:=q1;exact⟨b,e,.inl ⟨⟨xs,s1.fh.lst t⟩,p _ F1 H1 s1 (wz t z)⟩⟩
    |tup ds=>obtain⟨b,xs,e,t,z⟩:=q1;exact⟨b,e,.inr ⟨⟨xs,s1.fh.tup t⟩,p _ F1 H1 s1 (iter_tup t z)⟩⟩
    |_=>exact(W.ns p).elim
 intro B2 s σ H R I h;refine D' (d B2 s σ H _ I h) λv s1 c=>?_;obtain⟨y,H1,B,Y,q1⟩:=c;obtain⟨l,e1,q⟩:=q1;subst e1;cases Y;rcases q with⟨⟨xs,J⟩,q⟩|⟨⟨xs,J⟩,q⟩
 .obtain⟨its,U,p,hz⟩:=B.list J;refine Kb p.isList ?_;refine⟨s1.z,[s1.z],_,_,H1,rfl,B.kept (t':=s1.toks) λb o e=>f_ _ e,oz l _,⟨_,j_ _ rfl,rfl,rfl⟩,λb S=>?_,q⟩
  have e:b=s1.z:=by simpa using S
  subst e;exact B.fpOk (i_ _) (B.hok.fresh (i_ _))
 .obtain⟨its,U,p,hz⟩:=B.tuple J;refine Jr (show s1.heap.IsTuple l its.toArray from p) ?_;refine⟨s1.z,[s1.z],_,_,H1,rfl,B.kept (t':=s1.toks) λb o e=>f_ _ e,qZ l _,⟨_,j_ _ rfl,rfl,rfl⟩,λb S=>?_,q⟩
  have e:b=s1.z:=by simpa using S
  subst e;exact B.fpOk (i_ _) (B.hok.fresh (i_ _))
def cK(S:X.mg "range"=e_)(c:DA K W X [a] fr)(U: ~~~(Gl X "range"))(I: ~~~(l_ [a] X.env=[(c_,FV a X.env)])):DI K W X tg (.Call (.Name "range" p) [a] [] pos) (gF jl fr):=(Ds U S c I).imp λ_ H R=>by
  intro h;obtain⟨F,ρ,r,s,p⟩:=h;refine ju r s (λe Y=>?_) λds b xs F1 H1 s1 q1=>?_
  .have z:gF jl fr ρ=.error e:=by unfold gF;rw[Y];rfl
   rw[z]at p;exact p
  .have z:gF jl fr ρ=jl ds:=by unfold gF;rw[b];rfl
   rw[z]at p;cases ds with
   |nil=>exact(W.ns p).elim|cons d ds=>
    cases d with
    |int j=>
     cases ds with
     |cons _ _=>exact(W.ns p).elim|nil=>
      obtain⟨v,vs,e,q,t⟩:=q1;have p':match (if bu j=d_ then GY (aB 0 j.toNat)else Ie Err.stuck:M (List A'))with
       |.ok ds=>∀J F1 H1,B4 F H F1 H1->nM K F1 J ds->R J H1|.error e=>W.p e F H:=p
      by_cases B:bu j=d_
      .rw[p_ B]at p';unfold bu at B;simp only[m_,FG]at B;exact⟨j,by rw[e,show v=.int j from q,show vs=[]from t],B.1,B.2,p' _ F1 H1 s1 rO⟩
      .rw[q_ B]at p';exact(W.ns p').elim
    |_=>exact(W.ns p).elim
theorem di_rng2(d:X.mg "range"=e_)(l:DA K W X [a,b] fr)(f: ~~~(Gl X "range"))(c: ~~~(l_ [a,b] X.env=[(c_,FV a X.env),(c_,FV b X.env)]))(U: ~~~(l_ [b] X.env=[(c_,FV b X.env)])):
  DI K W X tg (.Call (.Name "range" p) [a,b] [] pos) (gF zL fr):=(Dr f d l c U).imp λ_ H R=>by
    intro h;obtain⟨F,ρ,r,s,p⟩:=h;refine ju r s (λe g=>?_) λds k xs F1 H1 s1 q1=>?_
    .have z:gF zL fr ρ=.error e:=by unfold gF;rw[g];rfl
     simp_all
    .have z:gF zL fr ρ=zL ds:=by unfold gF;rw[k];rfl
     rw[z]at p;by_cases I:∃i j,ds=[.int i,.int j]
     .obtain⟨i,j,rfl⟩:=I;obtain⟨v,vs,e,q,Y,S,e2,q2,t⟩:=q1;have p':match (if (bu i&&bu j)=d_ then GY (aB i (j-i).toNat)else Ie Err.stuck:M (List A'))with
       |.ok ds=>∀J F1 H1,B4 F H F1 H1->nM K F1 J ds->R J H1|.error e=>W.p e F H:=p
      by_cases B:(bu i&&bu j)=d_
      .rw[p_ B]at p';unfold bu at B;simp only[m_,FG]at B;exact⟨i,j,by rw[e,show v=.int i from q,e2,show Y=.int j from q2,show S=[]from t],⟨B.1.1,B.1.2,B.2.1,B.2.2⟩,p' _ F1 H1 s1 rO⟩
      .rw[q_ B]at p';exact(W.ns p').elim
     .have:zL ds=.error .stuck:=by
       unfold zL;split
       .exact FR ⟨_,_,rfl⟩ I
       .rfl
      rw[this]at p;exact(W.ns p).elim
variable{st:G6}{h:ag->M B6}
def bL:DSs K W ro X OL O O [] d8:=λ_ _=>ye.imp λ_ σ H=>by intro t;obtain⟨FB,F,ρ,r,p⟩:=t;exact p σ F H r
def aj(h1:DS K W ro X OL O O' st g)(B:DSs K W ro X OL O' O2 sts h):DSs K W ro X OL O O2 (st::sts) (bw g h):=λF0 H0=>(bB (h1 F0 H0) (B F0 H0)).imp λ_ _ _=>rs_seq
def au(h1:DS K W ro X OL O O' st g):DSs K W ro X OL O O' [st] g:=λF0 H0=>jy (h1 F0 H0)
def cg(h1:DSs K W ro X OL O2 O' sts g)(B:(∀i∈O2,i∈O)⁻¹):DSs K W ro X OL O O' sts g:=λF0 H0=>PSs.imp (h1 F0 H0) λ_ _ _=>by intro t;obtain⟨FB,F,ρ,r,p⟩:=t;exact⟨FB,_,ρ,r.freeze B,p⟩
def d9{sa sb:List G6}(J:DT K W X c ft)(S:DSs K W ro X OL O O' sa g)(B:DSs K W ro X OL O O' sb h):DS K W ro X OL O O' (.If c sa sb pos) (sIf ft g h):=λF0 H0=>(ps_if J (S F0 H0) (B F0 H0)).imp λ_ _ _=>by
  intro t;obtain⟨FB,F,ρ,r,p⟩:=t;refine jt r.ku r.gu (λe I=>p.iB (r.freeze (O2:=[]) am).st (by unfold sIf;rw[I];rfl)) λb B F1 H1 s1=>?_;have z:sIf ft g h ρ=if b=d_ then g ρ else h ρ:=by unfold sIf;rw[B];rfl
  rw[z]at p;cases b with
  |true=>exact⟨FB,_,ρ,r.i8 s1,p⟩|false=>exact⟨FB,_,ρ,r.i8 s1,p⟩
def ui(U:X.N.Nodup)(S:DE K W own X e f)(hi: ~~~(X.N[i]?=a_ x))(B:autoParam (Loc X.env.scope x) Jq6)(I: ~~~(HM e (a_ (.Name x pos')) pos.line X.env=GW c_))(J:autoParam (X.fn x=d_\/X.env.scope.names.lookup x=a_ .local) Jq4):
  DS K W ro X OL O (aft own i O) (.Assign [.Name x pos'] e pos) (aQ O i f):=λF0 H0=>(mQ U hi B S I J).imp λ_ _ _=>D9
def aG(B:DE K W ro X e f):DS K W ro X OL O O' (.Return (a_ e) pos) (d7 f):=λF0 H0=>(zT B).imp λ_ _ _=>by
  intro t;obtain⟨FB,F,ρ,r,p⟩:=t;have I:=r.freeze (O2:=[]) am;refine aJ r.ku r.gu (λe B=>p.iB I.st (by unfold d7;rw[B];rfl)) λd J v F1 H1 s1 q=>?_;have z:d7 f ρ=.ok (.rt d):=by unfold d7;rw[J];rfl
  rw[z]at p;exact p v F1 H1 (I.st.trans s1) (q.back r.st.hh)
theorem bO{body:List G6}{fs:ag->M (List A')}{pt:Pat}(hi:DI K W X tg iter fs)(A:DG K X tg pt)(E:DSs K W ro X O O O body g)(n:(∀i∈pt.names,i∉O)⁻¹)(w:PassesOwn (y_ X.prog X.w) X.A X.env X.xe:=by exact PassesOwn.never)(C: ~~~(X.calm=d_))(v:autoParam (∀x,Ii iter X.env x=GW x) Jq3):DS K W ro X OL O O (.For tg iter body [] pos) (iM O fs pt g):=λF0 H0=>(Dn w C hi A (E F0 H0) v).imp λD σ H=>by
    intro t;obtain⟨FB,F,ρ,r,p⟩:=t;refine⟨F,erase O ρ,r.jW,r.st.fh,?_⟩
    cases e:fs (erase O ρ)with
    |error x=>exact p.iB r.st (by unfold iM;rw[e];rfl)|ok ds=>
     have z:iM O fs pt g ρ=bM pt g ds ρ:=by unfold iM;rw[e];rfl
     rw[z]at p;intro J F1 H1 s1 j;refine⟨λi m σ H=>∃F ρ,Rep K F0 H0 F1 O F H σ ρ/\i<=ds.length/\m=ds.length-i/\eu K W ro F0 H0 FB OL O D (bM pt g (ds.drop i) ρ),⟨ds.length,F1,ρ,?_,Gr _,ad,aW⟩,?_⟩
     .have b:=r.step s1;exact⟨b.st,aX.refl _,b.len,b.fz,b.ow,b.ap⟩
     .rintro i m f H2 ⟨c,B,U,hi,rfl,p2⟩;by_cases a:i<ds.length
      .have L:ds.drop i=ds[i]::ds.drop (i+1):=Gd a;rw[L]at p2;refine .inr ⟨j.go i c H2 U.fb U.st.fh a,λI H'=>(∃F ρ,Rep K F0 H0 F1 O F H' I ρ/\eu K W ro F0 H0 FB OL O D (bM pt g (ds.drop (i+1)) ρ)),λI H' ⟨F,ρ,r,p⟩=>⟨ds.length-(i+1),ad,F,ρ,r,a,rfl,p⟩,λx H' y=>?_⟩;obtain⟨N,q,u⟩:=j.yl i c H2 x H' ds[i] U.fb U.st.fh am y;have G:bM pt g (ds[i]::ds.drop (i+1)) B=(cA pt ds[i] B).bind λh=>(g h).bind λfl=>match fl with
        |.nx B=>bM pt g (ds.drop (i+1)) B|.ct B=>bM pt g (ds.drop (i+1)) B|.bk B=>.ok (.nx B)|.rt d=>.ok (.rt d):=by rw[bM]
       rw[G]at p2;cases eb:cA pt ds[i] B with
       |error x=>have:=m6 eb;subst this;exact p2.stuck (by rw[eb];rfl)|ok Y=>
        rw[eb]at p2;have p2:eu K W ro F0 H0 FB OL O D ((g Y).bind λfl=>match fl with
         |.nx B=>bM pt g (ds.drop (i+1)) B|.ct B=>bM pt g (ds.drop (i+1)) B|.bk B=>.ok (.nx B)|.rt d=>.ok (.rt d)):=p2
        refine gP_rep (U.step q) n u eb λo s=>⟨F1,N,Y,s,?_⟩
        have k:aX FB F1:=(r.step s1).fb;cases l:g Y with
        |error x=>exact p2.err (by rw[l];rfl)|ok fl=>
         rw[l]at p2;cases fl with
         |nx S=>exact λI F' H' r'=>⟨F',S,r',p2⟩|ct S=>exact λI F' H' r'=>⟨F',S,r',p2⟩|bk S=>exact λI F' H' r'=>p2 I F' H' (r'.base k)|rt d=>exact p2
      .have:i=ds.length:=ad
       subst this;rw[JB]at p2;exact .inl ⟨j.st c H2 U.fb U.st.fh,p2 f c H2 (U.base (r.step s1).fb)⟩
def iV(g:DE K W c_ X e f)(k:(i∈O)⁻¹)(n: ~~~(X.N[i]?=a_ x))(m:autoParam (Vis X.env.scope x) Jq5)(h:((x==("__debug__":Gf))=c_)⁻¹)(j:((x==("__classdict__":Gf))=c_)⁻¹)(o: ~~~(X.K=K))(U: ~~~(l_ [e] X.env=[(c_,FV e X.env)]))(J: ~~~(HK (.Name x p) "append" X.env (FV (.Name x p) X.env)=FV (.Name x p) X.env))(Y: ~~~(((Hi q (l_ [e] X.env)).all (λx=> !x.1)&&(Lb q (JI [] X.env)).all (λx=>x.1.isSome)&&xF ([e].length+([]:List Lw).length+(if ([]:List Lw).isEmpty then 0 else 1)<30))=d_))(B: ~~~((Hi q (l_ [] X.env)).any (·.1)=c_))(I: ~~~((apos.endLine==q.line)=d_))(b: ~~~(HM (.Call (.Attribute (.Name x p) "append" apos) [e] [] q) e_ pos.line X.env=GW c_)):
  DS K W ro X OL O O (.Expr (.Call (.Attribute (.Name x p) "append" apos) [e] [] q) pos) (jx O i f):=λF0 H0=>by
 subst o;exact PS.imp (kJ (pe_bm JJ JP KO oX (pv i n m h j) (bT g eG U) J Y I U B) b) λ_ σ _=>by
   intro t;obtain⟨FB,F,ρ,r,p⟩:=t;cases S:jD ρ i with
   |error e=>have:=p5 S;subst this;exact p.stuck (by unfold jx;rw[S];rfl)|ok ds=>
    obtain⟨a,xs,e2,l,z⟩:=r.DX k (k7 S);refine⟨.ref a,e2,⟨rfl,_,_,rfl,SqL.of l⟩,?_⟩
    refine aJ r.jW r.st.fh (λe g=>p.iB r.st (by unfold jx;rw[S];show(f (erase O ρ)).bind _=_;rw[g];rfl)) λd h v F1 H1 s1 q=>?_;have s:jx O i f ρ=if ds.length<o_ then put ρ i (ds++[d])else .error .stuck:=by unfold jx;rw[S];show(f (erase O ρ)).bind _=_;rw[h];rfl
    rw[s]at p;by_cases c:ds.length<o_
    .rw[p_ c]at p;exact⟨a,xs,v,rfl,rfl,s1.hh _ _ l,by rw[z.length];exact c,p σ F1 _ ((r.step s1).write k (k7 S) e2 (ay.append (z.mono s1.ff) ⟨v,[],rfl,q,rfl⟩))⟩
    .rw[q_ c]at p;exact p.stuck rfl
end
section
variable{W:cy}{own:Bool}
def OpR.imp{f:h_->h_->LI h_}{r r':R2}(h:OpR X f r)(q:∀x y H Q,r' x y H Q->r x y H Q):OpR X f r':=λB2 s σ H x y v u Q I J B z=>h B2 s σ H x y v u Q I J B (q x y H Q z)
def UnR.imp{f:h_->LI h_}{r r':V->Hp->VK->Prop}(h:UnR X f r)(q:∀x H Q,r' x H Q->r x H Q):UnR X f r':=λB2 s σ H x v Q I B z=>h B2 s σ H x v Q I B (q x H Q z)
def eD.imp{f:h_}{r r':a7->Hp->VK->Prop}(h:eD X f r)(q:∀x H Q,r' x H Q->r x H Q):eD X f r':=λB2 s σ H x v Q I B z=>h B2 s σ H x v Q I B (q x H Q z)
def IxR.imp{r r':R2}(h:IxR X r)(q:∀x y H Q,r' x y H Q->r x y H Q):IxR X r':=λB sl B2 s σ H x y v u Q I S J z e=>h B sl B2 s σ H x y v u Q I S J (q x y H Q z) e
def aE.stuck{Q:VK}{P:Prop}(p:aE K W own F H (stk) Q):P:=(W.ns p).elim
theorem aE.int{F H:Hp}{Q:VK}{i:Int}(p:aE K W own F H (.ok (.int i)) Q)(s:aX F H):Q (.int i) H:=p _ F H (B4.refl s) (by cases own<;>rfl)
theorem aE.bl{F H:Hp}{Q:VK}{b:Bool}(p:aE K W own F H (.ok (.bl b)) Q)(s:aX F H):Q (.bl b) H:=p _ F H (B4.refl s) (by cases own<;>rfl)
theorem aE.tup{F H:Hp}{Q:VK}{ds:List A'}{xs:a7}{a:iF}(p:aE K W own F H (.ok (.tup ds)) Q)(s:aX F H)(q:ay K F ds xs)(B:H a=e_):Q (.ref a) (upd H a (.tup xs)):=
 p _ _ _ (B4.lay s B) (by
  have:bf K (upd F a (.tup xs)) (.tup ds) (.ref a):=⟨a,xs,rfl,SqT.of av,q.mono (aX.upd (s.free B))⟩
  cases own<;>exact this)
def aE.same{Q:VK}(p:aE K W own F H (.ok (.tup ds)) Q)(s:aX F H)(q:bf K F (.tup ds) v):Q v H:=p _ F H (B4.refl s) (by cases own<;>exact q)
theorem aE.lst{F H:Hp}{Q:VK}{ds:List A'}{xs:a7}{a:iF}(p:aE K W d_ F H (.ok (.lst ds)) Q)(s:aX F H)(q:ay K F ds xs)(B:H a=e_):Q (.ref a) (upd H a (.lst xs)):=
 p _ F _ (B4.grow s B) ⟨a,xs,rfl,av,s.free B,B,q⟩
def iL{g:A'->A'->M A'}(J:∀a b,(∃i j,a=.int i/\b=.int j)\/g a b=stk){x:V}{Q:VK}(h:rD2 K W own g x y H Q):∃F i j,aX F H/\x=.int i/\y=.int j/\aE K W own F H (g (.int i) (.int j)) Q:=by
 obtain⟨F,a,b,s,I,B,p⟩:=h;rcases J a b with⟨i,j,rfl,rfl⟩|e
 .exact⟨F,i,j,s,I,B,p⟩
 .rw[e]at p;exact p.stuck
def nG:Op2 K W own X (IF .Sub) zo:=op_sub.imp λx y H Q h=>by obtain⟨F,i,j,s,e1,e2,p⟩:=iL (λa b=>by cases a<;>cases b<;>first|exact .inr rfl|simp) h;exact⟨i,j,e1,e2,p.int s⟩
def ki:Op2 K W own X (IF .Mult) nV:=op_mul.imp λx y H Q h=>by
 obtain⟨F,i,j,s,e1,e2,p⟩:=iL (λa b=>by cases a<;>cases b<;>first|exact .inr rfl|simp) h;have p':aE K W own F H (if (dG i||dG j)=d_ then .ok (.int (i*j))else stk) Q:=p;by_cases B:(dG i||dG j)=d_
 .rw[p_ B]at p';refine⟨i,j,e1,e2,?_,p'.int s⟩
  unfold dG at B;simp only[Np,m_,FG]at B;exact B
 .rw[q_ B]at p';exact p'.stuck
theorem Dz:OpR X (IF .FloorDiv) (rI (λ_ j=>0<j/\j<18446744073709551616) λi j=>.int (i/j)):=opI λi j _ _ _ _ _ B q=>by
 obtain⟨J,I⟩:=B;exact floordiv_int ad (by rw[Int.fdiv_eq_ediv_of_nonneg i ad];exact q) (.inl (PyProof.noPylong_of_log2 (by
   have a:j.natAbs<2^64:=ad
   have b:=(Nat.log2_lt (n:=j.natAbs) (k:=64) ad).mpr a;lia)))
def mS:Op2 K W own X (IF .FloorDiv) nH:=Dz.imp λx y H Q h=>by
 obtain⟨F,i,j,s,e1,e2,p⟩:=iL (λa b=>by cases a<;>cases b<;>first|exact .inr rfl|simp) h;have p':aE K W own F H (if (xF (0<j)&&xF (j<18446744073709551616))=d_ then .ok (.int (i/j))else stk) Q:=p;by_cases B:(xF (0<j)&&xF (j<18446744073709551616))=d_
 .rw[p_ B]at p';simp only[m_,FG]at B;exact⟨i,j,e1,e2,B,p'.int s⟩
 .rw[q_ B]at p';exact p'.stuck
def gz:Op2 K W own X (IF .Mod) kj:=op_mod.imp λx y H Q h=>by
 obtain⟨F,i,j,s,e1,e2,p⟩:=iL (λa b=>by cases a<;>cases b<;>first|exact .inr rfl|simp) h;have p':aE K W own F H (if 0<j then .ok (.int (i%j))else stk) Q:=p;by_cases B:0<j
 .rw[p_ B]at p';exact⟨i,j,e1,e2,B,p'.int s⟩
 .rw[q_ B]at p';exact p'.stuck
def yk:UnR X (QN .USub) (rD1 K W own BI):=un_neg.imp λx H Q h=>by
 obtain⟨F,a,s,B,p⟩:=h;cases a with
 |int i=>exact⟨i,B,aE.int (own:=own) p s⟩|_=>exact aE.stuck p
def o_lt:Op2 K W own X (Gy .Lt) ltD:=op_lt.imp λx y H Q h=>by obtain⟨F,i,j,s,e1,e2,p⟩:=iL (λa b=>by cases a<;>cases b<;>first|exact .inr rfl|simp) h;exact⟨i,j,e1,e2,p.bl s⟩
def o_le:Op2 K W own X (Gy .LtE) leD:=op_le.imp λx y H Q h=>by obtain⟨F,i,j,s,e1,e2,p⟩:=iL (λa b=>by cases a<;>cases b<;>first|exact .inr rfl|simp) h;exact⟨i,j,e1,e2,p.bl s⟩
def o_gt:Op2 K W own X (Gy .Gt) gtD:=op_gt.imp λx y H Q h=>by obtain⟨F,i,j,s,e1,e2,p⟩:=iL (λa b=>by cases a<;>cases b<;>first|exact .inr rfl|simp) h;exact⟨i,j,e1,e2,p.bl s⟩
theorem op_catL:OpR X (IF .Add) (λx y H Q=>∃l b xs Y,x=.ref l/\y=.ref b/\SqL X.K H l xs/\SqL X.K H b Y/\xs.length+Y.length<=o_/\∀p,H p=e_->Q (.ref p) (upd H p (.lst (xs++Y)))):=by
 intro B2 s σ H x y v u Q I o m h;obtain⟨l,b,xs,Y,rfl,rfl,w,z,hz,q⟩:=h;cases o;cases m;obtain⟨its,r,p1,F⟩:=I.list w;obtain⟨B,e,p2,t⟩:=I.list z;have E:=r.length;have D:=e.length;obtain⟨⟨C,A,j,sl⟩,f,i,n,g⟩:=id p1.isList;obtain⟨⟨k,c,d,a⟩,J,U,n2,S⟩:=id p2.isList;simp only at i g U S;subst i g U S;refine Nt ⟨_,f,rfl⟩ ⟨_,J,rfl⟩ noFill_list_add seq_list_add PySem.F.slot_list_add PySem.F.entry_list_add (PySem.F.args_list_add_2 _ _) (list_addW l b its.toArray B.toArray n n2 A c sl a aW) ⟨f,J,?_⟩;have ea:its.toArray++B.toArray=(its++B).toArray:=by simp
 rw[ea];exact⟨.ref _,_,I.lnew (t':=s.toks) (r.append e) aW,rfl,q _ I.fresh⟩
def op_cat3:OpR X (IF .Add) (λx y H Q=>∃a b xs ys,x=.ref a/\y=.ref b/\SqT X.K H a xs/\SqT X.K H b ys/\xs.length+ys.length<=o_/\(xs=[]->Q (.ref b) H)/\(ys=[]->Q (.ref a) H)/\∀p,H p=e_->Q (.ref p) (upd H p (.tup (xs++ys)))):=by
 intro B2 s σ H x y v u Q I g f h;obtain⟨a,b,xs,ys,rfl,rfl,o,m,hz,q1,q2,w⟩:=h;by_cases i:xs=[]
 .subst i;cases g;cases f;obtain⟨its,t,p1,_⟩:=I.tuple o;obtain⟨B,D,p2,_⟩:=I.tuple m;cases t;obtain⟨⟨C,A,q,sl⟩,j,l,n,k⟩:=id p1;obtain⟨⟨r,c,d,Y⟩,J,U,n2,S⟩:=id p2;simp only at l k U S;subst l k U S;exact Nt ⟨_,j,rfl⟩ ⟨_,J,rfl⟩ NM ON Le KZ (KP _ _)
   (tuple_addW0 a b #[] B.toArray n n2 A c sl Y rfl) ⟨j,J,⟨.ref b,H,I,rfl,q1 rfl⟩⟩
 .exact op_catT B2 s σ H _ _ v u Q I g f ⟨a,b,xs,ys,rfl,rfl,o,m,i,hz,λe=>q2 e,λ_ p z=>w p z⟩
def cG(f: ~~~(X.K=K)):Op2 K W d_ X (IF .Add) eW:=by
 subst f;refine(op_add.or (op_catL.or op_cat3)).imp λx y H Q h=>?_;obtain⟨F,a,b,s,c,Y,p⟩:=h;cases a with
 |int i=>
  cases b with
  |int j=>exact .inl ⟨i,j,c,Y,p.int s⟩|_=>exact aE.stuck p
 |lst ds=>
  cases b with
  |lst es=>
   obtain⟨a,xs,e1,U,I⟩:=c;obtain⟨b,ys,e2,S,B⟩:=Y;have p':aE X.K W d_ F H (if ds.length+es.length<=o_ then .ok (.lst (ds++es))else stk) Q:=p;by_cases J:ds.length+es.length<=o_
   .rw[p_ J]at p';exact .inr (.inl ⟨a,b,xs,ys,e1,e2,s.lst U,s.lst S,by rw[I.length,B.length];exact J,λl d=>p'.lst s (I.append B) d⟩)
   .rw[q_ J]at p';exact p'.stuck
  |_=>exact aE.stuck p
 |tup ds=>
  cases b with
  |tup es=>
   obtain⟨a,xs,e1,U,I⟩:=c;obtain⟨b,ys,e2,S,B⟩:=Y;have p':aE X.K W d_ F H (if ds.length+es.length<=o_ then .ok (.tup (ds++es))else stk) Q:=p;by_cases J:ds.length+es.length<=o_
   .rw[p_ J]at p';refine .inr (.inr ⟨a,b,xs,ys,e1,e2,s.tup U,s.tup S,by rw[I.length,B.length];exact J,λe=>?_,λe=>?_,λl d=>p'.tup s (I.append B) d⟩)
    .have z:ds=[]:=by have:=I.length;rw[e]at this;exact JR.mp this.symm
     subst z;exact p'.same s ⟨b,ys,rfl,S,B⟩
    .have z:es=[]:=by have:=B.length;rw[e]at this;exact JR.mp this.symm
     subst z;rw[Hn]at p';exact p'.same s ⟨a,xs,rfl,U,I⟩
   .rw[q_ J]at p';exact p'.stuck
  |_=>exact aE.stuck p
 |_=>exact aE.stuck p
def o_notN:Op2 K W own X (Gy .IsNot) w9:=op_notN.imp λx y H Q h=>by
 obtain⟨F,a,b,s,B,I,p⟩:=h;have key:∀{k:Bool},w9 a b=.ok (.bl k)->b=.non->((!decide (x=V.non))=k)->y=V.non/\Q (.bl (!decide (x=V.non))) H:=λ{k} e1 e2 e3=>by subst e2;rw[e1]at p;rw[e3];exact⟨I,p.bl s⟩
 cases b with
 |non=>
  cases a with
  |non=>exact key rfl rfl (by rw[show x=.non from B];rfl)|bl k=>exact key rfl rfl (by rw[show x=.bl k from B];rfl)|int k=>exact key rfl rfl (by rw[show x=.int k from B];rfl)|tup ds=>obtain⟨l,xs,e,_⟩:=B;exact key rfl rfl (by rw[e];rfl)
  |lst ds=>obtain⟨l,xs,e,_⟩:=B;exact key rfl rfl (by rw[e];rfl)
  |ins C fs=>obtain⟨l,dx,xs,e,_⟩:=B;exact key rfl rfl (by rw[e];rfl)
  |dic ks=>obtain⟨l,xs,e,_⟩:=B;exact key rfl rfl (by rw[e];rfl)
  |dil ks=>obtain⟨l,xs,e,_⟩:=B;exact key rfl rfl (by rw[e];rfl)
 |_=>cases a<;>exact aE.stuck p
theorem Ez{Q:VK}{i:Int}(p:aE K W c_ F H (iQ ds i) Q)(s:aX F H)(r:ay K F ds xs):∃v,atI xs i=a_ v/\Q v H:=by
 unfold iQ at p;cases e:atI ds i with
 |none=>rw[e]at p;exact aE.stuck p|some d=>
  rw[e]at p;unfold atI at e;cases B:ixN ds.length i with
  |none=>simp_all|some j=>
   rw[B]at e;obtain⟨v,e1,q⟩:=r.get (show ds[j]?=a_ d from e);refine⟨v,?_,p v F H (B4.refl s) q⟩
   unfold atI;rw[r.length,B];exact e1
def d6(U: ~~~(X.K=K)):IxR X (rD2 K W c_ ixD):=by
 subst U;refine Ej.imp λx y H Q h=>?_;obtain⟨F,a,b,s,S,J,p⟩:=h;cases a with
 |lst ds=>
  cases b with
  |int i=>obtain⟨a,xs,e1,B,I⟩:=S;obtain⟨v,e2,q⟩:=Ez p s I;exact .inl ⟨a,xs,i,v,e1,J,s.lst B,e2,q⟩
  |_=>exact aE.stuck p
 |tup ds=>
  cases b with
  |int i=>obtain⟨a,xs,e1,B,I⟩:=S;obtain⟨v,e2,q⟩:=Ez p s I;exact .inr ⟨a,xs,i,v,e1,J,s.tup B,e2,q⟩
  |_=>exact aE.stuck p
 |_=>exact aE.stuck p
def j3(B: ~~~(X.K=K)):jU K W own X (.builtin "len") kO:=by
 subst B;refine jR.imp λxs H Q h=>?_;obtain⟨F,ds,s,q,p⟩:=h;cases ds with
 |nil=>exact aE.stuck p|cons d ds=>
  cases ds with
  |cons _ _=>cases d<;>exact aE.stuck p
  |nil=>
   obtain⟨v,vs,e,q,e2⟩:=q;cases d with
   |lst es=>
    obtain⟨a,ys,e1,t,r⟩:=q;refine⟨a,ys,by rw[e,e1,show vs=[]from e2],.inl (s.lst t),?_⟩
    rw[r.length];exact aE.int (own:=own) p s
   |tup es=>
    obtain⟨a,ys,e1,t,r⟩:=q;refine⟨a,ys,by rw[e,e1,show vs=[]from e2],.inr (s.tup t),?_⟩
    rw[r.length];exact aE.int (own:=own) p s
   |_=>exact aE.stuck p
end
section
variable{W:cy}{own:Bool}
def gw{g:List A'->M A'}(B:∀ds,(∃d,ds=[d])\/g ds=stk){Q:VK}(h:rDL K W own g xs H Q):∃F d x,aX F H/\xs=[x]/\bf K F d x/\aE K W own F H (g [d]) Q:=by
 obtain⟨F,ds,s,q,p⟩:=h;rcases B ds with⟨d,rfl⟩|e
 .obtain⟨v,vs,e,q1,e2⟩:=q;exact⟨F,d,v,s,by rw[e,show vs=[]from e2],q1,p⟩
 .rw[e]at p;exact p.stuck
def CG{g:List A'->M A'}(B:∀ds,(∃d,ds=[d])\/(∃d e,ds=[d,e])\/g ds=stk){Q:VK}(h:rDL K W own g xs H Q):(∃F d x,aX F H/\xs=[x]/\bf K F d x/\aE K W own F H (g [d]) Q)\/∃F d e x y,aX F H/\xs=[x,y]/\bf K F d x/\bf K F e y/\aE K W own F H (g [d,e]) Q:=by
 obtain⟨F,ds,s,q,p⟩:=h;rcases B ds with⟨d,rfl⟩|⟨d,e,rfl⟩|e
 .obtain⟨v,vs,e,q1,e2⟩:=q;exact .inl ⟨F,d,v,s,by rw[e,show vs=[]from e2],q1,p⟩
 .obtain⟨v,vs,e1,q1,w,ws,e2,q2,e3⟩:=q;exact .inr ⟨F,d,e,v,w,s,by rw[e1,e2,show ws=[]from e3],q1,q2,p⟩
 .rw[e]at p;exact p.stuck
def c_abs:jU K W own X (.builtin "abs") absD:=call_abs.imp λxs H Q h=>by
 obtain⟨F,d,x,s,e,q,p⟩:=gw (λds=>by match ds with|[d]=>simp|[]=>exact .inr rfl|a::b::c=>exact .inr (by cases a<;>rfl)) h;cases d with
 |int i=>exact⟨i,by rw[e,show x=.int i from q],aE.int (own:=own) p s⟩|_=>exact aE.stuck p
theorem sO{F:Hp}:∀{ds:List A'} {xs:a7} {B:List Bool},ay K F ds xs->fF ds=.ok B->xs=B.map V.bl
 |[],_,_,q,e=>by cases e;exact q|d::ds,_,B,⟨v,vs,e1,q,r⟩,e=>by
  cases d with
  |bl b=>
   cases e2:fF ds with
   |error x=>simp_all[fF,asB,af,j5]|ok cs=>simp only[fF,asB,af,e2]at e;cases e;rw[e1,show v=.bl b from q,sO r e2];rfl
  |_=>cases e
theorem sP:∀{ds:List A'} {e:Err},fF ds=.error e->e=.stuck
 |[],_,h=>by cases h|d::ds,e,h=>by
  cases d with
  |bl b=>
   cases e2:fF ds with
   |error x=>simp only[fF,asB,af,e2,j5]at h;cases h;exact sP e2|ok cs=>simp_all[fF,asB,af]
  |_=>cases h;rfl
theorem dh{F:Hp}:∀{ds:List A'} {xs:a7} {B:a0},ay K F ds xs->cF ds=.ok B->xs=B.map V.int
 |[],_,_,q,e=>by cases e;exact q|d::ds,_,B,⟨v,vs,e1,q,r⟩,e=>by
  cases d with
  |int b=>
   cases e2:cF ds with
   |error x=>simp_all[cF,asI,af,j5]|ok cs=>simp only[cF,asI,af,e2]at e;cases e;rw[e1,show v=.int b from q,dh r e2];rfl
  |_=>cases e
theorem gC:∀{ds:List A'} {e:Err},cF ds=.error e->e=.stuck
 |[],_,h=>by cases h|d::ds,e,h=>by
  cases d with
  |int b=>
   cases e2:cF ds with
   |error x=>simp only[cF,asI,af,e2,j5]at h;cases h;exact gC e2|ok cs=>simp_all[cF,asI,af]
  |_=>cases h;rfl
def Fm(I:X.calm=d_)(J: ~~~(X.K=K)):jU K W own X (.builtin "all") allD:=by
 subst J;refine(call_all I).imp λxs H Q h=>?_;obtain⟨F,d,x,s,e,q,p⟩:=gw (λds=>by match ds with|[d]=>simp|[]=>exact .inr rfl|a::b::c=>exact .inr (by cases a<;>rfl)) h;cases d with
 |lst ds=>
  obtain⟨a,ys,e1,t,r⟩:=q;have p':aE X.K W own F H ((fF ds).bind λB=>.ok (.bl (B.all id))) Q:=p;cases eb:fF ds with
  |error z=>rw[eb]at p';have:=sP eb;subst this;exact aE.stuck p'|ok B=>
   rw[eb]at p';refine⟨a,B,by rw[e,e1],?_,aE.bl (own:=own) p' s⟩
   rw[<- sO r eb];exact s.lst t
 |_=>exact aE.stuck p
def qi(I: ~~~(X.K=K)):jU K W d_ X (.type "list") fX:=by
 subst I;refine xj.imp λxs H Q h=>?_;obtain⟨F,d,x,s,e,q,p⟩:=gw (λds=>by match ds with|[d]=>simp|[]=>exact .inr rfl|a::b::c=>exact .inr (by cases a<;>rfl)) h;cases d with
 |lst ds=>obtain⟨a,ys,e1,t,r⟩:=q;exact⟨a,ys,by rw[e,e1],.inl (s.lst t),λl B=>aE.lst p s r B⟩
 |tup ds=>obtain⟨a,ys,e1,t,r⟩:=q;exact⟨a,ys,by rw[e,e1],.inr (s.tup t),λl B=>aE.lst p s r B⟩
 |_=>exact aE.stuck p
def iZ(I: ~~~(X.K=K)):jU K W own X (.type "tuple") fj:=by
 subst I;refine uD.imp λxs H Q h=>?_;obtain⟨F,d,x,s,e,q,p⟩:=gw (λds=>by match ds with|[d]=>simp|[]=>exact .inr rfl|a::b::c=>exact .inr (by cases a<;>rfl)) h;cases d with
 |lst ds=>obtain⟨a,ys,e1,t,r⟩:=q;exact⟨a,ys,by rw[e,e1],.inl ⟨s.lst t,λl B=>aE.tup p s r B⟩⟩
 |tup ds=>obtain⟨a,ys,e1,t,r⟩:=q;subst e1;exact⟨a,ys,e,.inr ⟨s.tup t,aE.same (own:=own) p s ⟨a,ys,rfl,t,r⟩⟩⟩
 |_=>exact aE.stuck p
def c_int:jU K W own X (.type "int") intD:=Fh.imp λxs H Q h=>by
 obtain⟨F,d,x,s,e,q,p⟩:=gw (λds=>by match ds with|[d]=>simp|[]=>exact .inr rfl|a::b::c=>exact .inr (by cases a<;>rfl)) h;cases d with
 |int i=>exact .inl ⟨i,by rw[e,show x=.int i from q],aE.int (own:=own) p s⟩|bl b=>exact .inr ⟨b,by rw[e,show x=.bl b from q],aE.int (own:=own) p s⟩|_=>exact aE.stuck p
theorem fold_max:∀(is:a0) (i:Int),(is.foldl fN i=i\/is.foldl fN i∈is)/\i<=is.foldl fN i/\∀a∈is,a<=is.foldl fN i
 |[],i=>⟨.inl rfl,Je _,λ_ h=>nomatch h⟩
 |j::is,i=>by
  obtain⟨h1,I,B⟩:=fold_max is (fN i j);have z:(fN i j=i\/fN i j=j)/\i<=fN i j/\j<=fN i j:=by unfold fN;split<;>(refine⟨?_,?_,?_⟩<;>first|exact .inl rfl|exact .inr rfl|lia)
  grind
theorem fold_min:∀(is:a0) (i:Int),(is.foldl wd i=i\/is.foldl wd i∈is)/\is.foldl wd i<=i/\∀a∈is,is.foldl wd i<=a
 |[],i=>⟨.inl rfl,Je _,λ_ h=>nomatch h⟩
 |j::is,i=>by
  obtain⟨h1,I,B⟩:=fold_min is (wd i j);have z:(wd i j=i\/wd i j=j)/\wd i j<=i/\wd i j<=j:=by unfold wd;split<;>(refine⟨?_,?_,?_⟩<;>first|exact .inl rfl|exact .inr rfl|lia)
  grind
theorem yw{i m:Int}(h1:m∈i::is)(B:∀a∈i::is,a<=m):is.foldl fN i=m:=by
 obtain⟨J,g2,I⟩:=fold_max is i
 grind
theorem yv{i m:Int}(h1:m∈i::is)(B:∀a∈i::is,m<=a):is.foldl wd i=m:=by
 obtain⟨J,g2,I⟩:=fold_min is i
 grind
theorem Ff(g:X.calm=d_):eD X (.builtin "max") (λxs H Q=>∃a i is,xs=[.ref a]/\SqL X.K H a ((i::is).map V.int)/\Q (.int (is.foldl fN i)) H):=by
 intro B2 s σ H xs us Q I r h;obtain⟨a,i,is,rfl,c,q⟩:=h;obtain⟨u,rfl,Y⟩:=r.one;cases Y;obtain⟨its,U,p,hz⟩:=I.list c;have hi:=intsAre_of U;obtain⟨xs,e⟩:=hi.allInts.items;have B:i::is=xs.toList.map (·.1):=by rw[<- hi.numsOf,<- OQ,<- e]
 have hsz:0<xs.size:=by have k:=Jk Kl B;simp at k;lia
 have J:=p.isList;rw[e]at J;refine max_intList (I.ok.hd g) J hsz λv h' tk b d=>?_;obtain⟨t,rfl⟩:=P5 b;obtain⟨h1,l⟩:=argBest_gt (Oh xs) (xs.size-1);refine⟨.int _,H,I.kept d,⟨t,rfl⟩,?_⟩
 have:=yw (is:=is) (i:=i) (m:=Oh xs (argBest (λi j=>xF (Oh xs i>Oh xs j)) (xs.size-1))) (by
   rw[B,P2];exact getD_mem (by rw[oe,Gb];lia)) (λa S=>by
   rw[B]at S;obtain⟨j,f,rfl⟩:=mem_getD S;rw[oe,Gb]at f;rw[<- P2];exact l j ad)
 rw[<- this];exact q
theorem Fd(g:X.calm=d_):eD X (.builtin "min") (λxs H Q=>∃a i is,xs=[.ref a]/\SqL X.K H a ((i::is).map V.int)/\Q (.int (is.foldl wd i)) H):=by
 intro B2 s σ H xs us Q I r h;obtain⟨a,i,is,rfl,c,q⟩:=h;obtain⟨u,rfl,Y⟩:=r.one;cases Y;obtain⟨its,U,p,hz⟩:=I.list c;have hi:=intsAre_of U;obtain⟨xs,e⟩:=hi.allInts.items;have B:i::is=xs.toList.map (·.1):=by rw[<- hi.numsOf,<- OQ,<- e]
 have hsz:0<xs.size:=by have k:=Jk Kl B;simp at k;lia
 have J:=p.isList;rw[e]at J;refine min_intList (I.ok.hd g) J hsz λv h' tk b d=>?_;obtain⟨t,rfl⟩:=P5 b;obtain⟨h1,l⟩:=argBest_lt (Oh xs) (xs.size-1);refine⟨.int _,H,I.kept d,⟨t,rfl⟩,?_⟩
 have:=yv (is:=is) (i:=i) (m:=Oh xs (argBest (λi j=>xF (Oh xs i<Oh xs j)) (xs.size-1))) (by
   rw[B,P2];exact getD_mem (by rw[oe,Gb];lia)) (λa S=>by
   rw[B]at S;obtain⟨j,f,rfl⟩:=mem_getD S;rw[oe,Gb]at f;rw[<- P2];exact l j ad)
 simp_all
def yQ(B:X.calm=d_)(J: ~~~(X.K=K)):jU K W own X (.builtin "max") maxD:=by
 subst J;refine((Fg B).or (Ff B)).imp λxs H Q h=>?_;rcases CG (λds=>by match ds with|[d]=>exact .inl ⟨d,rfl⟩|[d,e]=>exact .inr (.inl ⟨d,e,rfl⟩)|[]=>exact .inr (.inr rfl)|a::b::c::d=>exact .inr (.inr (by cases a<;>cases b<;>rfl))) h with⟨F,d,x,s,e,q,p⟩|⟨F,d,I,x,y,s,e,q,q2,p⟩
 .cases d with
  |lst ds=>
   obtain⟨a,ys,e1,t,r⟩:=q;have p':aE X.K W own F H ((cF ds).bind maxL) Q:=p;cases eb:cF ds with
   |error z=>rw[eb]at p';have:=gC eb;subst this;exact aE.stuck p'|ok is=>
    rw[eb]at p';cases is with
    |nil=>exact aE.stuck p'|cons i is=>refine .inr ⟨a,i,is,by rw[e,e1],?_,aE.int (own:=own) p' s⟩;rw[<- dh r eb];exact s.lst t
  |_=>exact aE.stuck p
 .cases d with
  |int i=>
   cases I with
   |int j=>exact .inl ⟨i,j,by rw[e,show x=.int i from q,show y=.int j from q2],aE.int (own:=own) p s⟩|_=>exact aE.stuck p
  |_=>cases I<;>exact aE.stuck p
def c_min(B:X.calm=d_)(J: ~~~(X.K=K)):jU K W own X (.builtin "min") minD:=by
 subst J;refine((Fe B).or (Fd B)).imp λxs H Q h=>?_;rcases CG (λds=>by match ds with|[d]=>exact .inl ⟨d,rfl⟩|[d,e]=>exact .inr (.inl ⟨d,e,rfl⟩)|[]=>exact .inr (.inr rfl)|a::b::c::d=>exact .inr (.inr (by cases a<;>cases b<;>rfl))) h with⟨F,d,x,s,e,q,p⟩|⟨F,d,I,x,y,s,e,q,q2,p⟩
 .cases d with
  |lst ds=>
   obtain⟨a,ys,e1,t,r⟩:=q;have p':aE X.K W own F H ((cF ds).bind minL) Q:=p;cases eb:cF ds with
   |error z=>rw[eb]at p';have:=gC eb;subst this;exact aE.stuck p'|ok is=>
    rw[eb]at p';cases is with
    |nil=>exact aE.stuck p'|cons i is=>refine .inr ⟨a,i,is,by rw[e,e1],?_,aE.int (own:=own) p' s⟩;rw[<- dh r eb];exact s.lst t
  |_=>exact aE.stuck p
 .cases d with
  |int i=>
   cases I with
   |int j=>exact .inl ⟨i,j,by rw[e,show x=.int i from q,show y=.int j from q2],aE.int (own:=own) p s⟩|_=>exact aE.stuck p
  |_=>cases I<;>exact aE.stuck p
end
theorem SqL.inj{B2:Vp}{σ:St}{H:Hp}{s:k_}{a:iF}{xs ys:a7}(I:B5 X B2 σ H s)(h:SqL X.K H a xs)(h':SqL X.K H a ys):xs=ys:=by
 obtain⟨Y,S,p1,_⟩:=I.list h;obtain⟨U,J,p2,_⟩:=I.list h';obtain⟨o,n,e,_,_,d⟩:=p1;obtain⟨o',b,B,_,_,d'⟩:=p2;rw[e]at B;cases B;rw[d]at d';injection d' with d1 _
 have:Y=U:=by simpa using Jk MQ d1
 subst this;exact S.inj J
theorem SqT.inj{B2:Vp}{σ:St}{H:Hp}{s:k_}{a:iF}{xs ys:a7}(I:B5 X B2 σ H s)(h:SqT X.K H a xs)(h':SqT X.K H a ys):xs=ys:=by
 obtain⟨Y,S,p1,_⟩:=I.tuple h;obtain⟨U,J,p2,_⟩:=I.tuple h';obtain⟨o,e,_,n,d⟩:=p1;obtain⟨o',B,_,b,d'⟩:=p2;rw[e]at B;cases B;rw[d]at d';injection d' with d1 _
 have:Y=U:=by simpa using Jk MQ d1
 subst this;exact S.inj J
theorem ay.all_eq{F:Hp}(e:Nat->Bool):∀{ds es:List A'},ds.length=es.length->(∀(j:Nat) a b,ds[j]?=a_ a->es[j]?=a_ b->e j=eqD a b)->(x_ ds.length).all e=ug ds es:=by
 intro ds
 induction ds generalizing e with
 |nil=>intro es h _;cases es with
  |nil=>rfl|cons _ _=>simp at h
 |cons d ds B=>
  intro es h q;cases es with
  |nil=>simp at h|cons b es=>simp_all[B_,Ik,QJ,List.all_map,ug]
theorem og:∀{ds es:List A'},ds.length≠es.length->ug ds es=c_
 |[],[],h=>FR rfl h|[],_::_,_=>rfl|_::_,[],_=>rfl|d::ds,e::es,h=>by rw[ug,og (ds:=ds) (es:=es) (λz=>h (by simp[z])),NL]
theorem Av(e:Nat->Bool):∀{ds es:List A'},(∀(j:Nat) a b,ds[j]?=a_ a->es[j]?=a_ b->e j=eqD a b)->((x_ (N6 ds.length es.length)).all e&&ds.length==es.length)=ug ds es:=by
 intro ds es q;by_cases B:ds.length=es.length
 .have e1:N6 ds.length es.length=ds.length:=ad
  rw[e1,ay.all_eq (F:=λ_=>e_) e B q,B,beq_self_eq_true,QL]
 simp_all[og,NL]
mutual
theorem iU:∀{d:A'} {n:Nat},E' d n=d_->eqD d d=d_
 |.non,_,_=>rfl|.bl b,_,_=>by simp[eqD]|.int i,_,_=>by simp[eqD]|.tup ds,0,h=>by simp_all[E']|.tup ds,n+1,h=>by simp only[E']at h;simp only[eqD];exact pK h|.lst ds,0,h=>by simp_all[E']|.lst ds,n+1,h=>by simp only[E']at h;simp only[eqD];exact pK h|.ins _ _,_,h=>by simp_all[E']|.dic _,_,h=>by simp_all[E']|.dil _,_,h=>by simp_all[E']
theorem pK:∀{ds:List A'} {n:Nat},iG ds n=d_->ug ds ds=d_
 |[],_,_=>rfl|d::ds,n,h=>by simp only[iG,m_]at h;simp only[ug,iU h.1,pK h.2,Bool.and_self]
end
theorem tQ:∀{ds:List A'} {n i:Nat} {d:A'},iG ds n=d_->ds[i]?=a_ d->E' d n=d_
 |[],_,_,_,_,h=>by simp at h|_::_,_,0,_,h,e=>by simp_all[iG,m_]|_::_,_,i+1,_,h,e=>by simp only[iG,m_]at h;exact tQ h.2 (by simpa using e)
def kl(ds es:List A')(j:Nat):Bool:=match ds[j]?,es[j]? with
 |some a,a_ b=>eqD a b|_,_=>d_
inductive Sh(s:k_):A'->h_->Prop
 |non:Sh s .non .none
 |bl (b:Bool):Sh s (.bl b) (.bool b)
 |int (i:Int) (t:Nat):Sh s (.int i) (.int i t)
 |tup {ds:List A'} {l:iF} {is:Array h_} (p:s.heap.IsTuple l is):Sh s (.tup ds) (.ref l)
 |lst {ds:List A'} {l:iF} {is:Array h_} (p:s.heap.IsList l is):Sh s (.lst ds) (.ref l)
noncomputable def sq:A'->A'->Bool
 |.tup _,.tup _=>d_|.lst _,.lst _=>d_|_,_=>c_
def vn{a b:A'}(h:sq a b=d_):(∃ds es,a=.tup ds/\b=.tup es)\/∃ds es,a=.lst ds/\b=.lst es:=by
 unfold sq at h;split at h
 .exact .inl ⟨_,_,rfl,rfl⟩
 .exact .inr ⟨_,_,rfl,rfl⟩
 .cases h
def eqAt_U{s:k_}{a b:A'}{v:h_}(S:Sh s a u)(J:Sh s b v)(B:A.units<GQ):sq a b=d_\/JN A s u v (eqD a b):=match S,J with
 |.non,.non=>.inr (.same _)|.non,.bl b=>.inr (.none_bool b)|.non,.int b I=>.inr (.none_int b I)|.non,.tup q=>.inr (.none_tuple q B)|.non,.lst q=>.inr (.none_list q B)|.bl a,.non=>.inr (.bool_none a)|.bl a,.bl b=>.inr (.bool_bool a b)|.bl a,.int b I=>.inr (.bool_int a b I)|.bl a,.tup q=>.inr (.bool_tuple a q B)|.bl a,.lst q=>.inr (.bool_list a q B)|.int a t,.non=>.inr (.int_none a t)|.int a t,.bl b=>.inr (.int_bool a t b)|.int a t,.int b I=>.inr (.int_int a t b I)|.int a t,.tup q=>.inr (.int_tuple a t q B)|.int a t,.lst q=>.inr (.int_list a t q B)|.tup p,.non=>.inr (.tuple_none p B)|.tup p,.bl b=>.inr (.tuple_bool b p B)|.tup p,.int b I=>.inr (.tuple_int b I p B)|.tup _,.tup _=>.inl rfl|.tup p,.lst q=>.inr (.tuple_list p q B)|.lst p,.non=>.inr (.list_none p B)|.lst p,.bl b=>.inr (.list_bool b p B)|.lst p,.int b I=>.inr (.list_int b I p B)|.lst p,.tup q=>.inr (.list_tuple p q B)|.lst _,.lst _=>.inl rfl
def rcAt_U{s:k_}{a b:A'}{v:h_}(S:Sh s a u)(J:Sh s b v)(B:A.units<GQ):sq a b=d_\/OU A s u v (eqD a b):=match S,J with
 |.non,.non=>.inr (.none_none)|.non,.bl b=>.inr (.none_bool b)|.non,.int b I=>.inr (.none_int b I)|.non,.tup q=>.inr (.none_tuple q B)|.non,.lst q=>.inr (.none_list q B)|.bl a,.non=>.inr (.bool_none a)|.bl a,.bl b=>.inr (.bool_bool a b)|.bl a,.int b I=>.inr (.bool_int a b I)|.bl a,.tup q=>.inr (.bool_tuple a q B)|.bl a,.lst q=>.inr (.bool_list a q B)|.int a t,.non=>.inr (.int_none a t)|.int a t,.bl b=>.inr (.int_bool a t b)|.int a t,.int b I=>.inr (.int_int a t b I)|.int a t,.tup q=>.inr (.int_tuple a t q B)|.int a t,.lst q=>.inr (.int_list a t q B)|.tup p,.non=>.inr (.tuple_none p B)|.tup p,.bl b=>.inr (.tuple_bool b p B)|.tup p,.int b I=>.inr (.tuple_int b I p B)|.tup _,.tup _=>.inl rfl|.tup p,.lst q=>.inr (.tuple_list p q B)|.lst p,.non=>.inr (.list_none p B)|.lst p,.bl b=>.inr (.list_bool b p B)|.lst p,.int b I=>.inr (.list_int b I p B)|.lst p,.tup q=>.inr (.list_tuple p q B)|.lst _,.lst _=>.inl rfl
def rcNeAt_U{s:k_}{a b:A'}{v:h_}(S:Sh s a u)(J:Sh s b v)(B:A.units<GQ):sq a b=d_\/N3 A s u v (!eqD a b):=match S,J with
 |.non,.non=>.inr (.none_none)|.non,.bl b=>.inr (.none_bool b)|.non,.int b I=>.inr (.none_int b I)|.non,.tup q=>.inr (.none_tuple q B)|.non,.lst q=>.inr (.none_list q B)|.bl a,.non=>.inr (.bool_none a)|.bl a,.bl b=>.inr (.bool_bool a b)|.bl a,.int b I=>.inr (.bool_int a b I)|.bl a,.tup q=>.inr (.bool_tuple a q B)|.bl a,.lst q=>.inr (.bool_list a q B)|.int a t,.non=>.inr (.int_none a t)|.int a t,.bl b=>.inr (.int_bool a t b)|.int a t,.int b I=>.inr (.int_int a t b I)|.int a t,.tup q=>.inr (.int_tuple a t q B)|.int a t,.lst q=>.inr (.int_list a t q B)|.tup p,.non=>.inr (.tuple_none p B)|.tup p,.bl b=>.inr (.tuple_bool b p B)|.tup p,.int b I=>.inr (.tuple_int b I p B)|.tup _,.tup _=>.inl rfl|.tup p,.lst q=>.inr (.tuple_list p q B)|.lst p,.non=>.inr (.list_none p B)|.lst p,.bl b=>.inr (.list_bool b p B)|.lst p,.int b I=>.inr (.list_int b I p B)|.lst p,.tup q=>.inr (.list_tuple p q B)|.lst _,.lst _=>.inl rfl
section
variable{s:k_}
def vt(I:B5 X B2 σ H s)(B:aX F H){x:V}(o:E' d n=d_)(q:bf X.K F d x)(r:B' x u):Sh s d u:=by
 cases d with
 |non=>cases(show x=.non from q);cases r;exact .non|bl b=>cases(show x=.bl b from q);cases r;exact .bl b|int i=>cases(show x=.int i from q);obtain⟨t,rfl⟩:=r;exact .int i t
 |tup ds=>obtain⟨l,xs,e,t,_⟩:=q;subst e;cases r;obtain⟨is,_,p,_⟩:=I.tuple (B.tup t);exact .tup (show s.heap.IsTuple l is.toArray from p)
 |lst ds=>obtain⟨l,xs,e,t,_⟩:=q;subst e;cases r;obtain⟨is,_,p,_⟩:=I.list (B.lst t);exact .lst p.isList
 |_=>simp[E']at o
theorem pR{n:Nat}(J:∀(d e:A') {v:V},bf X.K F d v->bf X.K F e v->E' d n=d_->E' e n=d_->d=e):∀(ds es:List A') {xs:a7},ay X.K F ds xs->ay X.K F es xs->iG ds n=d_->iG es n=d_->ds=es
 |[],[],_,_,_,_,_=>rfl|[],_::_,_,q,⟨_,_,e,_,_⟩,_,_=>by rw[show _=[]from q]at e;cases e|_::_,[],_,⟨_,_,e,_,_⟩,q,_,_=>by rw[show _=[]from q]at e;cases e|d::ds,e::es,_,⟨v,vs,e1,q1,U⟩,⟨w,ws,e2,q2,S⟩,I,B=>by rw[e1]at e2;cases e2;simp only[iG,m_]at I B;rw[J d e q1 q2 I.1 B.1,pR J ds es U S I.2 B.2]
def um{e:A'}(J:sq d d=c_)(q:bf X.K F d v)(r:bf X.K F e v)(I:E' d n=d_)(B:E' e n=d_):d=e:=by
 cases d<;>first|(cases J;done)|(simp[E']at I;done)|(simp only[bf]at q;subst q)
 all_goals cases e<;>first|(simp[E']at B;done)|(simp only[bf]at r;first|(obtain⟨_,_,z,_⟩:=r;cases z;done)|(cases r<;>rfl))
theorem uo(I:B5 X B2 σ H s)(J:aX F H):∀(n:Nat) (d e:A') {v:V},bf X.K F d v->bf X.K F e v->E' d n=d_->E' e n=d_->d=e
 |n,.tup ds,e,v,⟨l,xs,e1,h1,a⟩,r,B,S=>by
  subst e1;cases n with
  |zero=>simp_all[E']|succ n=>
   cases e with
   |tup es=>obtain⟨b,ys,e2,U,Y⟩:=r;cases e2;cases SqT.inj I (J.tup h1) (J.tup U);rw[pR (uo I J n) _ _ a Y (by simp_all[E']) (by simp_all[E'])]
   |lst es=>obtain⟨b,ys,e2,U,Y⟩:=r;cases e2;obtain⟨f,_,p1,_⟩:=I.list (J.lst U);obtain⟨c,_,p2,_⟩:=I.tuple (J.tup h1);exact FR rfl (N2 p1.isList (show s.heap.IsTuple l c.toArray from p2))
   |_=>first|(simp[E']at S;done)|(simp only[bf]at r;cases r)
 |n,.lst ds,e,v,⟨l,xs,e1,h1,a⟩,r,B,S=>by
  subst e1;cases n with
  |zero=>simp_all[E']|succ n=>
   cases e with
   |lst es=>obtain⟨b,ys,e2,U,Y⟩:=r;cases e2;cases SqL.inj I (J.lst h1) (J.lst U);rw[pR (uo I J n) _ _ a Y (by simp_all[E']) (by simp_all[E'])]
   |tup es=>obtain⟨b,ys,e2,U,Y⟩:=r;cases e2;obtain⟨f,_,p1,_⟩:=I.list (J.lst h1);obtain⟨c,_,p2,_⟩:=I.tuple (J.tup U);exact FR rfl (N2 p1.isList (show s.heap.IsTuple l c.toArray from p2))
   |_=>first|(simp[E']at S;done)|(simp only[bf]at r;cases r)
 |_,.non,_,_,q,r,B,S=>um rfl q r B S|_,.bl _,_,_,q,r,B,S=>um rfl q r B S|_,.int _,_,_,q,r,B,S=>um rfl q r B S|_,.ins _ _,_,_,_,_,B,_=>by simp_all[E']|_,.dic _,_,_,_,_,B,_=>by simp_all[E']|_,.dil _,_,_,_,_,B,_=>by simp_all[E']
termination_by n=>n
theorem rcAt_S{a b:A'}{x:V}{v:h_}(I:B5 X B2 σ H s)(g:aX F H)(O:sq a b=d_)(w:bf X.K F a x)(t:bf X.K F b y)(r:B' x u)(p:B' y v)(n:A.units<GQ)(D:∀(ds es:List A') (j:Nat) (S J:A') (x y:V) (u v:h_),(a=.tup ds/\b=.tup es\/a=.lst ds/\b=.lst es)->ds[j]?=a_ S->es[j]?=a_ J->bf X.K F S x->bf X.K F J y->B' x u->B' y v->JN A.in1 s u v (eqD S J)):OU A s u v (eqD a b):=by
 rcases vn O with⟨ds,es,rfl,rfl⟩|⟨ds,es,rfl,rfl⟩
 .skip;obtain⟨C,xs,e1,h1,d⟩:=w;subst e1;cases r;obtain⟨is,Y,p1,_⟩:=I.tuple (g.tup h1);obtain⟨z,ys,e2,B,c⟩:=t;subst e2;cases p;obtain⟨m,U,p2,_⟩:=I.tuple (g.tup B);have K:=Y.length;have G:=U.length;have N:=d.length;have L:=c.length;have q:=SeqAt.RcAt.tuples (A:=A) (e:=kl ds es) (show s.heap.IsTuple C is.toArray from p1) (show s.heap.IsTuple z m.toArray from p2) n (λj h1 B=>by
   obtain⟨i,f1,o⟩:=Y.atA h1;obtain⟨h,f2,g2⟩:=U.atA B;obtain⟨S,f,l⟩:=d.at f1;obtain⟨J,k2,k⟩:=c.at f2;rw[show kl ds es j=eqD S J by simp only[kl,f,k2]];exact D ds es j S J i h _ _ (.inl ⟨rfl,rfl⟩) f k2 l k o g2)
  rw[show is.toArray.size=ds.length by simp_all,show m.toArray.size=es.length by simp_all,Av _ (λj a b h1 B=>by simp_all[kl])]at q;exact q
 .skip;obtain⟨C,xs,e1,h1,d⟩:=w;subst e1;cases r;obtain⟨is,Y,p1,_⟩:=I.list (g.lst h1);obtain⟨z,ys,e2,B,c⟩:=t;subst e2;cases p;obtain⟨m,U,p2,_⟩:=I.list (g.lst B);have K:=Y.length;have G:=U.length;have N:=d.length;have L:=c.length;by_cases E:ds.length=es.length
  .have q:=SeqAt.RcAt.lists (A:=A) (e:=kl ds es) p1.isList p2.isList aW n (λj h1 B=>by
   obtain⟨i,f1,o⟩:=Y.atA h1;obtain⟨h,f2,g2⟩:=U.atA B;obtain⟨S,f,l⟩:=d.at f1;obtain⟨J,k2,k⟩:=c.at f2;rw[show kl ds es j=eqD S J by simp only[kl,f,k2]];exact D ds es j S J i h _ _ (.inr ⟨rfl,rfl⟩) f k2 l k o g2)
   rw[show is.toArray.size=ds.length by grind,ay.all_eq (F:=F) _ E (λj a b h1 B=>by simp_all[kl])]at q;exact q
  .rw[show eqD (.lst ds) (.lst es)=c_ from og E];exact SeqAt.RcAt.lists_lengths (A:=A) p1.isList p2.isList aW n
theorem rcNeAt_S{a b:A'}{x:V}{v:h_}(I:B5 X B2 σ H s)(g:aX F H)(O:sq a b=d_)(w:bf X.K F a x)(t:bf X.K F b y)(r:B' x u)(p:B' y v)(n:A.units<GQ)(D:∀(ds es:List A') (j:Nat) (S J:A') (x y:V) (u v:h_),(a=.tup ds/\b=.tup es\/a=.lst ds/\b=.lst es)->ds[j]?=a_ S->es[j]?=a_ J->bf X.K F S x->bf X.K F J y->B' x u->B' y v->JN A.in1 s u v (eqD S J)):N3 A s u v (!eqD a b):=by
 rcases vn O with⟨ds,es,rfl,rfl⟩|⟨ds,es,rfl,rfl⟩
 .skip;obtain⟨C,xs,e1,h1,d⟩:=w;subst e1;cases r;obtain⟨is,Y,p1,_⟩:=I.tuple (g.tup h1);obtain⟨z,ys,e2,B,c⟩:=t;subst e2;cases p;obtain⟨m,U,p2,_⟩:=I.tuple (g.tup B);have K:=Y.length;have G:=U.length;have N:=d.length;have L:=c.length;have q:=SeqAt.RcNeAt.tuples (A:=A) (e:=kl ds es) (show s.heap.IsTuple C is.toArray from p1) (show s.heap.IsTuple z m.toArray from p2) n (λj h1 B=>by
   obtain⟨i,f1,o⟩:=Y.atA h1;obtain⟨h,f2,g2⟩:=U.atA B;obtain⟨S,f,l⟩:=d.at f1;obtain⟨J,k2,k⟩:=c.at f2;rw[show kl ds es j=eqD S J by simp only[kl,f,k2]];exact D ds es j S J i h _ _ (.inl ⟨rfl,rfl⟩) f k2 l k o g2)
  rw[show is.toArray.size=ds.length by simp_all,show m.toArray.size=es.length by simp_all,Av _ (λj a b h1 B=>by simp_all[kl])]at q;exact q
 .skip;obtain⟨C,xs,e1,h1,d⟩:=w;subst e1;cases r;obtain⟨is,Y,p1,_⟩:=I.list (g.lst h1);obtain⟨z,ys,e2,B,c⟩:=t;subst e2;cases p;obtain⟨m,U,p2,_⟩:=I.list (g.lst B);have K:=Y.length;have G:=U.length;have N:=d.length;have L:=c.length;by_cases E:ds.length=es.length
  .have q:=SeqAt.RcNeAt.lists (A:=A) (e:=kl ds es) p1.isList p2.isList (by simp;lia) n (λj h1 B=>by
   obtain⟨i,f1,o⟩:=Y.atA h1;obtain⟨h,f2,g2⟩:=U.atA B;obtain⟨S,f,l⟩:=d.at f1;obtain⟨J,k2,k⟩:=c.at f2;rw[show kl ds es j=eqD S J by simp only[kl,f,k2]];exact D ds es j S J i h _ _ (.inr ⟨rfl,rfl⟩) f k2 l k o g2)
   rw[show is.toArray.size=ds.length by simp;lia,ay.all_eq (F:=F) _ E (λj a b h1 B=>by simp_all[kl])]at q;exact q
  .rw[show eqD (.lst ds) (.lst es)=c_ from og E];exact SeqAt.RcNeAt.lists_lengths (A:=A) p1.isList p2.isList (by simp;lia) n
theorem ok_sub{a b S J:A'}{es:List A'}(I:E' a n=d_)(B:E' b n=d_)(h:a=.tup ds/\b=.tup es\/a=.lst ds/\b=.lst es)(U:ds[j]?=a_ S)(k2:es[j]?=a_ J):∃m,n=m+1/\E' S m=d_/\E' J m=d_:=by
 cases n with
 |zero=>grind[E']|succ m=>exact⟨m,rfl,by rcases h with⟨rfl,rfl⟩|⟨rfl,rfl⟩<;>simp only[E']at I B<;>exact⟨tQ I U,tQ B k2⟩⟩
theorem eqAt_N(I:B5 X B2 σ H s)(c:aX F H):∀(n:Nat) (a b:A') {x y:V} {u v:h_} {A:HL},E' a n=d_->E' b n=d_->bf X.K F a x->bf X.K F b y->B' x u->B' y v->A.units+n<GQ->JN A s u v (eqD a b):=by
 intro n
 induction n with
 |zero=>intro a b x y u v A J d B Y U S k;refine(eqAt_U (vt I c J B U) (vt I c d Y S) ad).resolve_left λh=>?_;rcases vn h with⟨ds,es,rfl,rfl⟩|⟨ds,es,rfl,rfl⟩<;>simp[E']at J
 |succ n K=>
  intro a b x y u v A J d B Y U S k;rcases eqAt_U (A:=A) (vt I c J B U) (vt I c d Y S) ad with h|h
  .by_cases f:x=y
   .subst f;cases(show a=b from uo I c (n+1) a b B Y J d);rw[iU J];rcases vn h with⟨ds,es,rfl,_⟩|⟨ds,es,rfl,_⟩<;>(obtain⟨g,xs,e1,_⟩:=B;subst e1;cases U;cases S;exact SeqAt.EqAt.same _)
   .have q:=rcAt_S (A:=A) I c h B Y U S ad λds es j O N p o t r l i k2 E D L g2=>by
     obtain⟨m,e,C,w⟩:=ok_sub J d l i k2
     grind
    rcases vn h with⟨ds,es,rfl,rfl⟩|⟨ds,es,rfl,rfl⟩<;>(obtain⟨g,xs,e1,_⟩:=B;obtain⟨G,ys,e2,_⟩:=Y;subst e1;subst e2;cases U;cases S;exact SeqAt.EqAt.of_refs (λz=>f (by rw[z])) q)
  simp_all
def EC(I:B5 X B2 σ H s)(e:aX F H)(a b:A'){x:V}{v:h_}(c:E' a n=d_)(Y:E' b n=d_)(U:bf X.K F a x)(S:bf X.K F b y)(J:B' x u)(B:B' y v)(d:A.units+n<GQ):JN A s u v (eqD a b):=eqAt_N I e n a b c Y U S J B d
theorem eqAt_I(I:B5 X B2 σ H s)(h:aX F H){a b:A'}(U:E' a n=d_)(S:E' b n=d_)(k:A.units+n<GQ)(ds es:List A')(j:Nat)(J B:A')(x y:V)(u v:h_)(g:a=.tup ds/\b=.tup es\/a=.lst ds/\b=.lst es)(f:ds[j]?=a_ J)(k2:es[j]?=a_ B)(e:bf X.K F J x)(d:bf X.K F B y)(i:B' x u)(g2:B' y v):JN A.in1 s u v (eqD J B):=by obtain⟨m,rfl,c,Y⟩:=ok_sub U S g f k2;exact EC I h J B c Y e d i g2 ad
theorem rcAt_D(I:B5 X B2 σ H s)(B:aX F H)(a b:A'){x:V}{v:h_}(d:E' a n=d_)(c:E' b n=d_)(Y:bf X.K F a x)(U:bf X.K F b y)(S:B' x u)(J:B' y v)(e:A.units+n<GQ):OU A s u v (eqD a b):=
 (rcAt_U (vt I B d Y S) (vt I B c U J) ad).elim (λh=>rcAt_S I B h Y U S J ad (eqAt_I I B d c e)) id
theorem rcNeAt_D(I:B5 X B2 σ H s)(B:aX F H)(a b:A'){x:V}{v:h_}(d:E' a n=d_)(c:E' b n=d_)(Y:bf X.K F a x)(U:bf X.K F b y)(S:B' x u)(J:B' y v)(e:A.units+n<GQ):N3 A s u v (!eqD a b):=
 (rcNeAt_U (vt I B d Y S) (vt I B c U J) ad).elim (λh=>rcNeAt_S I B h Y U S J ad (eqAt_I I B d c e)) id
end
section
variable{W:cy}{own:Bool}
def aE.blS{Q:VK}{s:k_}{b:Bool}(p:aE K W own F H (.ok (.bl b)) Q)(s1:aX F H)(I:B5 X B2 σ H s):EP X B2 σ Q (.bool b) s:=⟨.bl b,H,I,rfl,p.bl s1⟩
theorem DH(d:X.A.units+64<GQ)(c: ~~~(X.K=K)):Op2 K W own X (Gy .Eq) eqM:=by
 subst c;intro B2 s σ H x y v u Q I S J h;obtain⟨F,a,b,s1,Y,U,p⟩:=h;unfold eqM at p;by_cases B:(E' a 40&&E' b 40)=d_
 .rw[p_ B]at p;simp only[m_]at B;exact rcAt_D I s1 a b B.1 B.2 Y U S J ad _ _ _ _ (p.blS s1 I)
 .rw[q_ B]at p;exact p.stuck
theorem o_ne(d:X.A.units+64<GQ)(c: ~~~(X.K=K)):Op2 K W own X (Gy .NotEq) neM:=by
 subst c;intro B2 s σ H x y v u Q I S J h;obtain⟨F,a,b,s1,Y,U,p⟩:=h;unfold neM at p;by_cases B:(E' a 40&&E' b 40)=d_
 .rw[p_ B]at p;simp only[m_]at B;exact rcNeAt_D I s1 a b B.1 B.2 Y U S J ad _ _ _ _ (p.blS s1 I)
 .rw[q_ B]at p;exact p.stuck
end
section
variable{s:k_}
theorem B5.sV{t':Nat}{T:iF}(I:B5 X B2 σ H s)(a:∀b∈ch,Cj X B2 H b)(k:∀b o,b∉ch->s.heap.get? b=a_ o->h'.get? b=a_ o)(d:s.heap.objs.size<=T)(Y:xs.length<=o_/\∃its:a8,C' xs its/\NY h' T its.toArray):B5 X B2 σ (upd H T (.tup xs)) {s with heap:=h',toks:=t'}:=by
 have B:H T=e_:=I.hok.fresh d;have f:∀b u,H b=a_ u->b∉ch:=λb u e z=>by rw[(a b z).1]at e;lia
 have U:∀{b:iF} {o:Mx},s.heap.get? b=a_ o->b≠T:=λ{b o} e=>FO (A_ (s_ e) d);refine I.step (g':=s.gens) (d':=s.drawn) (ch:=ch) (λb S=>?_) (λb o _ _ J e _=>k b o J e) (λb o _ _ J e _=>⟨o.slots,k b o J e⟩) (λb o _ e n=>by rw[ax (U e)];exact n)
  (λb o J e=>⟨o,k b o J e⟩) (λb ys e=>by rw[ax (aC e B)];exact e) (λb o u e=>by rw[ax (aC e B)];exact e) (λb ps e=>⟨#[],by rw[ax (aC e B),e];simp⟩) (λm h=>?_) (λb u e=>?_) I.bare
 .obtain⟨f0,f1,f2,f3,f4,f5⟩:=a b S;exact⟨f3,f1,f4,f5⟩
 .obtain⟨o,es,ep,g,r⟩:=h;exact⟨o,es,ep,k _ o (λz=>(a _ z).2.1 rfl) g,r⟩
 .by_cases S:b=T
  .subst S;rw[av]at e;cases e;exact Y
  .rw[ax S]at e;refine(I.hok b u e).stay (λc v J q=>k c v ?_ q) (λc q=>?_) λc ys q=>?_
   .grind
   .rw[ax (aC q B)];exact q
   grind[ax]
theorem B5.xK{t':Nat}(I:B5 X B2 σ H s)(J:∀b∈ch,Cj X B2 H b)(k:∀b o,b∉ch->s.heap.get? b=a_ o->h'.get? b=a_ o):B5 X B2 σ H {s with heap:=h',toks:=t'}:=by
 have S:∀b u,H b=a_ u->b∉ch:=λb u e z=>by rw[(J b z).1]at e;lia
 refine I.step (g':=s.gens) (d':=s.drawn) (ch:=ch) (λb a=>?_) (λb o _ _ B e _=>k b o B e) (λb o _ _ B e _=>⟨o.slots,k b o B e⟩) (λb o _ e n=>n)
  (λb o B e=>⟨o,k b o B e⟩) (λb ys e=>e) (λb o u e=>e) (λb ps e=>⟨#[],aW⟩) (λm Y=>?_) (λb u e=>?_) I.bare
 .obtain⟨f0,f1,f2,f3,f4,f5⟩:=J b a;exact⟨f3,f1,f4,f5⟩
 .obtain⟨o,es,ep,U,r⟩:=Y;exact⟨o,es,ep,k _ o (λz=>(J _ z).2.1 rfl) U,r⟩
 .refine(I.hok b u e).stay (λc v B q=>k c v ?_ q) (λ_ q=>q) λ_ _ q=>q
  grind
end
def Ite(K:Pn)(a:iF):It:=
 ⟨λi H=>∃xs x,SqL K H a xs/\xs[i]?=a_ x,λi H x H'=>∃T y,H T=e_/\x=.ref T/\H'=upd H T (.tup [.int i,y])/\∀xs,SqL K H a xs->xs[i]?=a_ y,λi H=>∃xs,SqL K H a xs/\xs.length<=i⟩
theorem v8(a e U:iF)(j:e≠U):Turn P w K (.Tuple elts k pos) (Ite K a) [e,U] e (λi h=>(∃B,IsEnum h e U i B)/\h.IsListIter U a i) where
 mem:=by simp
 obj:=λi h st b S=>by
  obtain⟨⟨B,Y⟩,o,e1,c,d⟩:=st
  grind
 keep:=λi h h' st G=>by obtain⟨⟨B,Y⟩,J⟩:=st;exact⟨⟨B,G e am _ Y⟩,J.at λo x=>G U am o x⟩
 item:=by
  intro X D hw F L i B2 s σ H E I n st A;subst D hw F;obtain⟨⟨B,Y⟩,J⟩:=st;obtain⟨xs,x,m,t⟩:=A;obtain⟨its,r,p,hz⟩:=I.list m;obtain⟨u,hu,O⟩:=r.get t;refine wpAny_pyNext_enum_item Y J p.isList (x:=u) aW j λh1 R g Z hsz T=>?_;refine⟨_,rfl,Og R λN C f=>?_⟩
  have v:e<s.z:=s_ Y;have l:s.z≠e:=HG v;have I1:B5 X B2 σ (upd H s.z (.tup [.int i,x])) {s with heap:=N,toks:=s.toks+1}:=I.sV (ch:=[e,U]) n (λb o S q=>by have h3:=T b o (λz=>S (by simp[z])) (λz=>S (by simp[z])) q;exact(f.2 b (λz=>S (by simp[z]))).trans h3) (i_ _) ⟨am,[.int i s.toks,u],.cons ⟨_,rfl⟩ (.cons O .nil),⟨_,(f.2 _ l).trans Z,rfl,0,rfl⟩⟩
  refine⟨.ref s.z,_,I1,rfl,⟨s.z,x,I.hok.fresh (i_ _),rfl,rfl,λys Q=>by rw[I.Ad Q m];exact t⟩,⟨⟨u,by simpa using C⟩,g.at λo y=>(f.2 U j.symm).trans y⟩,λb S=>?_⟩
  have W:=(n b S).1;have:b≠s.z:=by
   rcases t_.mp S with rfl|S
   .exact l.symm
   .have:b=U:=by simpa using S
    subst this;obtain⟨o,e1,_⟩:=J;exact FO (s_ e1)
  simp_all[ax]
 done:=by intro X D hw F L i B2 s σ H E I n st A;subst D hw F;obtain⟨⟨B,Y⟩,J⟩:=st;obtain⟨xs,m,t⟩:=A;obtain⟨its,r,p,hz⟩:=I.list m;have hl:=r.length;exact wpAny_pyNext_enum_end (I.ok.hd L) Y J p.isList (Ih aW) λN eb=>⟨rfl,I.xK (t':=s.toks) (ch:=[e,U]) n λb o S q=>eb b o (λz=>S (by simp[z])) q⟩
 self:=λ_ _ _ _ _ st h=>by obtain⟨⟨B,Y⟩,_⟩:=st;exact Kc Y h
theorem pL:∀(ds:List A') (k i:Nat),(eO k ds)[i]?=(ds[i]?).map λd=>.tup [.int ((k+i:Nat):Int),d]
 |[],k,i=>by rfl|d::ds,k,0=>by rfl|d::ds,k,i+1=>by
  rw[eO,GV,pL ds (k+1) i,GV]
  lia
theorem jN:∀(ds:List A') (k:Nat),(eO k ds).length=ds.length
 |[],_=>rfl|d::ds,k=>by rw[eO,B_,jN ds,B_]
theorem wA(t:SqL K F a xs)(z:ay K F ds xs):nM K F (Ite K a) (eO 0 ds) where
 go:=λi F' H' s1 s2 hi=>⟨xs,xs[i]'(by rw[z.length];simp_all[jN]),s2.lst (s1.lst t),am⟩
 yl:=λi F' H' x H2 d s1 s2 I J=>by
  obtain⟨T,y,S,ex,U,J⟩:=J;subst ex U;rw[pL]at I;cases B:ds[i]? with
  |none=>simp_all|some d'=>
   rw[B]at I;simp at I;subst I;obtain⟨v,e1,q⟩:=z.get B;have e2:=J xs (s2.lst (s1.lst t));rw[e1]at e2;cases e2;refine⟨upd F' T (.tup [.int i,y]),B4.lay s2 S,T,_,rfl,SqT.of av,?_⟩
   exact⟨.int i,[y],rfl,rfl,y,[],rfl,(q.mono s1).mono (aX.upd (s2.free S)),rfl⟩
 st:=λF' H' s1 s2=>⟨xs,s2.lst (s1.lst t),by rw[z.length,jN];simp⟩
section
variable{W:cy}{own:Bool}{a b:G4}{es:List G4}{p:NV}{f:ag->M A'}{fr:ag->M (List A')}
def iEnum(K:Pn)(tl:TE):TI:=λσ H R=>tl σ H λx H1=>∃a,x=.ref a/\(∃xs,SqL K H1 a xs)/\R (Ite K a) H1
def pi_enum(m:Gl X "enumerate")(g:X.mg "enumerate"=e_)(i:PE X a tl)(Y: ~~~(l_ [a] X.env=[(c_,FV a X.env)])):
  PI X (.Tuple elts k q) (.Call (.Name "enumerate" p) [a] [] pos) (iEnum X.K tl):=by
 intro B2 s σ H R I h;have n:PA X [a] (Bi tl tNil):=bT i eG Y;refine Qd (kz I m g boot_enumerate (GG (D' (n pos B2 s σ H (λvs H1=>match vs with
  |[x]=>∃a,x=.ref a/\(∃xs,SqL X.K H1 a xs)/\R (Ite X.K a) H1
  |_=>False) I h) λus s1 ⟨vs,H1,J,e,q1⟩=>?_) Y rfl))
 rcases vs with _|⟨x,_|⟨_,_⟩⟩
 .exact Gh q1
 rotate_left
 .exact Gh q1
 .obtain⟨l,e1,⟨xs,f⟩,q⟩:=q1;subst e1;obtain⟨u,rfl,d⟩:=e.one;cases d;obtain⟨its,t,pl,hz⟩:=J.list f;refine Qn pl.isList λo c S hsz j=>?_;have r:B5 X B2 σ H1 {s1 with heap:=o}:=J.kept (t':=s1.toks) j;refine Kc c ?_;refine⟨s1.z+1,[s1.z+1,s1.z],_,_,H1,rfl,r,v8 l _ _ (Nh _),⟨⟨_,c⟩,S⟩,λb U=>?_,q⟩
  have B:s1.z<=b:=by
   rcases t_.mp U with rfl|U
   .simp
   .have:b=s1.z:=by simpa using U
    exact J1 this.symm
  exact J.fpOk B (J.hok.fresh B)
theorem di_enum(I:X.mg "enumerate"=e_)(J:DE K W c_ X a fa)(S: ~~~(Gl X "enumerate"))(B: ~~~(l_ [a] X.env=[(c_,FV a X.env)]))(Y: ~~~(X.K=K)):
  DI K W X (.Tuple elts k q) (.Call (.Name "enumerate" p) [a] [] pos) (C0 fa):=by
 subst Y;exact(pi_enum S I J B).imp λ_ _ _=>by
   intro h;obtain⟨F,ρ,r,s,p⟩:=h;refine aJ r s (λe c=>?_) λd U v F1 H1 s1 q1=>?_
   .simp_all[C0]
   .have z:C0 fa ρ=(Am d).bind λds=>.ok (eO 0 ds):=by unfold C0;rw[U];rfl
    rw[z]at p;cases d with
    |lst ds=>obtain⟨b,xs,e,t,z⟩:=q1;exact⟨b,e,⟨xs,s1.fh.lst t⟩,p _ F1 H1 s1 (wA t z)⟩
    |_=>exact(W.ns p).elim
def c5:PTs X [] (tDT K W gp):=λB2 s σ H Q I h=>pts_nil B2 s σ H Q I (by obtain⟨F,ρ,r,s1,q⟩:=h;exact q F H (B4.refl s1))
def cz:PGs X [] (fO []):=by intro B2 s σ H vs us Q I r h;obtain⟨e,h⟩:=h;subst e;cases r;exact assignInOrder_nil ⟨σ,H,I,h⟩
def aM{is:a5}(S:X.N.Nodup)(U:PGs X es (fO is))(hi: ~~~(X.N[i]?=a_ x))(B:autoParam (Loc X.env.scope x) Jq6)(J:autoParam (X.fn x=d_\/X.env.scope.names.lookup x=a_ .local) Jq4)(I: ~~~((Il (.Name x p::es) X.env).map (·.2)=JY (.Name x p) X.env::(Il es X.env).map (·.2))):PGs X (.Name x p::es) (fO (i::is)):=zU (yf S hi B J) U I
theorem jn{is:a5}(f:X.calm=d_)(h:PGs X es (fO is))(c: ~~~((Il es X.env).length=is.length))(B: ~~~((Il es X.env).findIdx? (·.1)=e_))(g: ~~~(X.K=K)):DG K X (.Tuple es k pos) (.tp is):=by subst g;intro B2 s σ H v u Q I r hw;obtain⟨a,xs,e1,Y,d,hw⟩:=hw;subst e1;cases r;obtain⟨its,J,U,hz⟩:=I.tuple Y;refine assign_Tuple_tuple (I.ok.hd f) U (by simp[c,<- d,J.length]) B λh' S=>?_;have i:B5 X B2 σ H {s with heap:=h'}:=I.kept (t':=s.toks) λb o e=>S b o (FO (s_ e)) e;exact h B2 _ σ H xs _ Q i aW hw
theorem mT{ix:List (Option Nat)}:∀{is:a5},(∀i∈is,ix[i]?=a_ e_)->∀vs I H' (Q:St->Hp->Prop),fO is vs I H' Q->fO is vs I H' λB H2=>Q B H2/\∀(i:Nat) v,I[i]?=a_ (a_ v)->(∃j,ix[i]?=a_ (a_ j))->B[i]?=a_ (a_ v)
 |[],_,vs,I,H',Q,⟨e,q⟩=>⟨e,q,λ_ _ h _=>h⟩|i::is,b,vs,I,H',Q,⟨v,r,e,q⟩=>by
  refine⟨v,r,e,?_⟩
  have:=mT (ix:=ix) (is:=is) (λj d=>b j (by simp[d])) r (I.set i (a_ v)) H' Q q;have S:∀{is:a5} {vs:a7} {J:St} {H1:Hp} {Q U:St->Hp->Prop},(∀B H2,Q B H2->U B H2)->fO is vs J H1 Q->fO is vs J H1 U:=by
   intro is
   induction is with
   |nil=>rintro vs J H1 Q U m ⟨e,q⟩;exact⟨e,m _ _ q⟩
   |cons i is a=>rintro vs J H1 Q U m ⟨v,r,e,q⟩;exact⟨v,r,e,a m q⟩
  refine S (λB H2 Y=>?_) this;obtain⟨q1,q2⟩:=Y;refine⟨q1,λj w h Y=>?_⟩
  obtain⟨l,c⟩:=Y;refine q2 j w ?_ ⟨l,c⟩
  grind
def jE{is:a5}(h:∀i∈is,ix[i]?=a_ e_):n6 ix (gP K (.tp is)):=λx B H' Q ⟨a,xs,e,t,l,q⟩=>⟨a,xs,e,t,l,mT h xs B H' Q q⟩
def dq{s:k_}(J:N'.Nodup)(hi: ~~~(N'[i]?=a_ x))(B:autoParam (Loc (bo X N' sc L cs s H fp).env.scope x) Jq6)(I:autoParam ((bo X N' sc L cs s H fp).fn x=d_\/(bo X N' sc L cs s H fp).env.scope.names.lookup x=a_ .local) Jq4):DG K (bo X N' sc L cs s H fp) (.Name x pos) (.nm i):=pg_c J hi B I
variable{pt:Pat}
def bP(N':List Gf)(ix:List (Option Nat))(hi:DI K W X tg iter fi)(U:∀L cs s H fp,DG K (bo X N' sc L cs s H fp) tg pt)(J:n6 ix (gP K pt))(B:∀L cs s H fp,PTs (bo X N' sc L cs s H fp) ifs (tDT K W ft))(Y:∀L cs s H fp,DE K W c_ (bo X N' sc L cs s H fp) elt fe)(a: ~~~(X.calm=d_))(ok: ~~~(bF X.N X.env.scope N' sc ix=d_))(S: ~~~(sc.kind=.function))(I:autoParam (∀x,Ii iter X.env x=GW x) Jq3):
  DE K W d_ X (.ListComp elt [⟨tg,iter,ifs,0⟩] sc pos) (bD fi ix pt ft fe):=(pe_comp N' ix a hi U J B Y ok S I).imp λ_ _ _=>Di
def tD_fr{Q:VK}(h:tD K W own f σ H Q):tD K W d_ f σ H Q:=by
 cases own with
 |true=>exact h|false=>obtain⟨F,ρ,r,s,p⟩:=h;exact⟨F,ρ,r,s,p.frz⟩
def Az(own:Bool)(N':List Gf)(ix:List (Option Nat))(e:X.N.Nodup)(hi:DI K W X tg iter fi)(b:∀L cs s H fp,DG K (bo X N' sc L cs s H fp) tg pt)(U:n6 ix (gP K pt))(J:∀L cs s H fp,PTs (bo X N' sc L cs s H fp) ifs (tDT K W ft))(c:∀L cs s H fp,DE K W c_ (bo X N' sc L cs s H fp) elt fe)(a: ~~~(X.N[i]?=a_ x))(I: ~~~(X.env.scope.names.lookup x=a_ .local))(d: ~~~(X.calm=d_))(B: ~~~(HM (.ListComp elt [⟨tg,iter,ifs,0⟩] sc pos) (a_ (.Name x py)) spos.line X.env=GW d_))(ok: ~~~(bF X.N X.env.scope N' sc ix=d_))(Y: ~~~(sc.kind=.function))(S:autoParam (∀x,Ii iter X.env x=GW x) Jq3):
  DS K W ro X OL O (aft own i O) (.Assign [.Name x py] (.ListComp elt [⟨tg,iter,ifs,0⟩] sc pos) spos) (aQ O i (bD fi ix pt ft fe)):=λF0 H0=>
 (mq N' ix e a I d hi b U J c B ok Y S).imp λD σ H t=>Di (tD_fr (D9 t))
def ds_setI{r:NV}(a:DE K W c_ X e f)(Y:DE K W c_ X b fk)(U:(i∈O)⁻¹)(g: ~~~(X.N[i]?=a_ x))(J:autoParam (Vis X.env.scope x) Jq5)(c:((x==("__debug__":Gf))=c_)⁻¹)(I:((x==("__classdict__":Gf))=c_)⁻¹)(d:autoParam (∀v,JY (.Subscript (.Name x p) b q) X.env v=(do
   let ov <- II [v] (FV (.Name x p) X.env)
   let B <- II [v,ov] (FV b X.env)
   Lv q
   II [v,ov,B] (Pu ov B v)
   QP [v,ov,B] [])) Jq3)(S: ~~~(LB [.Subscript (.Name x p) b q] e r.line X.env=GW c_))(hw: ~~~(LC [.Subscript (.Name x p) b q] e X.env=GW e_))(h1: ~~~((Il [.Subscript (.Name x p) b q] X.env).map (·.2)=[JY (.Subscript (.Name x p) b q) X.env])):
  DS K W ro X OL O O (.Assign [.Subscript (.Name x p) b q] e r) (Bq i fk f):=λF0 H0=>(vM a (Dt (pv i g J c I) Y set_list d) S hw h1).imp λ_ _ _=>rs_setI U
def ds_unpB{pt:Pat}(I:DE K W c_ X e f)(S:DG K X tg pt)(n:(∀i∈pt.names,i∉O)⁻¹)(J: ~~~(LB [tg] e pos.line X.env=GW c_))(hw: ~~~(LC [tg] e X.env=GW e_))(h1: ~~~((Il [tg] X.env).map (·.2)=[JY tg X.env])):DS K W ro X OL O O (.Assign [tg] e pos) (Bp O pt f):=λF0 H0=>(vM I S J hw h1).imp λ_ _ _=>by
    intro t;obtain⟨FB,F,ρ,r,p⟩:=t;refine aJ r.jW r.st.fh (λe I=>p.iB r.st (by unfold Bp;rw[I];rfl)) λd U v F1 H1 s1 q=>?_;have z:Bp O pt f ρ=(cA pt d ρ).bind λρ'=>.ok (.nx ρ'):=by unfold Bp;rw[U];rfl
    rw[z]at p;cases e:cA pt d ρ with
    |error x=>have:=m6 e;subst this;exact p.stuck (by rw[e];rfl)|ok ρ'=>rw[e]at p;exact gP_rep (r.step s1) n q e λB r'=>p B F1 H1 r'
inductive SpD(K:Pn)(vs:List V)(H:Hp)(n:Nat)(P:Hp->List A'->Prop):Prop
 |mk (F:Hp) (ds:List A') (s:aX F H) (q:ay K F ds vs) (l:ds.length=n) (p:P F ds)
def spF(K:Pn)(ro:Bool)(g:List A'->M A')(n:Nat):Sp:=λvs H Q _=>SpD K vs H n λF ds=>aE K Fl ro F H (g ds) Q
theorem zF(h:ds.length≠n):bJ nN n g ds=stk:=by simp_all[bJ,q_]
theorem EW(F:jk X.prog X.w X.K X.mg X.base CX0 k fad fd ps (spF K ro (bJ nN n g) n))(Y:ji k X.A)(a:X.mg x=a_ (.ref fad))(b:KL X.K (.ref fad)=d_)(d:Binds X.K fd ps [])(f:DA K Fl X (e::es) fr)(c: ~~~(Gl X x))(S:((x==("__debug__":Gf))=c_)⁻¹)(I: ~~~(l_ (e::es) X.env=(c_,FV e X.env)::l_ es X.env))(J: ~~~((Hi pos (l_ es X.env)).any (·.1)=c_)):
  DE K Fl ro X (.Call (.Name x p) (e::es) [] pos) (fL (bJ nN n g) fr):=by
 refine PE.imp (yg F Y c a b d .nil vR f S I J) λσ H Q h=>?_;obtain⟨F,ρ,r,s,p⟩:=rd_L h;refine⟨F,ρ,r,s,?_⟩
 cases e1:fr ρ with
 |error z=>simp_all|ok ds=>
  rw[e1]at p;intro vs F' H' st q;obtain⟨F1,B,s1,q1,z⟩:=p vs F' H' st q;show spF K ro (bJ nN n g) n (vs++[]) H' Q E0;rw[Hn];by_cases U:B.length=n
  .exact⟨F1,B,s1,q1,U,z⟩
  .rw[zF U]at z;exact aE.stuck z
end
section
variable{base:Gu}
theorem CV{vs:a7}(q:ay K F ds vs)(h:(ds.map a_++D_ (N.length-ds.length) e_)[i]?=a_ (a_ d)):AtI (λv=>(start N vs)[i]?=a_ (a_ v)) (bf K F d):=by
 have hi:i<ds.length:=by
  by_cases hi:i<ds.length
  .exact hi
  .simp_all[Hb,N7]
 rw[Gw aW,FL]at h;cases e:ds[i]? with
 |none=>rw[e]at h;cases h|some d'=>
  rw[e]at h;cases h;obtain⟨v,e1,q1⟩:=q.get e;refine⟨v,?_,q1⟩
  unfold start;rw[Gw (by rw[oe,q.length];exact hi),FL,e1];rfl
theorem fn_D{st:G6}{f:iF}(F:Fun K x qual st f fd)(S:j6 N ps (aS st))(ro:Bool)(g:ag->M B6)(U:∀(cdv:h_) (A:HL) (outer:List OF) (s:k_) (H:Hp) (E:XK),ji k (A.deeper (LF qual (aS st) s.heap.objs.size f cdv)) ->
   DSs K Fl ro (cxOf CX0 P w K mg base N qual (aS st) f cdv A outer s H E).nox [] [] O' (cL st) g):jk P w K mg base CX0 (k+1) f fd ps (spF K ro (bJ N.length ps.length g) ps.length):=by
 have I:ps.length<=N.length:=by have:=Jk Kl S.pre;rw[GC]at this;lia
 refine F.okX S (λvs H Q E ⟨F,ds,s,q,l,p⟩=>by rw[q.length,l]) λcdv A outer s H vs Q E B J=>?_;obtain⟨F1,ds,s1,q,l,p⟩:=J;refine⟨_,U cdv A outer s H E B F1 H,F1,F1,ds.map a_++D_ (N.length-ds.length) e_,?_,?_⟩
 .refine⟨B4.refl s1,aX.refl _,?_,λi d e _=>CV q e,(λi d e h=>nomatch h),(λi j ds es a h=>nomatch h)⟩
  unfold start;rw[FJ,FJ,oe,oe,OA,OA,q.length]
 .have e1:bJ N.length ps.length g ds=(g (ds.map a_++D_ (N.length-ds.length) e_)).bind λfl=>match fl with
   |.nx _=>.ok .non|.rt d=>.ok d|_=>stk:=by unfold bJ;exact p_ l
  rw[e1]at p;cases e2:g (ds.map a_++D_ (N.length-ds.length) e_)with
  |error z=>rw[e2]at p;exact p|ok fl=>
   rw[e2]at p;cases fl with
   |nx ρ=>exact λσ F H r=>p .non F H r.st (by cases ro<;>rfl)
   |rt d=>exact λv F H st q=>p v F H st q|bk ρ=>exact aE.stuck p|ct ρ=>exact aE.stuck p
def spLaw(K:Pn):Sp:=λvs H Q _=>∃(a:iF) (ns:a0),vs=[.ref a]/\SqL K H a (ns.map V.int)/\ns.length<=63/\∀H',Q (.bl d_) H'
theorem iE{F:Hp}:∀is:a0,ay K F (is.map A'.int) (is.map V.int)
 |[]=>rfl|i::is=>⟨.int i,is.map V.int,rfl,rfl,iE is⟩
theorem law_ok{f:iF}{mlaw:Nat->List A'->M A'}(F:∀n,jk P w K mg base CX0 k f fd [x] (spF K ro (mlaw n) 1))(h:∀ns:a0,ns.length<=63->∃n,mlaw n [.lst (ns.map .int)]=.ok (.bl d_)):jk P w K mg base CX0 k f fd [x] (spLaw K):=by
 refine⟨λvs H Q E ⟨a,ns,e,_⟩=>by rw[e];rfl,λA outer s H B us vs Q E J b c I ⟨a,ns,e,S,Y,q⟩=>?_⟩
 obtain⟨n,U⟩:=h ns Y;refine(F n).run A outer s H B us vs Q E J b c I ⟨H,[.lst (ns.map .int)],aX.refl _,⟨.ref a,[],e,⟨a,_,rfl,S,iE ns⟩,rfl⟩,rfl,?_⟩;rw[U];intro v F' H' st z;have:v=.bl d_:=by cases ro<;>exact z
 simp_all
end
structure Kit(K:Pn):Prop where
 Dk:Jz K (.type "int") (.type "int")=a_ d_
 BB:Jz K (.type "bool") (.type "int")=a_ d_
 By:Jz K (.type "list") (.type "int")=a_ c_
 xZ:Jz K (.type "tuple") (.type "int")=a_ c_
 qE:Jz K (.type "NoneType") (.type "int")=a_ c_
 BA:Jz K (.type "int") (.type "bool")=a_ c_
 yc:Jz K (.type "bool") (.type "bool")=a_ d_
 ya:Jz K (.type "list") (.type "bool")=a_ c_
 vJ:Jz K (.type "tuple") (.type "bool")=a_ c_
 oO:Jz K (.type "NoneType") (.type "bool")=a_ c_
 Bz:Jz K (.type "int") (.type "list")=a_ c_
 yb:Jz K (.type "bool") (.type "list")=a_ c_
 y0:Jz K (.type "list") (.type "list")=a_ d_
 vI:Jz K (.type "tuple") (.type "list")=a_ c_
 oN:Jz K (.type "NoneType") (.type "list")=a_ c_
section
variable{W:cy}{own:Bool}{a b:G4}{p:NV}{fr:ag->M (List A')}
def isi_D{s:k_}{T:String}{x:V}{Y a bl S U:Bool}{Q:Mq}(I:B5 X B2 σ H s)(J:aX F H)(q:bf X.K F d x)(r:B' x u)(hi:Jz X.K (.type "int") (.type T)=a_ Y)(n:Jz X.K (.type "bool") (.type T)=a_ a)(m:Jz X.K (.type "list") (.type T)=a_ bl)(g:Jz X.K (.type "tuple") (.type T)=a_ S)(j:Jz X.K (.type "NoneType") (.type T)=a_ U)(h:∀k tk,(match d with|.int _=>k=Y|.bl _=>k=a|.lst _=>k=bl|.tup _=>k=S|.non=>k=U|.ins _ _=>False|.dic _=>False|.dil _=>False)->Q (.bool k) {s with toks:=tk})(b:∀C fs,d≠.ins C fs)(f:∀ks,d≠.dic ks)(c:∀ks,d≠.dil ks):
  r_ (y_ X.prog X.w) X.A (Kz (.builtin "isinstance") [u,.type T]) Q X.xe s:=by
 cases d with
 |non=>cases(show x=.non from q);cases r;exact PC PySem.W.kitx_none I.kIn J8 j (λz=>nomatch z) λtk=>h _ tk rfl
 |bl y=>cases(show x=.bl y from q);cases r;exact PC PySem.W.kitx_bool I.kIn J8 n (λz=>nomatch z) λtk=>h _ tk rfl
 |int i=>cases(show x=.int i from q);obtain⟨t,rfl⟩:=r;exact PC PySem.W.kitx_int I.kIn J8 hi (λz=>nomatch z) λtk=>h _ tk rfl
 |lst ds=>obtain⟨l,xs,e,t,_⟩:=q;subst e;cases r;obtain⟨its,_,pl,_⟩:=I.list (J.lst t);obtain⟨o,h1,B,_⟩:=pl.isList;exact PC PySem.W.kitx_list I.kIn ⟨o,h1,B⟩ m (λz=>nomatch z) λtk=>h _ tk rfl
 |tup ds=>obtain⟨l,xs,e,t,_⟩:=q;subst e;cases r;obtain⟨its,_,pl,_⟩:=I.tuple (J.tup t);obtain⟨o,h1,B,_⟩:=pl;exact PC PySem.W.kitx_tuple I.kIn ⟨o,h1,B⟩ g (λz=>nomatch z) λtk=>h _ tk rfl
 |ins C fs=>exact FR rfl (b C fs)|dic ks=>exact FR rfl (f ks)|dil ks=>exact FR rfl (c ks)
theorem EV{T:String}{y:Gf}{g:A'->M A'}(i:eD X (.builtin "isinstance") (λxs H Q=>∃v,xs=[v,.ty T]/\rD1 K W own g v H Q))(c:X.mg "isinstance"=e_)(S:X.mg y=e_)(I:Ir y=a_ (.type T))(j:DE K W c_ X a fa)(e: ~~~(Gl X "isinstance"))(U: ~~~(Gl X y))(b:(y≠"__name__")⁻¹)(f:((y==("__debug__":Gf))=c_)⁻¹)(Y: ~~~(l_ [a,.Name y p2] X.env=[(c_,FV a X.env),(c_,FV (.Name y p2) X.env)]))(B: ~~~(l_ [.Name y p2] X.env=[(c_,FV (.Name y p2) X.env)]))(J: ~~~((Hi pos (l_ [.Name y p2] X.env)).any (·.1)=c_)):
  DE K W own X (.Call (.Name "isinstance" p) [a,.Name y p2] [] pos) (f1 g fa):=
 (lE i e c boot_isinstance (bT j (bT (pe_tyN (pos:=p2) U S I b f) eG B) aW) as as aW J).imp λσ H Q h=>by
  obtain⟨F,ρ,r,s,q⟩:=rd_1 h;refine⟨F,ρ,r,s,?_⟩
  cases e1:fa ρ with
  |error z=>rw[e1]at q;exact q|ok d=>rw[e1]at q;exact λv F' H' st z=>⟨v,rfl,q v F' H' st z⟩
theorem Fj(B:Kit K)(a: ~~~(X.K=K)):eD X (.builtin "isinstance") (λxs H Q=>∃v,xs=[v,.ty "int"]/\rD1 K W own o8 v H Q):=by
 subst a;intro B2 s σ H xs us Q I r h;obtain⟨v,rfl,F,d,s1,q,p⟩:=h;obtain⟨u,w,rfl,U,J⟩:=r.two;cases(show w=Hz "int" from J);by_cases hi:(∃C fs,d=.ins C fs)\/(∃ks,d=.dic ks)\/∃ks,d=.dil ks
 .rcases hi with⟨C,fs,rfl⟩|⟨ks,rfl⟩|⟨ks,rfl⟩<;>exact aE.stuck p
 .refine isi_D I s1 q U B.Dk B.BB B.By B.xZ B.qE (λk tk Y=>⟨.bl k,H,I.tok tk,rfl,?_⟩) (λC fs e=>hi (.inl ⟨C,fs,e⟩)) (λks e=>hi (.inr (.inl ⟨ks,e⟩))) (λks e=>hi (.inr (.inr ⟨ks,e⟩)));cases d<;>first|(have S:k=_:=Y;subst S;exact aE.bl (own:=own) p s1)|exact FR (.inl ⟨_,_,rfl⟩) hi|exact FR (.inr (.inl ⟨_,rfl⟩)) hi|simp_all
def C5(I:Kit K)(b:X.mg "isinstance"=e_)(U:X.mg "int"=e_)(d:DE K W c_ X a fa)(e: ~~~(X.K=K))(c: ~~~(Gl X "isinstance"))(Y: ~~~(Gl X "int"))(J: ~~~(l_ [a,.Name "int" p2] X.env=[(c_,FV a X.env),(c_,FV (.Name "int" p2) X.env)]))(B: ~~~(l_ [.Name "int" p2] X.env=[(c_,FV (.Name "int" p2) X.env)]))(S: ~~~((Hi pos (l_ [.Name "int" p2] X.env)).any (·.1)=c_)):
  DE K W own X (.Call (.Name "isinstance" p) [a,.Name "int" p2] [] pos) (f1 o8 fa):=EV (Fj I e) b U (by rfl) d c Y as as J B S
theorem Cd(B:Kit K)(a: ~~~(X.K=K)):eD X (.builtin "isinstance") (λxs H Q=>∃v,xs=[v,.ty "bool"]/\rD1 K W own lL v H Q):=by
 subst a;intro B2 s σ H xs us Q I r h;obtain⟨v,rfl,F,d,s1,q,p⟩:=h;obtain⟨u,w,rfl,U,J⟩:=r.two;cases(show w=Hz "bool" from J);by_cases hi:(∃C fs,d=.ins C fs)\/(∃ks,d=.dic ks)\/∃ks,d=.dil ks
 .rcases hi with⟨C,fs,rfl⟩|⟨ks,rfl⟩|⟨ks,rfl⟩<;>exact aE.stuck p
 .refine isi_D I s1 q U B.BA B.yc B.ya B.vJ B.oO (λk tk Y=>⟨.bl k,H,I.tok tk,rfl,?_⟩) (λC fs e=>hi (.inl ⟨C,fs,e⟩)) (λks e=>hi (.inr (.inl ⟨ks,e⟩))) (λks e=>hi (.inr (.inr ⟨ks,e⟩)));cases d<;>first|(have S:k=_:=Y;subst S;exact aE.bl (own:=own) p s1)|exact FR (.inl ⟨_,_,rfl⟩) hi|exact FR (.inr (.inl ⟨_,rfl⟩)) hi|simp_all
def yF(I:Kit K)(b:X.mg "isinstance"=e_)(U:X.mg "bool"=e_)(d:DE K W c_ X a fa)(e: ~~~(X.K=K))(c: ~~~(Gl X "isinstance"))(Y: ~~~(Gl X "bool"))(J: ~~~(l_ [a,.Name "bool" p2] X.env=[(c_,FV a X.env),(c_,FV (.Name "bool" p2) X.env)]))(B: ~~~(l_ [.Name "bool" p2] X.env=[(c_,FV (.Name "bool" p2) X.env)]))(S: ~~~((Hi pos (l_ [.Name "bool" p2] X.env)).any (·.1)=c_)):
  DE K W own X (.Call (.Name "isinstance" p) [a,.Name "bool" p2] [] pos) (f1 lL fa):=EV (Cd I e) b U (by rfl) d c Y as as J B S
theorem Cc(B:Kit K)(a: ~~~(X.K=K)):eD X (.builtin "isinstance") (λxs H Q=>∃v,xs=[v,.ty "list"]/\rD1 K W own lK v H Q):=by
 subst a;intro B2 s σ H xs us Q I r h;obtain⟨v,rfl,F,d,s1,q,p⟩:=h;obtain⟨u,w,rfl,U,J⟩:=r.two;cases(show w=Hz "list" from J);by_cases hi:(∃C fs,d=.ins C fs)\/(∃ks,d=.dic ks)\/∃ks,d=.dil ks
 .rcases hi with⟨C,fs,rfl⟩|⟨ks,rfl⟩|⟨ks,rfl⟩<;>exact aE.stuck p
 .refine isi_D I s1 q U B.Bz B.yb B.y0 B.vI B.oN (λk tk Y=>⟨.bl k,H,I.tok tk,rfl,?_⟩) (λC fs e=>hi (.inl ⟨C,fs,e⟩)) (λks e=>hi (.inr (.inl ⟨ks,e⟩))) (λks e=>hi (.inr (.inr ⟨ks,e⟩)));cases d<;>first|(have S:k=_:=Y;subst S;exact aE.bl (own:=own) p s1)|exact FR (.inl ⟨_,_,rfl⟩) hi|exact FR (.inr (.inl ⟨_,rfl⟩)) hi|simp_all
def yE(I:Kit K)(b:X.mg "isinstance"=e_)(U:X.mg "list"=e_)(d:DE K W c_ X a fa)(e: ~~~(X.K=K))(c: ~~~(Gl X "isinstance"))(Y: ~~~(Gl X "list"))(J: ~~~(l_ [a,.Name "list" p2] X.env=[(c_,FV a X.env),(c_,FV (.Name "list" p2) X.env)]))(B: ~~~(l_ [.Name "list" p2] X.env=[(c_,FV (.Name "list" p2) X.env)]))(S: ~~~((Hi pos (l_ [.Name "list" p2] X.env)).any (·.1)=c_)):
  DE K W own X (.Call (.Name "isinstance" p) [a,.Name "list" p2] [] pos) (f1 lK fa):=EV (Cc I e) b U (by rfl) d c Y as as J B S
def tRng(ta:TA)(lo hi:a7->Option Int):TE:=λσ H Q=>ta σ H λvs H1=>∃i j,lo vs=a_ i/\hi vs=a_ j/\(-(2^62)<=i/\i<2^62/\ -(2^62)<=j/\j<2^62)/\∀r,H1 r=e_->Q (.ref r) (upd H1 r (.rng i j))
noncomputable def lo1:a7->Option Int
 |[.int _]=>a_ 0|_=>e_
noncomputable def hi1:a7->Option Int
 |[.int j]=>a_ j|_=>e_
noncomputable def lo2:a7->Option Int
 |[.int i,.int _]=>a_ i|_=>e_
noncomputable def hi2:a7->Option Int
 |[.int _,.int j]=>a_ j|_=>e_
def zK{s:k_}{lo hi:Int}{t u v:Tok}{tk:Nat}(I:B5 X B2 σ H s):B5 X B2 σ (upd H s.heap.objs.size (.rng lo hi)) {s with heap:=s.heap.push {cls:=.type "range",data:=.fields #[.int lo t,.int hi u,.int 1 v]},toks:=tk}:=
 I.laid (λb o e=>f_ _ e) (i_ _) ⟨t,u,v,j_ _ rfl⟩
def Du(b:Gl X "range")(Y:X.mg "range"=e_)(c:PA X [a] ta)(S: ~~~(l_ [a] X.env=[(c_,FV a X.env)])):PE X (.Call (.Name "range" p) [a] [] pos) (tRng ta lo1 hi1):=by
 intro B2 s σ H Q I h;refine Qd (kz I b Y Ou (GG (D' (c pos B2 s σ H _ I h) λus s1 U=>?_) S rfl));obtain⟨vs,H1,J,B,q1⟩:=U;obtain⟨i,j,e1,e2,d,q⟩:=q1
 match vs,B,e1,e2 with
 |[.int k],B,e1,e2=>cases e1;cases e2;obtain⟨u,rfl,t,rfl⟩:=B.one;exact call_range_1 ⟨.ref _,_,zK J,rfl,q _ J.fresh⟩
theorem pe_rng2(c:Gl X "range")(Y:X.mg "range"=e_)(d:PA X [a,b] ta)(e: ~~~(l_ [a,b] X.env=[(c_,FV a X.env),(c_,FV b X.env)]))(J: ~~~(l_ [b] X.env=[(c_,FV b X.env)])):PE X (.Call (.Name "range" p) [a,b] [] pos) (tRng ta lo2 hi2):=by
 intro B2 s σ H Q I h;refine Qd (kz I c Y Ou (GG (D' (d pos B2 s σ H _ I h) λus s1 U=>?_) aW (by rw[J];rfl)));obtain⟨vs,H1,S,B,q1⟩:=U;obtain⟨i,j,e1,e2,f,q⟩:=q1
 match vs,B,e1,e2 with
 |[.int k,.int m],B,e1,e2=>cases e1;cases e2;obtain⟨u,w,rfl,⟨t,rfl⟩,t',rfl⟩:=B.two;exact call_range_2 ⟨.ref _,_,zK S,rfl,q _ S.fresh⟩
theorem C'.of_get:∀{xs:a7} {us:a8},xs.length=us.length->(∀(i:Nat) v u,xs[i]?=a_ v->us[i]?=a_ u->B' v u)->C' xs us
 |[],[],_,_=>.nil|[],_::_,h,_=>by simp at h|_::_,[],h,_=>by simp at h|x::xs,u::us,h,q=>.cons (q 0 x u rfl rfl) (C'.of_get aW λi v w h1 B=>q (i+1) v w aW aW)
def rQ{lo:Int}:∀{n:Nat} {B:a8},B.length=n->(∀(i:Nat) v,B[i]?=a_ v->∃t,v=.int (lo+i) t)->C' ((x_ n).map λk:Nat=>V.int (lo+k)) B:=by
 intro n B I h;refine C'.of_get (by simp[I]) λi v u e1 e2=>?_;obtain⟨t,rfl⟩:=h i u e2;have hi:i<n:=by have:=(n_.mp e1).1;simpa using this
 rw[FL,Ku hi]at e1;cases e1;exact⟨t,rfl⟩
theorem lZ(b:X.calm=d_):eD X (.type "list") (λxs H Q=>∃r lo hi,xs=[.ref r]/\H r=a_ (.rng lo hi)/\(-(2^62)<=lo/\lo<2^62/\ -(2^62)<=hi/\hi<2^62)/\(hi-lo).toNat<=o_/\∀l,H l=e_->Q (.ref l) (upd H l (.lst ((x_ (hi-lo).toNat).map λk:Nat=>V.int (lo+k))))):=by
 intro B2 s σ H xs us Q I U h;obtain⟨r,lo,hi,rfl,c,⟨m,j,g,f⟩,hz,q⟩:=h;obtain⟨u,rfl,S⟩:=U.one;cases S;obtain⟨t,u,v,e⟩:=(show ∃t u v,s.heap.get? r=a_ {cls:=.type "range",data:=.fields #[.int lo t,.int hi u,.int 1 v]}from I.hok r _ c)
 refine call_list_range (n:=(hi-lo).toNat) (I.ok.hd b) e (Q0 m j g f) (by grind[OO]) aW λh' tk B d Y e2 J=>?_;have a:C' ((x_ (hi-lo).toNat).map λk:Nat=>V.int (lo+k)) B.toList:=rQ (by rw[Gb];exact J.1) λi v hi=>by
  obtain⟨t,e⟩:=J.2 i v (by simpa using hi)
  simp_all
 exact⟨.ref _,_,I.laid (t':=tk) Y (i_ _) (show gW _ h' _ (.lst _)from⟨aW,B.toList,d,a,aW⟩),rfl,q _ I.fresh⟩
def pQ(lo:Int)(n:Nat):ay K F (aB lo n) ((x_ n).map λk:Nat=>V.int (lo+k)):=by
 refine ay.of_get (by simp[aB]) λi d v h1 B=>?_;have hi:i<n:=by have:=(n_.mp B).1;simpa using this
 unfold aB at h1;rw[FL,Ku hi]at h1 B;cases h1;cases B;rfl
theorem A8{Q:VK}{i j:Int}(p:aE K W d_ F H1 (bj (aB i (j-i).toNat)) Q)(s:aX F H1)(J:H1 r=e_):
  (j-i).toNat<=o_/\∀l,upd H1 r (.rng i j) l=e_->Q (.ref l) (upd (upd H1 r (.rng i j)) l (.lst ((x_ (j-i).toNat).map λk:Nat=>V.int (i+k)))):=by
 unfold bj at p;by_cases I:(aB i (j-i).toNat).length<=o_
 .rw[p_ I]at p;refine⟨by simp_all[aB],λl B=>?_⟩
  have s2:B4 F H1 F (upd H1 r (.rng i j)):=B4.grow s J;have e:H1 l=e_:=s2.hh.free B;exact p _ F _ (s2.trans (B4.grow s2.fh B)) ⟨l,_,rfl,av,s.free e,e,pQ i _⟩
 .rw[q_ I]at p;exact(W.ns p).elim
theorem de_lrng1(S:X.mg "list"=e_)(g:X.mg "range"=e_)(m:DA K W X [a] fr)(l: ~~~(X.calm=d_))(i: ~~~(Gl X "range"))(U: ~~~(Gl X "list"))(f: ~~~(l_ [a] X.env=[(c_,FV a X.env)]))(I: ~~~(l_ [.Call (.Name "range" q1) [a] [] q2] X.env=[(c_,FV (.Call (.Name "range" q1) [a] [] q2) X.env)])):DE K W d_ X (.Call (.Name "list" p) [.Call (.Name "range" q1) [a] [] q2] [] pos) (fLR (gF jl fr)):=by
 refine PE.imp (lC (lZ l) U S GU (bT (Du i g m f) eG I) as as I rfl) λσ H Q h=>?_;obtain⟨F,ρ,r,s,p⟩:=h;refine ju r s (λe n=>p.err (by simp_all[fLR,gF])) λds k xs F1 H1 s1 q1=>?_;have e1:fLR (gF jl fr) ρ=(jl ds).bind bj:=by unfold fLR gF;rw[k];rfl
 rw[e1]at p;have p1:=p.step s1;by_cases Y:∃j,ds=[.int j]
 .obtain⟨j,rfl⟩:=Y;obtain⟨v,vs,e2,q2,e3⟩:=q1;have p2:aE K W d_ F1 H1 ((if bu j=d_ then GY (aB 0 j.toNat)else Ie Err.stuck:M (List A')).bind bj) Q:=p1;by_cases B:bu j=d_
  .rw[p_ B]at p2;unfold bu at B;simp only[m_,FG]at B;have e4:xs=[.int j]:=by rw[e2,show v=.int j from q2,show vs=[]from e3]
   subst e4;refine⟨0,j,rfl,rfl,⟨as,as,B.1,B.2⟩,λd J=>?_⟩
   have p3:aE K W d_ F1 H1 (bj (aB 0 (j-0).toNat)) Q:=by rw[Q_];exact p2
   obtain⟨c,b⟩:=A8 p3 s1.fh J;exact⟨d,0,j,rfl,av,⟨as,as,B.1,B.2⟩,c,b⟩
  .rw[q_ B]at p2;exact(W.ns p2).elim
 .have:jl ds=.error .stuck:=by
   unfold jl;split
   .lia
   .rfl
  rw[this]at p1;exact(W.ns p1).elim
theorem de_lrng2(c:X.mg "list"=e_)(o:X.mg "range"=e_)(w:DA K W X [a,b] fr)(u: ~~~(X.calm=d_))(q: ~~~(Gl X "range"))(d: ~~~(Gl X "list"))(n: ~~~(l_ [a,b] X.env=[(c_,FV a X.env),(c_,FV b X.env)]))(U: ~~~(l_ [b] X.env=[(c_,FV b X.env)]))(I: ~~~(l_ [.Call (.Name "range" q1) [a,b] [] q2] X.env=[(c_,FV (.Call (.Name "range" q1) [a,b] [] q2) X.env)])):DE K W d_ X (.Call (.Name "list" p) [.Call (.Name "range" q1) [a,b] [] q2] [] pos) (fLR (gF zL fr)):=by
 refine PE.imp (lC (lZ u) d c GU (bT (pe_rng2 q o w n U) eG I) as as I rfl) λσ H Q h=>?_;obtain⟨F,ρ,r,s,p⟩:=h;refine ju r s (λe x=>p.err (by simp_all[fLR,gF])) λds t xs F1 H1 s1 q1=>?_;have e1:fLR (gF zL fr) ρ=(zL ds).bind bj:=by unfold fLR gF;rw[t];rfl
 rw[e1]at p;have p1:=p.step s1;by_cases J:∃i j,ds=[.int i,.int j]
 .obtain⟨i,j,rfl⟩:=J;obtain⟨v,vs,e2,q2,k,S,e3,m,e4⟩:=q1;have p2:aE K W d_ F1 H1 ((if (bu i&&bu j)=d_ then GY (aB i (j-i).toNat)else Ie Err.stuck:M (List A')).bind bj) Q:=p1;by_cases B:(bu i&&bu j)=d_
  .rw[p_ B]at p2;unfold bu at B;simp only[m_,FG]at B;have e5:xs=[.int i,.int j]:=by rw[e2,show v=.int i from q2,e3,show k=.int j from m,show S=[]from e4]
   subst e5;refine⟨i,j,rfl,rfl,⟨B.1.1,B.1.2,B.2.1,B.2.2⟩,λl Y=>?_⟩
   obtain⟨g,f⟩:=A8 p2 s1.fh Y;exact⟨l,i,j,rfl,av,⟨B.1.1,B.1.2,B.2.1,B.2.2⟩,g,f⟩
  .rw[q_ B]at p2;exact(W.ns p2).elim
 .have:zL ds=.error .stuck:=by
   unfold zL;split
   .exact FR ⟨_,_,rfl⟩ J
   .rfl
  rw[this]at p1;exact(W.ns p1).elim
end
section
variable{es:List G4}{p:NV}
def dm{s:k_}{is:a5}(S:N'.Nodup)(U:PGs (bo X N' sc L cs s H fp) es (fO is))(hi: ~~~(N'[i]?=a_ x))(B:autoParam (Loc (bo X N' sc L cs s H fp).env.scope x) Jq6)(J:autoParam ((bo X N' sc L cs s H fp).fn x=d_\/(bo X N' sc L cs s H fp).env.scope.names.lookup x=a_ .local) Jq4)(I: ~~~((Il (.Name x p::es) (bo X N' sc L cs s H fp).env).map (·.2)=JY (.Name x p) (bo X N' sc L cs s H fp).env::(Il es (bo X N' sc L cs s H fp).env).map (·.2))):PGs (bo X N' sc L cs s H fp) (.Name x p::es) (fO (i::is)):=zU (pg_c S hi B J) U I
end
open PySem.W in
section
open PySem.W
variable{key:Nat->Int}
noncomputable def ltK(key:Nat->Int)(i j:Nat):Bool:=xF (key i<key j)
end
section
open PySem.W
variable{key:Nat->Int}
def Ct(prog:GD)(w:Hw)(A:HL)(key:Nat->Int)(vs:a8)(s':k_):Prop:=
 r_ (y_ prog w) A (keyKind' vs.toArray) (fun κ s2=>s2=s'/\∀i j (C:Bool->k_->Prop),i<vs.length->j<vs.length->C (ltK key i j) s'->Oa prog w A κ vs i j C s') (λ_ _=>False) s'
end
noncomputable def insL{α:Type}(lt:α->α->Bool)(x:α):List α->List α
 |[]=>[x]|y::ys=>if lt y x=d_ then y::insL lt x ys else x::y::ys
def cx{α:Type}(lt:α->α->Bool):List α->List α
 |[]=>[]|x::xs=>insL lt x (cx lt xs)
noncomputable def ltZ(a b:Int):Bool:=xF (a<b)
noncomputable def xC:a0->a0->Bool
 |[],[]=>c_|[],_::_=>d_|_::_,[]=>c_|a::I,b::B=>if a=b then xC I B else xF (a<b)
def aP(t:a0):A':=.tup (t.map .int)
def tupD:A'->M a0
 |.tup ds=>cF ds|_=>stk
def fQ:List A'->M (List a0)
 |[]=>.ok []|d::ds=>(tupD d).bind λt=>(fQ ds).bind λr=>.ok (t::r)
section
variable{lt:α->α->Bool}
structure Ord(lt:α->α->Bool):Prop where
 irr:∀a,lt a a=c_
 tr:∀a b c,lt a b=d_->lt b c=d_->lt a c=d_
 tot:∀a b,lt a b=c_->lt b a=c_->a=b
theorem ordZ:Ord ltZ:=⟨λa=>by simp[ltZ],λa b c h1 B=>by grind[ltZ],λa b h1 B=>by grind[ltZ]⟩
theorem ordLex:Ord xC:=by
 refine⟨λa=>?_,λa b c=>?_,λa b=>?_⟩
 .induction a with
  |nil=>rfl|cons x xs I=>simp[xC,I]
 .induction a generalizing b c with
  |nil=>
   cases b with
   |nil=>simp|cons y ys=>
    intro _ B;cases c with
    |nil=>simp_all[xC]|cons z J=>rfl
  |cons x xs I=>
   intro h1 B;cases b with
   |nil=>simp_all[xC]|cons y ys=>
    cases c with
    |nil=>simp_all[xC]|cons z J=>
     simp only[xC]at h1 B ⊢
     grind
 .induction a generalizing b with
  |nil=>
   cases b with
   |nil=>simp|cons y ys=>simp[xC]
  |cons x xs I=>
   cases b with
   |nil=>simp[xC]|cons y ys=>
    intro h1 B;simp only[xC]at h1 B
    grind
theorem pE(x:α):∀l:List α,(insL lt x l).Perm (x::l)
 |[]=>IM _|y::ys=>by
  rw[insL];split
  .exact((pE x ys).cons y).trans (O0 x y ys)
  rfl
theorem bC:∀l:List α,(cx lt l).Perm l
 |[]=>IM _|x::xs=>(pE x _).trans ((bC xs).cons x)
theorem Ord.le_trans(o:Ord lt){a b c:α}(h1:lt b a=c_)(I:lt c b=c_):lt c a=c_:=by
 cases h:lt c a with
 |false=>rfl|true=>
  cases B:lt b c with
  |true=>rw[o.tr b c a B h]at h1;lia|false=>
   have:=o.tot c b I B
   simp_all
theorem Ord.asym(o:Ord lt){a b:α}(h:lt a b=d_):lt b a=c_:=by
 cases B:lt b a with
 |false=>rfl|true=>have:=o.tr a b a h B;rw[o.irr]at this;simp_all
theorem pD(o:Ord lt)(x:α):∀l:List α,l.Pairwise (λa b=>lt b a=c_)->(insL lt x l).Pairwise (λa b=>lt b a=c_)
 |[],_=>by simp[insL]|y::ys,h=>by
  rw[insL];rw[GP]at h;split
  .rename_i I;rw[GP];refine⟨λb J=>?_,pD o x ys h.2⟩
   rcases t_.mp ((pE x ys).mem_iff.mp J)with e|e
   .rw[e];exact o.asym I
   simp_all
  .rename_i I;have B:lt y x=c_:=by simpa using I
   rw[GP,GP];refine⟨λb J=>?_,h⟩
   rcases t_.mp J with e|e
   .simp_all
   .exact o.le_trans B (h.1 b e)
theorem fq(o:Ord lt):∀l:List α,(cx lt l).Pairwise (λa b=>lt b a=c_)
 |[]=>Io|x::xs=>pD o x _ (fq o xs)
theorem kL(o:Ord lt):∀{l m:List α},l.Perm m->l.Pairwise (λa b=>lt b a=c_)->m.Pairwise (λa b=>lt b a=c_)->l=m
 |[],m,h,_,_=>(List.Perm.nil_eq h)|a::l,m,h,h1,B=>by
  cases m with
  |nil=>simp_all|cons b m=>
   rw[GP]at h1 B;have e:a=b:=by
    rcases t_.mp (h.mem_iff.mp Hq)with e|e
    .exact e
    .rcases t_.mp (h.mem_iff.mpr Hq)with e2|e2
     .simp_all
     .exact o.tot a b (B.1 a e) (h1.1 b e2)
   subst e;rw[kL o (List.Perm.cons_inv h) h1.2 B.2]
end
section
open PySem.W
variable{lt:α->α->Bool}
def getD_get{l:List α}{d:α}(h:i<l.length):l.getD i d=l[i]:=by simp[h]
noncomputable def rk(lt:α->α->Bool)(B:List α)(d:α)(i:Nat):Int:=((B.filter λz=>lt z (B.getD i d)).length:Int)
theorem filter_lt{p q:α->Bool}(h:∀z,p z=d_->q z=d_):∀l:List α,(l.filter p).length<=(l.filter q).length/\((∃z∈l,p z=c_/\q z=d_)->(l.filter p).length<(l.filter q).length)
 |[]=>⟨i_ _,λ⟨_,h,_⟩=>nomatch h⟩
 |x::xs=>by
  obtain⟨I,B⟩:=filter_lt h xs
  grind[N8,N9]
theorem Dd(o:Ord lt){B:List α}{d:α}(hi:i<B.length)(I:j<B.length):ltK (rk lt B d) i j=lt (B.getD i d) (B.getD j d):=by
 unfold ltK rk;have S:B.getD i d∈B:=by rw[getD_get hi];exact FX hi
 have U:B.getD j d∈B:=by rw[getD_get I];exact FX I
 cases h:lt (B.getD i d) (B.getD j d)with
 |true=>refine IY ?_;have:=(filter_lt (p:=λz=>lt z (B.getD i d)) (q:=λz=>lt z (B.getD j d)) (λz hz=>o.tr _ _ _ hz h) B).2 ⟨_,S,o.irr _,h⟩;lia|false=>
  refine HY ?_;have:=(filter_lt (p:=λz=>lt z (B.getD j d)) (q:=λz=>lt z (B.getD i d)) (λz hz=>by
   cases J:lt z (B.getD i d)with
   |true=>rfl|false=>
    have e:=o.le_trans h J
    lia) B).1
  lia
theorem vals_map(r:C' xs us)(ps:a5)(I:∀i∈ps,i<xs.length):C' (ps.map λi=>xs.getD i .non) (ps.map λi=>us.getD i .none):=by
 refine C'.of_get am λk v u h1 B=>?_;rw[FL]at h1 B;cases e:ps[k]? with
 |none=>simp_all|some i=>rw[e]at h1 B;simp only[Iz,GF]at h1 B;have hi:=I i (Gn e);have S:=r.length;obtain⟨J,e1,q⟩:=r.get (i:=i) (x:=xs[i]) am;rw[getD_get hi]at h1;rw[z_,e1]at B;rw[<- h1,<- B];exact q
def rk_ints(is:a0)(i j:Nat)(hi:i<is.length)(B:j<is.length):ltK (rk ltZ is 0) i j=xF (is.getD i 0<is.getD j 0):=Dd ordZ hi B
theorem Fw{s':k_}(hi:K0 its is)(S:2<=its.length):Ct prog w A (rk ltZ is 0) its s':=by
 have c:=hi.length;obtain⟨J,I,rest,rfl⟩:∃J I rest,its=J::I::rest:=by
  match its,S with
  |J::I::rest,_=>lia
 unfold Ct;rw[keyKind_ints hi];refine g_ ⟨rfl,λi j C h1 S U=>?_⟩;unfold Oa;obtain⟨a,e1⟩:=B hi i h1;obtain⟨Y,e2⟩:=B hi j S;rw[e1,e2];rw[rk_ints is i j ad ad]at U;exact kat_lt_int U
where
 B {vs:a8} {ns:a0} (h:K0 vs ns) (i:Nat) (hi:i<vs.length):∃t,vs.getD i FY=.int (ns.getD i 0) t:=by
  induction h generalizing i with
  |nil=>simp_all|cons n t r b=>
   cases i with
   |zero=>exact⟨t,rfl⟩|succ i=>simp_all
def lexF(f:Bool):a0->a0->Bool
 |a::I,b::B=>if a=b then lexF f I B else xF (a<b)
 |_,_=>f
theorem Ae:∀I B:a0,lexF (xF (I.length<B.length)) I B=xC I B
 |[],[]=>rfl|[],_::_=>by rfl|_::_,[]=>by rfl|a::I,b::B=>by
  have:=Ae I B
  simp_all[lexF,xC,B_,Nat.add_lt_add_iff_right]
theorem pz{prog:GD}{w:Hw}{A:HL}{s':k_}{f:Bool}{Q:Bool->k_->Prop}:∀{us vs:a8} {I B:a0} (i:Nat),K0 us I->K0 vs B->Q (lexF f I B) s'->KatLex prog w A d_ f Q (us.zip vs) i s'
 |_,_,_,B,_,.nil,_,h=>kat_nil (by cases B<;>exact h)
 |_,_,_,_,_,.cons a t r,.nil,h=>kat_nil h|_,_,_,_,i,.cons a t r,.cons b u r',h=>by
  show KatLex prog w A d_ f Q ((.int a t,.int b u)::(_:List (h_×h_))) i s';refine kat_cons (SeqAt.EqAt.int_int a t b u _ _ _ _ ?_);by_cases e:a=b
  .rw[show(a==b)=d_ by simpa using e];rw[lexF,p_ e]at h;exact kat_yes (pz (i+1) r r' h)
  .rw[show(a==b)=c_ by simp_all];rw[lexF,q_ e]at h;refine kat_no ?_;cases J:(d_&&i==0)with
   |true=>exact oneLt_int h|false=>exact kat_one _ _ (Ph h)
theorem Fv{s:k_}{ts:List a0}(I:B5 X B2 σ H s)(O:aX F H)(r:ay X.K F (ts.map aP) xs)(c:(ts.all λt=> !t.isEmpty)=d_)(g:C' xs its)(h2:2<=its.length)(E:∀b o,s.heap.get? b=a_ o->h1.get? b=a_ o):Ct X.prog X.w A (rk xC ts []) its {s with heap:=h1}:=by
 have l1:=g.length;have D:=r.length;rw[oe]at D;have B:∀i,i<its.length->∃(l:iF) (J:Mx) (us:a8) (n:Nat),its.getD i FY=.ref l/\h1.get? l=a_ J/\J.cls=.type "tuple"/\J.data=.seq us.toArray n/\K0 us (ts.getD i []):=λi hi=>by obtain⟨v,e1,l,ys,e2,x,y⟩:=r.get (i:=i) (d:=aP (ts[i]'(by omega))) (by simp[show i<ts.length by lia]);subst e2;obtain⟨u,e3,U⟩:=g.get e1;cases U;obtain⟨us,U,pl,_⟩:=I.tuple (O.tup x);obtain⟨J,R,Q,n,P⟩:=pl;have e4:ys=(ts[i]'(by omega)).map V.int:=dh y (fw _);rw[e4]at U;exact⟨l,J,us,n,aW,E _ _ R,Q,P,by rw[getD_get (show i<ts.length by lia)];exact intsAre_of U⟩
 have S:∀(k:Nat),k<=its.length->∃fs,KatTups h1 (its.drop (its.length-k)) fs/\fs.length=k/\∀v∈fs,∃i t,v=Lc i t:=by
  intro k
  induction k with
  |zero=>intro _;exact⟨[],by rw[M5,JB];exact Qp,rfl,λ_ h=>nomatch h⟩
  |succ k G=>
   intro hk;obtain⟨fs,q1,q2,Y⟩:=G ad;have hi:its.length-(k+1)<its.length:=ad
   obtain⟨l,J,us,n,e1,e2,e3,e4,e5⟩:=B _ hi;have K:(ts.getD (its.length-(k+1)) [])≠[]:=by rw[getD_get (show its.length-(k+1)<ts.length by lia)];have:=Hd.mp c _ (FX (show its.length-(k+1)<ts.length by lia));simpa using this
   obtain⟨z,Z⟩:∃z,ts.getD (its.length-(k+1)) []=z:=⟨_,rfl⟩
   rw[Z]at e5 K;obtain⟨f,fr,ef,N⟩:∃f fr,us=f::fr/\∃i t,f=Lc i t:=by
    cases e5 with
    |nil=>simp_all|cons m t r=>exact⟨_,_,rfl,_,_,rfl⟩
   refine⟨f::fs,?_,by simp[q2],λv a=>?_⟩
   .rw[Gd hi];rw[show its.length-(k+1)+1=its.length-k by lia];rw[getD_get hi]at e1;rw[e1];exact P7 e2 e3 e4 (by rw[ef];rfl) q1
   .rcases t_.mp a with e|e
    .rw[e];exact N
    .exact Y v e
 obtain⟨fs,q1,q2,Y⟩:=S its.length (i_ _);rw[KC,IX]at q1;unfold Ct;refine kat_kind (s:={s with heap:=h1}) (T:=.type "int") q1 ad (λv a=>?_) rfl ⟨rfl,λi j C hi L p=>?_⟩
 .obtain⟨i,t,e⟩:=Y v a;rw[e];exact Qo rfl
 .unfold Oa;obtain⟨x1,o1,us,n1,e1,W,_,d1,w⟩:=B i hi;obtain⟨x2,o2,vs,n2,e2,g2,_,d2,q⟩:=B j L;rw[e1,e2];rw[Dd ordLex (show i<ts.length by lia) (show j<ts.length by lia)]at p;refine kat_lt (s:={s with heap:=h1}) W d1 g2 d2 (pz 0 w q ?_);rw[GJ,GJ,w.length,q.length,Ae];exact p
theorem zf{F:Hp}{t:a0}(h:tupD d=.ok t):d=aP t:=by
 cases d with
 |tup ds=>
  have:∀{ds:List A'} {t:a0},cF ds=.ok t->ds=t.map .int:=by
   intro ds
   induction ds with
   |nil=>intro t h;cases h;rfl|cons d ds B=>
    intro t h;cases d with
    |int i=>
     cases e:cF ds with
     |error x=>simp_all[cF,asI,af,j5]|ok r=>grind[cF,asI,af]
    |_=>cases h
  unfold aP;rw[this h]
 |_=>cases h
theorem Ew:∀{ds:List A'} {t:a0},cF ds=.ok t->ds=t.map .int:=λ{ds t} h=>by
 have:=zf (F:=λ_=>e_) (d:=.tup ds) (t:=t) h
 simp_all[aP]
theorem l6:∀{ds:List A'} {ts:List a0},fQ ds=.ok ts->ds=ts.map aP
 |[],_,h=>by cases h;rfl|d::ds,ts,h=>by
  cases e:tupD d with
  |error x=>simp_all[fQ,j5]|ok t=>
   cases e2:fQ ds with
   |error x=>simp_all[fQ,af,j5]|ok r=>simp only[fQ,e,af,e2]at h;cases h;rw[zf (F:=λ_=>e_) e,l6 e2];rfl
theorem l7:∀{ds:List A'} {e:Err},fQ ds=.error e->e=.stuck
 |[],_,h=>by cases h|d::ds,e,h=>by
  cases e1:tupD d with
  |error x=>
   simp only[fQ,e1,j5]at h;cases h;cases d with
   |tup ds=>exact gC e1|_=>cases e1;rfl
  |ok t=>
   cases e2:fQ ds with
   |error x=>simp only[fQ,e1,af,e2,j5]at h;cases h;exact l7 e2|ok r=>simp_all[fQ,af]
end
noncomputable def cX(n d:Nat):Option Int->Nat
 |none=>d|some v=>if v<0 then(v+(n:Int)).toNat else N6 v.toNat n
def yN(xs:List α)(lo hi:Option Int):List α:=(xs.drop (cX xs.length 0 lo)).take (cX xs.length xs.length hi-cX xs.length 0 lo)
def cB:A'->Option Int->Option Int->M A'
 |.lst ds,lo,hi=>.ok (.lst (yN ds lo hi))|.tup ds,lo,hi=>if (xF (cX ds.length 0 lo=0)&&xF (cX ds.length ds.length hi=ds.length))=d_ then stk else .ok (.tup (yN ds lo hi))
 |_,_,_=>stk
noncomputable def kh:ag->M (Option Int):=λ_=>.ok e_
def iN(f:ag->M A'):ag->M (Option Int):=λρ=>(f ρ).bind λd=>(asI d).bind λi=>.ok (a_ i)
noncomputable def fSl(g:A'->Option Int->Option Int->M A')(fa:ag->M A')(fl fu:ag->M (Option Int)):ag->M A':=λρ=>(fa ρ).bind λa=>(fl ρ).bind λl=>(fu ρ).bind λu=>g a l u
def extD(ρ:ag)(i:Nat)(ds:List A'):A'->M B6
 |.lst es=>if ds.length+es.length<=o_ then put ρ i (ds++es)else stk
 |_=>stk
def sExt(O:a5)(i:Nat)(f:ag->M A'):ag->M B6:=λρ=>(jD ρ i).bind λds=>(f (erase O ρ)).bind λd=>extD ρ i ds d
def DL:A'->A'->M A'
 |.bl a,.bl b=>.ok (.bl (a != b))|.non,.bl _=>.ok (.bl d_)|.int _,.bl _=>.ok (.bl d_)|.lst _,.bl _=>.ok (.bl d_)|.tup _,.bl _=>.ok (.bl d_)|_,_=>stk
section
variable{W:cy}{own:Bool}{a b d:G4}{lo hi:Option G4}{es:List G4}{y:Gf}{p r t u:NV}{f:ag->M A'}{fl:ag->M (Option Int)}
def tDO(K:Pn)(W:cy)(f:ag->M (Option Int)):TO:=λσ H Q=>TDx K σ H λF ρ=>match f ρ with
 |.ok o=>∀F' H',B4 F H F' H'->Q o H'|.error e=>W.p e F H
def CQ{R:Option Int->Hp->Prop}(r:gR K F σ ρ)(s:aX F H)(I:∀e,fl ρ=.error e->W.p e F H)(B:∀o,fl ρ=.ok o->∀F1 H1,B4 F H F1 H1->R o H1):tDO K W fl σ H R:=by
 refine⟨F,ρ,r,s,?_⟩
 cases e:fl ρ with
 |ok d=>exact B d e|error x=>exact I x e
abbrev DP(K:Pn)(W:cy)(X:Cx)(e:Option G4)(f:ag->M (Option Int)):Prop:=PO X e (tDO K W f)
def PO.imp{t t':TO}(h:PO X lo t)(q:∀σ H Q,t' σ H Q->t σ H Q):PO X lo t':=λB2 s σ H Q I z=>h B2 s σ H Q I (q σ H Q z)
def iX:DP K W X e_ kh:=po_none.imp λσ H Q ⟨F,ρ,r,s,p⟩=>p F H (B4.refl s)
theorem iW(h:DE K W c_ X e f):DP K W X (a_ e) (iN f):=(po_some h).imp λσ H Q ⟨F,ρ,r,s,p⟩=>by
 refine aJ r s (λe I=>?_) λd B v F1 H1 s1 q1=>?_
 .simp_all[iN]
 .have z:iN f ρ=(asI d).bind λi=>.ok (a_ i):=by unfold iN;rw[B];rfl
  rw[z]at p;cases d with
  |int i=>exact⟨i,q1,p F1 H1 s1⟩|_=>exact(W.ns p).elim
def rDS(K:Pn)(W:cy)(own:Bool)(g:A'->Option Int->Option Int->M A'):V->Option Int->Option Int->Hp->VK->Prop:=λx lo hi H Q=>TX1 (bf K) x H λF a=>aE K W own F H (g a lo hi) Q
theorem uq{g:A'->Option Int->Option Int->M A'}(Y:SlR X (rDS K W own g))(S:DE K W c_ X a fa)(J:DP K W X lo fl)(I:DP K W X hi fu):DE K W own X (.Subscript a (.Slice lo hi e_ p2) pos) (fSl g fa fl fu):=(pe_slice Y S J I).imp λ_ _ _=>by
  intro h;obtain⟨F,ρ,r,s,p⟩:=h;refine aJ r s (λe U=>p.err (by simp_all[fSl])) λa S x F1 H1 s1 q1=>?_;refine CQ (r.mono s1.ff) s1.fh (λe U=>(p.step s1).err (by simp_all[fSl])) λl J d H2 s2=>?_;refine CQ ((r.mono s1.ff).mono s2.ff) s2.fh (λe U=>(p.step (s1.trans s2)).err (by simp_all[fSl])) λu I b c B=>?_;refine⟨b,a,B.fh,bf.mono (s2.trans B).ff q1,?_⟩
  have e:fSl g fa fl fu ρ=g a l u:=by unfold fSl;rw[S];show(fl ρ).bind _=_;rw[J];show(fu ρ).bind _=_;rw[I];rfl
  rw[e]at p;exact p.step ((s1.trans s2).trans B)
def AM(n d:Nat)(o:Option Int):cX n d o=HT.sIx n d o:=by rfl
def ay.cut{l u:Option Int}(h:ay K F ds xs):ay K F (yN ds l u) (cutV xs l u):=by unfold yN cutV;rw[AM,AM,h.length];exact ay.take _ (ay.drop _ h)
theorem x_sl(f: ~~~(X.K=K)):SlR X (rDS K W d_ cB):=by
 subst f;intro B2 s σ H x v Y U lo hi sl Q I b d pl c h;refine(SlR.or sl_list sl_tup) B2 s σ H x v Y U lo hi sl Q I b d pl c ?_;obtain⟨F,a,s1,S,p⟩:=h;cases a with
 |lst ds=>obtain⟨l,xs,e,t,z⟩:=S;exact .inl ⟨l,xs,e,s1.lst t,λr B=>aE.lst p s1 z.cut B⟩
 |tup ds=>
  obtain⟨l,xs,e,t,z⟩:=S;have p':aE X.K W d_ F H (if (xF (cX ds.length 0 lo=0)&&xF (cX ds.length ds.length hi=ds.length))=d_ then stk else .ok (.tup (yN ds lo hi))) Q:=p;by_cases J:(xF (cX ds.length 0 lo=0)&&xF (cX ds.length ds.length hi=ds.length))=d_
  .rw[p_ J]at p';exact p'.stuck
  .rw[q_ J]at p';refine .inr ⟨l,xs,e,s1.tup t,λhw=>J ?_,λr B=>aE.tup p' s1 z.cut B⟩;rw[AM,AM,<- z.length]
   simp_all
 |_=>exact aE.stuck p
def o_notB:Op2 K W own X (Gy .IsNot) DL:=by
 intro B2 s σ H x y v u Q I B S h;obtain⟨F,a,b,s1,J,U,p⟩:=h;cases b with
 |bl k=>
  cases(show y=.bl k from U);cases S;cases a with
  |bl j=>cases(show x=.bl j from J);cases B;exact isnot_bool (iA I (aE.bl p s1) rfl)|non=>cases(show x=.non from J);cases B;exact g_ (iA I (aE.bl p s1) rfl)|int j=>cases(show x=.int j from J);obtain⟨t,rfl⟩:=B;exact g_ (iA I (aE.bl p s1) rfl)
  |lst ds=>obtain⟨l,xs,e,_⟩:=J;subst e;cases B;exact g_ (iA I (aE.bl p s1) rfl)
  |tup ds=>obtain⟨l,xs,e,_⟩:=J;subst e;cases B;exact g_ (iA I (aE.bl p s1) rfl)
  |ins C fs=>exact aE.stuck p|dic ks=>exact aE.stuck p|dil ks=>exact aE.stuck p
 |_=>cases a<;>exact aE.stuck p
theorem ds_ext(m:DE K W d_ X e f)(l:(i∈O)⁻¹)(w: ~~~(X.N[i]?=a_ x))(s:autoParam (Vis X.env.scope x) Jq5)(h:((x==("__debug__":Gf))=c_)⁻¹)(j:((x==("__classdict__":Gf))=c_)⁻¹)(y: ~~~(X.K=K))(S: ~~~(l_ [e] X.env=[(c_,FV e X.env)]))(J: ~~~(HK (.Name x p) "extend" X.env (FV (.Name x p) X.env)=FV (.Name x p) X.env))(U: ~~~(((Hi q (l_ [e] X.env)).all (λx=> !x.1)&&(Lb q (JI [] X.env)).all (λx=>x.1.isSome)&&xF ([e].length+([]:List Lw).length+(if ([]:List Lw).isEmpty then 0 else 1)<30))=d_))(B: ~~~((Hi q (l_ [] X.env)).any (·.1)=c_))(I: ~~~((apos.endLine==q.line)=d_))(c: ~~~(HM (.Call (.Attribute (.Name x p) "extend" apos) [e] [] q) e_ pos.line X.env=GW c_)):
  DS K W ro X OL O O (.Expr (.Call (.Attribute (.Name x p) "extend" apos) [e] [] q) pos) (sExt O i f):=λF0 H0=>by
 subst y;exact PS.imp (kJ (pe_bm JJ Oq PySem.F.type_list_extend DU (pv i w s h j) (bT m eG S) J U I S B) c) λ_ σ _=>by
   intro t;obtain⟨FB,F,ρ,r,p⟩:=t;cases Y:jD ρ i with
   |error e=>have:=p5 Y;subst this;exact p.stuck (by simp_all[sExt])|ok ds=>
    obtain⟨a,xs,e2,n,z⟩:=r.DX l (k7 Y);refine⟨.ref a,e2,⟨rfl,_,_,rfl,SqL.of n⟩,?_⟩
    refine aJ r.jW r.st.fh (λe m=>p.iB r.st (by simp_all[sExt])) λd h v F1 H1 s1 q=>?_;have A:sExt O i f ρ=extD ρ i ds d:=by unfold sExt;rw[Y];show(f (erase O ρ)).bind _=_;rw[h];rfl
    rw[A]at p;cases d with
    |lst es=>
     obtain⟨b,o,e3,u,_,_,k⟩:=q;by_cases g:ds.length+es.length<=o_
     .have ep:extD ρ i ds (.lst es)=put ρ i (ds++es):=p_ g;rw[ep]at p;exact⟨a,b,xs,o,rfl,by rw[e3],s1.hh _ _ n,u,by rw[z.length,k.length];exact g,p σ F1 _ ((r.step s1).write l (k7 Y) e2 (ay.append (z.mono s1.ff) k))⟩
     .exact p.stuck (q_ g)
    |_=>exact p.stuck rfl
end
section
variable{fl:ag->M (Option Int)}
@[simp]def e_pNone:kh ρ=.ok e_:=id rfl
@[simp]def e_pSome:iN fa ρ=(fa ρ).bind λd=>(asI d).bind λi=>.ok (a_ i):=id rfl
@[simp]def e_slF(k:A'->Option Int->Option Int->M A'):fSl k fa fl fu ρ=(fa ρ).bind λa=>(fl ρ).bind λl=>(fu ρ).bind λu=>k a l u:=id rfl
@[simp]def e_sliceL(ds:List A')(lo hi:Option Int):cB (.lst ds) lo hi=.ok (.lst (yN ds lo hi)):=id rfl
@[simp]def e_extD(i:Nat)(ds es:List A'):extD ρ i ds (.lst es)=if ds.length+es.length<=o_ then put ρ i (ds++es)else stk:=id rfl
@[simp]def e_ext(O:a5)(i:Nat):sExt O i fa ρ=(jD ρ i).bind λds=>(fa (erase O ρ)).bind λd=>extD ρ i ds d:=id rfl
@[simp]def e_eqII(i j:Int):eqM (.int i) (.int j)=.ok (.bl (xF (i=j))):=by rfl
@[simp]def e_neII(i j:Int):neM (.int i) (.int j)=.ok (.bl (!decide (i=j))):=by rfl
@[simp] theorem cut_take{α:Type}(xs:List α){j:Int}(h:0<=j):yN xs e_ (a_ j)=xs.take j.toNat:=by
 unfold yN cX
 simp_all[q_,IX,M5,LO,Qf,J9,Ij]
@[simp] theorem uC{α:Type}(xs:List α){j:Int}(h:0<=j):yN xs (a_ j) e_=xs.drop j.toNat:=by simp_all[yN,cX,q_,LO,Ij,Qf,Ly,JB]
end
def qX(Cs:List iF)(x:Gf):A'->M A'
 |.ins C fs=>if Cs.contains C=d_ then(match fs.lookup x with
  |some d=>.ok d|none=>stk)else stk
 |_=>stk
def isC(C:iF)(m:Gf):A'->Bool
 |.ins D fs=>(D==C)&&(fs.lookup m).isNone|_=>c_
def mC(C:iF)(m:Gf)(g:List A'->M A')(fo:ag->M A')(fr:ag->M (List A')):ag->M A':=λρ=>(fo ρ).bind λo=>if isC C m o=d_ then(fr ρ).bind λB=>g (o::B)else stk
def dE(C C2:iF)(m:Gf)(g g2:List A'->M A')(fo:ag->M A')(fr:ag->M (List A')):ag->M A':=λρ=>(fo ρ).bind λo=>if isC C m o=d_ then(fr ρ).bind λB=>g (o::B)else if isC C2 m o=d_ then(fr ρ).bind λB=>g2 (o::B)else stk
def newR(C:iF)(g:List A'->M A'):List A'->M A'
 |[d]=>(g [d]).bind λr=>.ok (.ins C [("gaps",r)])|_=>stk
noncomputable def twoL:A'->A'->Bool
 |.lst xs,.lst ys=>xF (xs.length=ys.length)|_,_=>c_
def newP(C:iF)(g:List A'->M A'):List A'->M A'
 |[d,e]=>(g [d]).bind λr=>(g [e]).bind λB=>if twoL r B=d_ then .ok (.ins C [("gaps",r),("beside",B)])else stk
 |_=>stk
def sStk:ag->M B6:=λ_=>stk
section
variable{W:cy}{own:Bool}{o a b c d:G4}{es:List G4}{y m:Gf}{p:NV}{f fo:ag->M A'}{fr:ag->M (List A')}{C2:iF}{Cs:List iF}
def EM{st:G6}:DS K W ro X OL O O' st sStk:=λF0 H0 B2 s σ H D I h=>by obtain⟨FB,F,ρ,r,p⟩:=h;exact p.stuck rfl
theorem kX.at{F:Hp}{x:Gf}:∀{gs:List (Gf×A')} {fs:List (Gf×V)},kX K F gs fs->(∀d,gs.lookup x=a_ d->∃v,fs.lookup x=a_ v/\bf K F d v)/\(gs.lookup x=e_->fs.lookup x=e_)
 |[],fs,h=>by cases(show fs=[]from h);simp|(g,d)::gs,fs,h=>by
  obtain⟨v,r,rfl,h1,I⟩:=h;have B:=kX.at (x:=x) I;rw[Ht,Ht];cases e:x==g with
  |true=>exact⟨λd' h'=>by cases h';exact⟨v,rfl,h1⟩,λh'=>by cases h'⟩|false=>exact B
theorem wV(f:∀C∈Cs,Cls K C/\jj K C y)(I:DE K W c_ X e fa)(Y: ~~~(HK e y X.env (FV e X.env)=FV e X.env))(c: ~~~(X.K=K)):DE K W c_ X (.Attribute e y pos) (f1 (qX Cs y) fa):=by
 subst c;refine(Dw I Y).imp λσ H Q h=>?_;obtain⟨F,ρ,r,s,p⟩:=h;refine aJ r s (λe I=>p.err (by simp_all[f1])) λa b x F1 H1 s1 q1=>?_;have i:f1 (qX Cs y) fa ρ=qX Cs y a:=by unfold f1;rw[b];rfl
 rw[i]at p;cases a with
 |ins C gs=>
  obtain⟨l,dx,fs,e1,ea,j⟩:=q1;have p':aE X.K W c_ F H (if Cs.contains C=d_ then(match gs.lookup y with
   |some d=>.ok d|none=>stk)else stk) Q:=p
  by_cases J:Cs.contains C=d_
  .rw[p_ J]at p';obtain⟨h1,g⟩:=f C aW;cases B:gs.lookup y with
   |none=>rw[B]at p';exact aE.stuck p'|some d=>rw[B]at p';obtain⟨v,S,U⟩:=j.at.1 d B;exact⟨l,C,dx,fs,v,e1,s1.fh _ _ ea,h1,g,S,(p'.step s1) v F1 H1 (B4.refl s1.fh) U⟩
  .rw[q_ J]at p';exact aE.stuck p'
 |_=>exact aE.stuck p
def PE.or{J B:TE}(h1:PE X e J)(S:PE X e B):PE X e (λσ H Q=>J σ H Q\/B σ H Q):=λB2 s σ H Q I h=>h.elim (h1 B2 s σ H Q I) (S B2 s σ H Q I)
def Dh{Q:VK}(h:tD K Fl ro (mC C m (bJ nN n g) fo fr) σ H Q):tMeth C m (spF K ro (bJ nN n g) n) [] E0 (tD K Fl c_ fo) (tDA K Fl fr) σ H Q:=by
 obtain⟨F,ρ,r,s,p⟩:=h;refine aJ r s (λe S=>p.err (by unfold mC;rw[S];rfl)) λo c x F1 H1 s1 q1=>?_;have f:mC C m (bJ nN n g) fo fr ρ=if isC C m o=d_ then(fr ρ).bind λI=>bJ nN n g (o::I)else stk:=by unfold mC;rw[c];rfl
 rw[f]at p;by_cases J:isC C m o=d_
 .rw[p_ J]at p;cases o with
  |ins D gs=>
   obtain⟨l,dx,fs,e1,ea,i⟩:=id q1;have B:((D==C)&&(gs.lookup m).isNone)=d_:=J;rw[m_]at B;obtain⟨Y,d⟩:=B;have Y:D=C:=by simpa using Y
   subst Y;refine⟨l,dx,fs,e1,s1.fh _ _ ea,i.at.2 (by simpa using d),?_⟩
   have p:=p.step s1;refine ju (r.mono s1.ff) s1.fh (λe S=>p.err (by rw[S];rfl)) λI U vs j H2 s2 b=>?_;rw[U]at p;have p:aE K Fl ro F1 H1 (bJ nN n g (.ins D gs::I)) Q:=p;have p:=p.step s2;show spF K ro (bJ nN n g) n (x::(vs++[])) H2 Q E0;rw[Hn];by_cases a:(A'.ins D gs::I).length=n
   .exact⟨j,.ins D gs::I,s2.fh,⟨x,vs,rfl,bf.mono s2.ff q1,b⟩,a,p⟩
   .rw[zF a]at p;exact aE.stuck p
  |_=>cases J
 .rw[q_ J]at p;exact aE.stuck p
theorem zO{Q:VK}(h:tD K Fl ro (dE C C2 m (bJ nN n g) (bJ nN2 n2 g2) fo fr) σ H Q):
  tD K Fl ro (mC C m (bJ nN n g) fo fr) σ H Q\/tD K Fl ro (mC C2 m (bJ nN2 n2 g2) fo fr) σ H Q:=by
 obtain⟨F,ρ,r,s,p⟩:=h;cases I:fo ρ with
 |error e=>
  refine .inl ⟨F,ρ,r,s,?_⟩
  simp_all[dE,mC]
 |ok o=>
  have e1:dE C C2 m (bJ nN n g) (bJ nN2 n2 g2) fo fr ρ=if isC C m o=d_ then(fr ρ).bind λB=>bJ nN n g (o::B)else if isC C2 m o=d_ then(fr ρ).bind λB=>bJ nN2 n2 g2 (o::B)else stk:=by unfold dE;rw[I];rfl
  have e2:mC C m (bJ nN n g) fo fr ρ=if isC C m o=d_ then(fr ρ).bind λB=>bJ nN n g (o::B)else stk:=by unfold mC;rw[I];rfl
  have e3:mC C2 m (bJ nN2 n2 g2) fo fr ρ=if isC C2 m o=d_ then(fr ρ).bind λB=>bJ nN2 n2 g2 (o::B)else stk:=by unfold mC;rw[I];rfl
  rw[e1]at p;by_cases J:isC C m o=d_
  .rw[p_ J]at p e2;exact .inl ⟨F,ρ,r,s,by rw[e2];exact p⟩
  .rw[q_ J]at p;exact .inr ⟨F,ρ,r,s,by rw[e3];exact p⟩
def B8(X:Cx)(o:G4)(m:Gf)(apos:NV)(es:List G4)(pos:NV)(pl:LI Bool):Prop:=FV (.Call (.Attribute o m apos) es [] pos) X.env=(do let ov <- FV o X.env;Lv apos.atName;let (f,first) <- II [ov] (MS ov m pl);P6 pos f first (Hi pos (l_ es X.env)) (Lb pos (JI [] X.env)))
section
variable{fad2:iF}{fd2:IG}
def zV(c:Cls X.K C)(M:Meth X.K C m fad)(F:jk X.prog X.w X.K X.mg X.base CX0 k fad fd ps (spF X.K ro (bJ nN n g) n))(S:ji k X.A)(Y:Binds X.K fd ps [])(U:DE X.K Fl c_ X o fo)(a:DA X.K Fl X (e::es) fr)(B:l_ (e::es) X.env=(c_,FV e X.env)::l_ es X.env)(I:(Hi pos (l_ es X.env)).any (·.1)=c_)(J:B8 X o m apos (e::es) pos pl):DE X.K Fl ro X (.Call (.Attribute o m apos) (e::es) [] pos) (mC C m (bJ nN n g) fo fr):=
 (pe_meth (pl:=pl) U c M F S Y .nil vR a B I J).imp λ_ _ _=>Dh
def vQ(c:Cls X.K C)(M:Meth X.K C m fad)(F:jk X.prog X.w X.K X.mg X.base CX0 k fad fd ps (spF X.K ro (bJ nN n g) n))(I:ji k X.A)(S:Binds X.K fd ps [])(J:DE X.K Fl c_ X o fo)(B:B8 X o m apos [] pos pl):DE X.K Fl ro X (.Call (.Attribute o m apos) [] [] pos) (mC C m (bJ nN n g) fo aw):=
 (pe_meth0 (pl:=pl) J c M F I S .nil vR B).imp λσ H Q h=>by
  obtain⟨F,ρ,r,s,z⟩:=Dh h;refine⟨F,ρ,r,s,?_⟩
  cases e1:fo ρ with
  |error b=>rw[e1]at z;exact z|ok od=>rw[e1]at z;intro v F' H' st q;obtain⟨l,dx,fs,h1,a,Y,U⟩:=z v F' H' st q;exact⟨l,dx,fs,h1,a,Y,rd_nil U⟩
def de_meth2(c:Cls K C)(M:Meth K C m fad)(F:jk X.prog X.w X.K X.mg X.base CX0 k fad fd ps (spF K ro (bJ nN n g) n))(b:ji k X.A)(d:Binds X.K fd ps [])(h:Cls K C2)(i:Meth K C2 m fad2)(j:jk X.prog X.w X.K X.mg X.base CX0 k2 fad2 fd2 ps2 (spF K ro (bJ nN2 n2 g2) n2))(J:ji k2 X.A)(S:Binds X.K fd2 ps2 [])(Y:DE K Fl c_ X o fo)(a:DA K Fl X (e::es) fr)(f: ~~~(X.K=K))(B: ~~~(l_ (e::es) X.env=(c_,FV e X.env)::l_ es X.env))(I: ~~~((Hi pos (l_ es X.env)).any (·.1)=c_))(U: ~~~(B8 X o m apos (e::es) pos pl)):
  DE K Fl ro X (.Call (.Attribute o m apos) (e::es) [] pos) (dE C C2 m (bJ nN n g) (bJ nN2 n2 g2) fo fr):=by
 subst f;exact(PE.or (zV c M F b d Y a B I U) (zV h i j J S Y a B I U)).imp λ_ _ _=>zO
def jP(c:Cls K C)(M:Meth K C m fad)(F:jk X.prog X.w X.K X.mg X.base CX0 k fad fd ps (spF K ro (bJ nN n g) n))(U:ji k X.A)(Y:Binds X.K fd ps [])(b:Cls K C2)(d:Meth K C2 m fad2)(e:jk X.prog X.w X.K X.mg X.base CX0 k2 fad2 fd2 ps2 (spF K ro (bJ nN2 n2 g2) n2))(B:ji k2 X.A)(I:Binds X.K fd2 ps2 [])(S:DE K Fl c_ X o fo)(a: ~~~(X.K=K))(J: ~~~(B8 X o m apos [] pos pl)):
  DE K Fl ro X (.Call (.Attribute o m apos) [] [] pos) (dE C C2 m (bJ nN n g) (bJ nN2 n2 g2) fo aw):=by
 subst a;exact(PE.or (vQ c M F U Y S J) (vQ b d e B I S J)).imp λ_ _ _=>zO
end
def spI1(K:Pn)(C:iF)(g:List A'->M A'):Sp:=λvs H Q _=>∃p dx v F d,vs=[.ref p,v]/\H p=a_ (.ins C dx [])/\F p=e_/\aX F H/\bf K F d v/\(match g [d]with
 |.ok r=>∀w F' H',aX F F'->aX F' H'->F' p=e_->(∀b o,F' b=a_ o->F b=a_ o\/H b=e_)->(∀c o,H c=a_ o->c≠p->H' c=a_ o)->H' p=a_ (.ins C dx [("gaps",w)])->bf K F' r w->Q .non H'|.error e=>Fl.p e F H)
def spI2(K:Pn)(C:iF)(g:List A'->M A'):Sp:=λvs H Q _=>∃p dx v J F d S,vs=[.ref p,v,J]/\H p=a_ (.ins C dx [])/\F p=e_/\aX F H/\bf K F d v/\bf K F S J/\(match (g [d]).bind λr=>(g [S]).bind λB=>if twoL r B=d_ then .ok (r,B)else stk with
 |.ok (r,B)=>∀w I F' H',aX F F'->aX F' H'->F' p=e_->(∀b o,F' b=a_ o->F b=a_ o\/H b=e_)->(∀c o,H c=a_ o->c≠p->H' c=a_ o)->H' p=a_ (.ins C dx [("gaps",w),("beside",I)])->bf K F' r w->bf K F' B I->Q .non H'|.error e=>Fl.p e F H)
theorem B4.born{x dx:iF}{fs:List (Gf×V)}(s:aX F H)(Y:H x=e_)(I:H dx=e_)(B:dx≠x)(h1:aX F F')(U:aX F' H')(S:F' x=e_)(f:∀b o,F' b=a_ o->F b=a_ o\/upd (upd H dx (.own x)) x (.ins C dx []) b=e_)(d:∀c o,upd (upd H dx (.own x)) x (.ins C dx []) c=a_ o->c≠x->H' c=a_ o)(a:H' x=a_ (.ins C dx fs)):B4 F H (upd F' x (.ins C dx fs)) H' where
 ff:=h1.trans (aX.upd S)
 hh:=λc o e=>by grind[ax]
 fh:=λc o e=>by
  by_cases J:c=x
  .simp_all[av]
  .rw[ax J]at e;exact U _ _ e
 nw:=λc o e=>by grind[ax]
theorem de_newR{g:List A'->M A'}(i:Mk X.K C fI)(T:jk X.prog X.w X.K X.mg X.base CX0 k fI fdI ps (spI1 K C g))(n:ji (k+1) X.A)(u:X.mg x=a_ (.ref C))(E:Binds X.K fdI ps [])(G:DA K Fl X [e] fr)(y: ~~~(Gl X x))(b:((x==("__debug__":Gf))=c_)⁻¹)(U: ~~~(l_ [e] X.env=(c_,FV e X.env)::l_ [] X.env))(Y: ~~~((Hi pos (l_ [] X.env)).any (·.1)=c_)):
  DE K Fl c_ X (.Call (.Name x p) [e] [] pos) (fL (newR C g) fr):=by
 refine PE.imp (Dv i T n y u E .nil vR G b U Y) λσ H Q h=>?_;obtain⟨F,ρ,r,s,p⟩:=rd_L h;refine⟨F,ρ,r,s,?_⟩
 cases e1:fr ρ with
 |error z=>simp_all|ok ds=>
  rw[e1]at p;intro vs F1 H1 st q;obtain⟨l,f,s1,q1,z⟩:=p vs F1 H1 st q;rcases f with _|⟨d,_|⟨_,_⟩⟩
  .exact aE.stuck z
  rotate_left
  .exact aE.stuck z
  .obtain⟨v,J,rfl,m,t⟩:=q1;cases(show J=[]from t);intro x dx S I a;refine⟨x,dx,v,l,d,rfl,av,s1.free S,λc o e=>?_,m,?_⟩
   .have D:c≠x:=λh=>by rw[h,s1.free S]at e;lia
    have A:c≠dx:=λh=>by rw[h,s1.free I]at e;lia
    rw[ax D,ax A];exact s1 _ _ e
   .have z:aE K Fl c_ l H1 ((g [d]).bind λr=>.ok (.ins C [("gaps",r)])) Q:=z;cases B:g [d]with
    |error e=>rw[B]at z;exact Gh z|ok r=>
     rw[B]at z;intro w F' H' h1 R j P O N L;refine⟨rfl,z (.ref x) (upd F' x (.ins C dx [("gaps",w)])) H' (B4.born s1 S I a h1 R j P O N) ?_⟩
     exact⟨x,dx,_,rfl,av,w,[],rfl,bf.mono (aX.upd j) L,rfl⟩
theorem de_newP{g:List A'->M A'}(y:Mk X.K C fI)(FI:jk X.prog X.w X.K X.mg X.base CX0 k fI fdI ps (spI2 K C g))(N:ji (k+1) X.A)(P:X.mg x=a_ (.ref C))(Z:Binds X.K fdI ps [])(ha:DA K Fl X [e,a] fr)(R: ~~~(Gl X x))(m:((x==("__debug__":Gf))=c_)⁻¹)(i: ~~~(l_ [e,a] X.env=(c_,FV e X.env)::l_ [a] X.env))(j: ~~~((Hi pos (l_ [a] X.env)).any (·.1)=c_)):
  DE K Fl c_ X (.Call (.Name x p) [e,a] [] pos) (fL (newP C g) fr):=by
 refine PE.imp (Dv y FI N R P Z .nil vR ha m i j) λσ H Q h=>?_;obtain⟨F,ρ,r,s,p⟩:=rd_L h;refine⟨F,ρ,r,s,?_⟩
 cases e1:fr ρ with
 |error z=>simp_all|ok ds=>
  rw[e1]at p;intro vs F1 H1 st q;obtain⟨D,t,s1,q1,z⟩:=p vs F1 H1 st q;rcases t with _|⟨d,_|⟨u,_|⟨_,_⟩⟩⟩
  .exact aE.stuck z
  .exact aE.stuck z
  rotate_left
  .exact aE.stuck z
  .obtain⟨v,E,rfl,L,G,U,rfl,Y,O⟩:=q1;cases(show U=[]from O);intro x dx b J l;refine⟨x,dx,v,G,D,d,u,rfl,av,s1.free b,λc o e=>?_,L,Y,?_⟩
   .have W:c≠x:=λh=>by rw[h,s1.free b]at e;lia
    have T:c≠dx:=λh=>by rw[h,s1.free J]at e;lia
    rw[ax W,ax T];exact s1 _ _ e
   .have z:aE K Fl c_ D H1 ((g [d]).bind λr=>(g [u]).bind λS=>if twoL r S=d_ then .ok (.ins C [("gaps",r),("beside",S)])else stk) Q:=z;cases I:g [d]with
    |error e=>rw[I]at z;exact Gh z|ok r=>
     rw[I,af]at z;cases B:g [u]with
     |error e=>rw[B]at z;exact Gh z|ok S=>
      rw[B,af]at z;by_cases f:twoL r S=d_
      .rw[p_ f]at z;rw[af,af,p_ f];intro w A F' H' h1 h2 n h4 h5 h6 h7 h8;refine⟨rfl,z (.ref x) (upd F' x (.ins C dx [("gaps",w),("beside",A)])) H' (B4.born s1 b J l h1 h2 n h4 h5 h6) ?_⟩
       exact⟨x,dx,_,rfl,av,w,_,rfl,bf.mono (aX.upd n) h7,A,[],rfl,bf.mono (aX.upd n) h8,rfl⟩
      .rw[q_ f]at z;exact aE.stuck z
end
section
variable{W:cy}{own:Bool}
theorem Fc(m:X.calm=d_):eD X (.builtin "sum") (λxs H Q=>∃(a:iF) (is:a0),xs=[.ref a]/\SqL X.K H a (is.map V.int)/\Q (.int is.sum) H):=by
 intro B2 s σ H xs us Q I r h;obtain⟨a,is,rfl,i,q⟩:=h;obtain⟨u,rfl,f⟩:=r.one;cases f;obtain⟨its,d,p,hz⟩:=I.list i;have hi:=intsAre_of d;obtain⟨xs,e⟩:=hi.allInts.items;have j:is=xs.toList.map (·.1):=by rw[<- hi.numsOf,<- OQ,<- e]
 have c:=p.isList;rw[e]at c;refine QS (iter_intList c λY e2 st U S=>?_);subst e2;refine⟨_,_,_,_,_,_,_,Oh xs,rfl,(Q2 (A:=X.A.in1) (I.ok.hd m) _ a S (intItems xs)).toS,st,U,(λ_ _=>P5),λs' t' B=>?_⟩
 obtain⟨h',g',d',J,g⟩:=s';have e1:=B.gens;have e2:=B.drawn;have e3:=B.os;have e4:=B.heap;simp only at e1 e2 e3;subst e1 e2 e3;have k:=old_kept (s:=s) (l:=a) (h':=h') λb o n e=>e4 b o n e;refine⟨.int _,H,I.kept (t':=J) k,⟨t',rfl⟩,?_⟩
 simp_all[preSum_eq,Ij,intItems]
def c_sum(S:X.calm=d_)(U: ~~~(X.K=K)):jU K W own X (.builtin "sum") sumD:=by
 subst U;refine(Fc S).imp λxs H Q h=>?_;obtain⟨F,ds,s,q,p⟩:=h;rcases ds with _|⟨d,_|⟨_,_⟩⟩
 .exact aE.stuck p
 .obtain⟨v,vs,rfl,B,J⟩:=q;cases(show vs=[]from J);cases d with
  |lst ds=>
   obtain⟨a,xs,e,t,z⟩:=B;have p':aE X.K W own F H ((cF ds).bind λis=>.ok (.int is.sum)) Q:=p;cases hi:cF ds with
   |error e=>rw[hi]at p';have:=gC hi;subst this;exact aE.stuck p'|ok is=>rw[hi]at p';have I:xs=is.map V.int:=dh z hi;subst I;exact⟨a,is,by rw[e],s.lst t,aE.int p' s⟩
  |_=>exact aE.stuck p
 .cases d<;>exact aE.stuck p
end
theorem yY:∀(ds es:List A') (i:Nat),(qu ds es)[i]?=(ds[i]?).bind λd=>(es[i]?).map λe=>.tup [d,e]
 |[],es,i=>by rfl|d::ds,[],i=>by simp[qu]|d::ds,e::es,0=>by rfl|d::ds,e::es,i+1=>by rw[qu,GV,yY ds es i,GV,GV]
theorem sT:∀(ds es:List A'),(qu ds es).length=N6 ds.length es.length
 |[],es=>by rfl|d::ds,[]=>by rfl|d::ds,e::es=>by rw[qu,B_,sT ds es,B_,B_];lia
section
variable{s:k_}
noncomputable abbrev newL:Mx:={cls:=.type "list",data:=.seq ([]:a8).toArray}
def yP{Q:a8->k_->Prop}{a b:Int}{t u v:Tok}(x:A.handled=e_)(k:IsRange s.heap r a b 1 t u v)(U:Lg a b 1=d_)(p:Jx a b 1=n)(J:n<=2^24)(C:∀g tk (B:Array h_),(∀c o,s.heap.get? c=a_ o->g.get? c=a_ o)->ItemsOf (λi v=>∃t,v=.int (a+i*1) t) B n->Q B.toList {s with heap:=g,toks:=tk}):r_ (y_ prog w) A (QR (.ref r)) Q E s:=by
 unfold QR;refine b_ (wpAny_runValue (JS Pf ?_))
 (rw[IB Pe _];show r_ _ A.in1 (QQ [] >>=λl=>again (.builtin "list.__iadd__" ⟨[l,.ref r],[]⟩)) _ _ s)
 refine b_ (Ge (g_ ⟨Na Lm _,JS Qs ?_⟩))
 (rw[IB Lm _];show r_ _ A.in1 (Builtin.List.listExtendWith (.ref s.z) (.ref r) (.ref s.z)) _ _ _)
 have y:(s.heap.push newL).get? s.z=a_ {cls:=.type "list",data:=.seq #[] 0}:=j_ _ rfl;refine GX (wpAny_extend_range (A:=A) (R:=λI z=>I=.ok (.ret (.ref s.z))/\∃(B:Array h_) (c:Nat),z.heap.get? s.z=a_ {cls:=.type "list",dict:=e_,data:=.seq B c,slots:=#[]}/\Q B.toList z) (s:={s with heap:=s.heap.push newL}) x (f_ _ k) U p J s.z _ 0 y λg tk B c d S j=>?_) (λY z h=>?_) λe z h=>FR h.1 am
 .exact⟨rfl,B,c,S,C g tk B (λz o e=>d z o (FO (s_ e)) (f_ _ e)) j⟩
 .cases Y with
  |done f=>obtain⟨e,B,c,S,q⟩:=h;cases e;exact b_ (m:=load s.z) (L9 S (g_ q))
  |again D=>
   refine⟨h.1,JM h.2 λI z hz=>?_⟩
   obtain⟨rfl,B,c,S,q⟩:=hz;exact b_ (m:=load s.z) (L9 S (g_ q))
theorem sW{a b:Int}{t u v:Tok}(S:Lg a b 1=d_)(p:Jx a b 1=n)(I:n<=2^24):
  MeetsIn prog w (Builtin.«tuple.__new__» ⟨[.type "tuple",.ref r],[]⟩)
   (λA R s=>A.handled=e_/\IsRange s.heap r a b 1 t u v/\∀(g:Gu) (tk:Nat) (B:Array h_),(∀c o,s.heap.get? c=a_ o->g.get? c=a_ o)->ItemsOf (λi v=>∃t,v=.int (a+i*1) t) B n->R (.ok (.ret (.ref g.objs.size))) {s with heap:=g.push {cls:=.type "tuple",data:=.seq B},toks:=tk}):=
 .of_wp λA R s h=>by
  obtain⟨m,g,d,tk,k⟩:=s;obtain⟨x,U,h⟩:=h;have j:=sub_tuple_self;have Y:=init_tuple_lookup;have q:=madeHere_tuple;have y:J5 ⟨m,g,d,tk,k⟩ (.ref r) "range":=⟨_,U,rfl⟩
  wp_walk using wpAny_loadPart' U,L8 y,yP (A:=A.in1) (n:=n) x U S p I
  intro g2 J B l f;show r_ _ _ (Kn B.toList.toArray >>=λv=>ret v) _ _ _;unfold Kn;have hz:B.toList.toArray.size<=o_:=by rw[IS];have:=f.1;simp;lia
  refine b_ (Ge (g_ ⟨_,rfl,?_⟩) hz);have e:B.toList.toArray=B:=by simp
  rw[e];exact h g2 J B l f
end
section
variable{s:k_}
theorem nL{Q:Mq}{a b:Int}{t u v:Tok}(f:A.handled=e_)(d:IsRange s.heap r a b 1 t u v)(S:Lg a b 1=d_)(e:Jx a b 1=n)(I:n<=2^24)(h:∀(g:Gu) (tk:Nat) (B:Array h_),(∀c o,s.heap.get? c=a_ o->g.get? c=a_ o)->ItemsOf (λi v=>∃t,v=.int (a+i*1) t) B n->Q (.ref g.objs.size) {s with heap:=g.push {cls:=.type "tuple",data:=.seq B},toks:=tk}):
  r_ (y_ prog w) A (Kz (.type "tuple") [.ref r]) Q E s:=
 callType_newIn F.called_tuple as (F.typeCall_tuple_1 _) (F.newCall_tuple_1 _) (λJ=>N5 J _) F.entry_tuple_new
  (sW (t:=t) (u:=u) (v:=v) S e I) ⟨f,d,λg tk B U Y=>⟨⟨_,j_ _ rfl,rfl⟩,h g tk B U Y⟩⟩
end
section
variable{W:cy}{own:Bool}{a b:G4}{p:NV}{fr:ag->M (List A')}
theorem qV(d:X.calm=d_):eD X (.type "tuple") (λxs H Q=>∃r lo hi,xs=[.ref r]/\H r=a_ (.rng lo hi)/\(-(2^62)<=lo/\lo<2^62/\ -(2^62)<=hi/\hi<2^62)/\(hi-lo).toNat<=o_/\∀l,H l=e_->Q (.ref l) (upd H l (.tup ((x_ (hi-lo).toNat).map λk:Nat=>V.int (lo+k))))):=by
 intro B2 s σ H xs us Q I Y h;obtain⟨r,lo,hi,rfl,f,⟨w,p,m,j⟩,hz,q⟩:=h;obtain⟨u,rfl,U⟩:=Y.one;cases U;obtain⟨t,u,v,e⟩:=(show ∃t u v,s.heap.get? r=a_ {cls:=.type "range",data:=.fields #[.int lo t,.int hi u,.int 1 v]}from I.hok r _ f)
 refine nL (n:=(hi-lo).toNat) (I.ok.hd d) e (Q0 w p m j) (by grind[OO]) aW λg tk B a J=>?_;have c:C' ((x_ (hi-lo).toNat).map λk:Nat=>V.int (lo+k)) B.toList:=rQ (by rw[Gb];exact J.1) λi v hi=>by
  obtain⟨t,e⟩:=J.2 i v (by simpa using hi)
  simp_all
 have S:B5 X B2 σ H {s with heap:=g,toks:=tk}:=I.kept a;exact⟨.ref _,_,S.laid (t':=tk) (λb o e=>f_ _ e) (i_ _) (show gW _ (g.push {cls:=.type "tuple",data:=.seq B}) _ (.tup _)from⟨aW,B.toList,c,⟨_,j_ _ rfl,rfl,0,am⟩⟩),rfl,q _ S.fresh⟩
def fTR(fr:ag->M (List A')):ag->M A':=λρ=>(fr ρ).bind cq
theorem trng_end{Q:VK}{i j:Int}(p:aE K W own F H1 (cq (aB i (j-i).toNat)) Q)(s:aX F H1)(S:H1 r=e_):
  (j-i).toNat<=o_/\∀l,upd H1 r (.rng i j) l=e_->Q (.ref l) (upd (upd H1 r (.rng i j)) l (.tup ((x_ (j-i).toNat).map λk:Nat=>V.int (i+k)))):=by
 unfold cq at p;by_cases I:(aB i (j-i).toNat).length<=o_
 .rw[p_ I]at p;refine⟨by simp_all[aB],λl B=>?_⟩
  have s2:B4 F H1 F (upd H1 r (.rng i j)):=B4.grow s S;have J:=B4.lay (o:=.tup ((x_ (j-i).toNat).map λk:Nat=>V.int (i+k))) s2.fh B;refine p _ _ _ (s2.trans J) ?_;cases own<;>exact⟨l,_,rfl,SqT.of av,pQ i _⟩
 .rw[q_ I]at p;exact(W.ns p).elim
theorem de_trng1(S:X.mg "tuple"=e_)(g:X.mg "range"=e_)(m:DA K W X [a] fr)(l: ~~~(X.calm=d_))(i: ~~~(Gl X "range"))(U: ~~~(Gl X "tuple"))(f: ~~~(l_ [a] X.env=[(c_,FV a X.env)]))(I: ~~~(l_ [.Call (.Name "range" q1) [a] [] q2] X.env=[(c_,FV (.Call (.Name "range" q1) [a] [] q2) X.env)])):DE K W own X (.Call (.Name "tuple" p) [.Call (.Name "range" q1) [a] [] q2] [] pos) (fTR (gF jl fr)):=by
 refine PE.imp (lC (qV l) U S GA (bT (Du i g m f) eG I) as as I rfl) λσ H Q h=>?_;obtain⟨F,ρ,r,s,p⟩:=h;refine ju r s (λe n=>p.err (by simp_all[fTR,gF])) λds k xs F1 H1 s1 q1=>?_;have e1:fTR (gF jl fr) ρ=(jl ds).bind cq:=by unfold fTR gF;rw[k];rfl
 rw[e1]at p;have p1:=p.step s1;by_cases Y:∃j,ds=[.int j]
 .obtain⟨j,rfl⟩:=Y;obtain⟨v,vs,e2,q2,e3⟩:=q1;have p2:aE K W own F1 H1 ((if bu j=d_ then GY (aB 0 j.toNat)else Ie Err.stuck:M (List A')).bind cq) Q:=p1;by_cases B:bu j=d_
  .rw[p_ B]at p2;unfold bu at B;simp only[m_,FG]at B;have e4:xs=[.int j]:=by rw[e2,show v=.int j from q2,show vs=[]from e3]
   subst e4;refine⟨0,j,rfl,rfl,⟨as,as,B.1,B.2⟩,λd J=>?_⟩
   have p3:aE K W own F1 H1 (cq (aB 0 (j-0).toNat)) Q:=by rw[Q_];exact p2
   obtain⟨c,b⟩:=trng_end p3 s1.fh J;exact⟨d,0,j,rfl,av,⟨as,as,B.1,B.2⟩,c,b⟩
  .rw[q_ B]at p2;exact(W.ns p2).elim
 .have:jl ds=.error .stuck:=by
   unfold jl;split
   .lia
   .rfl
  rw[this]at p1;exact(W.ns p1).elim
@[simp]def e_TR{ρ:ag}:fTR fr ρ=(fr ρ).bind cq:=id rfl
end
def fn_stk{base:Gu}{f:iF}:jk P w K mg base CX0 k f fd ps (spF K ro (bJ nN ps.length λ_=>stk) ps.length) where
 len:=λvs H Q E ⟨F,ds,s,q,l,p⟩=>by rw[q.length,l]
 run:=λA outer s H B us vs Q E J S U I ⟨F,ds,s1,q,l,p⟩=>by
  have e:bJ nN ps.length (λ_=>stk) ds=stk:=by unfold bJ;rw[p_ l];rfl
  rw[e]at p;exact aE.stuck p
theorem zY{n:Nat}:∀{ds:List A'} {d:A'},iG ds n=d_->d∈ds->E' d n=d_
 |[],d,_,h=>by simp at h|a::ds,d,h,B=>by
  unfold iG at h;simp only[m_]at h;rcases t_.mp B with e|e
  .simp_all
  .exact zY h.2 e
section
variable{W:cy}{own:Bool}
open Classical in
theorem has_D{s:Shared}(I:B5 X B2 σ H s)(hF:aX F H){a:A'}{x:V}(od:iG ds 40=true)(oa:E' a 40=true)(qs:ay X.K F ds xs)(rv:C' xs its)(qa:bf X.K F a x)(ra:B' x u)(hu:A.units+40<cLine):
  ∃e:Value->Bool,(∀y,y∈its.toArray->SeqAt.EqAt A s y u (e y))/\its.toArray.any e=ds.any λd=>eqD d a:=by
 have each:∀(i:Nat) (y:Value),its[i]?=some y->∃d,ds[i]?=some d/\SeqAt.EqAt A s y u (eqD d a):=λi y hy=>by
  have hi:i<its.length:=(List.getElem?_eq_some_iff.mp hy).1;have h1:i<xs.length:=by rw[rv.length];exact hi
  have h2:i<ds.length:=by rw[<- qs.length];exact h1
  obtain⟨v,e1,q1⟩:=qs.get (List.getElem?_eq_getElem h2);obtain⟨w,e2,r2⟩:=rv.get e1;rw[hy]at e2;cases e2;exact⟨_,List.getElem?_eq_getElem h2,EC I hF _ a (zY od (List.getElem_mem h2)) oa q1 qa r2 ra hu⟩
 refine⟨λy=>decide (∃(i:Nat) (d:A'),its[i]?=some y/\ds[i]?=some d/\eqD d a=true),λy hy=>?_,?_⟩
 .by_cases h:∃(i:Nat) (d:A'),its[i]?=some y/\ds[i]?=some d/\eqD d a=true
  .obtain⟨i,d,h1,h2,h3⟩:=h;obtain⟨d',h4,h5⟩:=each i y h1;rw[h2]at h4;cases h4;rw[h3]at h5;have:decide (∃(i:Nat) (d:A'),its[i]?=some y/\ds[i]?=some d/\eqD d a=true)=true:=decide_eq_true ⟨i,d,h1,h2,h3⟩
   simp_all
  .have hm:y∈its:=by simpa using hy
   obtain⟨i,hi⟩:=List.getElem?_of_mem hm
   grind[decide_eq_false]
 .rw[Bool.eq_iff_iff];simp only[List.any_toArray,List.any_eq_true,decide_eq_true_eq];constructor
  .rintro⟨y,hy,i,d,h1,h2,h3⟩;exact⟨d,List.mem_of_getElem? h2,h3⟩
  .rintro⟨d,hd,h3⟩;obtain⟨i,hi⟩:=List.getElem?_of_mem hd;have h2:i<ds.length:=(List.getElem?_eq_some_iff.mp hi).1;have h4:i<its.length:=by rw[<- rv.length,qs.length];exact h2
   exact⟨its[i],List.getElem_mem h4,i,d,List.getElem?_eq_getElem h4,hi,h3⟩
theorem o_notIn(k:X.A.units+64<GQ)(j: ~~~(X.K=K)):Op2 K W own X (Gy .NotIn) DK:=by
 subst j;intro B2 s σ H x y v u Q I f c h;obtain⟨F,a,b,s1,i,g,p⟩:=h;have J:X.A.in1.units+40<GQ:=by show X.A.units+1+40<GQ;lia
 cases b with
 |lst ds=>
  obtain⟨l,xs,e,t,z⟩:=g;subst e;cases c;have p':aE X.K W own F H (if (E' a 40&&iG ds 40)=d_ then .ok (.bl (!ds.any λd=>eqD d a))else stk) Q:=p;by_cases B:(E' a 40&&iG ds 40)=d_
  .rw[p_ B]at p';simp only[m_]at B;obtain⟨its,S,pl,_⟩:=I.list (s1.lst t);obtain⟨e,U,Y⟩:=has_D (A:=X.A.in1) I s1 B.2 B.1 z S i f J;refine SeqAt.notIn_listAt e pl.isList U ?_;rw[Y];exact p'.blS s1 I
  .rw[q_ B]at p';exact p'.stuck
 |tup ds=>
  obtain⟨l,xs,e,t,z⟩:=g;subst e;cases c;have p':aE X.K W own F H (if (E' a 40&&iG ds 40)=d_ then .ok (.bl (!ds.any λd=>eqD d a))else stk) Q:=p;by_cases B:(E' a 40&&iG ds 40)=d_
  .rw[p_ B]at p';simp only[m_]at B;obtain⟨its,S,pl,_⟩:=I.tuple (s1.tup t);obtain⟨e,U,Y⟩:=has_D (A:=X.A.in1) I s1 B.2 B.1 z S i f J;refine SeqAt.notIn_tupleAt e (show s.heap.IsTuple l its.toArray from pl) U ?_;rw[Y];exact p'.blS s1 I
  .rw[q_ B]at p';exact p'.stuck
 |_=>exact aE.stuck p
end
abbrev ZRec(h:Gu)(z p q:iF)(m k:h_):Prop:=h.get? z=a_ {cls:=.type "zip",dict:=e_,data:=.fields #[m,k,.bool c_,.ref p,.ref q],slots:=#[]}
def Off(z q u v:iF)(h h':Gu):Prop:=∀c o,c≠z->c≠q->c≠u->c≠v->h.get? c=a_ o->h'.get? c=a_ o
section
variable{q u v:iF}{a b:h_}{g:Gu}
def Off.then(A:Off z q u v h h')(B:Off z q u v h' g):Off z q u v h g:=λc o a b d e x=>B c o a b d e (A c o a b d e x)
def Off.byZ(A:G_ z h h'):Off z q u v h h':=λc o a _ _ _ x=>A c o a x
def Off.byQ(A:G_ q h h'):Off z q u v h h':=λc o _ a _ _ x=>A c o a x
def Off.byU(A:G_ u h h'):Off z q u v h h':=λc o _ _ a _ x=>A c o a x
def Off.byV(A:G_ v h h'):Off z q u v h h':=λc o _ _ _ a x=>A c o a x
def Off.new{o:Mx}:Off z q u v h (h.push o):=λ_ _ _ _ _ _ x=>f_ _ x
end
section
variable{s:k_}{p q:iF}{r k:h_}
def Cu(S:ZRec s.heap z p q r k)(Y:∃o,s.heap.get? c=a_ o/\o.cls=.type "StopIteration")(a:∀h',G_ z s.heap h'->(∃o,h'.get? c=a_ o/\o.cls=.type "StopIteration")->T () {s with heap:=h'}):r_ (y_ P w) A (LQ (.ref z) 0 .none) T E s:=by
 obtain⟨o,e,t⟩:=Y;have U:c≠z:=by intro I;have J:=e.symm.trans (I▸S);rw[Hh J]at t;exact FR t am
 exact IC S (show 0<5 by decide) λh' _ B=>a h' B.extBut ⟨o,B.extBut _ _ U e,t⟩
end
def Df:A'->A'->M A'
 |.lst ds,.int k=>if (xF (-(2^63)<=k)&&xF (k<2^63)&&xF (ds.length*k.toNat<=o_))=d_ then .ok (.lst (D_ k.toNat ds).flatten)else stk
 |_,_=>stk
@[simp] theorem e_rep{ds:List A'}{k:Int}(h0: -9223372036854775808<=k)(h1:k<9223372036854775808)(B:ds.length*k.toNat<=16777216):Df (.lst ds) (.int k)=.ok (.lst (D_ k.toNat ds).flatten):=by show(if _ then _ else _)=_;rw[p_];simp only[m_,FG];exact⟨⟨ad,ad⟩,by rw[IS];exact B⟩
theorem ay.rep{K:Pn}{F:Hp}{ds:List A'}{xs:a7}(h:ay K F ds xs):∀m:Nat,ay K F (D_ m ds).flatten (D_ m xs).flatten
 |0=>rfl|m+1=>by rw[JE,JE,JU,JU];exact h.append (ay.rep h m)
section
variable{W:cy}{a b:G4}
def de_rep(f:DE K W d_ X a fa)(d:DE K W c_ X b fb):DE K W d_ X (.BinOp a .Mult b pos) (f2 Df fa fb):=by
 refine PE.imp (pe_op op_rep f d) λσ H Q h=>?_;obtain⟨F,ρ,r,s,p⟩:=h;refine aJ r s (λe J=>p.err (by unfold f2;rw[J];rfl)) λx U v F1 H1 s1 q1=>?_;refine aJ (r.mono s1.ff) s1.fh (λe J=>(p.step s1).err (by unfold f2;rw[U];show(fb ρ).bind _=_;rw[J];rfl)) λy c u j H2 s2 q2=>?_;have e:f2 Df fa fb ρ=Df x y:=by unfold f2;rw[U];show(fb ρ).bind _=_;rw[c];rfl
 rw[e]at p;cases x with
 |lst ds=>
  cases y with
  |int k=>
   obtain⟨l,xs,e1,Y,i,g,S⟩:=q1;have e2:u=.int k:=q2;have p':aE K W d_ F H (if (xF (-(2^63)<=k)&&xF (k<2^63)&&xF (ds.length*k.toNat<=o_))=d_ then .ok (.lst (D_ k.toNat ds).flatten)else stk) Q:=p;by_cases B:(xF (-(2^63)<=k)&&xF (k<2^63)&&xF (ds.length*k.toNat<=o_))=d_
   .rw[p_ B]at p';simp only[m_,FG]at B;have I:=S.mono s2.ff;refine⟨l,k,xs,e1,e2,s2.hh l _ Y,B.1.1,B.1.2,by rw[S.length];exact B.2,λz hz=>?_⟩
    exact(p'.step (s1.trans s2)).lst s2.fh (I.rep k.toNat) hz
   .rw[q_ B]at p';exact p'.stuck
  |_=>exact aE.stuck p
 |_=>exact aE.stuck p
end
theorem B4.stays{o:HO}(s:B4 F H F' H')(n:F a=e_)(h:H a=a_ o):F' a=e_:=by
 cases e:F' a with
 |none=>rfl|some u=>
  rcases s.nw a u e with z|z
  .simp_all
  simp_all
structure sS(K:Pn)(F G H:Hp)(ds:List A')(vs:a7):Prop where
 len:vs.length=ds.length
 get:∀(k:Nat) (d:A'),ds[k]?=a_ d->∃a xs es,vs[k]?=a_ (.ref a)/\d=.lst es/\H a=a_ (.lst xs)/\F a=e_/\G a=e_/\ay K F es xs
 ap:∀(j k:Nat) (a:iF),vs[j]?=a_ (.ref a)->vs[k]?=a_ (.ref a)->j=k
section
variable{G:Hp}{vs:List V}
def sS.nil:sS K F G H [] []:=⟨rfl,λk d e=>by simp at e,λj k a e=>by simp⟩
def sS.step(o:sS K F G H ds vs)(s:B4 F H F' H'):sS K F' G H' ds vs where
 len:=o.len
 get:=λk d e=>by obtain⟨a,xs,es,h1,U,B,S,J,I⟩:=o.get k d e;exact⟨a,xs,es,h1,U,s.hh _ _ B,s.stays S B,J,I.mono s.ff⟩
 ap:=o.ap
def sS.back{B:Hp}(o:sS K F G H ds vs)(s:aX B G):sS K F B H ds vs where
 len:=o.len
 get:=λk d e=>by obtain⟨a,xs,es,h1,Y,U,S,J,I⟩:=o.get k d e;exact⟨a,xs,es,h1,Y,U,S,s.free J,I⟩
 ap:=o.ap
theorem sS.at(o:sS K F G H ds vs)(h:vs[k]?=a_ (.ref a)):∃xs es,ds[k]?=a_ (.lst es)/\H a=a_ (.lst xs)/\F a=e_/\G a=e_/\ay K F es xs:=by
 have B:k<ds.length:=by rw[<- o.len];exact(n_.mp h).1
 obtain⟨b,xs,es,h1,Y,U,S,J,I⟩:=o.get k ds[k] am
 simp_all
theorem sS.add(o:sS K F G H ds vs){es:List A'}(J:∀k:Nat,vs[k]?≠a_ (.ref a))(c:H a=a_ (.lst xs))(Y:F a=e_)(U:G a=e_)(S:ay K F es xs):sS K F G H (ds++[.lst es]) (vs++[.ref a]) where
 len:=by simp[o.len]
 get:=λk d e=>by
  rcases K6 k ds.length with z|z|z
  .rw[Gw z]at e;obtain⟨b,ys,fs,f,g2⟩:=o.get k d e;exact⟨b,ys,fs,by rw[Gw (by rw[o.len];exact z)];exact f,g2⟩
  .subst z;simp at e;refine⟨a,xs,es,?_,e.symm,c,Y,U,S⟩
   rw[<- o.len];simp
  .have:=(n_.mp e).1;simp at this;lia
 ap:=λj k b e1 e2=>by
  have key:∀m,(vs++[V.ref a])[m]?=a_ (.ref b)->(m<vs.length/\vs[m]?=a_ (.ref b))\/(m=vs.length/\b=a):=λm e=>by
   rcases K6 m vs.length with z|z|z
   .rw[Gw z]at e;exact .inl ⟨z,e⟩
   .subst z;simp at e;exact .inr ⟨rfl,e.symm⟩
   .have:=(n_.mp e).1;simp at this;lia
  rcases key j e1 with⟨_,I⟩|⟨I,h⟩<;>rcases key k e2 with⟨_,B⟩|⟨B,g⟩
  .exact o.ap j k b I B
  .grind
  .grind
  lia
end
section
variable{W:cy}
theorem zN{p:Pat}{R:a7->Hp->Prop}(r:gR K F σ ρ)(s:aX F H)(hL:∀ρ d,fe ρ=.ok d->∃es,d=.lst es)(A:∀e,bD fi ix p ft fe ρ=.error e->W.p e F H)(X:∀rs,bD fi ix p ft fe ρ=.ok (.lst rs)->∀ys Y H2,B4 F H Y H2->sS K Y H H2 rs ys->R ys H2):iD K W fi σ H λJ H1=>lW J ix (gP K p) (tDT K W ft) (tD K W d_ fe) σ R H1:=by
 refine⟨F,ρ,r,s,?_⟩
 cases Q:fi ρ with
 |error e=>exact A e (by unfold bD;rw[Q];rfl)|ok ds=>
  intro J F1 H1 s1 E;have C:bD fi ix p ft fe ρ=if ds.length<=o_ then(aO p ft fe (eI ix ρ) ds).bind λr=>.ok (.lst r)else .error .stuck:=by unfold bD;rw[Q];rfl
  by_cases P:ds.length<=o_
  .rw[p_ P]at C;rw[C]at A X;refine⟨λi m ys H2=>m=ds.length-i/\i<=ds.length/\∃Y B,B4 F1 H1 Y H2/\sS K Y H1 H2 B ys/\B.length<=i /\
    (match aO p ft fe (eI ix ρ) (ds.drop i)with
     |.ok I=>aO p ft fe (eI ix ρ) ds=.ok (B++I)|.error e=>W.p e F H),⟨ds.length,ad,Gr _,F1,[],B4.refl s1.fh,sS.nil,Gr _,?_⟩,?_⟩
   .rw[IX];cases e:aO p ft fe (eI ix ρ) ds with
    |ok I=>rfl|error x=>exact A x (by rw[e];rfl)
   .rintro i m ys H2 ⟨rfl,hi,Y,B,s2,D,ly,l⟩;have t:ys.length<=o_:=by rw[D.len];lia
    by_cases g:i<ds.length
    .have ed:ds.drop i=ds[i]::ds.drop (i+1):=Gd g;rw[ed]at l;refine .inr ⟨E.go i Y H2 s2.ff s2.fh g,t,λo H'=>(i+1<=ds.length/\∃Y B,B4 F1 H1 Y H'/\sS K Y H1 H' B o/\B.length<=i+1 /\
      (match aO p ft fe (eI ix ρ) (ds.drop (i+1))with
       |.ok I=>aO p ft fe (eI ix ρ) ds=.ok (B++I)|.error e=>W.p e F H)),λo H' n=>⟨ds.length-(i+1),ad,rfl,n⟩,λx H' y=>?_⟩
     obtain⟨F3,f,q3⟩:=E.yl i Y H2 x H' ds[i] s2.ff s2.fh am y;have r3:gR K F3 (Lake.inS ix σ) (eI ix ρ):=(r.mono (s1.trans (s2.trans f)).ff).inS ix;have q:B4 F H F3 H':=s1.trans (s2.trans f);have ec:aO p ft fe (eI ix ρ) (ds[i]::ds.drop (i+1))=(cA p ds[i] (eI ix ρ)).bind λS=>(ft S).bind λb=>if b=d_ then(fe S).bind λy=>(aO p ft fe (eI ix ρ) (ds.drop (i+1))).bind λr=>.ok (y::r)else aO p ft fe (eI ix ρ) (ds.drop (i+1)):=by rw[aO]
     rw[ec]at l;cases w:cA p ds[i] (eI ix ρ)with
     |error e=>rw[w]at l;have:=m6 w;subst this;exact(W.ns l).elim|ok S=>
      rw[w]at l;refine EA r3 f.fh q3 w λσ2 O=>?_;have c:match ((ft S).bind λb=>if b=d_ then(fe S).bind λy=>(aO p ft fe (eI ix ρ) (ds.drop (i+1))).bind λr=>.ok (y::r)else aO p ft fe (eI ix ρ) (ds.drop (i+1)))with
       |.ok I=>aO p ft fe (eI ix ρ) ds=.ok (B++I)|.error e=>W.p e F H:=l
      refine jt O f.fh (λe G=>by rw[G]at c;exact W.mono c q) λb L F5 H5 j=>?_;rw[L]at c;cases b with
      |false=>
       have U:match aO p ft fe (eI ix ρ) (ds.drop (i+1))with
        |.ok I=>aO p ft fe (eI ix ρ) ds=.ok (B++I)|.error e=>W.p e F H:=c
       exact⟨g,F5,B,s2.trans (f.trans j),D.step (f.trans j),ad,U⟩
      |true=>
       have U:match ((fe S).bind λy=>(aO p ft fe (eI ix ρ) (ds.drop (i+1))).bind λr=>.ok (y::r))with
        |.ok I=>aO p ft fe (eI ix ρ) ds=.ok (B++I)|.error e=>W.p e F H:=c
       refine aJ (O.mono j.ff) j.fh (λe G=>by rw[G]at U;exact W.mono U (q.trans j)) λd T v F6 H6 N q6=>?_;rw[T]at U;obtain⟨es,rfl⟩:=hL _ _ T;obtain⟨a,xs,ev,g1,g2,Z,g4⟩:=q6;subst ev;have d5:=D.step (f.trans j);refine⟨g,F6,B++[.lst es],s2.trans (f.trans (j.trans N)),(d5.step N).add (λk hk=>?_) g1 g2 ((s2.trans (f.trans j)).hh.free Z) g4,by simp;lia,?_⟩
       .obtain⟨_,_,_,z,_⟩:=d5.at hk;rw[Z]at z;cases z
       .have h:match ((aO p ft fe (eI ix ρ) (ds.drop (i+1))).bind λr=>.ok (A'.lst es::r):M (List A'))with
         |.ok I=>aO p ft fe (eI ix ρ) ds=.ok (B++I)|.error e=>W.p e F H:=U
        cases e7:aO p ft fe (eI ix ρ) (ds.drop (i+1))with
        |ok I=>rw[e7]at h;show _=GY ((B++[A'.lst es])++I);rw[FQ];exact h|error x=>rw[e7]at h;exact h
    .have:i=ds.length:=ad
     subst this;rw[JB]at l;have u:aO p ft fe (eI ix ρ) ds=.ok (B++[]):=l;rw[Hn]at u;exact .inl ⟨E.st Y H2 s2.ff s2.fh,t,X B (by rw[u];rfl) ys Y H2 (s1.trans s2) (D.back s1.hh)⟩
  .rw[q_ P]at C;exact(W.ns (A .stuck C)).elim
end
noncomputable def lstOf:A'->M (List A')
 |.lst ds=>.ok ds|_=>.error .stuck
def rowAt(rs:List A')(a:Int):M (Nat×List A'):=match ixN rs.length a with
 |some j=>(match rs[j]? with
  |some (.lst es)=>.ok (j,es)|_=>.error .stuck)
 |none=>.error .stuck
def jv(rs:List A')(B:Nat×List A')(b:Int)(x:A'):M (List A'):=match ixN B.2.length b with
 |some k=>.ok (rs.set B.1 (.lst (B.2.set k x)))|none=>.error .stuck
def vF(i:Nat)(rs:List A')(x:A')(I:Nat×List A')(fB:ag->M A')(ρ:ag):M B6:=(fB (ρ.set i e_)).bind λb=>(asI b).bind λb=>(jv rs I b x).bind λB=>.ok (.nx (ρ.set i (a_ (.lst B))))
def qD(i:Nat)(rs:List A')(x:A')(fA fB:ag->M A')(ρ:ag):M B6:=(fA (ρ.set i e_)).bind λa=>(asI a).bind λa=>(rowAt rs a).bind λB=>vF i rs x B fB ρ
def Dc(i:Nat)(rs:List A')(fx fA fB:ag->M A')(ρ:ag):M B6:=(fx (ρ.set i e_)).bind λx=>qD i rs x fA fB ρ
def xV(i:Nat)(fc fx fA fB:ag->M A'):ag->M B6:=λρ=>(fc ρ).bind λd=>(lstOf d).bind λrs=>Dc i rs fx fA fB ρ
def xd(g:ag->M B6)(m:M B6):M B6:=m.bind λfl=>match fl with
 |.nx ρ'=>g ρ'|fl=>.ok fl
def fE{m:M B6}{e:Err}(h:m=.error e):xd g m=.error e:=by rw[h];rfl
section
variable{W:cy}{D:Ends}
theorem rs_rows{p:Pat}{fB:ag->M A'}(hL:∀ρ d,fe ρ=.ok d->∃es,d=.lst es)(hi:i<σ.length)(t:tS K W ro F0 H0 OL [] O' (bw (xV i (bD fi ix p ft fe) fx fA fB) g) D σ H):
  nP (lg i (iD K W fi) ix (gP K p) (tDT K W ft) (tD K W d_ fe)) (nP (r9 (tD K W c_ fx) (gSub (tOp (rIx K) (vi i) (tD K W c_ fA)) (tD K W c_ fB) Bx)) (tS K W ro F0 H0 OL [] O' g)) D σ H:=by
 obtain⟨FB,F,ρ,r,q⟩:=t;have rE:=r.repE;have q0:eu K W ro F0 H0 FB OL O' D (xd g (xV i (bD fi ix p ft fe) fx fA fB ρ)):=q;refine zN rE r.st.fh hL (λe he=>q0.iB r.st (fE (by unfold xV;rw[he];rfl))) λrs hrs ys F2 H2 s2 ow a ha=>?_;have q1:eu K W ro F0 H0 FB OL O' D (xd g (Dc i rs fx fA fB ρ)):=by unfold xV at q0;rw[hrs]at q0;exact q0
 have r2:gR K F2 (σ.set i (a_ (.ref a))) (ρ.set i e_):=⟨by rw[FZ,FZ,r.len],λj d e=>by
  by_cases Q:i=j
  .subst Q;rw[E_ (by rw[r.len];exact hi)]at e;cases e
  .rw[tF Q]at e;obtain⟨v,h1,h2⟩:=rE.sl j d e;exact⟨v,aW,h2.mono s2.ff⟩⟩
 have sg:B4 F2 H2 F2 (upd H2 a (.lst ys)):=B4.grow s2.fh ha;have U:=s2.trans sg;refine aJ r2 sg.fh (λe he=>q1.iB (r.st.trans U) (fE (by simp_all[Dc]))) λx hx v F3 H3 J qx=>?_;have q2:eu K W ro F0 H0 FB OL O' D (xd g (qD i rs x fA fB ρ)):=by unfold Dc at q1;rw[hx]at q1;exact q1
 refine⟨.ref a,aW,?_⟩
 refine aJ (r2.mono J.ff) J.fh (λe he=>q2.iB (r.st.trans (U.trans J)) (fE (by simp_all[qD]))) λda T va F4 H4 Y qa=>?_;cases da with
 |int ka=>
  have f:eu K W ro F0 H0 FB OL O' D (xd g ((rowAt rs ka).bind λje=>vF i rs x je fB ρ)):=by unfold qD at q2;rw[T]at q2;exact q2
  have h3a:H3 a=a_ (.lst ys):=J.hh _ _ av;have Z:=Y.hh _ _ h3a;have N:=((ow.step sg).step J).step Y;have G:=U.trans (J.trans Y);cases hj:ixN rs.length ka with
  |none=>exact f.stuck (fE (by simp_all[rowAt]))|some j=>
   have O:=(u5 hj).2.1;obtain⟨b,xs,es,g1,g2,g3,g4,g5,g6⟩:=N.get j rs[j] am;have erj:rs[j]?=a_ (.lst es):=by rw[<- g2];simp[O]
   have L:eu K W ro F0 H0 FB OL O' D (xd g (vF i rs x (j,es) fB ρ)):=by
    unfold rowAt at f;rw[hj]at f;have f:eu K W ro F0 H0 FB OL O' D (xd g (((match rs[j]? with
     |some (.lst es)=>.ok (j,es)|_=>.error .stuck):M (Nat×List A')).bind λje=>vF i rs x je fB ρ)):=f
    rw[erj]at f;exact f
   refine .inl ⟨a,ys,ka,.ref b,rfl,qa,SqL.of Z,?_,?_⟩
   .unfold atI;rw[ow.len,hj];exact g1
   refine aJ (r2.mono (J.trans Y).ff) Y.fh (λe he=>L.iB (r.st.trans G) (fE (by simp_all[vF]))) λdb R vb B C I qb=>?_;cases db with
   |int kb=>
    have q5:eu K W ro F0 H0 FB OL O' D (xd g ((jv rs (j,es) kb x).bind λrs'=>.ok (.nx (ρ.set i (a_ (.lst rs')))))):=by unfold vF at L;rw[R]at L;exact L
    cases hk:ixN es.length kb with
    |none=>exact q5.stuck (fE (by simp_all[jv]))|some k=>
     have q6:eu K W ro F0 H0 FB OL O' D (g (ρ.set i (a_ (.lst (rs.set j (.lst (es.set k x))))))):=by unfold jv at q5;rw[show((j,es):Nat×List A').2=es from rfl,hk]at q5;exact q5
     have h5a:=I.hh _ _ Z;have h5b:=I.hh _ _ g3;have l:=N.step I;have st:B4 F H B C:=G.trans I;refine⟨b,xs,kb,k,rfl,qb,h5b,by rw[g6.length];exact hk,?_⟩
     have ma:H a=e_:=s2.hh.free ha;have fa2:F2 a=e_:=s2.fh.free ha;have f5a:B a=e_:=(J.trans (Y.trans I)).stays fa2 (av (H:=H2) (a:=a) (o:=.lst ys));have nab:a≠b:=λz=>by
      obtain⟨_,_,_,w,_⟩:=ow.at (k:=j) (a:=b) g1
      simp_all
     have inA:∀c,(c=a\/∃m:Nat,ys[m]?=a_ (.ref c))->B c=e_/\H c=e_:=λc h=>by
      rcases h with z|⟨m,z⟩
      .simp_all
      .obtain⟨_,_,_,_,z1,z2,_⟩:=l.at z;exact⟨z1,z2⟩
     have Ab:b=a\/∃m:Nat,ys[m]?=a_ (.ref b):=.inr ⟨j,g1⟩;have E:aX B (plus B (upd C b (.lst (xs.set k v))) λc=>c=a\/∃m:Nat,ys[m]?=a_ (.ref c)):=λc o h=>by grind[cN]
     have fh:aX (plus B (upd C b (.lst (xs.set k v))) λc=>c=a\/∃m:Nat,ys[m]?=a_ (.ref c)) (upd C b (.lst (xs.set k v))):=λc o h=>by
      by_cases X:c=a\/∃m:Nat,ys[m]?=a_ (.ref c)
      .simp_all[gq]
      .rw[cN X]at h;have:c≠b:=λz=>X (by rw[z];exact Ab);rw[ax this];exact I.fh c o h
     have y:aX F3 (plus B (upd C b (.lst (xs.set k v))) λc=>c=a\/∃m:Nat,ys[m]?=a_ (.ref c)):=(Y.trans I).ff.trans E;have s:aX F4 (plus B (upd C b (.lst (xs.set k v))) λc=>c=a\/∃m:Nat,ys[m]?=a_ (.ref c)):=I.ff.trans E;refine⟨FB,plus B (upd C b (.lst (xs.set k v))) (λc=>c=a\/∃m:Nat,ys[m]?=a_ (.ref c)),ρ.set i (a_ (.lst (rs.set j (.lst (es.set k x))))),?_,q6⟩
     have S:=r.st.trans st;refine⟨⟨S.ff.trans E,λc o h=>?_,fh,λc o h=>?_⟩,r.fb.trans (st.ff.trans E),by rw[FZ,FZ,r.len],λm d e _=>?_,(λm d e h=>nomatch h),(λm n d1 d2 c h=>nomatch h)⟩
     .have:c≠b:=λz=>by
       rw[z]at h;have:=r.st.hh _ _ h
       lia
      rw[ax this];exact S.hh c o h
     .by_cases X:c=a\/∃m:Nat,ys[m]?=a_ (.ref c)
      .exact .inr (r.st.hh.free (inA c X).2)
      .rw[cN X]at h;exact S.nw c o h
     .by_cases P:i=m
      .subst P;rw[E_ (by rw[r.len];exact hi)]at e;cases e;refine⟨.ref a,aW,a,ys,rfl,SqL.of ?_,?_⟩
       .simp_all[gq,ax]
       .refine ay.of_get (by rw[FZ];exact ow.len) λm d u e1 e2=>?_;by_cases A:j=m
        .subst A;rw[E_ O]at e1;cases e1;rw[g1]at e2;cases e2;exact⟨b,xs.set k v,rfl,SqL.of (by rw[gq Ab,av]),ay.set (bf.mono y qx) k (g6.mono s)⟩
        .rw[tF A]at e1;obtain⟨c,ws,fs,k1,k2,k3,k4,k5,k6⟩:=l.get m d e1;rw[k1]at e2;cases e2;subst k2;have ncb:c≠b:=λz=>A (l.ap j m b g1 aW);exact⟨c,ws,rfl,SqL.of (by rw[gq (.inr ⟨m,k1⟩),ax ncb];exact k3),k6.mono E⟩
      .rw[tF P]at e;obtain⟨u,h1,h2⟩:=rE.sl m d e;exact⟨u,aW,h2.mono (st.ff.trans E)⟩
   |_=>exact L.stuck (fE (by unfold vF;rw[R];rfl))
 |_=>exact q2.stuck (fE (by unfold qD;rw[T];rfl))
end
theorem E5{fr:ag->M (List A')}:∀ρ d,fL fX fr ρ=.ok d->∃es,d=.lst es:=λρ d h=>by
 unfold fL at h;cases e:fr ρ with
 |error x=>simp_all|ok ds=>
  rw[e]at h;have h:fX ds=.ok d:=h;unfold fX at h;split at h
  all_goals first
   |(cases h;done)
   |(split at h<;>first|(cases h;done)|(cases h;exact⟨_,rfl⟩))
   |(cases h;exact⟨_,rfl⟩)
section
variable{W:cy}{pt:Pat}{fB:ag->M A'}
def ds_rows(N':List Gf)(ix:List (Option Nat))(t:X.N.Nodup)(hi:DI K W X tg iter fi)(n:∀L cs s H fp,DG K (bo X N' sc L cs s H fp) tg pt)(l:n6 ix (gP K pt))(h:∀L cs s H fp,PTs (bo X N' sc L cs s H fp) ifs (tDT K W ft))(o:∀L cs s H fp,DE K W d_ (bo X N' sc L cs s H fp) elt fe)(u:∀ρ d,fe ρ=.ok d->∃es,d=.lst es)(e:DE K W c_ X ex fx)(A:DE K W c_ X ea fA)(y:DE K W c_ X eb fB)(k:DSs K W ro X OL [] O' sts g)(Y: ~~~(X.N[i]?=a_ x))(c: ~~~(X.env.scope.names.lookup x=a_ .local))(q: ~~~(X.calm=d_))(w: ~~~(X.K=K))(J: ~~~(HM (.ListComp elt [⟨tg,iter,ifs,0⟩] sc pos) (a_ (.Name x py)) spos.line X.env=GW d_))(ok: ~~~(bF X.N X.env.scope N' sc ix=d_))(m: ~~~(sc.kind=.function))(j:autoParam (∀x,Ii iter X.env x=GW x) Jq3)(f:autoParam (Vis X.env.scope x) Jq5)(p:((x==("__debug__":Gf))=c_)⁻¹)(b:((x==("__classdict__":Gf))=c_)⁻¹)(U:autoParam (uT ea) Jq8)(r:autoParam (∀v,JY (.Subscript (.Subscript (.Name x p1) ea p2) eb p3) X.env v=(do
   let ov <- II [v] (FV (.Subscript (.Name x p1) ea p2) X.env)
   let B <- II [v,ov] (FV eb X.env)
   Lv p3
   II [v,ov,B] (Pu ov B v)
   QP [v,ov,B] [])) Jq3)(S: ~~~(LB [.Subscript (.Subscript (.Name x p1) ea p2) eb p3] ex p4.line X.env=GW c_))(hw: ~~~(LC [.Subscript (.Subscript (.Name x p1) ea p2) eb p3] ex X.env=GW e_))(h1: ~~~((Il [.Subscript (.Subscript (.Name x p1) ea p2) eb p3] X.env).map (·.2)=[JY (.Subscript (.Subscript (.Name x p1) ea p2) eb p3) X.env])):
  DSs K W ro X OL [] O' (.Assign [.Name x py] (.ListComp elt [⟨tg,iter,ifs,0⟩] sc pos) spos::.Assign [.Subscript (.Subscript (.Name x p1) ea p2) eb p3] ex p4::sts) (bw (xV i (bD fi ix pt ft fe) fx fA fB) g):=by
 subst w;intro F0 H0 B2 s σ H D I z;have a:i<σ.length:=by rw[I.len];exact(n_.mp Y).1
 refine bB (mq N' ix t Y c q hi n l h o J ok m j) (bB (vM e (Dt (pe_ix Ej (pv i Y f p b) A U) y set_list r) S hw h1) (k F0 H0)) B2 s σ H D I ?_;exact rs_rows u a z
end
section
variable{s:k_}
theorem jX{q:iF}{xs:Array h_}{v:h_}{Q:Mq}(st:s.heap.IsTupleIter q a i)(I:s.heap.IsTuple a xs)(B:xs[i]?=a_ v)(k:∀h',h'.IsTupleIter q a (i+1)->HD q s.heap h'->Q v {s with heap:=h'}):r_ (y_ prog w) A (Ja (.ref q)) Q E s:=by obtain⟨J,e1,e2,e3⟩:=id st;obtain⟨S,f1,_,U,f3⟩:=I;have ty:=st.typeIs;unfold Ja;refine b_ (Gx (name:=Im "__next__") ty Iy (FT Iy ty Mh ?_ (Mb _)));show r_ _ _ (field (.ref q) 0 >>= _) _ _ s;refine b_ (He e1 e3 (x:=.ref a) rfl ?_);show r_ _ _ (if (w_ a==FY)=d_ then _ else _) _ _ s;rw[q_ (show ¬((w_ a==FY)=d_)from Gj)];show r_ _ _ (field (.ref q) 1 >>= _) _ _ s;refine b_ (He e1 e3 (x:=.int i 0) rfl ?_);show r_ _ _ (seqItems? (.ref a) >>= _) _ _ s;refine b_ (H_ f1 f3 ?_);simp only[HZ,B];refine b_ (JF e1 e3 am (g_ ⟨v,rfl,g_ (k _ ?_ (G1 ..))⟩));exact⟨_,Iu _ e1 (LS (Jg e3 _)),(M3 ..).trans e2,by simp_all[Jg,IE]⟩
def oW{q:iF}{xs:Array h_}{Q:Mq}(hh:A.handled=e_)(st:s.heap.IsTupleIter q a i)(I:s.heap.IsTuple a xs)(B:xs[i]?=e_)(k:∀h' e,G_ q s.heap h'->(∃o,h'.get? e=a_ o/\o.cls=.type "StopIteration")->E (.ref e) {s with heap:=h'}):r_ (y_ prog w) A (Ja (.ref q)) Q E s:=by
 obtain⟨J,e1,e2,e3⟩:=id st;obtain⟨S,f1,_,U,f3⟩:=I;have ty:=st.typeIs;unfold Ja;refine b_ (Gx (name:=Im "__next__") ty Iy (FT Iy ty Mh ?_ (Mb _)));show r_ _ _ (field (.ref q) 0 >>= _) _ _ s;refine b_ (He e1 e3 (x:=.ref a) rfl ?_);show r_ _ _ (if (w_ a==FY)=d_ then _ else _) _ _ s;rw[q_ (show ¬((w_ a==FY)=d_)from Gj)];show r_ _ _ (field (.ref q) 1 >>= _) _ _ s;refine b_ (He e1 e3 (x:=.int i 0) rfl ?_);show r_ _ _ (seqItems? (.ref a) >>= _) _ _ s;refine b_ (H_ f1 f3 ?_);simp only[HZ,B];refine b_ (ID (b_ (JF e1 e3 am (b_ ?_))));simp only[Oj,P4];refine b_ (Ge ?_ (by size_fits));refine b_ (m:=MF _ _) (NU (a:=FY) (by rfl) ?_);refine Ge ?_ (by size_fits);simp only[P1];refine b_ (M_ ?_);first|rw[show A.in1.handled=e_ from hh]|rw[hh]
 exact b_ (g_ (NT (k _ _ (((G1 ..).extBut.push _).push _) ⟨_,j_ _ rfl,rfl⟩)))
end
def wO(S:A.handled=e_)(q a:iF)(B:a≠q)(xs:Array h_):Draws prog w A q [q,a] xs.size (λi v=>xs[i]?=a_ v) (λi h=>h.IsTupleIter q a i/\h.IsTuple a xs) where
 live:=λ_ _ st=>let ⟨o,e,_⟩:=st.1;⟨o,e⟩
 frame:=λ_ _ _ st k=>⟨st.1.at λo e=>k q am o e,let ⟨o,e,r⟩:=st.2;⟨o,k a am o e,r⟩⟩
 item:=λi s Q E hi st k=>jX st.1 st.2 (v:=xs[i]) am λh' J I=>k _ h' s.toks am ⟨J,let ⟨o,e,r⟩:=st.2;⟨o,I.extBut a o B e,r⟩⟩ I
 done:=λs Q E st k=>oW S st.1 st.2 am k
def ED(a:iF)(xs:Array h_)(n:Nat)(U:Option iF)(sl:Array (Option h_)):Meets (Builtin.«enumerate.__new__» ⟨[.type "enumerate",.ref a],[]⟩) (λ_ R s=>s.heap.get? a=a_ {cls:=.type "tuple",dict:=U,data:=.seq xs n,slots:=sl}/\R (.ok (.ret (.ref (s.heap.push {cls:=.type "tuple_iterator",data:=.fields #[.ref a,.int 0 0]}).objs.size))) {s with heap:=(s.heap.push {cls:=.type "tuple_iterator",data:=.fields #[.ref a,.int 0 0]}).push {cls:=.type "enumerate",data:=.fields #[.none,.bool c_,.ref s.heap.objs.size,IE 0,.none,.none]}}):=
 .of_wp λprog w A R s h=>by
  obtain⟨S,g,d,tk,J⟩:=s;obtain⟨ea,h⟩:=h;have B:=sub_enumerate;have I:Oc (Ob ⟨S,g,d,tk,J⟩) a xs:=⟨_,ea,rfl,n,rfl⟩
  wp_walk using KG ea
  refine wpAny_stack_any λz=>g_ ?_;split
  .rename_i c _ _ _ _ _;cases(c==Hz "enumerate")<;>(wp_walk using KG ea,Jr I;exact⟨_,rfl,h⟩)
  .wp_walk using KG ea,Jr I
   exact⟨_,rfl,h⟩
section
variable{s:k_}
def C9{xs:Array h_}{Q:Mq}(J:s.heap.IsTuple a xs)(k:∀h',IsEnum h' (s.heap.objs.size+1) s.heap.objs.size 0 .none->h'.IsTupleIter s.heap.objs.size a 0->h'.objs.size=s.heap.objs.size+2->(∀b o,s.heap.get? b=a_ o->h'.get? b=a_ o)->Q (.ref (s.heap.objs.size+1)) {s with heap:=h'}):r_ (y_ prog w) A (Kz (.type "enumerate") [.ref a]) Q E s:=by
 obtain⟨⟨c,U,S,sl⟩,e1,e2,n,e3⟩:=J;have e2:c=.type "tuple":=e2;have e3:S=.seq xs n:=e3;subst e2 e3;refine callType_new PySem.F.called_enumerate as (PySem.F.typeCall_enumerate_1 _) (PySem.F.newCall_enumerate_1 _) (λB=>N5 B _) PySem.F.entry_enumerate_new (ED a xs n U sl) ⟨e1,?_⟩;have hz:(s.heap.push {cls:=.type "tuple_iterator",data:=.fields #[.ref a,.int 0 0]}).objs.size=s.z+1:=G9 ..;show _/\_;rw[hz];have I:IsEnum ((s.heap.push {cls:=.type "tuple_iterator",data:=.fields #[.ref a,.int 0 0]}).push {cls:=.type "enumerate",data:=.fields #[.none,.bool c_,.ref s.z,IE 0,.none,.none]}) (s.z+1) s.z 0 .none:=by have z:=j_ (s.heap.push {cls:=.type "tuple_iterator",data:=.fields #[.ref a,.int 0 0]}) (o:={cls:=.type "enumerate",data:=.fields #[.none,.bool c_,.ref s.z,IE 0,.none,.none]}) rfl;rw[hz]at z;exact z
 exact⟨⟨_,I,rfl⟩,k _ I ⟨_,f_ _ (j_ _ rfl),rfl,rfl⟩ am λb o z=>f_ _ (f_ _ z)⟩
end
def IteT(K:Pn)(a:iF):It:=
 ⟨λi H=>∃xs x,SqT K H a xs/\xs[i]?=a_ x,λi H x H'=>∃T y,H T=e_/\x=.ref T/\H'=upd H T (.tup [.int i,y])/\∀xs,SqT K H a xs->xs[i]?=a_ y,λi H=>∃xs,SqT K H a xs/\xs.length=i⟩
theorem Bg(a e S:iF)(n:e≠S):Turn P w K (.Tuple elts k pos) (IteT K a) [e,S] e (λi h=>(∃J,IsEnum h e S i J)/\h.IsTupleIter S a i) where
 mem:=by simp
 obj:=λi h st b U=>by
  obtain⟨⟨J,Y⟩,o,e1,c,d⟩:=st
  grind
 keep:=λi h h' st kk=>by obtain⟨⟨J,Y⟩,B⟩:=st;exact⟨⟨J,kk e am _ Y⟩,B.at λo x=>kk S am o x⟩
 item:=by
  intro X T hw W Q i B2 s σ H E I C st N;subst T hw W;obtain⟨⟨J,Y⟩,B⟩:=st;obtain⟨xs,x,t,F⟩:=N;obtain⟨its,D,p,hz⟩:=I.tuple t;obtain⟨u,hu,ru⟩:=D.get F;have j:s.heap.IsTuple a its.toArray:=p;have f:a≠S:=λz=>by
   obtain⟨Z,c1,c2,_⟩:=j;obtain⟨o2,c3,c4,_⟩:=B
   lia
  have nea:e≠a:=λz=>by
   obtain⟨Z,c1,c2,_⟩:=j
   lia
  have L:i<its.toArray.size:=by have:=(n_.mp hu).1;simpa using this
  refine wpAny_pyNext_enum_itemD (wO (A:=X.A.in1) (show X.A.in1.handled=e_ from I.ok.hd Q) S a f its.toArray) Y ⟨B,j⟩ L n aW λv h1 tk r ho l hT hsz hk=>?_;have G:v=u:=by have r:its.toArray[i]?=a_ v:=r;rw[show its.toArray[i]?=its[i]? by simp,hu]at r;exact(Hh r).symm
  subst G;refine⟨_,rfl,Og ho λh2 O g=>?_⟩
  have m:e<s.z:=s_ Y;have R:s.z≠e:=HG m;have I1:B5 X B2 σ (upd H s.z (.tup [.int i,x])) {s with heap:=h2,toks:=tk+1}:=I.sV (ch:=[e,S]) C (λb o U q=>by have h3:=hk b o (λz=>U (by simp[z])) (λz=>U (by simp[z])) q;exact(g.2 b (λz=>U (by simp[z]))).trans h3) (i_ _) ⟨am,[.int i tk,v],.cons ⟨_,rfl⟩ (.cons ru .nil),⟨_,(g.2 _ R).trans hT,rfl,0,rfl⟩⟩
  refine⟨.ref s.z,_,I1,rfl,⟨s.z,x,I.hok.fresh (i_ _),rfl,rfl,λys hy=>by rw[I.l8 hy t];exact F⟩,⟨⟨v,by simpa using O⟩,l.1.at λo y=>(g.2 S n.symm).trans y⟩,λb U=>?_⟩
  have hbn:=(C b U).1;have:b≠s.z:=by
   rcases t_.mp U with z0|U
   .lia
   .have:b=S:=by simpa using U
    subst this;obtain⟨o,e1,_⟩:=B;exact FO (s_ e1)
  simp_all[ax]
 done:=by
  intro X T hw W Q i B2 s σ H E I C st N;subst T hw W;obtain⟨⟨J,Y⟩,B⟩:=st;obtain⟨xs,t,F⟩:=N;obtain⟨its,D,p,hz⟩:=I.tuple t;have hl:=D.length;have j:s.heap.IsTuple a its.toArray:=p;have f:a≠S:=λz=>by
   obtain⟨Z,c1,c2,_⟩:=j;obtain⟨o2,c3,c4,_⟩:=B
   lia
  have hn:i=its.toArray.size:=by simp;lia
  rw[hn]at B;exact wpAny_pyNext_enum_endD (wO (A:=X.A.in1) (show X.A.in1.handled=e_ from I.ok.hd Q) S a f its.toArray) Y ⟨B,j⟩ λh2 eb=>⟨rfl,I.xK (t':=s.toks) (ch:=[e,S]) C λb o U q=>eb b o (λz=>U (by simp[z])) q⟩
 self:=λ_ _ _ _ _ st h=>by obtain⟨⟨J,Y⟩,_⟩:=st;exact Kc Y h
theorem BS(t:SqT K F a xs)(z:ay K F ds xs):nM K F (IteT K a) (eO 0 ds) where
 go:=λi F' H' s1 s2 hi=>⟨xs,xs[i]'(by rw[z.length];simp_all[jN]),s2.tup (s1.tup t),am⟩
 yl:=λi F' H' x H2 d s1 s2 I J=>by
  obtain⟨T,y,S,ex,U,J⟩:=J;subst ex U;rw[pL]at I;cases B:ds[i]? with
  |none=>simp_all|some d'=>
   rw[B]at I;simp at I;subst I;obtain⟨v,e1,q⟩:=z.get B;have e2:=J xs (s2.tup (s1.tup t));rw[e1]at e2;cases e2;refine⟨upd F' T (.tup [.int i,y]),B4.lay s2 S,T,_,rfl,SqT.of av,?_⟩
   exact⟨.int i,[y],rfl,rfl,y,[],rfl,(q.mono s1).mono (aX.upd (s2.free S)),rfl⟩
 st:=λF' H' s1 s2=>⟨xs,s2.tup (s1.tup t),by rw[z.length,jN]⟩
def mY(fa:ag->M A'):ag->M (List A'):=λρ=>(fa ρ).bind λd=>(jG d).bind λds=>.ok (eO 0 ds)
@[simp]def e_enum2{fa:ag->M A'}{ρ:ag}:mY fa ρ=(fa ρ).bind λd=>(jG d).bind λds=>.ok (eO 0 ds):=id rfl
section
variable{W:cy}{a:G4}{p:NV}
def iEnum2(K:Pn)(tl:TE):TI:=λσ H R=>tl σ H λx H1=>∃a,x=.ref a/\((∃xs,SqL K H1 a xs)/\R (Ite K a) H1\/(∃xs,SqT K H1 a xs)/\R (IteT K a) H1)
def pi_enum2(v:Gl X "enumerate")(r:X.mg "enumerate"=e_)(t:PE X a tl)(i: ~~~(l_ [a] X.env=[(c_,FV a X.env)])):
  PI X (.Tuple elts k q) (.Call (.Name "enumerate" p) [a] [] pos) (iEnum2 X.K tl):=by
 intro B2 s σ H R I h;have w:PA X [a] (Bi tl tNil):=bT t eG i;refine Qd (kz I v r boot_enumerate (GG (D' (w pos B2 s σ H (λvs H1=>match vs with
  |[x]=>∃a,x=.ref a/\((∃xs,SqL X.K H1 a xs)/\R (Ite X.K a) H1\/(∃xs,SqT X.K H1 a xs)/\R (IteT X.K a) H1)
  |_=>False) I h) λus s1 ⟨vs,H1,J,o,q1⟩=>?_) i rfl))
 rcases vs with _|⟨x,_|⟨_,_⟩⟩
 .exact Gh q1
 rotate_left
 .exact Gh q1
 .obtain⟨l,e1,q⟩:=q1;subst e1;obtain⟨u,rfl,n⟩:=o.one;cases n;have Y:∀b∈[s1.z+1,s1.z],Cj X B2 H1 b:=λb e=>by
   have U:s1.z<=b:=by
    rcases t_.mp e with j|e
    .subst j;simp
    .have:b=s1.z:=by simpa using e
     exact J1 this.symm
   exact J.fpOk U (J.hok.fresh U)
  rcases q with⟨⟨xs,c⟩,q⟩|⟨⟨xs,c⟩,q⟩
  .obtain⟨its,m,pl,hz⟩:=J.list c;refine Qn pl.isList λf S B hsz d=>?_;have g:B5 X B2 σ H1 {s1 with heap:=f}:=J.kept (t':=s1.toks) d;refine Kc S ?_;exact⟨s1.z+1,[s1.z+1,s1.z],_,_,H1,rfl,g,v8 l _ _ (Nh _),⟨⟨_,S⟩,B⟩,Y,q⟩
  .obtain⟨its,m,pl,hz⟩:=J.tuple c;refine C9 (show s1.heap.IsTuple l its.toArray from pl) λf S B hsz d=>?_;have g:B5 X B2 σ H1 {s1 with heap:=f}:=J.kept (t':=s1.toks) d;refine Kc S ?_;exact⟨s1.z+1,[s1.z+1,s1.z],_,_,H1,rfl,g,Bg l _ _ (Nh _),⟨⟨_,S⟩,B⟩,Y,q⟩
theorem uk(I:X.mg "enumerate"=e_)(J:DE K W c_ X a fa)(S: ~~~(Gl X "enumerate"))(B: ~~~(l_ [a] X.env=[(c_,FV a X.env)]))(Y: ~~~(X.K=K)):
  DI K W X (.Tuple elts k q) (.Call (.Name "enumerate" p) [a] [] pos) (mY fa):=by
 subst Y;exact(pi_enum2 S I J B).imp λ_ _ _=>by
   intro h;obtain⟨F,ρ,r,s,p⟩:=h;refine aJ r s (λe c=>?_) λd U v F1 H1 s1 q1=>?_
   .simp_all[mY]
   .have z:mY fa ρ=(jG d).bind λds=>.ok (eO 0 ds):=by unfold mY;rw[U];rfl
    rw[z]at p;cases d with
    |lst ds=>obtain⟨b,xs,e,t,z⟩:=q1;exact⟨b,e,.inl ⟨⟨xs,s1.fh.lst t⟩,p _ F1 H1 s1 (wA t z)⟩⟩
    |tup ds=>obtain⟨b,xs,e,t,z⟩:=q1;exact⟨b,e,.inr ⟨⟨xs,s1.fh.tup t⟩,p _ F1 H1 s1 (BS t z)⟩⟩
    |_=>exact(W.ns p).elim
end
def ke{u:iF}(x:h.IsTupleIter u l i)(A:G_ c h h')(n:u≠c):h'.IsTupleIter u l i:=x.at λo e=>A u o n e
def jq{xs:Array h_}(x:h.IsTuple l xs)(A:G_ c h h')(n:l≠c):h'.IsTuple l xs:=let ⟨o,e,r⟩:=x;⟨o,A l o n e,r⟩
structure Ys(z p q u v l m:iF)(r k a b:h_)(i j:Nat)(xs ys:Array h_)(h:Gu):Prop where
 me:ZRec h z p q r k
 its:MH h p (.ref u) (.ref v)
 own:MH h q a b
 one:h.IsTupleIter u l i
 two:h.IsTupleIter v m j
 xl:h.IsTuple l xs
 yl:h.IsTuple m ys
section
variable{p q u v m:iF}{r k a b:h_}{xs ys:Array h_}
def Ys.atZ{r':h_}(D:Ke z p q u v l m)(Z:Ys z p q u v l m r k a b i j xs ys h)(A:G_ z h h')(e:ZRec h' z p q r' k'):Ys z p q u v l m r' k' a b i j xs ys h':=
 ⟨e,A _ _ D.TIz Z.its,A _ _ D.TOz Z.own,ke Z.one A D.i1z,ke Z.two A D.i2z,jq Z.xl A D.l1z,jq Z.yl A D.l2z⟩
def Ys.atQ(D:Ke z p q u v l m)(Z:Ys z p q u v l m r k a b i j xs ys h)(A:G_ q h h')(e:MH h' q a' b'):Ys z p q u v l m r k a' b' i j xs ys h':=
 ⟨A _ _ D.TOz.symm Z.me,A _ _ D.TITO Z.its,e,ke Z.one A D.TOi1.symm,ke Z.two A D.TOi2.symm,jq Z.xl A D.l1TO,jq Z.yl A D.l2TO⟩
def Ys.atU(D:Ke z p q u v l m)(Z:Ys z p q u v l m r k a b i j xs ys h)(A:G_ u h h')(e:h'.IsTupleIter u l n):Ys z p q u v l m r k a b n j xs ys h':=
 ⟨A _ _ D.i1z.symm Z.me,A _ _ D.TIi1 Z.its,A _ _ D.TOi1 Z.own,e,ke Z.two A D.i12.symm,jq Z.xl A D.l1i1,jq Z.yl A D.l2i1⟩
def Ys.atV(D:Ke z p q u v l m)(Z:Ys z p q u v l m r k a b i j xs ys h)(A:G_ v h h')(e:h'.IsTupleIter v m n):Ys z p q u v l m r k a b i n xs ys h':=
 ⟨A _ _ D.i2z.symm Z.me,A _ _ D.TIi2 Z.its,A _ _ D.TOi2 Z.own,ke Z.one A D.i12,e,jq Z.xl A D.l1i2,jq Z.yl A D.l2i2⟩
def Ys.new{o:Mx}(Z:Ys z p q u v l m r k a b i j xs ys h):Ys z p q u v l m r k a b i j xs ys (h.push o):=
 ⟨f_ _ Z.me,f_ _ Z.its,f_ _ Z.own,Z.one.at λ_ e=>f_ _ e,Z.two.at λ_ e=>f_ _ e,(let ⟨o',e,t⟩:=Z.xl;⟨o',f_ _ e,t⟩),(let ⟨o',e,t⟩:=Z.yl;⟨o',f_ _ e,t⟩)⟩
end
section
variable{s:k_}{p q u v m:iF}{r k a b x y:h_}{xs ys:Array h_}
def Cz{T:Bool->k_->Prop}(Z:Ys z p q u v l m .none k a b i j xs ys s.heap)(B:T d_ s):r_ (y_ P w) A (PV (.ref z)) T E s:=
 b_ (He Z.me rfl (x:=.none) rfl (g_ B))
def Cy(D:Ke z p q u v l m)(Z:Ys z p q u v l m r k a b i j xs ys s.heap)(I:(#[a,b]:Array h_).setIfInBounds n x=#[a',b'])(J:∀h',G_ q s.heap h'->h'.objs.size=s.heap.objs.size->Ys z p q u v l m r k a' b' i j xs ys h'->T () {s with heap:=h'}):r_ (y_ P w) A (updateSeq q (·.setIfInBounds n x)) T E s:=
 wpAny_updateSeq_pair Z.own λh' e B=>J h' B.extBut B.1 (Z.atQ D B.extBut (by rw[I]at e;exact e))
def yZ{c:h_}(D:Ke z p q u v l m)(Z:Ys z p q u v l m r k a b i j xs ys s.heap){r':h_}(I:n<5)(J:(#[r,k,.bool c_,.ref p,.ref q]:Array h_).setIfInBounds n c=#[r',k',.bool c_,.ref p,.ref q])(S:∀h',G_ z s.heap h'->h'.objs.size=s.heap.objs.size->Ys z p q u v l m r' k' a b i j xs ys h'->T () {s with heap:=h'}):r_ (y_ P w) A (LQ (.ref z) n c) T E s:=
 IC Z.me I λh' e B=>S h' B.extBut B.1 (Z.atZ D B.extBut (by rw[J]at e;exact e))
def ys_gives{T:Mq}(D:Ke z p q u v l m)(Z:Ys z p q u v l m .none (.bool c_) a b i j xs ys s.heap)(Q:xs[i]?=a_ x)(O:ys[j]?=a_ y)(R:∀h' a' b',Ys z p q u v l m (IE s.heap.objs.size) (.bool c_) a' b' (i+1) (j+1) xs ys h'->MH h' s.heap.objs.size x y->Off z q u v s.heap h'->T (.ref s.heap.objs.size) {s with heap:=h'}):
  r_ (y_ P w) A (Builtin.«zip.__next__» ⟨[.ref z],[]⟩) (λf s'=>∃c,f=.done (.ret c)/\T c s') E s:=by
 have B:∀{n:Nat} {c:h_} {K:Mq} {s':k_} {r k a b:h_} {i j:Nat},Ys z p q u v l m r k a b i j xs ys s'.heap->(#[r,k,.bool c_,.ref p,.ref q]:Array h_)[n]?=a_ c->K c s'->r_ (y_ P w) A (field (.ref z) n) K E s':=
  λZ e t=>He Z.me rfl e t
 refine b_ (show r_ _ _ (GW (w_ z,([]:a8))) _ _ _ from g_ ?_);refine b_ (B Z (n:=2) rfl (b_ (B Z (n:=3) rfl (b_ (H_ Z.its rfl ?_)))));refine b_ (Cz Z ?_);rw[p_ rfl];refine b_ (ID (b_ (B Z (n:=4) rfl (b_ (yZ D Z (n:=0) as rfl λg1 B1 e1 h=>?_)))));refine b_ ?_;simp only[Q7,LH,L5];refine b_ (b_ (LA (b_ (jX h.one h.xl Q λg2 f2 C=>g_ ?_))));have H:=h.atU D C.extBut f2;refine b_ (H_ H.own rfl (b_ (Cy D H (n:=0) rfl λg3 B3 e3 g=>b_ (MB (g_ ?_)))));refine b_ (b_ (LA (b_ (jX g.two g.yl O λg4 f4 o=>g_ ?_))));have G:=g.atV D o.extBut f4;refine b_ (H_ G.own rfl (b_ (Cy D G (n:=1) rfl λS X e5 d=>b_ (MB (g_ (g_ ?_))))));refine b_ (H_ d.own rfl (b_ (Of ?_)));have J:S.objs.size=s.z:=e5.trans (o.1.trans (e3.trans (C.1.trans e1)));have lt:z<S.objs.size:=s_ d.me;refine b_ (b_ (yZ D d.new (n:=0) (r':=IE S.objs.size) as rfl λg6 N e6 W=>yZ D W (n:=1) as rfl λY L e7 F=>?_));refine g_ (Exists.intro _ ⟨rfl,?_⟩);have I:MH Y S.objs.size x y:=L _ _ (HG lt) (N _ _ (HG lt) (j_ _ rfl));have U:Off z q u v s.heap Y:=(Off.byZ B1).then ((Off.byU C.extBut).then ((Off.byQ B3).then ((Off.byV o.extBut).then ((Off.byQ X).then (Off.new.then ((Off.byZ N).then (Off.byZ L)))))))
 show T (.ref S.objs.size) _;rw[J]at I F ⊢;exact R Y _ _ F I U
theorem ys_ends{T:Pd->k_->Prop}(g:A.handled=e_)(D:Ke z p q u v l m)(Z:Ys z p q u v l m .none (.bool c_) a b i j xs ys s.heap)(B:xs[i]?=e_\/ys[j]?=e_)(h:∀h' c,Off z q u v s.heap h'->(∃o,h'.get? c=a_ o/\o.cls=.type "StopIteration")->E (.ref c) {s with heap:=h'}):
  r_ (y_ P w) A (Builtin.«zip.__next__» ⟨[.ref z],[]⟩) T E s:=by
 refine b_ (show r_ _ _ (GW (w_ z,([]:a8))) _ _ _ from g_ ?_);refine b_ (He Z.me rfl (i:=2) rfl (b_ (He Z.me rfl (i:=3) rfl (b_ (H_ Z.its rfl ?_)))));refine b_ (Cz Z ?_);rw[p_ rfl];refine b_ (ID (b_ (He Z.me rfl (i:=4) rfl (b_ (yZ D Z (n:=0) as rfl λK y e1 I=>?_)))));refine b_ ?_;simp only[Q7,LH,L5];cases f:xs[i]? with
 |none=>refine b_ (b_ (LA (b_ (oW g I.one I.xl f λg2 c J Y=>?_))));exact Cu (J _ _ D.i1z.symm I.me) Y λk e U=>h k c ((Off.byZ y).then ((Off.byU J).then (Off.byZ e))) U|some x=>have C:ys[j]?=e_:=B.resolve_left aW;refine b_ (b_ (LA (b_ (jX I.one I.xl f λg2 f2 J=>g_ ?_))));have r:=I.atU D J.extBut f2;refine b_ (H_ r.own rfl (b_ (Cy D r (n:=0) rfl λk e e3 d=>b_ (MB (g_ ?_)))));refine b_ (b_ (LA (b_ (oW g d.two d.yl C λH c t Y=>?_))));exact Cu (t _ _ D.i2z.symm d.me) Y λF G S=>h F c ((Off.byZ y).then ((Off.byU J.extBut).then ((Off.byQ e).then ((Off.byV t).then (Off.byZ G))))) S
def yn_gives{T:Option h_->k_->Prop}(D:Ke z p q u v l m)(Z:Ys z p q u v l m .none (.bool c_) a b i j xs ys s.heap)(J:xs[i]?=a_ x)(I:ys[j]?=a_ y)(S:∀h' a' b',Ys z p q u v l m (IE s.heap.objs.size) (.bool c_) a' b' (i+1) (j+1) xs ys h'->MH h' s.heap.objs.size x y->Off z q u v s.heap h'->T (a_ (.ref s.heap.objs.size)) {s with heap:=h'}):
  r_ (y_ P w) A (JG (.ref z)) T E s:=by
 have ty:s.TypeIs (.ref z) "zip":=⟨_,Z.me,rfl⟩
 have B:=ys_gives (P:=P) (w:=w) (A:=A.in1) (E:=λ_ _=>False) (T:=λc s'=>T (a_ c) s') D Z J I S;unfold JG;refine b_ (IZ (Gx (name:=Im "__next__") ty JT ?_));refine FT JT ty NR (GX B (λf s' h=>?_) λ_ _ h=>h.elim) (NF _);obtain⟨c,e,h⟩:=h;exact⟨c,e,g_ h⟩
def yn_ends{T:Option h_->k_->Prop}(S:A.handled=e_)(D:Ke z p q u v l m)(Z:Ys z p q u v l m .none (.bool c_) a b i j xs ys s.heap)(B:xs[i]?=e_\/ys[j]?=e_)(U:∀h',Off z q u v s.heap h'->T e_ {s with heap:=h'}):r_ (y_ P w) A (JG (.ref z)) T E s:=by
 have ty:s.TypeIs (.ref z) "zip":=⟨_,Z.me,rfl⟩
 unfold JG;refine b_ (IZ (Gx (name:=Im "__next__") ty JT ?_));refine FT JT ty NR (ys_ends S D Z B λh' c I J=>?_) (NF _);obtain⟨o,e,t⟩:=J;exact b_ (HV (T:="StopIteration") (b:=d_) ⟨o,e,t⟩ ME (g_ (U h' I)))
end
def ItzT(K:Pn)(a b:iF):It:=
 ⟨λi H=>∃xs ys x y,SqT K H a xs/\SqT K H b ys/\xs[i]?=a_ x/\ys[i]?=a_ y,λi H v H'=>∃T x y,H T=e_/\v=.ref T/\H'=upd H T (.tup [x,y])/\(∀xs,SqT K H a xs->xs[i]?=a_ x)/\∀ys,SqT K H b ys->ys[i]?=a_ y,λi H=>∃xs ys,SqT K H a xs/\SqT K H b ys/\(xs.length<=i\/ys.length<=i)⟩
theorem CI{p q u v m:iF}(D:Ke z p q u v l m):
  Turn P w K (.Tuple elts k pos) (ItzT K l m) [z,p,q,u,v] z (λi h=>IsZip h z p q .none/\MH h p (.ref u) (.ref v)/\(∃a b,MH h q a b)/\h.IsTupleIter u l i/\h.IsTupleIter v m i) where
 mem:=Hq
 obj:=λi h ⟨n,its,⟨_,_,own⟩,⟨o1,e1,_,d1⟩,⟨o2,e2,_,d2⟩⟩ c hc=>by grind
 keep:=λi h h' ⟨n,its,⟨a,b,own⟩,U,S⟩ F=>⟨F z am _ n,F p am _ its,⟨a,b,F q am _ own⟩,U.at λo x=>F u am o x,S.at λo x=>F v am o x⟩
 item:=by
  rintro X rfl rfl rfl Y i B2 s σ H E I N ⟨n,its,⟨a,b,own⟩,U,S⟩ ⟨xs,ys,x,y,L,G,gx,W⟩;obtain⟨vs,R,T,_⟩:=I.tuple L;obtain⟨ws,Q,py,_⟩:=I.tuple G;obtain⟨c,hc,rc⟩:=R.get gx;obtain⟨d,hd,rd⟩:=Q.get W;refine yn_gives D ⟨n,its,own,U,S,T,py⟩ (x:=c) (y:=d) aW aW λh' a' b' Z r j=>⟨_,rfl,wpAny_letOwnedTupleGo_zip Z.me λg A B=>?_⟩
  have C:∀e∈[z,p,q,u,v],e<s.z:=by
   simp only[t_,GH,Qx];rintro e (rfl|rfl|rfl|rfl|rfl)
   .exact s_ n
   .exact s_ its
   .exact s_ own
   .exact U.elim λ_ t=>s_ t.1
   .exact S.elim λ_ t=>s_ t.1
  have O:=Z.atZ D B.extBut A;have nz:s.z≠z:=HG (C z am);have I':B5 X B2 σ (upd H s.z (.tup [x,y])) {s with heap:=g,toks:=s.toks}:=I.sV (ch:=[z,p,q,u,v]) N (λe o J t=>by simp only[t_,GH,Qx,not_or]at J;exact B.extBut e o J.1 (j e o J.1 J.2.2.1 J.2.2.2.1 J.2.2.2.2 t)) (i_ _) ⟨am,[c,d],.cons rc (.cons rd .nil),⟨_,B.extBut _ _ nz r,rfl,0,rfl⟩⟩
  refine⟨.ref s.z,_,I',rfl,⟨_,x,y,I.hok.fresh (i_ _),rfl,rfl,λ_ t=>by rw[I.l8 t L];exact gx,λ_ t=>by rw[I.l8 t G];exact W⟩,⟨A,O.its,⟨_,_,O.own⟩,O.one,O.two⟩,λe J=>?_⟩
  rw[ax (FO (C e J))];exact(N e J).1
 done:=by
  rintro X rfl rfl rfl Y i B2 s σ H E I N ⟨n,its,⟨a,b,own⟩,U,S⟩ ⟨xs,ys,L,G,f⟩;obtain⟨vs,R,T,_⟩:=I.tuple L;obtain⟨ws,Q,py,_⟩:=I.tuple G;have nx:=R.length;have ny:=Q.length;refine yn_ends (I.ok.hd Y) D ⟨n,its,own,U,S,T,py⟩ (f.imp (λt=>Ih aW) λt=>Ih aW) λh' j=>⟨rfl,I.xK (t':=s.toks) (ch:=[z,p,q,u,v]) N λe o J t=>?_⟩
  simp only[t_,GH,Qx,not_or]at J;exact j e o J.1 J.2.2.1 J.2.2.2.1 J.2.2.2.2 t
 self:=λ_ _ _ _ _ st h=>QX st.1 h
noncomputable abbrev tit(l:iF):Mx:={cls:=.type "tuple_iterator",data:=.fields #[.ref l,.int 0 0]}
abbrev zA(h:Gu)(l:iF):Gu:=h.push (tit l)
abbrev zB(h:Gu)(l m:iF):Gu:=(zA h l).push (tit m)
abbrev zC(h:Gu)(l m:iF):Gu:=(zB h l m).push {cls:=.type "tuple",data:=.seq #[.ref h.objs.size,.ref (zA h l).objs.size]}
abbrev zD(h:Gu)(l m:iF):Gu:=(zC h l m).push {cls:=.type "tuple",data:=.seq #[.none,.none]}
abbrev zE(h:Gu)(l m:iF):Gu:=(zD h l m).push {cls:=.type "zip",data:=.fields #[.none,.bool c_,.bool c_,.ref (zB h l m).objs.size,.ref (zC h l m).objs.size]}
def zip_newT(l m:iF)(xs ys:Array h_):Meets (Builtin.«zip.__new__» ⟨[.type "zip",.ref l,.ref m],[]⟩) (λ_ R s=>s.heap.IsTuple l xs/\s.heap.IsTuple m ys/\R (.ok (.ret (.ref (zD s.heap l m).objs.size))) {s with heap:=zE s.heap l m}):=
 .of_wp λprog w A R s h=>by
  obtain⟨J,g,d,tk,B⟩:=s;obtain⟨U,S,h⟩:=h;have I:=sub_zip;have a:Oc (Ob ⟨J,g,d,tk,B⟩) l xs:=U;have Y:Oc (Ob ⟨J.push {cls:=.type "tuple_iterator",data:=.fields #[.ref l,.int 0 0]},g,d,tk,B⟩) m ys:=Heap.IsTuple.push S _
  wp_walk using Jr a,Jr Y
  exact⟨_,rfl,h⟩
section
variable{s:k_}
def F7{m:iF}{xs ys:Array h_}{Q:Mq}(e:s.heap.IsTuple l xs)(d:s.heap.IsTuple m ys)(k:∀h',IsZip h' (s.heap.objs.size+4) (s.heap.objs.size+2) (s.heap.objs.size+3) .none->MH h' (s.heap.objs.size+2) (.ref s.heap.objs.size) (.ref (s.heap.objs.size+1)) ->
   MH h' (s.heap.objs.size+3) .none .none->h'.IsTupleIter s.heap.objs.size l 0->h'.IsTupleIter (s.heap.objs.size+1) m 0->(∀c o,s.heap.get? c=a_ o->h'.get? c=a_ o)->Q (.ref (s.heap.objs.size+4)) {s with heap:=h'}):
  r_ (y_ prog w) A (Kz (.type "zip") [.ref l,.ref m]) Q E s:=by
 refine callType_new PySem.F.called_zip as (PySem.F.typeCall_zip_2 _ _) (PySem.F.newCall_zip_2 _ _) (λB=>PySem.F.args_object_init_3 B _ _) PySem.F.entry_zip_new (zip_newT l m xs ys) ⟨e,d,?_⟩;have S:(zA s.heap l).objs.size=s.z+1:=G9 ..;have n2:(zB s.heap l m).objs.size=s.z+2:=by rw[G9,S]
 have J:(zC s.heap l m).objs.size=s.z+3:=by rw[G9,n2]
 have b:(zD s.heap l m).objs.size=s.z+4:=by rw[G9,J]
 have I:(zE s.heap l m).get? (zD s.heap l m).objs.size=a_ _:=j_ _ rfl;have U:(zE s.heap l m).get? (zC s.heap l m).objs.size=a_ _:=f_ _ (j_ _ rfl);have Y:(zE s.heap l m).get? (zB s.heap l m).objs.size=a_ _:=f_ _ (f_ _ (j_ _ rfl));have a:(zE s.heap l m).get? (zA s.heap l).objs.size=a_ _:=f_ _ (f_ _ (f_ _ (j_ _ rfl)));have f:(zE s.heap l m).get? s.z=a_ _:=f_ _ (f_ _ (f_ _ (f_ _ (j_ _ rfl))));show _/\_;rw[n2,J,b]at I;rw[S,n2]at Y;rw[J]at U;rw[S]at a;rw[b];exact⟨⟨_,I,rfl⟩,k _ I Y U ⟨_,f,rfl,rfl⟩ ⟨_,a,rfl,rfl⟩ λc o t=>f_ _ (f_ _ (f_ _ (f_ _ (f_ _ t))))⟩
end
theorem Em{es:List A'}(t:SqT K F a xs)(z:ay K F ds xs)(Y:SqT K F b ys)(S:ay K F es ys):nM K F (ItzT K a b) (qu ds es) where
 go:=λi F' H' s1 s2 hi=>by rw[sT]at hi;exact⟨xs,ys,xs[i]'(by rw[z.length];lia),ys[i]'(by rw[S.length];lia),s2.tup (s1.tup t),s2.tup (s1.tup Y),v_ _,v_ _⟩
 yl:=λi F' H' x H2 d s1 s2 J f=>by
  obtain⟨T,e,U,c,ex,h,h1,g⟩:=f;subst ex h;rw[yY]at J;cases I:ds[i]? with
  |none=>simp_all|some l=>
   cases B:es[i]? with
   |none=>simp_all|some k=>
    rw[I,B]at J;simp at J;subst J;obtain⟨v,e1,q⟩:=z.get I;obtain⟨j,e2,q2⟩:=S.get B;have e3:=h1 xs (s2.tup (s1.tup t));have e4:=g ys (s2.tup (s1.tup Y));rw[e1]at e3;rw[e2]at e4;cases e3;cases e4;refine⟨upd F' T (.tup [e,U]),B4.lay s2 c,T,_,rfl,SqT.of av,?_⟩
    exact⟨e,[U],rfl,(q.mono s1).mono (aX.upd (s2.free c)),U,[],rfl,(q2.mono s1).mono (aX.upd (s2.free c)),rfl⟩
 st:=λF' H' s1 s2=>⟨xs,ys,s2.tup (s1.tup t),s2.tup (s1.tup Y),by rw[z.length,S.length,sT];lia⟩
noncomputable def kS:A'->M (List A')
 |.tup ds=>.ok ds|_=>.error .stuck
def qP(fa fb:ag->M A'):ag->M (List A'):=λρ=>(fa ρ).bind λa=>(fb ρ).bind λb=>(kS a).bind λds=>(kS b).bind λes=>.ok (qu ds es)
@[simp]def e_zipT{fa fb:ag->M A'}{ρ:ag}:qP fa fb ρ=(fa ρ).bind λa=>(fb ρ).bind λb=>(kS a).bind λds=>(kS b).bind λes=>.ok (qu ds es):=id rfl
@[simp]def e_itemsTD(ds:List A'):kS (.tup ds)=.ok ds:=id rfl
section
variable{W:cy}{a b:G4}{p:NV}
def iZipT(K:Pn)(ta tb:TE):TI:=λσ H R=>ta σ H λx H1=>tb σ H1 λy H2=>∃c d,x=.ref c/\y=.ref d/\(∃xs,SqT K H2 c xs)/\(∃ys,SqT K H2 d ys)/\R (ItzT K c d) H2
theorem pi_zipT{ta tb:TE}(G:Gl X "zip")(F:X.mg "zip"=e_)(L:PE X a ta)(K:PE X b tb)(D:l_ [a,b] X.env=[(c_,FV a X.env),(c_,FV b X.env)])(B:l_ [b] X.env=[(c_,FV b X.env)]):
  PI X (.Tuple elts k q) (.Call (.Name "zip" p) [a,b] [] pos) (iZipT X.K ta tb):=by
 intro B2 s σ H R I h;have Y:PA X [a,b] (Bi ta (Bi tb tNil)):=bT L (bT K eG B) aW;have f:=Y pos B2 s σ H (λvs H1=>match vs with|[x,y]=>∃c d,x=.ref c/\y=.ref d/\(∃xs,SqT X.K H1 c xs)/\(∃ys,SqT X.K H1 d ys)/\R (ItzT X.K c d) H1|_=>False) I h;refine Qd (kz I G F boot_zip (GG (D' f λus s1 E=>?_) (by rw[D,B]) (by rw[B];rfl)));obtain⟨vs,H1,g,u,q1⟩:=E;rcases vs with _|⟨x,_|⟨y,_|⟨_,_⟩⟩⟩
 .exact Gh q1
 .exact Gh q1
 rotate_left
 .exact Gh q1
 .obtain⟨c,d,P,O,⟨xs,C⟩,⟨ys,A⟩,N⟩:=q1;subst P O;obtain⟨_,_,rfl,r,o⟩:=u.two;cases r;cases o;obtain⟨vs,T,v,_⟩:=g.tuple C;obtain⟨ws,Q,py,_⟩:=g.tuple A;have S:s1.heap.IsTuple c vs.toArray:=v;have J:s1.heap.IsTuple d ws.toArray:=py;have z:c<s1.z:=S.elim λ_ t=>s_ t.1;have w:d<s1.z:=J.elim λ_ t=>s_ t.1;refine F7 S J λh' m its own j i l=>QX m ?_;have U:∀e∈[s1.z+4,s1.z+2,s1.z+3,s1.z,s1.z+1],s1.z<=e:=by
   simp only[t_,GH,Qx];rintro e (rfl|rfl|rfl|rfl|rfl)<;>lia
  exact⟨_,_,_,_,H1,rfl,g.kept (t':=s1.toks) l,CI (zipApart_new z w),⟨m,its,⟨_,_,own⟩,j,i⟩,λe n=>g.fpOk (U e n) (g.hok.fresh (U e n)),N⟩
theorem yC(n:X.mg "zip"=e_)(u:DE K W c_ X a fa)(t:DE K W c_ X b fb)(o: ~~~(Gl X "zip"))(m: ~~~(l_ [a,b] X.env=[(c_,FV a X.env),(c_,FV b X.env)]))(J: ~~~(l_ [b] X.env=[(c_,FV b X.env)]))(v: ~~~(X.K=K)):
  DI K W X (.Tuple elts k q) (.Call (.Name "zip" p) [a,b] [] pos) (qP fa fb):=by
 subst v;exact(pi_zipT o n u t m J).imp λ_ _ _=>by
   intro h;obtain⟨F,ρ,r,s,p⟩:=h;refine aJ r s (λe f=>?_) λg I y F1 H1 s1 q1=>?_
   .simp_all[qP]
   .refine aJ (r.mono s1.ff) s1.fh (λe f=>?_) λU S x w H2 s2 q2=>?_
    .have z:qP fa fb ρ=.error e:=by unfold qP;rw[I];show(fb ρ).bind _=_;rw[f];rfl
     rw[z]at p;exact W.mono p s1
    .have z:qP fa fb ρ=(kS g).bind λds=>(kS U).bind λes=>.ok (qu ds es):=by unfold qP;rw[I];show(fb ρ).bind _=_;rw[S];rfl
     rw[z]at p;cases g with
     |tup ds=>
      cases U with
      |tup es=>obtain⟨c,xs,e1,l,j⟩:=q1;obtain⟨d,ys,e2,Y,i⟩:=q2;have B:=s2.ff.tup l;exact⟨c,d,e1,e2,⟨xs,s2.fh.tup B⟩,⟨ys,s2.fh.tup Y⟩,p _ w H2 (s1.trans s2) (Em B (j.mono s2.ff) Y i)⟩
      |_=>exact(W.ns p).elim
     |_=>cases U<;>exact(W.ns p).elim
end
theorem pJ{i:Nat}{R R':St->Hp->Prop}{H:Hp}:∀{is:a5} {vs:a7} {σ:St},i∉is->fO is vs σ H R'->(∀B H',R' B H'->B[i]?=σ[i]?->R B H')->fO is vs σ H R
 |[],_,σ,_,h,k=>⟨h.1,k _ _ h.2 rfl⟩|j::is,_,σ,n,⟨v,r,e,h⟩,k=>⟨v,r,e,pJ (i:=i) (λz=>n (by simp[z])) h λB H' I J=>k B H' I aV⟩
def yu{R R':St->Hp->Prop}{p:Pat}(n:i∉p.names)(h:gP K p v σ H R')(k:∀B H',R' B H'->B[i]?=σ[i]?->R B H'):gP K p v σ H R:=by
 cases p with
 |nm j=>exact k _ _ h (tF λz=>n (by simp[Pat.names,z]))|tp is=>obtain⟨a,xs,e,t,l,h⟩:=h;exact⟨a,xs,e,t,l,pJ n h k⟩
structure RepR(K:Pn)(F0 H0 FB:Hp)(i:Nat)(a:iF)(ys:a7)(rs:List A')(F H:Hp)(σ:St)(ρ:ag):Prop where
 r:Rep K F0 H0 FB [] F H σ ρ
 sl:σ[i]?=a_ (a_ (.ref a))
 hp:H a=a_ (.lst ys)
 fa:F a=e_
 ha:H0 a=e_
 nm:∀m:Nat,ys[m]?≠a_ (.ref a)
 ow:sS K F H0 H rs ys
theorem RepR.step(h:RepR K F0 H0 FB i a ys rs F H σ ρ)(s:B4 F H F1 H1):RepR K F0 H0 FB i a ys rs F1 H1 σ ρ:=
 ⟨h.r.step s,h.sl,s.hh _ _ h.hp,s.stays h.fa h.hp,h.ha,h.nm,h.ow.step s⟩
theorem RepR.write{es:List A'}(h:RepR K F0 H0 FB i a ys rs F H σ ρ)(U:ys[j]?=a_ (.ref b))(q:ay K F es xs):RepR K F0 H0 FB i a ys (rs.set j (.lst es)) F (upd H b (.lst xs)) σ ρ:=by
 obtain⟨Y,t,u,v,fb,B,_⟩:=h.ow.at U;have J:a≠b:=λz=>h.nm j aW;have r:=h.r;refine⟨⟨⟨r.st.ff,λc o z=>?_,λc o z=>?_,r.st.nw⟩,r.fb,r.len,r.fz,(λm d e h=>nomatch h),(λm n x w c h=>nomatch h)⟩,h.sl,by rw[ax J];exact h.hp,h.fa,h.ha,h.nm,⟨by rw[FZ];exact h.ow.len,λk d e=>?_,h.ow.ap⟩⟩
 .rw[ax (aC z B)];exact r.st.hh c o z
 .rw[ax (aC z fb)];exact r.st.fh c o z
 .by_cases S:j=k
  .subst S;rw[E_ (n_.mp u).1]at e;cases e;exact⟨b,xs,es,U,rfl,av,fb,B,q⟩
  .rw[tF S]at e;obtain⟨c,ws,fs,s,k2,p,l,g,f⟩:=h.ow.get k d e;have I:c≠b:=λz=>S (h.ow.ap j k b U aW);exact⟨c,ws,fs,s,k2,by rw[ax I];exact p,l,g,f⟩
def mN(rs:List A')(x:A')(B:Nat×List A')(fB:ag->M A')(ρ:ag):M (List A'):=(fB ρ).bind λb=>(asI b).bind λb=>jv rs B b x
def oB(rs:List A')(x:A')(fA fB:ag->M A')(ρ:ag):M (List A'):=(fA ρ).bind λa=>(asI a).bind λa=>(rowAt rs a).bind λB=>mN rs x B fB ρ
def sY(rs:List A')(fx fA fB:ag->M A')(ρ:ag):M (List A'):=(fx ρ).bind λx=>oB rs x fA fB ρ
section
variable{W:cy}{D:Ends}{fB:ag->M A'}
theorem CW(h:RepR K F0 H0 FB i a ys rs F H σ ρ)(B:∀e,sY rs fx fA fB ρ=.error e->W.p e F0 H0)(f:∀J,sY rs fx fA fB ρ=.ok J->∀F' H',RepR K F0 H0 FB i a ys J F' H' σ ρ->D.nx σ H'):
  r9 (tD K W c_ fx) (gSub (tOp (rIx K) (vi i) (tD K W c_ fA)) (tD K W c_ fB) Bx) D σ H:=by
 refine aJ h.r.repE h.r.st.fh (λe q=>W.mono (B e (by simp_all[sY])) h.r.st) λx A v F3 Z t u=>?_;have e1:sY rs fx fA fB ρ=oB rs x fA fB ρ:=by unfold sY;rw[A];rfl
 rw[e1]at B f;have g:=h.step t;refine⟨.ref a,h.sl,?_⟩
 refine aJ g.r.repE g.r.st.fh (λe q=>W.mono (B e (by simp_all[oB])) g.r.st) λL U P F4 X o y=>?_;have I:=g.step o;cases L with
 |int d=>
  have e2:oB rs x fA fB ρ=(rowAt rs d).bind λz=>mN rs x z fB ρ:=by unfold oB;rw[U];rfl
  rw[e2]at B f;cases m:ixN rs.length d with
  |none=>exact(W.ns (B .stuck (by simp_all[rowAt]))).elim|some j=>
   have l:=(u5 m).2.1;obtain⟨b,xs,es,s,g2,E,R,Q,r⟩:=I.ow.get j rs[j] am;have n:rs[j]?=a_ (.lst es):=by rw[<- g2];simp[l]
   have e3:rowAt rs d=.ok (j,es):=by unfold rowAt;rw[m];show(match rs[j]? with|some (.lst es)=>GY (j,es)|_=>Ie Err.stuck)=_;rw[n]
   rw[e3]at B f;refine .inl ⟨a,ys,d,.ref b,rfl,y,SqL.of I.hp,?_,?_⟩
   .unfold atI;rw[I.ow.len,m];exact s
   refine aJ I.r.repE I.r.st.fh (λe q=>W.mono (B e (by simp_all[mN])) I.r.st) λG S O N T Y w=>?_;have C:=I.step Y;cases G with
   |int c=>
    have e4:mN rs x (j,es) fB ρ=jv rs (j,es) c x:=by unfold mN;rw[S];rfl
    cases p:ixN es.length c with
    |none=>exact(W.ns (B .stuck (by simp_all[jv]))).elim|some k=>
     have e5:jv rs (j,es) c x=.ok (rs.set j (.lst (es.set k x))):=by unfold jv;rw[show((j,es):Nat×List A').2=es from rfl,p]
     refine⟨b,xs,c,k,rfl,w,Y.hh _ _ E,by rw[r.length];exact p,?_⟩
     exact f _ aW N _ (C.write s (ay.set (bf.mono (o.trans Y).ff u) k (r.mono Y.ff)))
   |_=>exact(W.ns (B .stuck (by show mN rs x (j,es) fB ρ=_;unfold mN;rw[S];rfl))).elim
 |_=>exact(W.ns (B .stuck (by unfold oB;rw[U];rfl))).elim
end
theorem repD_lst:∀ρ d,f2 Df fa fb ρ=.ok d->∃es,d=.lst es:=λρ d h=>by
 unfold f2 at h;cases e1:fa ρ with
 |error x=>simp_all|ok x=>
  rw[e1]at h;have h:((fb ρ).bind λy=>Df x y)=.ok d:=h;cases e2:fb ρ with
  |error y=>simp_all|ok y=>
   rw[e2]at h;have h:Df x y=.ok d:=h;unfold Df at h;split at h
   .split at h
    .grind
    .cases h
   .cases h
section
variable{κ:Type}[Jl κ]
def B0.Er{o:Option V}{u:Option h_}(r:B0 o u):o.isSome=u.isSome:=by
 cases o with
 |none=>cases u with
  |none=>rfl|some _=>exact(show False from r).elim
 |some _=>cases u with
  |none=>exact(show False from r).elim|some _=>rfl
theorem B0.getD{o:Option V}{u:Option h_}{d:V}{d':h_}(r:B0 o u)(B:B' d d'):B' (o.getD d) (u.getD d'):=by
 cases o with
 |none=>cases u with
  |none=>exact B|some _=>exact(show False from r).elim
 |some _=>cases u with
  |none=>exact(show False from r).elim|some _=>exact r
end
section
variable{s:k_}
def B5.big(I:B5 X B2 σ H s):G5<s.heap.objs.size:=by have h:G3<s.z:=(I.mod.glob.keeps I.bk).lt;exact Ox as h
end
def CO:List (TE×TE)->St->Hp->(List (V×V)->Hp->Prop)->Prop
 |[],_,H,Q=>Q [] H|(tk,tv)::r,σ,H,Q=>tk σ H λx H1=>tv σ H1 λy H2=>CO r σ H2 λps B=>Q ((x,y)::ps) B
abbrev VV:List (V×V)->List (h_×h_)->Prop:=I_ λp q=>B' p.1 q.1/\B' p.2 q.2
def PPs(X:Cx)(pos:NV)(I:List (Option G4))(B:List G4)(J:List (TE×TE)):Prop:=
 ∀(B2:Vp) (s:k_) (σ:St) (H:Hp) (Q:List (V×V)->Hp->Prop),B5 X B2 σ H s->CO J σ H Q ->
  r_ (y_ X.prog X.w) X.A (evalPairs (pairTrees I B X.env pos)) (λvs s'=>∃ps H',B5 X B2 σ H' s'/\VV ps vs/\Q ps H') X.xe s
def pps_nil:PPs X pos [] [] []:=λB2 s σ H Q I h=>pairTrees_nil_walk ⟨[],H,I,.nil,h⟩
def pps_cons{k v:G4}{ks:List (Option G4)}{vs:List G4}{tk:TE}{B:List (TE×TE)}(c:PE X k tk)(a:PE X v tv)(b:PPs X pos ks vs B):
  PPs X pos (a_ k::ks) (v::vs) ((tk,tv)::B):=λB2 s σ H Q I h=>
 pairTrees_cons_walk (D' (c B2 s σ H _ I h) λu s1 ⟨x,H1,f,U,q1⟩=>D' (a B2 s1 σ H1 _ f q1) λi s2 ⟨y,H2,e,S,q2⟩=>D' (b B2 s2 σ H2 _ e q2) λws j ⟨ps,g,d,J,Y⟩=>⟨(x,y)::ps,g,d,.cons ⟨U,S⟩ J,Y⟩)
structure M2(X:Cx)(o:G4)(m:Gf)(apos:NV)(e f:G4)(cpos:NV):Prop where
 base:HK o m X.env (FV o X.env)=FV o X.env
 few:((Hi cpos (l_ [e,f] X.env)).all (λx=> !x.1)&&(Lb cpos (JI [] X.env)).all (λx=>x.1.isSome)
  &&xF (([e,f]:List G4).length+([]:List Lw).length+(if ([]:List Lw).isEmpty then 0 else 1)<30))=d_
 line:(apos.endLine==cpos.line)=d_
 trees:Hi cpos (l_ [e,f] X.env)=[(c_,FV e X.env),(c_,FV f X.env)]
section
open PySem.W
end
def oK(O:a5)(f:ag->M A'):ag->M B6:=λρ=>(f (erase O ρ)).bind λ_=>.ok (.nx ρ)
@[simp]def e_dropB(O:a5)(f:ag->M A')(ρ:ag):oK O f ρ=(f (erase O ρ)).bind λ_=>.ok (.nx ρ):=id rfl
section
open PySem.W
end
structure Yd(P:GD)(w:Hw)(K:Pn)(mg:Ld)(base:Gu)(CX:CXT)(k:Nat)(x:Gf)(st:G6)(ps:List Gf)(sp:Sp)(f:iF)(fd:IG):Prop where
 d:Def K mg x st ps f fd
 o:jk P w K mg base CX k f fd ps sp
section
open PySem.W
end
section
open PySem.SetTable
end
section
open PySem
end
section
open PySem.W
end
noncomputable abbrev jr(P:GD)(w:Hw):Nx P w a0:=tupleKind (N_ P w)
theorem vg{P:GD}{w:Hw}:∀{k:a0} {us:a8},C' (k.map V.int) us->ItemsAre (N_ P w) k us
 |[],_,.nil=>.nil|i::k,_,.cons r t=>by
  obtain⟨t',rfl⟩:=(show ∃t,_=Lc i t from r)
  exact .cons (by simp[N_,Value.isInt]) (vg t)
def qr.at{xs:List gn}(z:qr h a xs ep)(e:∀o,h.get? a=a_ o->h'.get? a=a_ o):qr h' a xs ep:=
 let ⟨vs,r,J,I,B,o,es,h1,Y,U,S⟩:=z;⟨vs,r,J,I,B,o,es,e o h1,Y,U,S⟩
def pO{xs:List gn}(z:qr h a xs ep):gW H h a (iJ a xs ep):=
 ⟨z,let ⟨_,_,_,_,_,o,_,e,_,_,_⟩:=z;⟨o,e⟩,λ_ _ z e=>z.at e⟩
def n8(K:Pn)(H:Hp)(xs:List gn):Prop:=∀x∈xs,SqT K H x.2.1 (x.1.map V.int)
def n8.mono{xs:List gn}(z:n8 K H xs)(s:aX H H'):n8 K H' xs:=λx B=>s.tup (z x B)
theorem bA.key{K:Pn}{F:Hp}:∀{ks:List (a0×A')} {xs:List gn},bA K F ks xs->n8 K F xs
 |[],_,h,x,B=>by rw[show _=[]from h]at B;grind|(k,d)::ks,_,⟨b,v,r,e,t,q,z⟩,x,B=>by
  subst e;rcases t_.mp B with rfl|B
  .exact t
  .exact bA.key z x B
theorem bA.length{K:Pn}{F:Hp}:∀{ks:List (a0×A')} {xs:List gn},bA K F ks xs->xs.length=ks.length
 |[],_,h=>by rw[show _=[]from h];rfl|(k,d)::ks,_,⟨b,v,r,e,t,q,z⟩=>by rw[e,B_,B_,bA.length z]
noncomputable def qv(ks:List (a0×A'))(k:a0):Option A':=(ks.find? λp=>xF (p.1=k)).map (·.2)
noncomputable def uW(xs:List gn)(k:a0):Option V:=(xs.find? λp=>xF (p.1=k)).map (·.2.2)
def gU(ks:List (a0×A'))(k:a0)(d:A'):List (a0×A'):=if (qv ks k).isSome=d_ then ks.map (λp=>if p.1=k then(p.1,d)else p)else ks++[(k,d)]
def Cn(xs:List gn)(k:a0)(b:iF)(v:V):List gn:=if (uW xs k).isSome=d_ then xs.map (λx=>if x.1=k then(x.1,x.2.1,v)else x)else xs++[(k,b,v)]
theorem kN(xs:List gn)(k:a0)(b:iF)(v:V):(Cn xs k b v).length<=xs.length+1:=by
 unfold Cn;split
 .rw[oe];lia
 .rw[FJ];exact i_ _
theorem nR{k:a0}:∀{xs:List gn} {vs:List (a0×iF×h_)},I_ e8 xs vs->B0 (uW xs k) ((O7 vs k).map (·.2))
 |_,_,.nil=>J8|x::xs,q::vs,.cons h t=>by
  obtain⟨h1,J,I⟩:=h;by_cases e:x.1=k
  .have B:q.1=k:=h1.symm.trans e;simp only[uW,O7,HJ,e,B,decide_true,Iz];exact I
  .have B:¬q.1=k:=λz=>e (h1.trans z);have:=nR (k:=k) t;simpa only[uW,O7,HJ,e,B,OH] using this
theorem bA.at{K:Pn}{F:Hp}{k:a0}:∀{ks:List (a0×A')} {xs:List gn},bA K F ks xs->(qv ks k=e_/\uW xs k=e_)\/∃d v,qv ks k=a_ d/\uW xs k=a_ v/\bf K F d v
 |[],_,h=>by rw[show _=[]from h];exact .inl ⟨rfl,rfl⟩|(k',d)::ks,_,⟨b,v,r,e,t,q,z⟩=>by
  subst e;by_cases e:k'=k
  .exact .inr ⟨d,v,by simp[qv,e],by simp[uW,e],q⟩
  .have:=bA.at (k:=k) z;simpa only[qv,uW,HJ,e,OH] using this
theorem bA.isSome{K:Pn}{F:Hp}{k:a0}{ks:List (a0×A')}{xs:List gn}(z:bA K F ks xs):(uW xs k).isSome=(qv ks k).isSome:=by rcases z.at (k:=k)with⟨e1,e2⟩|⟨d,v,e1,e2,_⟩<;>rw[e1,e2]<;>rfl
theorem bA.repl{K:Pn}{F:Hp}{k:a0}{d:A'}{v:V}(q:bf K F d v):∀{ks:List (a0×A')} {xs:List gn},bA K F ks xs->bA K F (ks.map λp=>if p.1=k then(p.1,d)else p) (xs.map λx=>if x.1=k then(x.1,x.2.1,v)else x)
 |[],_,h=>by rw[show _=[]from h];rfl|(k',d')::ks,_,⟨b,B,r,e,t,I,z⟩=>by
  subst e;rw[pk,pk];by_cases e:k'=k
  .rw[p_ e,p_ e];exact⟨b,v,_,rfl,t,q,bA.repl q z⟩
  .rw[q_ e,q_ e];exact⟨b,B,_,rfl,t,I,bA.repl q z⟩
theorem bA.snoc{K:Pn}{F:Hp}{k:a0}{b:iF}{d:A'}{v:V}(t:SqT K F b (k.map V.int))(q:bf K F d v):∀{ks:List (a0×A')} {xs:List gn},bA K F ks xs->bA K F (ks++[(k,d)]) (xs++[(k,b,v)])
 |[],_,h=>by rw[show _=[]from h];exact⟨b,v,[],rfl,t,q,rfl⟩|(k',d')::ks,_,⟨b',B,r,e,t',I,z⟩=>by subst e;exact⟨b',B,_,rfl,t',I,bA.snoc t q z⟩
def bA.put{k:a0}{xs:List gn}(z:bA K F ks xs)(t:SqT K F b (k.map V.int))(q:bf K F d v):bA K F (gU ks k d) (Cn xs k b v):=by
 unfold gU Cn;rw[z.isSome];by_cases h:(qv ks k).isSome=d_
 .rw[p_ h,p_ h];exact z.repl q
 .rw[q_ h,q_ h];exact z.snoc t q
theorem vC{k:a0}{v:V}{u:h_}(B:B' v u):∀{xs:List gn} {vs:List (a0×iF×h_)},I_ e8 xs vs->I_ e8 (xs.map λx=>if x.1=k then(x.1,x.2.1,v)else x) (vs.map (putAt k u))
 |_,_,.nil=>.nil|x::xs,q::vs,.cons h t=>by
  rw[pk,pk];refine .cons ?_ (vC B t);obtain⟨h1,I,J⟩:=h;unfold putAt;by_cases e:x.1=k
  .rw[p_ e,p_ (h1.symm.trans e)];exact⟨h1,I,B⟩
  .rw[q_ e,q_ (λz=>e (h1.trans z))];exact⟨h1,I,J⟩
def jV{k:a0}(B:B' v u){xs:List gn}{vs:List (a0×iF×h_)}(r:I_ e8 xs vs):I_ e8 (Cn xs k b v) (MR vs k b u):=by
 have e:(uW xs k).isSome=(O7 vs k).isSome:=by rw[(nR r).Er,OX]
 unfold Cn MR;rw[e];by_cases h:(O7 vs k).isSome=d_
 .rw[p_ h,p_ h];exact vC B r
 .rw[q_ h,q_ h];exact Paired.snoc r ⟨rfl,rfl,B⟩
theorem zG:∀{xs:List gn} {vs:List (a0×iF×h_)},I_ e8 xs vs->∀q∈vs,∃x∈xs,x.1=q.1/\x.2.1=q.2.1
 |_,_,.nil,_,h=>nomatch h
 |x::xs,q::vs,.cons h t,y,B=>by
  rcases t_.mp B with rfl|B
  .exact⟨x,am,h.1,h.2.1⟩
  .obtain⟨I,h1,J⟩:=zG t y B;exact⟨I,by simp[h1],J⟩
section
variable{s:k_}{xs:List gn}{k:List Int}
def m9(I:B5 X B2 σ H s)(h:SqT X.K H b (k.map V.int)):(jr X.prog X.w).is s.heap k b:=by obtain⟨its,r,⟨o,h1,J,n,B⟩,_⟩:=I.tuple h;exact⟨o,its.toArray,n,h1,J,B,by simpa using vg r⟩
def AG(I:B5 X B2 σ H s)(e:H a=a_ (iJ a xs ep)):qr s.heap a xs ep:=(show qr s.heap a xs ep/\_ from I.hok a _ e).1
def pP(I:B5 X B2 σ H s)(e:H a=a_ (iJ a xs ep))(z:n8 X.K H xs):∃vs,I_ e8 xs vs/\(a==G5)=c_/\xs.length<=o_/\s.heap.DictOfH (jr X.prog X.w) a vs:=by
 obtain⟨vs,r,Y,U,S,o,es,h1,d,c,b⟩:=AG I e;refine⟨vs,r,Y,U,o,es,ep,h1,d,c,b,λq J=>?_,S⟩
 obtain⟨x,B,e1,e2⟩:=zG r q J;rw[<- e1,<- e2];exact m9 I (z x B)
def AF(I:B5 X B2 σ H s)(e:H a=a_ (iJ a xs ep)):s.TypeIs (.ref a) "dict"/\(∀b,w_ a=.ref b->∃B,s.heap.get? b=a_ B/\B.dict=e_):=by obtain⟨_,_,_,_,_,o,_,h1,J,_⟩:=AG I e;exact⟨⟨o,h1,J.1⟩,λc q=>by cases q;exact⟨o,h1,J.2.1⟩⟩
def oh{vs:List (a0×iF×h_)}(b:h.DictOfH (jr P w) a vs)(r:I_ e8 xs vs)(I:(a==G5)=c_)(B:xs.length<=o_):∃ep,qr h a xs ep:=by obtain⟨o,es,ep,h1,Y,U,S,_,J⟩:=b;exact⟨ep,vs,r,I,B,J,o,es,h1,Y,U,S⟩
end
def sPut(K:Pn)(td ty tv:TE):TS:=λD σ H=>tv σ H λv H1=>td σ H1 λx H2=>ty σ H2 λy B=>∃a b k xs ep,x=.ref a/\y=.ref b/\B a=a_ (iJ a xs ep)/\n8 K B xs/\SqT K B b (k.map V.int)/\xs.length<o_/\∀ep',D.nx σ (upd B a (iJ a (Cn xs k b v) ep'))
def tGet2(K:Pn)(td ty tx:TE):TE:=λσ H Q=>td σ H λx H1=>∃a xs ep,x=.ref a/\H1 a=a_ (iJ a xs ep)/\ty σ H1 λy H2=>tx σ H2 λz B=>∃b k,y=.ref b/\B a=a_ (iJ a xs ep)/\n8 K B xs/\SqT K B b (k.map V.int)/\Q ((uW xs k).getD z) B
def tNewK:TE:=λ_ H Q=>∀p,H p=e_->Q (.ref p) (upd H p (iJ p [] 0))
section
variable{o i f:G4}{ty tx:TE}
def wR(h:Gu)(B:G5<h.objs.size):qr (h.push {cls:=.type "dict",data:=.dict #[]}) h.objs.size [] 0:=
 ⟨[],.nil,Ka.mpr (HI (FO B)),Gr _,L4,_,#[],j_ _ rfl,⟨rfl,rfl,rfl⟩,rfl,rfl⟩
def pe_newK:PE X (.Dict [] [] pos) tNewK:=λB2 s σ H Q I h=>QZ ⟨.ref s.heap.objs.size,_,I.laid (a:=s.heap.objs.size) (o:=iJ s.heap.objs.size [] 0) (t':=s.toks) (λ_ _ q=>f_ _ q) (i_ _) (pO (wR s.heap I.big)),rfl,h _ (I.hok.fresh (i_ _))⟩
def B5.dic{s:k_}{xs ys:List gn}{t':Nat}(I:B5 X B2 σ H s)(e:H a=a_ (iJ a xs ep))(B:HD a s.heap h')(z:qr h' a ys ep'):B5 X B2 σ (upd H a (iJ a ys ep')) {s with heap:=h',toks:=t'}:=
 I.write (x:=a) (e:=a) (by rw[e];exact J8) (.inl rfl) (λc q J w=>(B.2 c J).trans w) (let ⟨_,_,_,_,_,o,_,w,_,_,_⟩:=z;⟨o,w⟩) (pO z)
theorem ps_put(m:X.A.units+1<GQ)(p:PE X o td)(hi:PE X i ty)(l:PE X value tv)(n:HM value (a_ (.Subscript o i pos')) pos.line X.env=GW c_):PS X (.Assign [.Subscript o i pos'] value pos) (sPut X.K td ty tv):=by
 intro B2 s σ H D I h;refine Pt (D' (l B2 s σ H _ I h) λr s1 B=>?_) n;obtain⟨v,H1,F,f,q1⟩:=B;refine D' (p B2 s1 σ H1 _ F q1) λu s2 B=>?_;obtain⟨x,H2,E,e,q2⟩:=B;refine D' (hi B2 s2 σ H2 _ E q2) λj G B=>?_;obtain⟨y,L,Y,d,a,b,k,xs,ep,ex,A,ea,q,t,K,g⟩:=B;subst ex A;cases(show u=w_ a from e);cases(show j=w_ b from d);obtain⟨vs,c,w,hz,C⟩:=pP Y ea q;have J:vs.length<=o_:=by rw[<- KU c];exact hz
 refine Qy (hsz:=J) (JX m) (m9 Y t) C λh' U S=>?_;obtain⟨ep',z⟩:=oh U (jV f c) w (by have:=kN xs k b v;lia);exact⟨σ,_,Y.dic ea S z,g ep'⟩
def pe_get2(p:X.A.units+1<GQ)(r:PE X o td)(A:PE X e ty)(w:PE X f tx)(m:M2 X o "get" apos e f cpos):PE X (.Call (.Attribute o "get" apos) [e,f] [] cpos) (tGet2 X.K td ty tx):=by
 intro B2 s σ H Q I h;refine wpAny_Call_method m.base m.few m.line JK NX PySem.F.type_dict_get (D' (r B2 s σ H _ I h) λu s1 q=>?_);obtain⟨x,H1,U,i,a,xs,ep,ex,ea,q1⟩:=q;subst ex;cases(show u=w_ a from i);obtain⟨c,Y⟩:=AF U ea;refine⟨c,Y,?_⟩
 rw[m.trees];refine Jc rfl (Ot (Mp (D' (A B2 s1 σ H1 _ U q1) λn s2 ⟨y,H2,E,g,q2⟩=>Mp (D' (w B2 s2 σ H2 _ E q2) λfv G ⟨z,F,J,d,b,k,D,B,v,t,l⟩=>Pg ?_))))
 subst D;cases(show n=w_ b from g);obtain⟨vs,j,C,hz,S⟩:=pP J B v;exact PB NX S.typeIs PySem.F.entry_dict_get (PySem.F.args_dict_get_3 _ _ _) (meetsH_dict_get_default (jr X.prog X.w) a b C fv) ⟨JX p,k,vs,m9 J t,S,_,F,J.tok _,(nR j).getD d,l⟩
end
def kZ:A'->M a0
 |.tup ds=>cF ds|_=>stk
noncomputable def lU(ρ:ag)(i:Nat):M (List (a0×A')):=match ρ[i]? with
 |some (a_ (.dic ks))=>.ok ks|_=>.error .stuck
def Br(i:Nat)(fk fv:ag->M A'):ag->M B6:=λρ=>(fv ρ).bind λd=>(lU ρ i).bind λks=>(fk ρ).bind λkd=>(kZ kd).bind λk=>if (eC d&&xF (ks.length<o_))=d_ then .ok (.nx (ρ.set i (a_ (.dic (gU ks k d)))))else .error .stuck
noncomputable def Et:A'->Bool
 |.dic _=>d_|_=>c_
def BW:A'->A'->A'->M A'
 |.dic ks,kd,x=>(kZ kd).bind λk=>.ok ((qv ks k).getD x)|_,_,_=>stk
def qQ(fd fk fx:ag->M A'):ag->M A':=λρ=>(fd ρ).bind λd=>if Et d=d_ then(fk ρ).bind λk=>(fx ρ).bind λx=>BW d k x else stk
def kc{e:Err}(h:kZ d=.error e):e=.stuck:=by
 cases d with
 |tup ds=>exact gC h|_=>cases h;rfl
theorem my{k:a0}(h:kZ d=.ok k)(q:bf K F d v):∃b,v=.ref b/\SqT K F b (k.map V.int):=by
 cases d with
 |tup ds=>
  obtain⟨b,xs,e,t,z⟩:=q;have:=dh z h
  simp_all
 |_=>cases h
section
variable{W:cy}{D:Ends}{fd:ag->M A'}{Q:VK}
def lT(h:lU ρ i=.ok ks):ρ[i]?=a_ (a_ (.dic ks)):=by
 unfold lU at h;split at h
 .cases h;assumption
 .cases h
def wU{e:Err}(h:lU ρ i=.error e):e=.stuck:=by
 unfold lU at h;split at h
 .cases h
 .cases h;rfl
def rs_putD(hi:i∈O)(t:tS K W ro F0 H0 OL O O (Br i fk fv) D σ H):sPut K (vi i) (tD K W c_ fk) (tD K W c_ fv) D σ H:=by
 obtain⟨FB,F,ρ,r,p⟩:=t;refine aJ r.ku r.gu (λe Y=>p.iB (r.freeze (O2:=[]) am).st (by unfold Br;rw[Y];rfl)) λd j v F1 H1 s1 q=>?_;have m:Br i fk fv ρ=(lU ρ i).bind λks=>(fk ρ).bind λkd=>(kZ kd).bind λk=>if (eC d&&xF (ks.length<o_))=d_ then .ok (.nx (ρ.set i (a_ (.dic (gU ks k d)))))else .error .stuck:=by unfold Br;rw[j];rfl
 rw[m]at p;cases J:lU ρ i with
 |error e=>have:=wU J;subst this;exact p.stuck (by rw[J];rfl)|ok ks=>
  rw[J]at p;have p:eu K W ro F0 H0 FB OL O D ((fk ρ).bind λkd=>(kZ kd).bind λk=>if (eC d&&xF (ks.length<o_))=d_ then .ok (.nx (ρ.set i (a_ (.dic (gU ks k d)))))else .error .stuck):=p;have I:=r.i8 s1;obtain⟨n,e2,a,xs,ev,⟨ep,l⟩,_,_,z⟩:=I.ow i _ (lT J) hi;subst ev;refine⟨.ref a,e2,?_⟩
  refine aJ I.ku I.gu (λe Y=>p.iB (I.freeze (O2:=[]) am).st (by rw[Y];rfl)) λkd h w o H2 s2 q2=>?_;rw[h]at p;have p:eu K W ro F0 H0 FB OL O D ((kZ kd).bind λk=>if (eC d&&xF (ks.length<o_))=d_ then .ok (.nx (ρ.set i (a_ (.dic (gU ks k d)))))else .error .stuck):=p;cases B:kZ kd with
  |error e=>have:=kc B;subst this;exact p.stuck (by rw[B];rfl)|ok k=>
   rw[B]at p;have p:eu K W ro F0 H0 FB OL O D (if (eC d&&xF (ks.length<o_))=d_ then .ok (.nx (ρ.set i (a_ (.dic (gU ks k d)))))else .error .stuck):=p;by_cases S:(eC d&&xF (ks.length<o_))=d_
   .rw[p_ S]at p;simp only[m_,FG]at S;obtain⟨b,rfl,t⟩:=my B q2;have U:=I.i8 s2;have g:bf K (minus F1 (l5 O [] σ ρ)) d v:=bf.flat (r.rK s1) S.1 q;have c:=z.mono (I.eJ s2);have f:=I.rK s2 b _ t;exact⟨a,b,k,xs,ep,rfl,rfl,s2.hh _ _ l,c.key.mono U.st.fh,U.st.fh.tup f,by rw[z.length];exact S.2,λep'=>p σ _ _ (U.zc hi (lT J) rfl e2 λf0 h0=>⟨a,_,rfl,⟨ep',av⟩,f0,h0,c.put f (g.mono (I.eJ s2))⟩)⟩
   .rw[q_ S]at p;exact p.stuck rfl
theorem rd_getD(h:tD K W c_ (qQ fd fk fx) σ H Q):tGet2 K (tD K W c_ fd) (tD K W c_ fk) (tD K W c_ fx) σ H Q:=by
 obtain⟨F,ρ,r,s,p⟩:=h;refine aJ r s (λe U=>p.err (by simp_all[qQ])) λd l x F1 H1 s1 q1=>?_;have n:qQ fd fk fx ρ=if Et d=d_ then(fk ρ).bind λk=>(fx ρ).bind λx=>BW d k x else stk:=by unfold qQ;rw[l];rfl
 rw[n]at p;cases d with
 |dic ks=>
  have p:aE K W c_ F H ((fk ρ).bind λk=>(fx ρ).bind λx=>BW (.dic ks) k x) Q:=p;obtain⟨a,xs,e,⟨ep,f⟩,z⟩:=q1;refine⟨a,xs,ep,e,s1.fh _ _ f,?_⟩
  refine aJ (r.mono s1.ff) s1.fh (λe U=>(p.step s1).err (by rw[U];rfl)) λkd j y u H2 s2 q2=>?_;rw[j]at p;have p:aE K W c_ F H ((fx ρ).bind λx=>BW (.dic ks) kd x) Q:=p;have B:=s1.trans s2;refine aJ (r.mono B.ff) B.fh (λe U=>(p.step B).err (by rw[U];rfl)) λc m w g o J i=>?_;rw[m]at p;have p:aE K W c_ F H ((kZ kd).bind λk=>.ok ((qv ks k).getD c)) Q:=p;cases I:kZ kd with
  |error e=>rw[I]at p;have:=kc I;subst this;exact aE.stuck p|ok k=>
   rw[I]at p;obtain⟨b,rfl,t⟩:=my I q2;have S:=B.trans J;have Y:=(z.mono s2.ff).mono J.ff;refine⟨b,k,rfl,J.hh _ _ (s2.hh _ _ (s1.fh _ _ f)),Y.key.mono J.fh,J.fh.tup (J.ff.tup t),p _ g o S ?_⟩
   show bf K g _ _;rcases Y.at (k:=k)with⟨e1,e2⟩|⟨d,v,e1,e2,q⟩
   .rw[e1,e2];exact i
   simp_all
 |_=>exact aE.stuck p
end
section
variable{W:cy}{o:G4}{fd:ag->M A'}{p:NV}
def EU:DE K W d_ X (.Dict [] [] pos) (fC (.dic [])):=pe_newK.imp λσ H Q h=>by obtain⟨F,ρ,r,s,q⟩:=h;exact λa B=>q (.ref a) F _ (B4.grow s B) ⟨a,[],rfl,⟨0,av⟩,s.free B,B,rfl⟩
theorem yH(b:X.A.units+64<GQ)(I:DE K W c_ X o fd)(U:DE K W c_ X ek fk)(S:DE K W c_ X ex fx)(a: ~~~(X.K=K))(Y: ~~~(HK o "get" X.env (FV o X.env)=FV o X.env))(hw: ~~~(((Hi cpos (l_ [ek,ex] X.env)).all (λx=> !x.1)&&(Lb cpos (JI [] X.env)).all (λx=>x.1.isSome)&&xF (([ek,ex]:List G4).length+([]:List Lw).length+(if ([]:List Lw).isEmpty then 0 else 1)<30))=d_))(J: ~~~((apos.endLine==cpos.line)=d_))(B: ~~~(Hi cpos (l_ [ek,ex] X.env)=[(c_,FV ek X.env),(c_,FV ex X.env)])):DE K W c_ X (.Call (.Attribute o "get" apos) [ek,ex] [] cpos) (qQ fd fk fx):=by subst a;exact(pe_get2 ad I U S ⟨Y,hw,J,B⟩).imp λ_ _ _=>rd_getD
theorem ds_putD(d:X.A.units+64<GQ)(U:DE K W c_ X ek fk)(Y:DE K W c_ X ev fv)(S:(i∈O)⁻¹)(b: ~~~(X.N[i]?=a_ x))(I:autoParam (Vis X.env.scope x) Jq5)(a:((x==("__debug__":Gf))=c_)⁻¹)(B:((x==("__classdict__":Gf))=c_)⁻¹)(c: ~~~(X.K=K))(J: ~~~(HM ev (a_ (.Subscript (.Name x p) ek pos')) pos.line X.env=GW c_)):DS K W ro X OL O O (.Assign [.Subscript (.Name x p) ek pos'] ev pos) (Br i fk fv):=λF0 H0=>by subst c;exact PS.imp (ps_put ad (pv i b I a B) U Y J) λ_ _ _=>rs_putD S
end
def tDisp1(K:Pn)(ty tv:TE):TE:=λσ H Q=>∀p,H p=e_->CO [(ty,tv)] σ (upd H p (iJ p [] 0)) λps H2=>∃b k v,ps=[(.ref b,v)]/\H2 p=a_ (iJ p [] 0)/\SqT K H2 b (k.map V.int)/\∀ep,Q (.ref p) (upd H2 p (iJ p [(k,b,v)] ep))
section
variable{f:G4}{ty:TE}
def pe_disp1(j:X.A.units<GQ)(n:PE X e ty)(i:PE X f tv):PE X (.Dict [a_ e] [f] pos) (tDisp1 X.K ty tv):=by
 intro B2 s σ H Q I q;have m:=I.hok.fresh (i_ s.z);have w:=I.laid (a:=s.z) (o:=iJ s.z [] 0) (h':=s.heap.push {cls:=.type "dict",data:=.dict #[]}) (t':=s.toks) (λ_ _ q=>f_ _ q) (i_ _) (pO (wR s.heap I.big));refine wpAny_Dict_any rfl rfl am am (D' (pps_cons n i pps_nil B2 _ σ _ _ w (q _ m)) λws s2 l=>?_);obtain⟨ps,H2,U,B,b,k,v,ep,e2,t,q2⟩:=l;subst ep;cases B with
 |@cons x y xs ys r rs=>cases rs;obtain⟨Y,A⟩:=y;obtain⟨d,c⟩:=r;cases(show Y=w_ b from d);obtain⟨vs,g,p,hz,u⟩:=pP U e2 (λx h=>nomatch h);cases g;unfold storeAll;rw[LH];refine b_ (b_ (Qz (hsz:=Gr _) (knd:=jr X.prog X.w) j (m9 U t) u λh' S J=>g_ ?_));show r_ _ _ (Pq [] PUnit.unit _) _ _ _;rw[L5];obtain⟨ep',z⟩:=oh S (jV (xs:=[]) c .nil) p (C_ (kN _ _ _ _) (show 1<=o_ by decide));exact g_ ⟨.ref s.z,_,U.dic e2 J z,rfl,q2 ep'⟩
end
def mkD1(kd d:A'):M A':=(kZ kd).bind λk=>.ok (.dic [(k,d)])
theorem de_disp1{W:cy}{f:G4}(n:X.A.units+64<GQ)(I:DE K W c_ X e fa)(j:DE K W c_ X f fb)(l: ~~~(X.K=K)):DE K W d_ X (.Dict [a_ e] [f] pos) (f2 mkD1 fa fb):=by
 subst l;exact(pe_disp1 ad I j).imp λ_ H _=>by
   intro h;obtain⟨F,ρ,r,s,p⟩:=h;intro a I;have J:B4 F H F (upd H a (iJ a [] 0)):=B4.grow s I;refine aJ r J.fh (λe U=>(p.step J).err (by unfold f2;rw[U];rfl)) λkd g x F1 H1 s1 q1=>?_;have S:=J.trans s1;refine aJ (r.mono s1.ff) s1.fh (λe U=>(p.step S).err (by unfold f2;rw[g];show(fb ρ).bind _=_;rw[U];rfl)) λd i v Y H2 s2 q2=>?_;have e:f2 mkD1 fa fb ρ=(kZ kd).bind λk=>.ok (.dic [(k,d)]):=by unfold f2;rw[g];show(fb ρ).bind _=_;rw[i];rfl
   rw[e]at p;cases B:kZ kd with
   |error e=>rw[B]at p;have:=kc B;subst this;exact aE.stuck p|ok k=>
    rw[B]at p;obtain⟨b,rfl,t⟩:=my B q1;have m:H2 a=a_ (iJ a [] 0):=s2.hh _ _ (s1.hh _ _ av);have f2:Y a=e_:=by
     cases e2:Y a with
     |none=>rfl|some o=>
      rcases s2.nw a o e2 with z|z
      .rcases s1.nw a o z with z|z
       .rw[s.free I]at z;cases z
       .rw[av]at z;cases z
      .rw[s1.hh _ _ av]at z;cases z
    refine⟨b,k,v,rfl,m,s2.fh.tup (s2.ff.tup t),λep=>p (.ref a) Y _ ⟨s1.ff.trans s2.ff,λc o z=>?_,λc o z=>?_,λc o z=>?_⟩ ⟨a,_,rfl,⟨ep,av⟩,f2,I,b,v,[],rfl,s2.ff.tup t,q2,rfl⟩⟩
    .rw[ax (aC z I)];exact s2.hh _ _ (s1.hh _ _ (by rw[ax (aC z I)];exact z))
    .rw[ax (aC z f2)];exact s2.fh _ _ z
    .exact(J.trans (s1.trans s2)).nw c o z
def qp(h:Gu)(d:iF)(es:Array HA)(ep:Nat):Prop:=∃o,h.get? d=a_ o/\o.ExactDict/\o.data=.dict es ep
def qp.ty{s:k_}{d:iF}(z:qp s.heap d es ep):s.TypeIs (.ref d) "dict":=let ⟨o,h,c,_⟩:=z;⟨o,h,c.1⟩
def qp.at{d:iF}(z:qp h d es ep)(e:∀o,h.get? d=a_ o->h'.get? d=a_ o):qp h' d es ep:=let ⟨o,h,c⟩:=z;⟨o,e o h,c⟩
section
variable{s:k_}{d v q:iF}
def BJ(d:iF)(es:Array HA)(ep:Nat)(B:(d==G5)=c_):MeetsIn prog w (Builtin.«dict.values» ⟨[.ref d],[]⟩) (λ_ R s=>qp s.heap d es ep/\R (.ok (.ret (.ref s.heap.objs.size))) {s with heap:=s.heap.push {cls:=.type "dict_values",data:=.fields #[.ref d]}}):=
 .of_wp λA R s ⟨z,h⟩=>by
  have sh:Gz d=GW ():=by unfold Gz;rw[B];rfl
  refine b_ ?_;unfold Lo;refine b_ (HS z.ty ?_);show r_ _ _ (GW d) _ _ s;refine g_ ?_;show r_ _ _ (Gz d >>= _) _ _ s;rw[sh];exact b_ (g_ (b_ (Ge (g_ ⟨_,rfl,h⟩))))
def BK(d:iF)(es:Array HA)(ep:Nat)(B:(d==G5)=c_):MeetsIn prog w (Builtin.«dict.items» ⟨[.ref d],[]⟩) (λ_ R s=>qp s.heap d es ep/\R (.ok (.ret (.ref s.heap.objs.size))) {s with heap:=s.heap.push {cls:=.type "dict_items",data:=.fields #[.ref d]}}):=
 .of_wp λA R s ⟨z,h⟩=>by
  have sh:Gz d=GW ():=by unfold Gz;rw[B];rfl
  unfold Builtin.«dict.items»;refine b_ ?_;unfold Lo;refine b_ (HS z.ty ?_);show r_ _ _ (GW d) _ _ s;refine g_ ?_;show r_ _ _ (Gz d >>= _) _ _ s;rw[sh];exact b_ (g_ (b_ (Ge (g_ ⟨_,rfl,h⟩))))
theorem BQ{Q:Mq}(B:s.heap.IsValuesView v d)(z:qp s.heap d es ep)(k:Q (.ref s.heap.objs.size) {s with heap:=s.heap.push {cls:=.type "dict_valueiterator",data:=.fields #[.ref d,.int 0 0,.int es.size 0,.int ep 0]}}):r_ (y_ prog w) A (Px (.ref v)) Q E s:=by obtain⟨ov,U,Y,S⟩:=id B;obtain⟨od,J,a,I⟩:=z;refine Nr B.typeIs MT (FT MT B.typeIs PySem.F.entry_dict_values_iter ?_ (PySem.F.args_dict_values_iter_1 _));unfold Builtin.«dict_values.__iter__»;refine b_ (g_ (b_ ?_));unfold LW;refine b_ (He U S (x:=.ref d) rfl (g_ (b_ ?_)));unfold Ln;refine b_ (Gm J I (b_ (Hv J I ?_)));simp only[show GB "dict_valueiterator"=c_ by decide,Gk,HF];exact Ge (g_ ⟨_,rfl,"dict_valueiterator",_,⟨_,j_ _ rfl,rfl⟩,Hf.lookup,by simp_all[IE]⟩)
theorem BR{Q:Mq}(B:s.heap.IsItemsView v d)(z:qp s.heap d es ep)(k:Q (.ref s.heap.objs.size) {s with heap:=s.heap.push {cls:=.type "dict_itemiterator",data:=.fields #[.none,.bool c_,.ref d,.int 0 0,.int es.size 0,.int ep 0,.none,.none]}}):r_ (y_ prog w) A (Px (.ref v)) Q E s:=by obtain⟨ov,U,Y,S⟩:=id B;obtain⟨od,J,a,I⟩:=z;refine Nr B.typeIs M4 (FT M4 B.typeIs PySem.F.entry_dict_items_iter ?_ (PySem.F.args_dict_items_iter_1 _));unfold Builtin.«dict_items.__iter__»;refine b_ (g_ (b_ ?_));unfold LW;refine b_ (He U S (x:=.ref d) rfl (g_ (b_ ?_)));unfold Ln;refine b_ (Gm J I (b_ (Hv J I ?_)));simp only[show GB "dict_itemiterator"=d_ by decide,Jw];refine Ge (g_ ⟨_,rfl,"dict_itemiterator",_,⟨_,j_ _ rfl,rfl⟩,Hj.lookup,by simp_all[IE,KR]⟩) ?_;simp[sizeOk,KR,GJ,FJ,B_,JO,IS]
theorem BG{e:HA}(B:s.heap.IsValIter q d i es.size ep)(z:qp s.heap d es ep)(a:es[i]?=a_ e)(k:∀h',h'.IsValIter q d (i+1) es.size ep->HD q s.heap h'->Q (a_ e.val) {s with heap:=h'}):r_ (y_ prog w) A (JG (.ref q)) Q E s:=by
 obtain⟨b,q1,q2,I⟩:=id B;obtain⟨od,Y,c,U⟩:=z;unfold JG;refine b_ (IZ (Gx (name:=Im "__next__") B.typeIs Hf (FT Hf B.typeIs LJ ?_ (LD _))));refine b_ (g_ (b_ (b_ (b_ (Jo B.typeIs (g_ ?_))))));refine b_ (Kd q1 I ?_);simp only[show GB "dict_valueiterator"=c_ by decide,Gk,HF];show r_ _ _ (if (w_ d==FY)=d_ then _ else _) _ _ s;rw[q_ (show ¬((w_ d==FY)=d_)from Gj)];refine b_ (g_ (b_ (Gm Y U ?_)));rw[q_ am];refine b_ (g_ (b_ (Hv Y U ?_)));rw[q_ am];refine g_ ?_;simp only[show ¬((i:Int)<0)from by lia,HF,HZ,a];refine b_ (b_ (Jo B.typeIs (g_ (b_ (Ml B.typeIs ?_)))));show r_ _ _ (LQ (.ref q) 1 (IE ((i:Int)+1)) >>= _) _ _ s;refine b_ (JF q1 I am ?_);have S:(s.heap.update q (Mw (·.setIfInBounds 1 (IE ((i:Int)+1))))).IsValIter q d (i+1) es.size ep:=⟨_,Iu _ q1 (LS (Jg I _)),(M3 ..).trans q2,by simp_all[Jg,IE]⟩
 have J:J5 {s with heap:=s.heap.update q (Mw (·.setIfInBounds 1 (IE ((i:Int)+1))))} (.ref q) "dict_valueiterator":=S.typeIs;refine b_ (G8 (b_ (Ml J (b_ (Ml J ?_)))));show r_ _ _ (GW e.val) _ _ _;exact g_ (g_ ⟨_,rfl,g_ (k _ S (G1 ..))⟩)
theorem EH(hh:A.handled=e_)(B:s.heap.IsValIter q d i es.size ep)(z:qp s.heap d es ep)(U:es.size<=i)(k:∀h',G_ q s.heap h'->Q e_ {s with heap:=h'}):r_ (y_ prog w) A (JG (.ref q)) Q E s:=by
 obtain⟨Y,q1,q2,I⟩:=id B;obtain⟨od,S,c,J⟩:=z;unfold JG;refine b_ (IZ (Gx (name:=Im "__next__") B.typeIs Hf (FT Hf B.typeIs LJ ?_ (LD _))));refine b_ (g_ (b_ (b_ (b_ (Jo B.typeIs (g_ ?_))))));refine b_ (Kd q1 I ?_);simp only[show GB "dict_valueiterator"=c_ by decide,Gk,HF];show r_ _ _ (if (w_ d==FY)=d_ then _ else _) _ _ s;rw[q_ (show ¬((w_ d==FY)=d_)from Gj)];refine b_ (g_ (b_ (Gm S J ?_)));rw[q_ am];refine b_ (g_ (b_ (Hv S J ?_)));rw[q_ am];refine g_ ?_;simp only[show ¬((i:Int)<0)from by lia,HF,HZ,Ih U];refine b_ (b_ (Jo B.typeIs (g_ ?_)));show r_ _ _ (LQ (.ref q) 0 .none >>= _) _ _ s;refine b_ (JF q1 I am ?_);show r_ _ _ (Oj (.type "StopIteration") [] >>= _) _ _ _;refine b_ ?_;simp only[Oj,P4];refine b_ (Ge (b_ (m:=MF _ _) (NU (a:=FY) (by rfl) (Ge ?_ (by size_fits)))) (by size_fits));simp only[P1];refine b_ (M_ ?_);first|rw[show A.in1.handled=e_ from hh]|rw[hh]
 refine b_ (g_ (NT ?_));refine b_ (HV (T:="StopIteration") (b:=d_) ⟨_,j_ _ rfl,rfl⟩ ME ?_);exact g_ (k _ (((G1 ..).extBut.push _).push _))
theorem BH{e:HA}{ok:h_}(c:Ks s.heap q d i es.size ep ok ov)(z:qp s.heap d es ep)(P:es[i]?=a_ e)(k:∀h',IsItemIterOut h' q d (i+1) es.size ep e.key e.val s.heap.objs.size->h'.get? s.heap.objs.size=a_ {cls:=.type "tuple",data:=.seq #[e.key,e.val]}->h'.objs.size=s.heap.objs.size+1->(∀b o,b≠q->s.heap.get? b=a_ o->h'.get? b=a_ o)->Q (a_ (.ref s.heap.objs.size)) {s with heap:=h'}):r_ (y_ prog w) A (JG (.ref q)) Q E s:=by
 obtain⟨I,g,h,tk,a⟩:=s;obtain⟨od,K,T,H⟩:=z;have ty:J5 ⟨I,g,h,tk,a⟩ (.ref q) "dict_itemiterator":=⟨_,c,rfl⟩
 unfold JG;refine b_ (IZ (Gx (name:=Im "__next__") ty Hj (FT Hj ty LU ?_ (LN _))));refine b_ (g_ (b_ (b_ (b_ (Jf ty (g_ ?_))))));refine b_ (Kd c rfl ?_);simp only[show GB "dict_itemiterator"=d_ by decide,Jw];show r_ _ _ (if (w_ d==FY)=d_ then _ else _) _ _ _;rw[q_ (show ¬((w_ d==FY)=d_)from Gj)];refine b_ (g_ (b_ (Gm K H ?_)));rw[q_ am];refine b_ (g_ (b_ (Hv K H ?_)));rw[q_ am];refine g_ ?_;simp only[show ¬((i:Int)<0)from by lia,HF,HZ,P];refine b_ (b_ (Jf ty (g_ (b_ (L_ ty ?_)))));show r_ _ _ (LQ (.ref q) 3 (IE ((i:Int)+1)) >>= _) _ _ _;refine b_ (IC c am λJ t p=>?_);have p:HD q I J:=p;have t:Ks J q d (i+1) es.size ep ok ov:=by
  have e:((i+1:Nat):Int)=(i:Int)+1:=ad
  unfold Ks;rw[e];simpa[IE] using t
 have S:J5 ⟨J,g,h,tk,a⟩ (.ref q) "dict_itemiterator":=⟨_,t,rfl⟩
 refine b_ (G8 (b_ (L_ S (b_ (L_ S ?_)))));show r_ _ _ (K4 (.ref q) 6 e.key e.val) _ _ ⟨J,g,h,tk,a⟩;unfold K4;refine b_ (Of ?_);have O:q<I.objs.size:=s_ c;have u:J.objs.size=I.objs.size:=p.1;obtain⟨g2,U⟩:∃g2,g2=J.push {cls:=.type "tuple",data:=.seq #[e.key,e.val]}:=⟨_,rfl⟩
 have r:Ks g2 q d (i+1) es.size ep ok ov:=by rw[U];exact f_ _ t
 have N:g2.get? I.objs.size=a_ {cls:=.type "tuple",data:=.seq #[e.key,e.val]}:=by rw[U,<- u];exact j_ _ rfl
 have L:g2.objs.size=I.objs.size+1:=by rw[U,G9,u]
 have k2:∀b o,b≠q->I.get? b=a_ o->g2.get? b=a_ o:=λb o B e=>by rw[U];exact f_ _ (p.extBut b o B e)
 rw[u];show r_ _ _ (KQ (.ref q) >>= _) _ _ ⟨J.push {cls:=.type "tuple",data:=.seq #[e.key,e.val]},g,h,tk,a⟩;rw[<- U];refine b_ ?_;unfold KQ;refine b_ (He r rfl (x:=.none) rfl (g_ ?_));simp only[Jw];refine b_ (He r rfl (x:=ok) rfl (b_ (He r rfl (x:=ov) rfl (b_ (IC r am λC G n=>?_)))));have n:HD q g2 C:=n;have G:Ks C q d (i+1) es.size ep e.key ov:=G;refine b_ (IC G am λy F m=>?_);have m:HD q C y:=m;have F:Ks y q d (i+1) es.size ep e.key e.val:=F;refine b_ (IC F am λv D l=>?_);have l:HD q y v:=l;have D:IsItemIterOut v q d (i+1) es.size ep e.key e.val I.objs.size:=D;refine b_ (IC D am λf R j=>?_);have j:HD q v f:=j;have Y:∀b o,b≠q->g2.get? b=a_ o->f.get? b=a_ o:=λb o B e=>j.extBut b o B (l.extBut b o B (m.extBut b o B (n.extBut b o B e)));exact b_ (MB (g_ (g_ ⟨_,rfl,g_ (k f R (Y _ _ (HG O) N) (by show f.objs.size=_;rw[j.1,l.1,m.1,n.1,L]) λb o B e=>Y b o B (k2 b o B e))⟩)))
theorem EI{ok:h_}(hh:A.handled=e_)(B:Ks s.heap q d i es.size ep ok ov)(z:qp s.heap d es ep)(S:es.size<=i)(k:∀h',G_ q s.heap h'->Q e_ {s with heap:=h'}):r_ (y_ prog w) A (JG (.ref q)) Q E s:=by
 obtain⟨od,J,U,I⟩:=z;have ty:s.TypeIs (.ref q) "dict_itemiterator":=⟨_,B,rfl⟩
 unfold JG;refine b_ (IZ (Gx (name:=Im "__next__") ty Hj (FT Hj ty LU ?_ (LN _))));refine b_ (g_ (b_ (b_ (b_ (Jf ty (g_ ?_))))));refine b_ (Kd B rfl ?_);simp only[show GB "dict_itemiterator"=d_ by decide,Jw];show r_ _ _ (if (w_ d==FY)=d_ then _ else _) _ _ s;rw[q_ (show ¬((w_ d==FY)=d_)from Gj)];refine b_ (g_ (b_ (Gm J I ?_)));rw[q_ am];refine b_ (g_ (b_ (Hv J I ?_)));rw[q_ am];refine g_ ?_;simp only[show ¬((i:Int)<0)from by lia,HF,HZ,Ih S];refine b_ (b_ (Jf ty (g_ ?_)));show r_ _ _ (LQ (.ref q) 2 .none >>= _) _ _ s;refine b_ (JF B rfl am ?_);show r_ _ _ (Oj (.type "StopIteration") [] >>= _) _ _ _;refine b_ ?_;simp only[Oj,P4];refine b_ (Ge (b_ (m:=MF _ _) (NU (a:=FY) (by rfl) (Ge ?_ (by size_fits)))) (by size_fits));simp only[P1];refine b_ (M_ ?_);first|rw[show A.in1.handled=e_ from hh]|rw[hh]
 refine b_ (g_ (NT ?_));refine b_ (HV (T:="StopIteration") (b:=d_) ⟨_,j_ _ rfl,rfl⟩ ME ?_);exact g_ (k _ (((G1 ..).extBut.push _).push _))
end
def VwO(T:String)(p d:iF):HO:=.ext λh=>∃o,h.get? p=a_ o/\o.cls=.type T/\o.data=.fields #[.ref d]
def vw_obj{T:String}{p d:iF}(z:∃o,h.get? p=a_ o/\o.cls=.type T/\o.data=.fields #[.ref d]):gW H h p (VwO T p d):=⟨z,let ⟨o,e,_⟩:=z;⟨o,e⟩,λ_ _ ⟨o,e,r⟩ k=>⟨o,k o e,r⟩⟩
def tView(T:String)(td:TE):TE:=λσ H Q=>td σ H λx H1=>∃a xs ep,x=.ref a/\H1 a=a_ (iJ a xs ep)/\∀p,H1 p=e_->Q (.ref p) (upd H1 p (VwO T p a))
def rSumV:a7->Hp->VK->Prop:=λvs H Q=>∃(p a:iF) (xs:List gn) (ep:Nat) (is:a0),vs=[.ref p]/\H p=a_ (VwO "dict_values" p a)/\H a=a_ (iJ a xs ep)/\xs.map (·.2.2)=is.map V.int/\Q (.int is.sum) H
theorem xW:∀{xs:List gn} {vs:List (a0×iF×h_)} {i:Nat} {e:HA},I_ e8 xs vs->(vs.map Cm)[i]?=a_ e->∃x,xs[i]?=a_ x/\e.key=.ref x.2.1/\B' x.2.2 e.val
 |_,_,_,_,.nil,h=>by simp at h|x::_,q::_,0,e,.cons r _,h=>by simp only[pk,HX,GF]at h;subst h;exact⟨x,rfl,by rw[r.2.1];rfl,r.2.2⟩|_::_,_::_,i+1,e,.cons _ t,h=>by
  obtain⟨x,h1,B⟩:=xW (i:=i) (e:=e) t aV
  simp_all
theorem pre_sum:∀is:a0,preSum (λi=>(is[i]?).getD 0) is.length=is.sum:=by
 have key:∀(is:a0) (n:Nat),n<=is.length->preSum (λi=>(is[i]?).getD 0) n=(is.take n).sum:=by
  intro is n
  induction n with
  |zero=>intro _;rfl|succ n B=>intro h;have I:n<is.length:=h;rw[preSum,B (M7 h),NI,List.sum_append];simp[v_ I]
 simp_all
theorem Be(J:A.handled=e_)(q d:iF)(B:d≠q)(es:Array HA)(ep:Nat):Walks prog w A q [q,d] [q] es.size (λi v=>∃e,es[i]?=a_ e/\v=e.val) (λi h=>h.IsValIter q d i es.size ep/\qp h d es ep) where
 sub:=λb S=>by simp_all
 frame:=λ_ _ _ st k=>⟨let ⟨o,e,r⟩:=st.1;⟨o,k q am o e,r⟩,st.2.at λo e=>k d am o e⟩
 item:=λi s Q E hi st k=>BG st.1 st.2 (e:=es[i]) am λh' z b=>k _ h' s.toks ⟨_,am,rfl⟩ ⟨z,st.2.at λo e=>(b.2 d B).trans e⟩ λc o I e=>b.extBut c o (λz=>I (by simp[z])) e
 done:=λs Q E st k=>EH J st.1 st.2 (i_ _) λh' b=>k h' s.toks λc o I e=>b c o (λz=>I (by simp[z])) e
 self:=λ_ _ _ _ st k=>wpAny_pyIter_valiter st.1 k
section
variable{s:k_}{xs:List gn}{o:G4}
def oM(I:B5 X B2 σ H s)(e:H a=a_ (iJ a xs ep)):∃(vs:List (a0×iF×h_)) (es:Array HA),I_ e8 xs vs/\(a==G5)=c_/\xs.length<=o_/\qp s.heap a es ep/\es.toList=vs.map Cm/\es.size=xs.length:=by obtain⟨vs,r,S,J,b,u,es,h1,Y,U,B⟩:=AG I e;exact⟨vs,es,r,S,J,⟨u,h1,Y,U⟩,B,by rw[<- Gb,B,oe,KU r]⟩
def pe_vals(b:PE X o td)(e: ~~~(HK o "values" X.env (FV o X.env)=FV o X.env))(c: ~~~((apos.endLine==cpos.line)=d_)):PE X (.Call (.Attribute o "values" apos) [] [] cpos) (tView "dict_values" td):=by
 intro B2 s σ H Q I h;refine LP e c (D' (b B2 s σ H _ I h) λv s1 Y=>?_);obtain⟨x,H1,B,U,a,xs,ep,ex,ea,q1⟩:=Y;subst ex;cases(show v=w_ a from U);obtain⟨J,S⟩:=AF B ea;obtain⟨vs,es,_,d,_,z,_⟩:=oM B ea;exact⟨"dict","dict.values",JK,Ny,PySem.F.type_dict_values,J,S,Jc rfl (Ma (PB Ny J PySem.F.entry_dict_values (PySem.F.args_dict_values_1 _) (BJ a es ep d)
  ⟨z,.ref s1.z,_,B.laid (a:=s1.z) (o:=VwO "dict_values" s1.z a) (t':=s1.toks) (λ_ _ q=>f_ _ q) (i_ _) (vw_obj ⟨_,j_ _ rfl,rfl,rfl⟩),rfl,q1 _ (B.hok.fresh (i_ _))⟩))⟩
def pe_itms(b:PE X o td)(e: ~~~(HK o "items" X.env (FV o X.env)=FV o X.env))(c: ~~~((apos.endLine==cpos.line)=d_)):PE X (.Call (.Attribute o "items" apos) [] [] cpos) (tView "dict_items" td):=by
 intro B2 s σ H Q I h;refine LP e c (D' (b B2 s σ H _ I h) λv s1 Y=>?_);obtain⟨x,H1,B,U,a,xs,ep,ex,ea,q1⟩:=Y;subst ex;cases(show v=w_ a from U);obtain⟨J,S⟩:=AF B ea;obtain⟨vs,es,_,d,_,z,_⟩:=oM B ea;exact⟨"dict","dict.items",JK,NC,PySem.F.type_dict_items,J,S,Jc rfl (Ma (PB NC J PySem.F.entry_dict_items (PySem.F.args_dict_items_1 _) (BK a es ep d)
  ⟨z,.ref s1.z,_,B.laid (a:=s1.z) (o:=VwO "dict_items" s1.z a) (t':=s1.toks) (λ_ _ q=>f_ _ q) (i_ _) (vw_obj ⟨_,j_ _ rfl,rfl,rfl⟩),rfl,q1 _ (B.hok.fresh (i_ _))⟩))⟩
theorem Fb(y:X.calm=d_):eD X (.builtin "sum") rSumV:=by
 intro B2 s σ H vs us Q I r h;obtain⟨p,a,xs,ep,is,rfl,m,C,hi,q⟩:=h;obtain⟨u,rfl,c⟩:=r.one;cases(show u=w_ p from c);obtain⟨vs,es,d,G,hz,z,w,hsz⟩:=oM I C;have l:s.heap.IsValuesView p a:=(show(∃o,s.heap.get? p=a_ o/\o.cls=.type "dict_values"/\o.data=.fields #[.ref a])/\_ from I.hok p _ m).1;have k:a<s.z:=let ⟨o,e,_⟩:=z;s_ e;have n:is.length=es.size:=by rw[hsz,<- oe (f:=λx:gn=>x.2.2),hi,oe]
 refine QS (BQ l z ⟨_,_,_,_,_,_,_,λi=>(is[i]?).getD 0,rfl,(Be (A:=X.A.in1) (I.ok.hd y) s.z a (FO k) es ep).toS,⟨⟨_,j_ _ rfl,rfl,rfl⟩,z.at λo e=>f_ _ e⟩,λb U=>?_,λi v D=>?_,λs' t' B=>?_⟩)
 .show b<(s.heap.push _).objs.size;rw[G9]
  grind
 .obtain⟨e,h1,rfl⟩:=D;obtain⟨x,F,_,Y⟩:=xW (i:=i) (e:=e) d (by rw[<- w];simpa using h1);have S:(xs.map (·.2.2))[i]?=a_ x.2.2:=by rw[FL,F];rfl
  rw[hi,FL]at S;cases E:is[i]? with
  |none=>simp_all|some j=>
   rw[E]at S;have e4:V.int j=x.2.2:=by simpa using S
   rw[<- e4]at Y;obtain⟨t,e⟩:=(show ∃t,e.val=Lc j t from Y)
   simp_all
 .obtain⟨h',g',d',J,g⟩:=s';have e1:=B.gens;have e2:=B.drawn;have e3:=B.os;have e4:=B.heap;simp only at e1 e2 e3;subst e1 e2 e3;refine⟨.int _,H,I.kept (t':=J) λb o e=>e4 b o (λU=>?_) (f_ _ e),⟨t',rfl⟩,?_⟩
  .have:b=s.z:=by simpa using U
   exact FR (s_ e) aW
  .rw[<- n,pre_sum];exact q
end
def ItK(a:iF)(xs:List gn)(ep:Nat):It:=
 ⟨λi H=>H a=a_ (iJ a xs ep)/\i<xs.length,λi H v H'=>∃T x,H T=e_/\v=.ref T/\xs[i]?=a_ x/\H'=upd H T (.tup [.ref x.2.1,x.2.2]),λi H=>H a=a_ (iJ a xs ep)/\xs.length<=i⟩
theorem CK(a q:iF)(xs:List gn)(ep:Nat):Turn P w K (.Tuple elts k pos) (ItK a xs ep) [q] q (λi h=>∃ok ov,Ks h q a i xs.length ep ok ov) where
 mem:=by simp
 obj:=λi h st b Y=>by grind
 keep:=λi h h' st p=>let ⟨ok,ov,e⟩:=st;⟨ok,ov,p q am _ e⟩
 item:=by
  intro X g hw j n i B2 s σ H E I U st f;subst g hw j;obtain⟨ok,ov,B⟩:=st;obtain⟨h0,hi⟩:=f;obtain⟨vs,es,l,y,hz,z,m,hsz⟩:=oM I h0;rw[<- hsz]at B;have f0:=(U q am).1;have d:i<es.size:=ad
  obtain⟨x,r,v,t⟩:=xW (i:=i) (e:=es[i]) l (by rw[<- m];simp[d]);refine BH B z (e:=es[i]) am λh' out A u keep=>⟨_,rfl,wpAny_letOwnedTupleGo_items out λC S J=>?_⟩
  have c:s.z≠q:=HG (s_ B);have D:B5 X B2 σ (upd H s.z (.tup [.ref x.2.1,x.2.2])) {s with heap:=C,toks:=s.toks}:=I.sV (ch:=[q]) U (λb o Y e=>(J.2 b aW).trans (keep b o aW e)) (i_ _) ⟨am,[es[i].key,es[i].val],.cons v (.cons t .nil),⟨_,(J.2 _ c).trans A,rfl,0,rfl⟩⟩;refine⟨.ref s.z,_,D,rfl,⟨_,x,I.hok.fresh (i_ _),rfl,r,rfl⟩,⟨_,_,by rw[hsz]at S;exact S⟩,λb Y=>?_⟩
  grind[ax]
 done:=by intro X g hw j n i B2 s σ H E I U st f;subst g hw j;obtain⟨ok,ov,B⟩:=st;obtain⟨h0,hi⟩:=f;obtain⟨vs,es,l,y,hz,z,m,hsz⟩:=oM I h0;rw[<- hsz]at B;obtain⟨f0,f1,f2,f3,f4,f5⟩:=U q am;exact EI (I.ok.hd n) B z ad λh' eb=>⟨rfl,I.turned (t':=s.toks) (λb o Y e=>eb b o Y e) f0 f1 f3 f4 f5⟩
 self:=λ_ _ _ _ _ ⟨ok,ov,e⟩ h=>PySem.W.kcp_self e h
noncomputable def u6:A'->M (List A')
 |.dic ks=>.ok (ks.map λp=>.tup [.tup (p.1.map .int),p.2])|_=>.error .stuck
def jL(fd:ag->M A'):ag->M (List A'):=λρ=>(fd ρ).bind u6
def sumVD:A'->M A'
 |.dic ks=>(cF (ks.map (·.2))).bind λis=>.ok (.int is.sum)|_=>stk
theorem bA.vals{K:Pn}{F:Hp}:∀{ks:List (a0×A')} {xs:List gn},bA K F ks xs->ay K F (ks.map (·.2)) (xs.map (·.2.2))
 |[],_,h=>by rw[show _=[]from h];rfl|(k,d)::ks,_,⟨b,v,r,e,t,q,z⟩=>by subst e;exact⟨v,_,rfl,q,bA.vals z⟩
theorem bA.get{K:Pn}{F:Hp}:∀{ks:List (a0×A')} {xs:List gn} {i:Nat} {y:gn},bA K F ks xs->xs[i]?=a_ y->∃k d,ks[i]?=a_ (k,d)/\SqT K F y.2.1 (k.map V.int)/\bf K F d y.2.2
 |[],_,_,_,h,e=>by rw[show _=[]from h]at e;simp at e|(k,d)::ks,_,0,y,⟨b,v,r,e,t,q,z⟩,h=>by subst e;simp only[HX,GF]at h;subst h;exact⟨k,d,rfl,t,q⟩|(k,d)::ks,_,i+1,y,⟨b,v,r,e,t,q,z⟩,h=>by subst e;simp only[GV]at h ⊢;exact bA.get z h
theorem Eo{xs:List gn}(I:F a=a_ (iJ a xs ep))(z:bA K F ks xs):nM K F (ItK a xs ep) (ks.map λp=>.tup [.tup (p.1.map .int),p.2]) where
 go:=λi F' H' s1 s2 hi=>⟨s2 _ _ (s1 _ _ I),by rw[z.length];simp_all⟩
 yl:=λi F' H' x H2 d s1 s2 B J=>by
  obtain⟨T,y,U,ev,S,c⟩:=J;subst ev c;obtain⟨k,f,h1,b,Y⟩:=z.get S;rw[FL,h1]at B;have e:d=.tup [.tup (k.map .int),f]:=by simpa using B.symm
  subst e;have sl:B4 F' H' (upd F' T (.tup [.ref y.2.1,y.2.2])) _:=B4.lay s2 U;exact⟨_,sl,T,_,rfl,SqT.of av,.ref y.2.1,[y.2.2],rfl,⟨y.2.1,_,rfl,sl.ff.tup (s1.tup b),iE k⟩,y.2.2,[],rfl,(Y.mono s1).mono sl.ff,rfl⟩
 st:=λF' H' s1 s2=>⟨s2 _ _ (s1 _ _ I),by simp[z.length]⟩
def iItms(td:TE):TI:=λσ H R=>tView "dict_items" td σ H λx H2=>∃p a xs ep,x=.ref p/\H2 p=a_ (VwO "dict_items" p a)/\H2 a=a_ (iJ a xs ep)/\R (ItK a xs ep) H2
section
variable{W:cy}{o:G4}{fd:ag->M A'}{p:NV}
theorem di_items(j:DE K W c_ X o fd)(Y: ~~~(HK o "items" X.env (FV o X.env)=FV o X.env))(i: ~~~((apos.endLine==cpos.line)=d_)):DI K W X (.Tuple elts k q) (.Call (.Attribute o "items" apos) [] [] cpos) (jL fd):=by
 refine PI.imp (t:=iItms (tD K W c_ fd)) ?_ λ_ _ _=>by
   intro h;obtain⟨F,ρ,r,s,p⟩:=h;refine aJ r s (λe l=>?_) λd c x F1 H1 s1 q1=>?_
   .simp_all[jL]
   .have z:jL fd ρ=u6 d:=by unfold jL;rw[c];rfl
    rw[z]at p;cases d with
    |dic ks=>obtain⟨a,xs,e,⟨ep,B⟩,f⟩:=q1;exact⟨a,xs,ep,e,s1.fh _ _ B,λv S=>⟨v,a,xs,ep,rfl,av,by rw[ax (aC (s1.fh _ _ B) S)];exact s1.fh _ _ B,p _ F1 _ (s1.trans (B4.grow s1.fh S)) (Eo B f)⟩⟩
    |_=>exact(W.ns p).elim
 intro B2 s σ H R I h;refine D' (pe_itms j Y i B2 s σ H _ I h) λv s1 U=>?_;obtain⟨y,H1,J,g,p,a,xs,ep,ex,U,B,q1⟩:=U;subst ex;cases(show v=w_ p from g);obtain⟨vs,es,m,c,hz,z,l,hsz⟩:=oM J B;have S:s1.heap.IsItemsView p a:=(show(∃o,s1.heap.get? p=a_ o/\o.cls=.type "dict_items"/\o.data=.fields #[.ref a])/\_ from J.hok p _ U).1;refine BR S z ⟨s1.z,[s1.z],_,_,H1,rfl,J.kept (t':=s1.toks) λb o e=>f_ _ e,CK a _ xs ep,⟨_,_,by rw[<- hsz];exact j_ _ rfl⟩,λb Y=>?_,q1⟩;have e:b=s1.z:=by simpa using Y
 subst e;exact J.fpOk (i_ _) (J.hok.fresh (i_ _))
theorem de_sumV(i:X.calm=d_)(b:X.mg "sum"=e_)(c:DE K W c_ X o fd)(j: ~~~(HK o "values" X.env (FV o X.env)=FV o X.env))(Y: ~~~((apos.endLine==cpos.line)=d_))(f: ~~~(Gl X "sum"))(B: ~~~(l_ [.Call (.Attribute o "values" apos) [] [] cpos] X.env=(c_,FV (.Call (.Attribute o "values" apos) [] [] cpos) X.env)::l_ [] X.env))(I: ~~~((Hi pos (l_ [] X.env)).any (·.1)=c_)):
  DE K W c_ X (.Call (.Name "sum" p) [.Call (.Attribute o "values" apos) [] [] cpos] [] pos) (f1 sumVD fd):=
 (lE (Fb i) f b boot_sum (bT (pe_vals c j Y) eG B) as as B I).imp λ_ H Q=>by
   intro h;obtain⟨F,ρ,r,s,p⟩:=h;refine aJ r s (λe k=>p.err (by simp_all[f1])) λd g x F1 H1 s1 q1=>?_;have z:f1 sumVD fd ρ=sumVD d:=by unfold f1;rw[g];rfl
   rw[z]at p;cases d with
   |dic ks=>
    obtain⟨a,xs,e,⟨ep,J⟩,U⟩:=q1;have p:aE K W c_ F H ((cF (ks.map (·.2))).bind λis=>.ok (.int is.sum)) Q:=p;cases hi:cF (ks.map (·.2))with
    |error e=>rw[hi]at p;have:=gC hi;subst this;exact aE.stuck p|ok is=>rw[hi]at p;exact⟨a,xs,ep,e,s1.fh _ _ J,λv S=>⟨v,a,xs,ep,is,rfl,av,by rw[ax (aC (s1.fh _ _ J) S)];exact s1.fh _ _ J,dh U.vals hi,p (.int is.sum) F1 _ (s1.trans (B4.grow s1.fh S)) rfl⟩⟩
   |_=>exact aE.stuck p
end
section
variable{fd:ag->M A'}
@[simp]def e_getD:qQ fd fk fx ρ=(fd ρ).bind λd=>if Et d=d_ then(fk ρ).bind λk=>(fx ρ).bind λx=>BW d k x else stk:=id rfl
@[simp]def e_getDD(ks:List (a0×A'))(kd x:A'):BW (.dic ks) kd x=(kZ kd).bind λk=>.ok ((qv ks k).getD x):=id rfl
@[simp]def e_itemsK:jL fd ρ=(fd ρ).bind u6:=id rfl
@[simp]def e_itemsKD(ks:List (a0×A')):u6 (.dic ks)=.ok (ks.map λp=>.tup [.tup (p.1.map .int),p.2]):=id rfl
end
section
open PySem
def DV:typeLookup (.type "list") "keys"=GW e_:=by rfl
theorem no_keys{B:Gu}{g:Array GenState}{d:Drawn}{tk:Nat}{J:OsState}{xs:Array h_}(U:B.get? a=a_ {cls:=.type "list",dict:=e_,data:=.seq xs n,slots:=sl})(Y:A.handled=e_)(k:∀h' I,(∀b S,B.get? b=a_ S->h'.get? b=a_ S)->Q e_ ⟨h',g,d,I,J⟩):r_ (y_ prog w) A (getAttr? (.ref a) "keys") Q E ⟨B,g,d,tk,J⟩:=by
 have ty:∀t,(⟨B,g,d,t,J⟩:k_).TypeIs (.ref a) "list":=λ_=>⟨_,U,rfl⟩
 have q1:=sub_AttributeError;have q2:=Lu.lookup;have i:=Lu.bind (.ref a);have h:=am_list_getattr_none;unfold getAttr? getAttrBy? getAttrBy
 repeat (any_goals (first|assumption|exact ty _|((with_reducible show r_ _ _ (Kz (Qq "list.__getattribute__") _ _) _ _ _);refine Nf Lu (ty _) am_entry_list_getattribute (F.args_list_getattribute_2 _ _) (meets_getattribute_miss_list a xs n sl "keys" _ DV as (by size_fits)) ⟨U,Y,λh' t' e z=>?_⟩)|wp_step))
 obtain⟨f,c,j⟩:=z.there;show r_ _ _ (QD _ _ _ _ _ _ _) _ _ _;unfold QD
 repeat (any_goals (first|assumption|wp_step))
 exact k _ _ z.keeps
variable{R:PD->k_->Prop}{κ:Type}[Jl κ]{knd:Nx prog w κ}
def rM:entryFor table "dict.update.loop"=a_ Builtin.«dict.update.loop»:=entryFor_of_tree (by rfl)
def k8:plainId "dict.update.loop"=d_:=by decide +kernel
noncomputable abbrev CRow:=a0×iF×h_
noncomputable def stR(B:List (κ×iF×h_))(x:κ×iF×h_):List (κ×iF×h_):=MR B x.1 x.2.1 x.2.2
abbrev FF(h0 h:Gu):Prop:=∀c o,h0.get? c=a_ o->h.get? c=a_ o
def KKeep(knd:Nx prog w κ):Prop:=∀{h0 h:Gu} {k:κ} {b:iF},knd.is h0 k b->FF h0 h->knd.is h k b
def vf:KKeep (jr prog w):=λ{h0 h k b} z e=>by
 obtain⟨o,its,n,h1,B⟩:=(show IsTupleKey (N_ prog w) h0 k b from z)
 exact⟨o,its,n,e _ _ h1,B⟩
def AA{D:iF}{rows:List (κ×iF×h_)}(z:h.DictOfH knd D rows)(e:∀o,h.get? D=a_ o->h'.get? D=a_ o)(k:∀x∈rows,knd.is h' x.1 x.2.1):h'.DictOfH knd D rows:=
 let ⟨o,es,ep,h1,S,J,I,_,B⟩:=z;⟨o,es,ep,e o h1,S,J,I,k,B⟩
theorem CY{L:List (κ×iF×h_)}:∀(M B:List (κ×iF×h_)),(∀x∈M,x∈L)->(∀x∈B,∃y∈L,x.1=y.1/\x.2.1=y.2.1)->∀x∈M.foldl stR B,∃y∈L,x.1=y.1/\x.2.1=y.2.1
 |[],B,_,h=>h|m::M,B,J,h=>CY M (stR B m) (λx I=>J x (by simp[I])) λx I=>by
  rcases PyProof.Rows.mem_storedH I with⟨y,S,e1,e2⟩|⟨e1,e2⟩
  .obtain⟨z,hz,f1,f2⟩:=h y S;exact⟨z,hz,e1.trans f1,e2.trans f2⟩
  .exact⟨m,J m am,e1,e2⟩
theorem CZ:∀(M B:List (κ×iF×h_)),(M.foldl stR B).length<=B.length+M.length
 |[],B=>i_ _|m::M,B=>by
  have h1:=CZ M (stR B m)
  grind[stR,MR,FH,B_]
theorem dic_loop{h0:Gu}{D I:iF}(hh:A.handled=e_)(F:KKeep knd)(W:knd.room A.in1)(Z:h0.IsList l items)(hD:h0.get? D=e_)(hI:h0.get? I=e_)(a:D≠I)(L:List (κ×iF×h_))(E:items.size=L.length)(hsz:L.length<=o_)(k:∀(j:Nat) (x:κ×iF×h_),L[j]?=a_ x->∃T,items[j]?=a_ (.ref T)/\NY h0 T #[.ref x.2.1,x.2.2]/\knd.is h0 x.1 x.2.1):
  ∀(m i:Nat) (s:k_),L.length-i=m->i<=L.length->s.heap.IsListIter I l i->FF h0 s.heap->s.heap.DictOfH knd D ((L.take i).foldl stR []) ->
   (∀h' U,FF h0 h'->h'.DictOfH knd D (L.foldl stR [])->R (.ok (.ret .none)) {s with heap:=h',toks:=U})->KY (y_ prog w) A (.builtin "dict.update.loop" ⟨[.ref D,.ref I,IE i,.none],[]⟩) R s:=by
 have J:∀{h:Gu},FF h0 h->∀(i:Nat),∀x∈(L.take i).foldl stR [],knd.is h x.1 x.2.1:=λ{h} S i x Y=>by obtain⟨y,Q,e1,e2⟩:=CY (L:=L) (L.take i) [] (λx Y=>IJ Y) (λx Y=>nomatch Y) x Y;obtain⟨j,hj⟩:=Jq.mp Q;obtain⟨T,_,_,z⟩:=k j y hj;rw[e1,e2];exact F z S
 have f:∀{h:Gu},FF h0 h->h.IsList l items:=λ{h} S=>let ⟨o,e,r⟩:=Z;⟨o,S _ _ e,r⟩;intro m
 induction m with
 |zero=>
  intro i s X hi st S p b;obtain rfl:i=L.length:=ad
  refine JS rM ?_;rw[IB k8 _];refine b_ (PQ (show A.in1.handled=e_ from hh) st (f S) aW λh' eb=>?_);have g:FF h0 h':=λc o e=>eb c o (λz=>by simp_all) (S c o e);show r_ _ _ (MV D [] >>= _) _ _ _;rw[J9]at p;refine b_ (g_ (g_ (b h' s.toks g (AA p (λo e=>eb D o a e) λx Y=>?_))));exact J g L.length x (by rw[J9];exact Y)
 |succ m P=>
  intro i s X hi st S p b;have t:i<L.length:=ad
  obtain⟨T,e1,G,O⟩:=k i L[i] am;refine JS rM ?_;rw[IB k8 _];refine b_ (Pr st (f S) e1 λh1 st1 sb=>?_);have B:FF h0 h1:=λc o e=>sb.extBut c o (λz=>by simp_all) (S c o e);have v:h1.DictOfH knd D ((L.take i).foldl stR []):=AA p (λo e=>sb.extBut D o a e) (J B i);obtain⟨N,C,K,n,H⟩:=G;have hT:J5 {s with heap:=h1} (.ref T) "tuple":=⟨N,B _ _ C,K⟩
  refine b_ (G8 ?_);refine b_ (wpAny_tryCatch ?_);unfold Builtin.Dict.pairItems;refine b_ (L8 hT ?_);show r_ _ _ (if (Hz "tuple"==Hz "list"||Hz "tuple"==Hz "tuple")=d_ then _ else _) _ _ _;rw[p_ as];refine b_ (H_ (B _ _ C) H (g_ ?_));show r_ _ _ (II [.ref L[i].2.1,L[i].2.2] (dictSet D (.ref L[i].2.1) L[i].2.2)) _ _ _;have u:((L.take i).foldl stR []).length<=o_:=by have:=CZ (L.take i) [];rw[JO,GC]at this;lia
  refine G8 (Qz (hsz:=u) (knd:=knd) W (F O B) v λh2 dd2 d=>?_);have q:FF h0 h2:=λc o e=>(d.2 c (λz=>by simp_all)).trans (B c o e);have ei:IE ((i:Int)+1)=IE ((i+1:Nat):Int):=by congr 1
  have et:(L.take (i+1)).foldl stR []=MR ((L.take i).foldl stR []) L[i].1 L[i].2.1 L[i].2.2:=by rw[NI,K2];simp[t,stR]
  refine g_ ⟨Na k8 _,?_⟩;show KY _ _ (.builtin "dict.update.loop" ⟨[.ref D,.ref I,IE ((i:Int)+1),.none],[]⟩) _ _;rw[ei];refine P (i+1) _ ad ad ?_ q aW λh' U k' d'=>b h' U k' d';exact st1.at λo e=>(d.2 I a.symm).trans e
end
section
open PySem
variable{s:k_}{κ:Type}[Jl κ]{knd:Nx prog w κ}
def sM{f:Nat}{Q:Mq}(r:A.handled=e_)(C:KKeep knd)(z:knd.room A.in1.in1)(i:s.heap.get? l=a_ {cls:=.type "list",dict:=e_,data:=.seq items f,slots:=sl})(L:List (κ×iF×h_))(Y:items.size=L.length)(hsz:L.length<=o_)(m:∀(j:Nat) (x:κ×iF×h_),L[j]?=a_ x->∃T,items[j]?=a_ (.ref T)/\NY s.heap T #[.ref x.2.1,x.2.2]/\knd.is s.heap x.1 x.2.1)(k:∀h' I,FF s.heap h'->h'.DictOfH knd s.heap.objs.size (L.foldl stR [])->Q (.ref s.heap.objs.size) {s with heap:=h',toks:=I}):r_ (y_ prog w) A (Kz (.type "dict") [.ref l]) Q E s:=by
 obtain⟨B,g,d,tk,b⟩:=s;refine callType_codes (Q₁:=λu t=>u=.ref B.objs.size/\t=⟨B.push {cls:=.type "dict",data:=.dict #[]},g,d,tk,b⟩) QF (PF _) Qt (Q1 _ ⟨rfl,rfl⟩) ?_;rintro u t ⟨rfl,rfl⟩;have n:(B.push {cls:=.type "dict",data:=.dict #[]}).DictOfH knd B.objs.size []:=⟨_,#[],0,j_ _ rfl,⟨rfl,rfl,rfl⟩,rfl,rfl,λx U=>(nomatch U),L4⟩
 have ty:(⟨B.push {cls:=.type "dict",data:=.dict #[]},g,d,tk,b⟩:k_).TypeIs (.ref B.objs.size) "dict":=n.typeIs;have a:(B.push {cls:=.type "dict",data:=.dict #[]}).get? l=a_ {cls:=.type "list",dict:=e_,data:=.seq items f,slots:=sl}:=f_ _ i;have tl:(⟨B.push {cls:=.type "dict",data:=.dict #[]},g,d,tk,b⟩:k_).TypeIs (.ref l) "list":=⟨_,a,rfl⟩
 refine⟨ty,P9 _ _,?_⟩;unfold Builtin.«dict.__init__»;refine b_ ?_;unfold MU;refine b_ (HS ty ?_);show r_ _ _ (GW (B.objs.size,[w_ l])) _ _ _;refine g_ ?_;show r_ _ _ (JA "dict.__init__" B.objs.size (.ref l) [] .none) _ _ _;unfold JA;refine b_ (L8 tl ?_);rw[p_ as];refine b_ (no_keys a (show A.in1.in1.handled=e_ from r) λh1 h S=>?_);rw[p_ (show(e_:Option h_).isNone=d_ from rfl)];have q:FF B h1:=λc o e=>S c o (f_ _ e);have D:B.get? B.objs.size=e_:=LZ (i_ _);have v:h1.DictOfH knd B.objs.size []:=AA n (λo e=>S _ o e) λx U=>(nomatch U)
 have p:B.objs.size<h1.objs.size:=let ⟨o,_,_,e,_⟩:=v;s_ e;have J:B.IsList l items:=⟨_,i,rfl,f,rfl⟩
 have y:h1.IsList l items:=⟨_,q _ _ i,rfl,f,rfl⟩
 refine b_ (ID (b_ (Kb (s:=⟨h1,g,d,h,b⟩) y (g_ ⟨Na k8 _,?_⟩))));refine dic_loop (A:=A.in1) (h0:=B) (l:=l) (items:=items) (show A.in1.handled=e_ from r) C z J D (LZ (GN p)) (FO p) L Y hsz m (L.length-0) 0 _ rfl (Gr _) ⟨_,j_ _ rfl,rfl,rfl⟩ (λc o e=>f_ _ (q c o e)) (AA v (λo e=>f_ _ e) λx U=>(nomatch U)) λh' I k' G=>⟨rfl,k h' I k' G⟩
end
def dJ:List A'->M (List (a0×A'))
 |[]=>.ok []|.tup [kd,d]::ds=>(kZ kd).bind λk=>(dJ ds).bind λr=>.ok ((k,d)::r)|_=>stk
def As(ps:List (a0×A')):List (a0×A'):=ps.foldl (λB p=>gU B p.1 p.2) []
def C4:List A'->M A'
 |[.lst ds]=>(dJ ds).bind λps=>.ok (.dic (As ps))|_=>stk
theorem oR:∀{ds:List A'} {e:Err},dJ ds=.error e->e=.stuck
 |[],_,h=>by cases h|d::ds,e,h=>by
  unfold dJ at h;split at h
  .lia
  .rename_i kd d' J I;cases B:kZ kd with
   |error z=>rw[B]at h;have:=kc B;simp_all|ok k=>
    rw[B]at h;cases S:dJ J with
    |error z=>rw[S]at h;cases I;have:=oR S;simp_all|ok r=>simp_all
  .cases h;rfl
theorem vE:∀{xs I:List gn} {L B:List CRow},I_ e8 xs L->I_ e8 I B->I_ e8 (xs.foldl (λa x=>Cn a x.1 x.2.1 x.2.2) I) (L.foldl stR B)
 |_,_,_,_,.nil,h=>h|x::xs,I,q::L,B,.cons r t,h=>by
  rw[FH,FH];refine vE t ?_;obtain⟨U,S,J⟩:=r;have:=jV (k:=x.1) (b:=x.2.1) J h
  simp_all[stR]
theorem bA.fold{K:Pn}{F:Hp}:∀{ps I:List (a0×A')} {xs B:List gn},bA K F ps xs->bA K F I B->bA K F (ps.foldl (λa p=>gU a p.1 p.2) I) (xs.foldl (λa x=>Cn a x.1 x.2.1 x.2.2) B)
 |[],_,_,_,h,z=>by rw[show _=[]from h];exact z|(k,d)::ps,_,_,_,⟨b,v,r,e,t,q,y⟩,z=>by subst e;rw[FH,FH];exact bA.fold y (z.put t q)
theorem wG:∀(xs B:List gn),(xs.foldl (λa x=>Cn a x.1 x.2.1 x.2.2) B).length<=B.length+xs.length
 |[],B=>i_ _|x::xs,B=>by
  have h1:=wG xs (Cn B x.1 x.2.1 x.2.2);have I:=kN B x.1 x.2.1 x.2.2
  grind
section
variable{W:cy}
theorem pairs_at{B2:Vp}{σ:St}{F H:Hp}{s:k_}(I:B5 X B2 σ H s)(a:aX F H):∀{ds:List A'} {ys:a7} {its:a8} {ps:List (a0×A')},ay X.K F ds ys->C' ys its->dJ ds=.ok ps ->
  ∃(L:List CRow) (xs:List gn),I_ e8 xs L/\L.length=its.length/\bA X.K F ps xs/\∀(j:Nat) (x:CRow),L[j]?=a_ x->∃T,its[j]?=a_ (.ref T)/\NY s.heap T #[.ref x.2.1,x.2.2]/\(jr X.prog X.w).is s.heap x.1 x.2.1
 |[],_,_,_,h,r,e=>by rw[show _=[]from h]at r;cases r;cases e;exact⟨[],[],.nil,rfl,rfl,λj x h=>by simp at h⟩|d::ds,_,_,ps,⟨v,vs,ev,q,t⟩,r,e=>by
  subst ev;cases r with
  |cons D rs=>
   rename_i u us;unfold dJ at e;split at e
   .simp_all
   .rename_i kd d' O Y;cases Y;cases m:kZ kd with
    |error z=>simp_all|ok k=>
     rw[m]at e;cases l:dJ ds with
     |error z=>simp_all|ok U=>
      rw[l]at e;have e:GY ((k,d')::U)=(GY ps:M _):=e;cases e;obtain⟨L,xs,h1,G,E,Q⟩:=pairs_at I a t rs l;obtain⟨T,ws,N,A,P,n,K,q1,g,B,c,q2,f⟩:=q;subst N K c;have f:B=[]:=f;subst f;cases(show u=w_ T from D);obtain⟨b,rfl,tb⟩:=my m q1;obtain⟨y,C,w,_⟩:=I.tuple (a.tup A);obtain⟨p,o,rfl,S,J⟩:=C.two;cases(show p=w_ b from S);refine⟨(k,b,o)::L,(k,b,g)::xs,.cons ⟨rfl,rfl,J⟩ h1,by simp[G],⟨b,g,xs,rfl,tb,q2,E⟩,λj x i=>?_⟩
      cases j with
      |zero=>simp only[HX,GF]at i;subst i;exact⟨T,rfl,w,m9 I (a.tup tb)⟩|succ j=>simp_all
   .cases e
theorem c_dictL(y:X.calm=d_)(O:X.A.units+64<GQ)(C: ~~~(X.K=K)):jU K W d_ X (.type "dict") C4:=by
 subst C;intro B2 s σ H xs us Q I v h;obtain⟨F,d,x,s1,e,q,p⟩:=gw (λds=>by match ds with|[d]=>simp|[]=>exact .inr rfl|a::b::c=>exact .inr (by cases a<;>rfl)) h;subst e;obtain⟨u,rfl,m⟩:=v.one;cases d with
 |lst ds=>
  obtain⟨a,ys,e1,t,r⟩:=q;subst e1;cases m;have p':aE X.K W d_ F H ((dJ ds).bind λps=>.ok (.dic (As ps))) Q:=p;cases U:dJ ds with
  |error z=>rw[U]at p';have:=oR U;subst this;exact aE.stuck p'|ok ps=>
   rw[U]at p';obtain⟨its,k,pl,hz⟩:=I.list (s1.lst t);obtain⟨o,n,E,S,B,J⟩:=id pl;obtain⟨oc,od,f,osl⟩:=o;cases(show oc=.type "list" from S);cases(show od=e_ from B);cases(show f=.seq its.toArray n from J);obtain⟨L,rows,h1,l,D,P⟩:=pairs_at I s1 r k U;have A:L.length<=o_:=by rw[l,<- k.length];exact hz
   refine sM (I.ok.hd y) vf (JX ad) E L (by simp[l]) A (λj x N=>by simp_all) λh' Y w G=>?_;have g:(rows.foldl (λa x=>Cn a x.1 x.2.1 x.2.2) []).length<=o_:=by have:=wG rows [];have:=KU h1;simp at *;lia
   obtain⟨ep,z⟩:=oh G (vE h1 .nil) (Ka.mpr (HI (FO I.big))) g;have i:=I.hok.fresh (i_ s.z);exact⟨.ref s.z,_,I.laid (a:=s.z) (o:=iJ s.z _ ep) (t':=Y) (λb o e=>w b o e) (i_ _) (pO z),rfl,p' (.ref s.z) F _ (B4.grow s1 i) ⟨s.z,_,rfl,⟨ep,av⟩,s1.free i,i,D.fold rfl⟩⟩
 |_=>exact aE.stuck p
def mK:Ir "dict"=a_ (.type "dict"):=by rfl
end
section
variable{s:k_}{d q:iF}
theorem rP{Q:Mq}(J:(d==G5)=c_)(z:qp s.heap d es ep)(k:Q (.ref s.heap.objs.size) {s with heap:=s.heap.push {cls:=.type "dict_keyiterator",data:=.fields #[.ref d,.int 0 0,.int es.size 0,.int ep 0]}}):r_ (y_ prog w) A (Px (.ref d)) Q E s:=by
 have ty:=z.ty;have sh:Gz d=GW ():=by unfold Gz;rw[J];rfl
 obtain⟨od,I,S,B⟩:=z;refine Nr ty Lf (FT Lf ty PySem.F.entry_dict_iter ?_ (PySem.F.args_dict_iter_1 _));unfold Builtin.«dict.__iter__»;refine b_ ?_;unfold Builtin.Dict.dictSlotNone;refine b_ (HS ty ?_);show r_ _ _ (GW (w_ d)) _ _ s;refine g_ ?_;show r_ _ _ (Gz d >>= _) _ _ s;rw[sh];refine b_ (g_ (b_ (Gm I B (b_ (Hv I B ?_)))));exact b_ (Ge (g_ ⟨_,rfl,"dict_keyiterator",_,⟨_,j_ _ rfl,rfl⟩,Hl.lookup,by simp_all[IE]⟩))
theorem rJ{e:HA}(B:s.heap.IsKeyIter q d i es.size ep)(z:qp s.heap d es ep)(a:es[i]?=a_ e)(k:∀h',h'.IsKeyIter q d (i+1) es.size ep->HD q s.heap h'->Q (a_ e.key) {s with heap:=h'}):r_ (y_ prog w) A (JG (.ref q)) Q E s:=by
 obtain⟨b,q1,q2,I⟩:=id B;obtain⟨od,U,c,S⟩:=z;unfold JG;refine b_ (IZ (Gx (name:=Im "__next__") B.typeIs Hl (FT Hl B.typeIs L1 ?_ (LV _))));refine b_ (g_ (b_ (b_ (b_ (Jp B.typeIs (g_ ?_))))));refine b_ (Kd q1 I ?_);simp only[show GB "dict_keyiterator"=c_ by decide,Gk,HF];show r_ _ _ (if (w_ d==FY)=d_ then _ else _) _ _ s;rw[q_ (show ¬((w_ d==FY)=d_)from Gj)];refine b_ (g_ (b_ (Gm U S ?_)));rw[q_ am];refine b_ (g_ (b_ (Hv U S ?_)));rw[q_ am];refine g_ ?_;simp only[show ¬((i:Int)<0)from by lia,HF,HZ,a];refine b_ (b_ (Jp B.typeIs (g_ (b_ (PR B.typeIs ?_)))));show r_ _ _ (LQ (.ref q) 1 (IE ((i:Int)+1)) >>= _) _ _ s;refine b_ (JF q1 I am ?_);have J:(s.heap.update q (Mw (·.setIfInBounds 1 (IE ((i:Int)+1))))).IsKeyIter q d (i+1) es.size ep:=⟨_,Iu _ q1 (LS (Jg I _)),(M3 ..).trans q2,by simp_all[Jg,IE]⟩
 have Y:J5 {s with heap:=s.heap.update q (Mw (·.setIfInBounds 1 (IE ((i:Int)+1))))} (.ref q) "dict_keyiterator":=J.typeIs;refine b_ (G8 (b_ (PR Y ?_)));show r_ _ _ (GW e.key) _ _ _;exact g_ (g_ ⟨_,rfl,g_ (k _ J (G1 ..))⟩)
theorem wN(hh:A.handled=e_)(B:s.heap.IsKeyIter q d i es.size ep)(z:qp s.heap d es ep)(U:es.size<=i)(k:∀h',G_ q s.heap h'->Q e_ {s with heap:=h'}):r_ (y_ prog w) A (JG (.ref q)) Q E s:=by
 obtain⟨Y,q1,q2,I⟩:=id B;obtain⟨od,S,c,J⟩:=z;unfold JG;refine b_ (IZ (Gx (name:=Im "__next__") B.typeIs Hl (FT Hl B.typeIs L1 ?_ (LV _))));refine b_ (g_ (b_ (b_ (b_ (Jp B.typeIs (g_ ?_))))));refine b_ (Kd q1 I ?_);simp only[show GB "dict_keyiterator"=c_ by decide,Gk,HF];show r_ _ _ (if (w_ d==FY)=d_ then _ else _) _ _ s;rw[q_ (show ¬((w_ d==FY)=d_)from Gj)];refine b_ (g_ (b_ (Gm S J ?_)));rw[q_ am];refine b_ (g_ (b_ (Hv S J ?_)));rw[q_ am];refine g_ ?_;simp only[show ¬((i:Int)<0)from by lia,HF,HZ,Ih U];refine b_ (b_ (Jp B.typeIs (g_ ?_)));show r_ _ _ (LQ (.ref q) 0 .none >>= _) _ _ s;refine b_ (JF q1 I am ?_);show r_ _ _ (Oj (.type "StopIteration") [] >>= _) _ _ _;refine b_ ?_;simp only[Oj,P4];refine b_ (Ge (b_ (m:=MF _ _) (NU (a:=FY) (by rfl) (Ge ?_ (by size_fits)))) (by size_fits));simp only[P1];refine b_ (M_ ?_);first|rw[show A.in1.handled=e_ from hh]|rw[hh]
 refine b_ (g_ (NT ?_));refine b_ (HV (T:="StopIteration") (b:=d_) ⟨_,j_ _ rfl,rfl⟩ ME ?_);exact g_ (k _ (((G1 ..).extBut.push _).push _))
end
@[simp]def e_dictA(ds:List A'):C4 [.lst ds]=(dJ ds).bind λps=>.ok (.dic (As ps)):=id rfl
section
open PySem.W hiding kindOf
noncomputable def jH:Bool->GO->Array GO->Nat->Nat->Nat->IP FU LI (Option Nat):=sortPriv% PySem.Builtin.gallop
noncomputable def nW:Array GO->Array GO->IP FU LI (Array GO):=sortPriv% PySem.Builtin.mergeLo
noncomputable def nX:Array GO->Array GO->IP FU LI (Array GO):=sortPriv% PySem.Builtin.mergeHi
structure Bd{β:Type}(m:IP FU LI β) where
 {α:Type}
 {x:IP FU LI α}
 {k:α->IP FU LI β}
 e:m=x >>= k
structure Ic{β:Type}(m:IP FU LI β) where
 {c:Prop}
 {d:Decidable c}
 {t:IP FU LI β}
 {f:IP FU LI β}
 e:m=@ite _ c d t f
structure Lp{β:Type}(m:IP FU LI β) where
 {α:Type}
 {a:Nat}
 {b:Nat}
 {c:α}
 {F:Nat->α->IP FU LI (Li α)}
 {k:α->IP FU LI β}
 e:m=Pq [a:b] c F >>= k
variable{s:k_}{f:Nat->GO}{key:Nat->Int}
section
variable{M:P8}{m:IP FU LI β}{Q:β->FU->Prop}
def eX(B:Bd m)(h:Kp M A E s B.x (λa I=>Kp M A E s (B.k a) Q I) st):Kp M A E s m Q st:=by rw[B.e];exact HB h
theorem gT(B:Ic m)(h1:B.c->Kp M A E s B.t Q st)(I:¬B.c->Kp M A E s B.f Q st):Kp M A E s m Q st:=by
 rw[B.e]
 lia
def wp_l(B:Lp m)(I:Nat->B.α->FU->Prop){R:B.α->FU->Prop}(hi:I B.a B.c st)(U:∀i c st,B.a<=i->i<B.b->I i c st->Kp M A E s (B.F i c) (λr J=>match r with|.done S=>R S J|.yield S=>I (i+1) S J) st)(a:∀c st,I (QW B.a B.b) c st->R c st)(Y:∀c st,R c st->Kp M A E s (B.k c) Q st):Kp M A E s m Q st:=by rw[B.e];exact HB (P_ (wpS_forRange I (λi c st h1 d b=>P_ (U i c st h1 d b) λr J h=>by cases r<;>exact h) a hi) Y)
theorem xI(B:Lp m)(I:Nat->B.α->Prop){R:B.α->Prop}(hi:I B.a B.c)(a:∀i c,B.a<=i->i<B.b->I i c->∀W:Li B.α->FU->Prop,(∀S,R S->W (.done S) st)->(∀S,I (i+1) S->W (.yield S) st)->Kp M A E s (B.F i c) W st)(Y:∀c,I (QW B.a B.b) c->R c)(U:∀c,R c->Kp M A E s (B.k c) Q st):Kp M A E s m Q st:=
 wp_l B (λi c J=>J=st/\I i c) (R:=λc J=>J=st/\R c) ⟨rfl,hi⟩ (λi c J h1 b ⟨e,h⟩=>by simp_all) (λc _ ⟨e,h⟩=>⟨e,Y c h⟩) λc _ ⟨e,h⟩=>e▸U c h
end
def uU(prog:GD)(w:Hw)(A:HL)(E:Mq)(s:k_)(κ:Ow)(f:Nat->GO)(key:Nat->Int)(n:Nat):Prop:=
 ∀i j (Q:Option Bool->FU->Prop) st,i<n->j<n->Kg st=κ->Q (a_ (ltK key i j)) st->Kp (y_ prog w) A E s (lt' (f i) (f j)) Q st
def InN(n:Nat)(p:a5):Prop:=∀x∈p,x<n
def br{l:a5}{x:Nat}{Q:GO->FU->Prop}(B:l[i]?=a_ x)(h:Q (f x) st):Kp (y_ prog w) A E s (Qc (l.map f).toArray i) Q st:=by
 rw[elem'_eq];have e:(l.map f).toArray[i]?=a_ (f x):=by simp[B]
 rw[e];exact Cb h
def at_of(h:i<p.length):p[i]?=a_ (p.getD i 0):=by simp[h]
def InN.at(B:InN n p)(h:i<p.length):p.getD i 0<n:=B _ (Gn (at_of h))
section
variable(l:Bool)(q:GO)(r:Array GO)(b m h:Nat)
noncomputable def G0:Bd (jH l q r b m h):=⟨rfl⟩
noncomputable def GaT:Lp ((G0 l q r b m h).k (a_ d_)):=⟨rfl⟩
noncomputable def GaF:Lp ((G0 l q r b m h).k (a_ c_)):=⟨rfl⟩
noncomputable def GtI(x c):Ic ((GaT l q r b m h).F x c):=⟨rfl⟩
noncomputable def GtB(x c):Bd (GtI l q r b m h x c).f:=⟨rfl⟩
noncomputable def GfI(x c):Ic ((GaF l q r b m h).F x c):=⟨rfl⟩
noncomputable def GfB(x c):Bd (GfI l q r b m h x c).f:=⟨rfl⟩
noncomputable def GtL(a o:Nat):Lp ((GaT l q r b m h).k (e_,a,o)):=⟨rfl⟩
noncomputable def GcI(a o x c):Ic ((GtL l q r b m h a o).F x c):=⟨rfl⟩
noncomputable def GcB(a o x c):Bd (GcI l q r b m h a o x c).f:=⟨rfl⟩
end
section
variable{m h x a o:Nat}
def MoB(bd:Nat->Bool)(m:Nat):Prop:=∀i j,i<=j->j<m->bd j=d_->bd i=d_
theorem MoB.fl(M:MoB bd m)(B:i<=j)(I:j<m)(e:bd i=c_):bd j=c_:=by
 have:=M i j B I
 grind
structure Bn(bd:Nat->Bool)(m x a o:Nat):Prop where
 l1:a<=o
 l2:o<=m
 l3:o-a+x<=m
 y1:∀i,i<a->bd i=d_
 y2:∀i,o<=i->i<m->bd i=c_
theorem we(e:¬a>=o):a<=a+(o-a)/2/\a+(o-a)/2<o:=ad
theorem Bn.up{c:Nat}(M:MoB bd m)(h:Bn bd m x a o)(h1:a<=c)(B:c<o)(I:bd c=d_):Bn bd m (x+1) (c+1) o:=
 ⟨B,h.l2,by have:=h.l3;lia,λi hi=>M i _ (M8 hi) (A_ B h.l2) I,h.y2⟩
theorem Bn.dn{c:Nat}(M:MoB bd m)(h:Bn bd m x a o)(h1:a<=c)(B:c<o)(I:bd c=c_):Bn bd m (x+1) a c:=
 ⟨h1,C_ (GN B) h.l2,by have:=h.l3;lia,h.y1,λi h1 B=>M.fl h1 B I⟩
theorem Bn.ends(h:Bn bd m (QW 0 m) a o):o<=a:=by
 have:=h.l3
 lia
structure GUp(bd:Nat->Bool)(m h a o:Nat)(P:Prop):Prop where
 g1:bd (h+a)=d_
 g2:a<o
 g3:a<m-h
 g4:P
theorem GUp.bn(M:MoB bd m)(U:GUp bd m h a o (o<m-h->bd (h+o)=c_)):Bn bd m 0 (h+a+1) (h+N6 o (m-h)):=by
 obtain⟨t,e1,e2,e3⟩:=U;have:h+a<m:=ad
 refine⟨ad,ad,ad,λi hi=>M i _ (M8 hi) this t,λi h1 B=>?_⟩
 have:o<m-h:=ad
 exact M.fl ad B (e3 this)
structure GDn(bd:Nat->Bool)(m h a o:Nat)(P:Prop):Prop where
 g1:bd (h-a)=c_
 g2:a<o
 g3:a<h+1
 g4:P
theorem GDn.bn(M:MoB bd m)(I:h<m)(U:GDn bd m h a o (o<h+1->bd (h-o)=d_)):Bn bd m 0 (h+1-N6 o (h+1)) (h-a):=by
 obtain⟨t,e1,e2,e3⟩:=U;refine⟨ad,ad,ad,λi hi=>?_,λi h1 B=>M.fl h1 B t⟩
 have:o<h+1:=ad
 exact M i _ ad ad (e3 this)
theorem ze(h:x+1<=o):o<2*o+1/\x+1+1<=2*o+1:=ad
theorem in_ok(e:¬o>=m-h):h+o<m/\o<m-h:=ad
end
def CA(L:uU prog w A E s κ f key n){I:Bool}{q:Nat}{base m:Nat}{Q:Option Nat->FU->Prop}(y:q<n)(z:InN n p)(D:base+m<=p.length)(j:hint<m)(C:Kg st=κ)(u:∀i,bd i=if I=d_ then ltK key (p.getD (base+i) 0) q else !ltK key q (p.getD (base+i) 0))(M:MoB bd m)(h:∀k,k<=m->(∀i,i<k->bd i=d_)->(∀i,k<=i->i<m->bd i=c_)->Q (a_ k) st):
  Kp (y_ prog w) A E s (jH I (f q) (p.map f).toArray base m hint) Q st:=by
 have J:∀(i:Nat) (R:Option Bool->FU->Prop),i<m->R (a_ (bd i)) st->Kp (y_ prog w) A E s (G0 I (f q) (p.map f).toArray base m i).x R st:=λi R hi g=>by
  have t:base+i<p.length:=A_ (Ky hi _) D;refine HB (br (at_of t) ?_);rw[u]at g;cases I with
  |true=>exact L _ _ _ _ (z.at t) y C g|false=>exact HB (L _ _ _ _ y (z.at t) C (Cb g))
 have l:∀a o lo hi,Bn bd m 0 lo hi ->
   Kp (y_ prog w) A E s (Pq [0:m] (e_,lo,hi) (GtL I (f q) (p.map f).toArray base m hint a o).F >>= (GtL I (f q) (p.map f).toArray base m hint a o).k) Q st:=λa o lo hi B=>
  xI ⟨rfl⟩ (λx c=>c.1=e_/\Bn bd m x c.2.1 c.2.2) (R:=λc=>c.1=e_/\Q (a_ c.2.2) st) ⟨rfl,B⟩ (λx c _ v ⟨Y,B⟩ W b d=>
    gT (GcI I (f q) (p.map f).toArray base m hint a o x c) (λe=>Cb (b _ ⟨rfl,h _ B.l2 (λi hi=>B.y1 i (A_ hi e)) B.y2⟩)) λe=>eX (GcB ..) (J _ _ (A_ (we e).2 B.l2) (by
     cases S:bd (c.2.1+(c.2.2-c.2.1)/2)with
     |true=>exact Cb (d _ ⟨rfl,B.up M (we e).1 (we e).2 S⟩)|false=>exact Cb (d _ ⟨rfl,B.dn M (we e).1 (we e).2 S⟩)))) (λc ⟨Y,B⟩=>⟨Y,h _ B.l2 (λi hi=>B.y1 i (A_ hi (Bn.ends B))) B.y2⟩) λ⟨_,lo,hi⟩ ⟨e,F⟩=>by
    cases e;exact Cb F
 refine eX (G0 ..) (J _ _ j ?_);cases g:bd hint with
 |true=>
  refine xI (GaT ..) (λx c=>c.1=e_/\GUp bd m hint c.2.1 c.2.2 (x+1<=c.2.2)) (R:=λc=>c.1=e_/\GUp bd m hint c.2.1 c.2.2 (c.2.2<m-hint->bd (hint+c.2.2)=c_)) ⟨rfl,g,OY,K5 j,i_ _⟩ (λx c _ v ⟨Y,U⟩ W b d=>?_) (λc ⟨Y,U⟩=>⟨Y,U.g1,U.g2,U.g3,λe=>?_⟩) λ⟨_,r,o⟩ ⟨e,U⟩=>?_
  .refine gT (GtI ..) (λe=>Cb (b _ ⟨rfl,U.g1,U.g2,U.g3,λh=>FR e (Qe h)⟩)) λe=>eX (GtB ..) (J _ _ (in_ok e).1 ?_);cases S:bd (hint+c.2.2)with
   |true=>exact Cb (d _ ⟨rfl,S,(ze U.g4).1,(in_ok e).2,(ze U.g4).2⟩)|false=>exact Cb (b _ ⟨rfl,U.g1,U.g2,U.g3,λ_=>S⟩)
  .exact FR e (Ni (C_ (Kh m hint) (C_ (Qj 0 m) (M7 U.g4))))
  .cases e;exact l r o _ _ (U.bn M)
 |false=>
  refine xI (GaF ..) (λx c=>c.1=e_/\GDn bd m hint c.2.1 c.2.2 (x+1<=c.2.2)) (R:=λc=>c.1=e_/\GDn bd m hint c.2.1 c.2.2 (c.2.2<hint+1->bd (hint-c.2.2)=d_)) ⟨rfl,g,OY,Nat.succ_pos _,i_ _⟩ (λx c _ v ⟨Y,U⟩ W b d=>?_) (λc ⟨Y,U⟩=>⟨Y,U.g1,U.g2,U.g3,λe=>?_⟩) λ⟨_,r,o⟩ ⟨e,U⟩=>?_
  .refine gT (GfI ..) (λe=>Cb (b _ ⟨rfl,U.g1,U.g2,U.g3,λh=>FR e (Qe h)⟩)) λe=>eX (GfB ..) (J _ _ (JQ (Kh ..) j) ?_);cases S:bd (hint-c.2.2)with
   |false=>exact Cb (d _ ⟨rfl,S,(ze U.g4).1,Qh e,(ze U.g4).2⟩)|true=>exact Cb (b _ ⟨rfl,U.g1,U.g2,U.g3,λ_=>S⟩)
  .exact FR (A_ e j) (Ni (C_ (Qj 0 m) (M7 U.g4)))
  .cases e;exact l r o _ _ (U.bn M j)
structure Bt{β:Type}(m:IP FU LI β) where
 {x:IP FU LI GO}
 {y:IP FU LI GO}
 {k:GO->GO->Option Bool->IP FU LI β}
 e:m=x >>=λu=>y >>=λv=>lt' u v >>=λr=>k u v r
noncomputable def qx0:GO:=(.none,.none)
noncomputable def qg0:FU:=Kw oneType' #[] #[] 0 e_
section
variable(a b:Array GO)
noncomputable def qL0:Bd (nW a b):=⟨rfl⟩
noncomputable def qL1:Bd ((qL0 a b).k ()):=⟨rfl⟩
noncomputable def qL2(x):Ic ((qL1 a b).k x):=⟨rfl⟩
noncomputable def qL3(x):Ic (qL2 a b x).f:=⟨rfl⟩
noncomputable def qL4(x):Bd (qL3 a b x).f:=⟨rfl⟩
noncomputable def qL5(x g):Lp ((qL4 a b x).k g):=⟨rfl⟩
section
variable(o:Array GO)(p q r:Nat)
noncomputable def qL6:Lp ((qL5 a b qx0 qg0).F 0 (e_,o,p,q,r)):=⟨rfl⟩
end
variable(o:Array GO)(p q r s t:Nat)
noncomputable def qL7:Bt ((qL6 a b #[] 0 0 r).F 0 (e_,o,p,q,s,t)):=⟨rfl⟩
noncomputable def qL8:Bd ((qL7 a b o p q r s t).k qx0 qx0 (a_ d_)):=⟨rfl⟩
noncomputable def qL9:Bd ((qL7 a b o p q r s t).k qx0 qx0 (a_ c_)):=⟨rfl⟩
noncomputable def qL8a(y):Ic ((qL8 a b o p q r s t).k y):=⟨rfl⟩
noncomputable def qL8b(y):Ic (qL8a a b o p q r s t y).f:=⟨rfl⟩
noncomputable def qL9a(y):Ic ((qL9 a b o p q r s t).k y):=⟨rfl⟩
noncomputable def qL9b(y):Ic (qL9a a b o p q r s t y).f:=⟨rfl⟩
noncomputable def qLa:Bd ((qL6 a b #[] 0 0 r).k (e_,o,p,q,s,t)):=⟨rfl⟩
noncomputable def qLb:Lp ((qLa a b o p q r s t).k ()):=⟨rfl⟩
noncomputable def qLc:Ic ((qLb a b #[] 0 0 0 0 0).F 0 (e_,o,p,q,r,s,t)):=⟨rfl⟩
noncomputable def qLd:Bd (qLc a b o p q r s t).f:=⟨rfl⟩
noncomputable def qLe:Bd ((qLd a b o p q r s t).k ()):=⟨rfl⟩
noncomputable def qLf(y):Bd ((qLe a b o p q r s t).k y):=⟨rfl⟩
noncomputable def qLg(k):Ic ((qLf a b o p q r s t qx0).k (a_ k)):=⟨rfl⟩
noncomputable def qLg1(k):Ic (qLg a b o p q r s t k).t:=⟨rfl⟩
noncomputable def qLg2(k):Ic (qLg1 a b o p q r s t k).f:=⟨rfl⟩
noncomputable def qLh(k):Bd (qLg a b o p q r s t k).f:=⟨rfl⟩
noncomputable def qLi(k y):Ic ((qLh a b o p q r s t k).k y):=⟨rfl⟩
noncomputable def qLj(k y):Bd (qLi a b o p q r s t k y).f:=⟨rfl⟩
noncomputable def qLk(k y z):Bd ((qLj a b o p q r s t k y).k z):=⟨rfl⟩
noncomputable def qLl(k y l):Ic ((qLk a b o p q r s t k y qx0).k (a_ l)):=⟨rfl⟩
noncomputable def qLm(k y l):Ic (qLl a b o p q r s t k y l).t:=⟨rfl⟩
def qLz(k l:Nat):IP FU LI (Li (Option (Array GO)×Array GO×Nat×Nat×Nat×Nat×Nat)):=
 Qc a p >>=λz=>if (p+1+1==a.size)=d_ then GW (.done (a_ (o.push z++b.extract q b.size++a.extract (p+1) a.size),o.push z,p+1,q,r,k,l))
  else if (xF (k<7)&&xF (l<7))=d_ then GW (.done (e_,o.push z,p+1,q,r,k,l))else GW (.yield (e_,o.push z,p+1,q,r,k,l))
end
def Srt(key:Nat->Int)(l:a5):Prop:=l.Pairwise λx y=>key x<=key y
def Srt.sub{l r:a5}(h:Srt key l)(B:r.Sublist l):Srt key r:=Nd B h
theorem Srt.hd{l:a5}(h:Srt key (l.drop i))(hi:i<l.length):∀y∈l.drop i,key (l.getD i 0)<=key y:=λy B=>by
 rw[Gd hi]at h B;simp only[z_,hi,getElem?_pos,MX];rcases t_.mp B with e|e
 .simp_all
 .exact(GP.mp h).1 y e
structure MI(key:Nat->Int)(all out xs ys:a5):Prop where
 perm:(out++(xs++ys)).Perm all
 so:Srt key out
 sx:Srt key xs
 sy:Srt key ys
 ox:∀x∈out,∀y∈xs,key x<=key y
 oy:∀x∈out,∀y∈ys,key x<=key y
theorem MI.left{J u xs ys:a5}(h:MI key J out (u++xs) ys)(Y:∀a∈u,∀y∈ys,key a<=key y):MI key J (out++u) xs ys:=by
 obtain⟨h1,d,S,c,U,b⟩:=h;unfold Srt at *;rw[GK]at S;refine⟨aW,?_,S.2.1,c,λx I y B=>?_,λx I y B=>?_⟩
 .exact GK.mpr ⟨d,S.1,λx I y B=>U x I y (Ha _ B)⟩
 .rcases FW.mp I with e|e
  .exact U x e y (FP _ B)
  .exact S.2.2 x e y B
 .rcases FW.mp I with e|e
  .exact b x e y B
  .exact Y x e y B
def MI.right{J u xs ys:a5}(h:MI key J out xs (u++ys))(Y:∀a∈u,∀y∈xs,key a<=key y):MI key J (out++u) xs ys:=by
 obtain⟨h1,d,c,S,b,U⟩:=h;unfold Srt at *;rw[GK]at S;refine⟨?_,?_,c,S.2.1,λx I y B=>?_,λx I y B=>?_⟩
 .refine List.Perm.trans ?_ h1;rw[FQ];refine List.Perm.append_left _ ?_;rw[<- FQ,<- FQ];exact List.Perm.append_right _ List.perm_append_comm
 .exact GK.mpr ⟨d,S.1,λx I y B=>U x I y (Ha _ B)⟩
 .rcases FW.mp I with e|e
  .exact b x e y B
  .exact Y x e y B
 .rcases FW.mp I with e|e
  .exact U x e y (FP _ B)
  .exact S.2.2 x e y B
theorem MI.done{B xs ys:a5}(h:MI key B out xs ys)(S:∀a∈xs,∀y∈ys,key a<=key y):(out++xs++ys).Perm B/\Srt key (out++xs++ys):=by have h1:=MI.left (xs:=[]) (u:=xs) (by rw[Hn];exact h) S;have I:=MI.right (ys:=[]) (u:=ys) (by rw[Hn];exact h1) (λ_ _ _ J=>FR J GH);exact⟨by have:=I.perm;simp_all,I.so⟩
theorem MI.done2{B xs ys:a5}(h:MI key B out xs ys)(S:∀a∈ys,∀y∈xs,key a<=key y):(out++ys++xs).Perm B/\Srt key (out++ys++xs):=by have h1:=MI.right (ys:=[]) (u:=ys) (by rw[Hn];exact h) S;have I:=MI.left (xs:=[]) (u:=xs) (by rw[Hn];exact h1) (λ_ _ _ J=>FR J GH);exact⟨by have:=I.perm;simp_all,I.so⟩
def bH(st B:FU):Prop:=∃g,B=Kw (Kg st) (MM st) (FN st) g (Lh st)
def bH.refl(st:FU):bH st st:=⟨gallopOf st,rfl⟩
def bH.trans{a b c:FU}(h:bH a b)(k:bH b c):bH a c:=by obtain⟨g,rfl⟩:=h;obtain⟨g',rfl⟩:=k;exact⟨g',rfl⟩
def bH.kind{a b:FU}(h:bH a b):Kg b=Kg a:=by obtain⟨g,rfl⟩:=h;rfl
noncomputable def t7:Nat->IP FU LI Unit:=sortPriv% PySem.Builtin.setMinGallop
def CF{g:Nat}{Q:Unit->FU->Prop}(h:∀B,bH st B->Q () B):Kp (y_ prog w) A E s (t7 g) Q st:=JZ (h _ ⟨_,rfl⟩)
def oj(o:a5)(x:Nat):(o.map f).toArray.push (f x)=((o++[x]).map f).toArray:=by simp
def uM(p:a5)(i:Nat):(p.map f).toArray.extract i (p.map f).toArray.size=((p.drop i).map f).toArray:=by simp[List.extract_eq_drop_take,Mu,Ij]
def uN(p:a5)(i j:Nat):(p.map f).toArray.extract i j=(((p.drop i).take (j-i)).map f).toArray:=by simp
def jT(o p:a5):(o.map f).toArray++(p.map f).toArray=((o++p).map f).toArray:=by simp
def xE(f:Nat->GO)(key:Nat->Int)(B:a5)(r:Array GO):Prop:=∃o:a5,r=(o.map f).toArray/\o.Perm B/\Srt key o
def JL(f:Nat->GO)(key:Nat->Int)(pa pb:a5)(r:Array GO)(ia ib:Nat):Prop:=∃o:a5,r=(o.map f).toArray/\MI key (pa++pb) o (pa.drop ia) (pb.drop ib)
section
variable{r:Array GO}
def JL.ak(h:JL f key pa pb r ia ib)(B:∀x∈(pa.drop ia).take k,∀y∈pb.drop ib,key x<=key y):JL f key pa pb (r++(pa.map f).toArray.extract ia (ia+k)) (ia+k) ib:=by
 obtain⟨o,rfl,m⟩:=h;refine⟨o++(pa.drop ia).take k,am,MI.left ?_ B⟩
 rw[<- JV,GR];exact m
def JL.bk(h:JL f key pa pb r ia ib)(B:∀x∈(pb.drop ib).take k,∀y∈pa.drop ia,key x<=key y):JL f key pa pb (r++(pb.map f).toArray.extract ib (ib+k)) ia (ib+k):=by
 obtain⟨o,rfl,m⟩:=h;refine⟨o++(pb.drop ib).take k,am,MI.right ?_ B⟩
 rw[<- JV,GR];exact m
theorem drop_at{l:a5}(hi:i<l.length):l.drop i=l.getD i 0::l.drop (i+1):=by simp_all
theorem JL.a1(h:JL f key pa pb r ia ib)(hi:ia<pa.length)(I:∀y∈pb.drop ib,key (pa.getD ia 0)<=key y):JL f key pa pb (r.push (f (pa.getD ia 0))) (ia+1) ib:=by
 obtain⟨o,rfl,m⟩:=h;refine⟨o++[pa.getD ia 0],oj ..,MI.left aW λx B=>?_⟩
 rw[Gi.mp B];exact I
theorem JL.b1(h:JL f key pa pb r ia ib)(hi:ib<pb.length)(I:∀y∈pa.drop ia,key (pb.getD ib 0)<=key y):JL f key pa pb (r.push (f (pb.getD ib 0))) ia (ib+1):=by
 obtain⟨o,rfl,m⟩:=h;refine⟨o++[pb.getD ib 0],oj ..,MI.right aW λx B=>?_⟩
 rw[Gi.mp B];exact I
theorem JL.fin(h:JL f key pa pb r ia ib)(e:ia=pa.length\/ib=pb.length):xE f key (pa++pb) (r++(pa.map f).toArray.extract ia (pa.map f).toArray.size++(pb.map f).toArray.extract ib (pb.map f).toArray.size):=by
 obtain⟨o,rfl,m⟩:=h;rw[uM,uM,jT,jT];refine⟨_,rfl,MI.done m λx I y B=>?_⟩
 grind
theorem JL.last(h:JL f key pa pb r ia ib)(J:∀y∈pb,key y<=key (pa.getD (pa.length-1) 0))(e:ia+1=pa.length):xE f key (pa++pb) (r++(pb.map f).toArray.extract ib (pb.map f).toArray.size++(pa.map f).toArray.extract ia (pa.map f).toArray.size):=by
 obtain⟨o,rfl,m⟩:=h;rw[uM,uM,jT,jT];refine⟨_,rfl,MI.done2 m λx I y B=>?_⟩
 grind[drop_at,Ly,Gi.mp]
theorem JL.sx(h:JL f key pa pb r ia ib):Srt key (pa.drop ia):=let ⟨_,_,m⟩:=h;m.sx
theorem JL.sy(h:JL f key pa pb r ia ib):Srt key (pb.drop ib):=let ⟨_,_,m⟩:=h;m.sy
structure CL(f:Nat->GO)(key:Nat->Int)(pa pb:a5)(t:Nat)(r:Array GO)(ia ib:Nat):Prop where
 j:JL f key pa pb r ia ib
 a:ia+1<pa.length
 b:ib<pb.length
 t:t<=ia+ib
end
theorem zd(L:uU prog w A E s κ f key n){B:Bool}{q:Nat}{p:a5}{base m:Nat}{Q:Option Nat->FU->Prop}(o:q<n)(g:InN n p)(u:base+m<=p.length)(t:hint<m)(r:Kg st=κ)(U:Srt key ((p.drop base).take m))(h:∀k,k<=m->(∀x∈((p.drop base).take m).take k,(if B=d_ then ltK key x q else !ltK key q x)=d_)->(∀x∈((p.drop base).take m).drop k,(if B=d_ then ltK key x q else !ltK key q x)=c_)->Q (a_ k) st):
  Kp (y_ prog w) A E s (jH B (f q) (p.map f).toArray base m hint) Q st:=by
 have I:∀i,i<m->((p.drop base).take m)[i]?=a_ (p.getD (base+i) 0):=λi hi=>by
  have:base+i<p.length:=ad
  simp[hi,this]
 have hz:((p.drop base).take m).length<=m:=List.length_take_le ..;generalize (p.drop base).take m=z at U h I hz;refine CA L o g u t r (bd:=λi=>if B=d_ then ltK key (p.getD (base+i) 0) q else !ltK key q (p.getD (base+i) 0)) (λ_=>rfl) (λi j J l e=>?_) λk b h1 v=>h k b (λx S=>?_) (λx S=>?_)
 .obtain⟨d,C⟩:=n_.mp (I i (JQ J l));obtain⟨c,y⟩:=n_.mp (I j l);have a:key z[i]<=key z[j]:=by
   rcases Nat.lt_or_eq_of_le J with Y|rfl
   .exact G2.mp U i j d c Y
   .simp
  rw[C,y]at a;clear I h U g L;unfold ltK at e ⊢
  lia
 .obtain⟨i,hi,rfl⟩:=IU S;rw[GC]at hi;rw[K1,(n_.mp (I i ad)).2];exact h1 i ad
 .obtain⟨i,hi,rfl⟩:=IU S;rw[Hu]at hi;rw[M0,(n_.mp (I (k+i) ad)).2];exact v (k+i) (Iq _ _) ad
theorem CC(L:uU prog w A E s κ f key n){B:Bool}{q:Nat}{p:a5}{base:Nat}{Q:Option Nat->FU->Prop}(I:q<n)(J:InN n p)(b:base<p.length)(U:Kg st=κ)(a:Srt key (p.drop base))(h:∀k,base+k<=p.length->(∀x∈(p.drop base).take k,(if B=d_ then ltK key x q else !ltK key q x)=d_)->(∀x∈p.drop (base+k),(if B=d_ then ltK key x q else !ltK key q x)=c_)->Q (a_ k) st):
  Kp (y_ prog w) A E s (jH B (f q) (p.map f).toArray base ((p.map f).toArray.size-base) 0) Q st:=by
 have z:(p.map f).toArray.size=p.length:=by simp
 rw[z];have e:(p.drop base).take (p.length-base)=p.drop base:=Ij am;refine zd L I J ad ad U aW λk S h1 Y=>h k ad ?_ ?_
 .rwa [e]at h1
 .rwa [e,JV]at Y
def wp_t{M:P8}{m:IP FU LI β}{Q:β->FU->Prop}(B:Bt m)(h:Kp M A E s B.x (λu st=>Kp M A E s B.y (λv st=>Kp M A E s (lt' u v) (λr st=>Kp M A E s (B.k u v r) Q st) st) st) st):Kp M A E s m Q st:=by rw[B.e];exact HB (P_ h λ_ _ h=>HB (P_ h λ_ _ h=>HB h))
theorem sX{p:a5}(e:(i==(p.map f).toArray.size)=d_):i=p.length:=by simp_all
theorem nh{p:a5}(e:¬(i==(p.map f).toArray.size)=d_):i≠p.length:=by simp_all
section
variable{r:Array GO}{t:Nat}
def CL.wb(h:CL f key pa pb t r ia ib)(hw:ltK key (pb.getD ib 0) (pa.getD ia 0)=d_):JL f key pa pb (r.push (f (pb.getD ib 0))) ia (ib+1):=
 h.j.b1 h.b λy B=>Ho (Ip (Mv hw)) (h.j.sx.hd (Hk h.a) y B)
def CL.wa(h:CL f key pa pb t r ia ib)(hw:ltK key (pb.getD ib 0) (pa.getD ia 0)=c_):JL f key pa pb (r.push (f (pa.getD ia 0))) (ia+1) ib:=
 h.j.a1 (Hk h.a) λy B=>Ho (MP.mp (of_decide_eq_false hw)) (h.j.sy.hd h.b y B)
def CL.nb(h:CL f key pa pb t r ia ib)(j:JL f key pa pb r' ia (ib+1))(e:ib+1≠pb.length):CL f key pa pb (t+1) r' ia (ib+1):=⟨j,h.a,Gs h.b e,HQ h.t⟩
theorem CL.na(h:CL f key pa pb t r ia ib)(j:JL f key pa pb r' (ia+1) ib)(e:ia+1+1≠pa.length):CL f key pa pb (t+1) r' (ia+1) ib:=⟨j,Gs h.a e,h.b,by have:=h.t;lia⟩
def CL.le(h:CL f key pa pb t r ia ib)(e:t'<=t):CL f key pa pb t' r ia ib:=⟨h.j,h.a,h.b,C_ e h.t⟩
theorem CL.no{u:Nat}(h:CL f key pa pb (u+QW 0 ((pa.map f).toArray.size+(pb.map f).toArray.size)) r ia ib):False:=by
 obtain⟨_,h1,I,B⟩:=h;simp at B
 lia
def gal_a(h:JL f key pa pb r ia ib)(S:ib<pb.length)(B:∀x∈(pa.drop ia).take k,(if c_=d_ then ltK key x (pb.getD ib 0)else !ltK key (pb.getD ib 0) x)=d_):JL f key pa pb (r++(pa.map f).toArray.extract ia (ia+k)) (ia+k) ib:=
 h.ak λx J y I=>Ho (by simpa[ltK] using B x J) (h.sy.hd S y I)
def gal_b(h:JL f key pa pb r ia ib)(S:ia<pa.length)(B:∀x∈(pb.drop ib).take k,(if d_=d_ then ltK key x (pa.getD ia 0)else !ltK key (pa.getD ia 0) x)=d_):JL f key pa pb (r++(pb.map f).toArray.extract ib (ib+k)) ia (ib+k):=
 h.bk λx J y I=>Ho (Ip (by simpa[ltK] using B x J)) (h.sx.hd S y I)
end
theorem lo_turn(L:uU prog w A E s κ f key n){o:Array GO}{p q g u v t:Nat}{W:Li (Option (Array GO)×Array GO×Nat×Nat×Nat×Nat×Nat)->FU->Prop}(na:InN n pa)(nb:InN n pb)(K:Kg st=κ)(H:∀y∈pb,key y<=key (pa.getD (pa.length-1) 0))(J:CL f key pa pb t o p q)(d:∀r c I,bH st I->xE f key (pa++pb) r->W (.done (a_ r,c)) I)(Q:∀o p q c I,bH st I->CL f key pa pb t o p q->W (.done (e_,o,p,q,c)) I)(P:∀o p q c I,bH st I->CL f key pa pb (t+1) o p q->W (.yield (e_,o,p,q,c)) I):
  Kp (y_ prog w) A E s ((qLb (pa.map f).toArray (pb.map f).toArray #[] 0 0 0 0 0).F 0 (e_,o,p,q,g,u,v)) W st:=by
 have N:∀g,Kp (y_ prog w) A E s (qLc (pa.map f).toArray (pb.map f).toArray o p q g u v).f W st:=λg=>by
  refine eX (qLd _ _ o p q g u v) (CF λi B=>eX (qLe _ _ o p q g u v) (br (at_of J.b) (eX (qLf _ _ o p q g u v _) (CC L (nb.at J.b) na (Hk J.a) (B.kind.trans K) J.j.sx λk D a m=>?_))));have Y:∀o p,JL f key pa pb o p q->(∀x∈pa.drop p,key (pb.getD q 0)<=key x)->p+1<pa.length->t<=p+q->Kp (y_ prog w) A E s (qLg (pa.map f).toArray (pb.map f).toArray o p q g u v k).f W i:=λo p j tt F G=>by
   have b:=Hk F;have U:=j.b1 J.b tt;refine eX (qLh _ _ o p q g u v k) (br (at_of J.b) (gT (qLi _ _ o p q g u v k _) (λe=>Cb (d _ _ _ B (U.fin (.inr (sX e))))) λe=>eX (qLj _ _ o p q g u v k _) (br (at_of b) (eX (qLk _ _ o p q g u v k _ _) (CC L (na.at b) nb (Gs J.b (nh e)) (B.kind.trans K) U.sy λl C a m=>?_)))));have S:∀o q,JL f key pa pb o p q->(∀x∈pb.drop q,key (pa.getD p 0)<=key x)->q<pb.length->t<=p+q->Kp (y_ prog w) A E s (qLz (pa.map f).toArray (pb.map f).toArray o p q g k l) W i:=λo q j tt R G=>
    have U:=j.a1 b tt
    HB (br (at_of b) (gT ⟨rfl⟩ (λe=>Cb (d _ _ _ B (U.last H (sX e)))) λe=>
     have O:CL f key pa pb (t+1) _ (p+1) q:=⟨U,Gs F (nh e),R,by simp_all[PK]⟩
     gT ⟨rfl⟩ (λ_=>Cb (Q _ _ _ _ _ B (O.le (Me t)))) λ_=>Cb (P _ _ _ _ _ B O)))
   have h:∀x∈pb.drop (q+1+l),key (pa.getD p 0)<=key x:=λx z=>by simpa[ltK] using m x z
   have h1:t<=p+(q+1):=Nat.le_succ_of_le G;refine gT (qLl _ _ o p q g u v k _ l) (λ_=>gT (qLm _ _ o p q g u v k _ l) (λe=>Cb (d _ _ _ B ((gal_b U b a).fin (.inr (sX e))))) λe=>S _ _ (gal_b U b a) h (Gs C (nh e)) (C_ h1 (Ig (Iq (q+1) l) p))) λh0=>S _ _ U ?_ (Gs J.b (nh e)) h1
   rwa [J2 h0]at h
  have h:∀x∈pa.drop (p+k),key (pb.getD q 0)<=key x:=λx z=>Ip (by simpa[ltK] using m x z);refine gT (qLg _ _ o p q g u v k) (λ_=>gT (qLg1 _ _ o p q g u v k) (λe=>Cb (d _ _ _ B ((gal_a J.j J.b a).last H (sX e)))) λe=>gT (qLg2 _ _ o p q g u v k) (λe=>Cb (d _ _ _ B ((gal_a J.j J.b a).fin (.inl (sX e))))) λT=>Y _ _ (gal_a J.j J.b a) h (Gs (Gs D (nh T)) (nh e)) (by rw[PK];exact Nat.le_add_right_of_le J.t)) λh0=>Y _ _ J.j ?_ J.a J.t
  rwa [J2 h0]at h
 exact gT (qLc _ _ o p q g u v) (λ_=>N (g-1)) λ_=>N g
def Ba(L:uU prog w A E s κ f key n){Q:Array GO->FU->Prop}(na:InN n pa)(nb:InN n pb)(m:Kg st=κ)(sa:Srt key pa)(sb:Srt key pb)(C:0<pa.length)(a:0<pb.length)(D:∀y∈pa,key (pb.getD 0 0)<=key y)(j:∀y∈pb,key y<=key (pa.getD (pa.length-1) 0))(h:∀r B,bH st B->xE f key (pa++pb) r->Q r B):Kp (y_ prog w) A E s (nW (pa.map f).toArray (pb.map f).toArray) Q st:=by
 have b:JL f key pa pb #[f (pb.getD 0 0)] 0 1:=JL.b1 (r:=#[]) (ia:=0) (ib:=0) ⟨[],rfl,IM _,Io,sa,sb,λ_ h=>FR h GH,λ_ h=>FR h GH⟩ a D;refine eX (qL0 ..) (MK (ID ⟨rfl,eX (qL1 ..) (br (at_of a) ?_)⟩));refine gT (qL2 ..) (λe=>Cb (h _ _ (bH.refl _) (b.fin (.inr (sX e))))) λe1=>gT (qL3 ..) (λe=>Cb (h _ _ (bH.refl _) (b.last j (sX e)))) λe2=>eX (qL4 ..) (Lx ?_);refine wp_l (qL5 ..) (λx c B=>bH st B/\c.1=e_/\CL f key pa pb (1+x) c.2.1 c.2.2.1 c.2.2.2.1) (R:=λc B=>bH st B/\∃r,c.1=a_ r/\xE f key (pa++pb) r)
  ⟨bH.refl _,rfl,b,Gs C (nh e2),Gs a (nh e1),i_ _⟩ ?step (λc B ⟨_,_,J⟩=>(CL.no J).elim) λ⟨_,c⟩ B ⟨S,r,e,U⟩=>by cases e;exact Cb (h _ _ S U)
 rintro i ⟨_,o,p,q,g⟩ st1 _ _ ⟨S,e,J⟩;cases e;have k:Kg st1=κ:=S.kind.trans m;refine xI (qL6 (pa.map f).toArray (pb.map f).toArray o p q g) (λy c=>c.1=e_/\CL f key pa pb (1+i+y) c.2.1 c.2.2.1 c.2.2.2.1) (R:=λc=>(∃r,c.1=a_ r/\xE f key (pa++pb) r)\/c.1=e_/\CL f key pa pb (1+(i+1)) c.2.1 c.2.2.1 c.2.2.2.1)
  ⟨rfl,J⟩ ?s1 (λc ⟨e,J⟩=>(CL.no J).elim) ?p1
 case s1=>
  rintro y ⟨_,o,p,q,u,v⟩ _ _ ⟨e,J⟩ W Y l;cases e;have d:=Hk J.a;refine wp_t (qL7 _ _ o p q g u v) (br (at_of J.b) (br (at_of d) (L _ _ _ _ (nb.at J.b) (na.at d) k ?_)));have t:=J.le (t':=1+i) (Iq _ _);cases hw:ltK key (pb.getD q 0) (pa.getD p 0)with
  |true=>exact eX (qL8 _ _ o p q g u v) (br (at_of J.b) (gT (qL8a ..) (λe=>Cb (Y _ (.inl ⟨_,rfl,(J.wb hw).fin (.inr (sX e))⟩))) λe=>gT (qL8b ..) (λ_=>Cb (Y _ (.inr ⟨rfl,t.nb (J.wb hw) (nh e)⟩))) λ_=>Cb (l _ ⟨rfl,J.nb (J.wb hw) (nh e)⟩)))|false=>exact eX (qL9 _ _ o p q g u v) (br (at_of d) (gT (qL9a ..) (λe=>Cb (Y _ (.inl ⟨_,rfl,(J.wa hw).last j (sX e)⟩))) λe=>gT (qL9b ..) (λ_=>Cb (Y _ (.inr ⟨rfl,t.na (J.wa hw) (nh e)⟩))) λ_=>Cb (l _ ⟨rfl,J.na (J.wa hw) (nh e)⟩)))
 rintro⟨_,o,p,q,u,v⟩ (⟨r,e,U⟩|⟨e,J⟩)<;>cases e
 .exact Cb ⟨S,r,rfl,U⟩
 refine eX (qLa _ _ o p q g u v) (MK (ID ⟨rfl,?_⟩));refine wp_l (qLb ..) (λy c B=>bH st B/\c.1=e_/\CL f key pa pb (1+(i+1)+y) c.2.1 c.2.2.1 c.2.2.2.1) (R:=λc B=>bH st B/\((∃r,c.1=a_ r/\xE f key (pa++pb) r)\/c.1=e_/\CL f key pa pb (1+(i+1)) c.2.1 c.2.2.1 c.2.2.2.1))
  ⟨S,rfl,J⟩ ?s2 (λc B ⟨_,_,J⟩=>(CL.no J).elim) ?p2
 case p2=>
  rintro⟨_,o,p,q,g,u,v⟩ B ⟨S,⟨r,e,U⟩|⟨e,J⟩⟩<;>cases e
  .exact Cb ⟨S,r,rfl,U⟩
  .exact HB (JZ (Cb ⟨S.trans ⟨_,rfl⟩,rfl,J⟩))
 rintro y ⟨_,o,p,q,g,u,v⟩ z _ _ ⟨I,e,J⟩;cases e;exact lo_turn L na nb (I.kind.trans m) j J (λ_ _ _ h U=>⟨I.trans h,.inl ⟨_,rfl,U⟩⟩) (λ_ _ _ _ _ h c=>⟨I.trans h,.inr ⟨rfl,c.le (Iq _ _)⟩⟩) λ_ _ _ _ _ h c=>⟨I.trans h,rfl,c⟩
section
variable(a b:Array GO)
noncomputable def qH0:Bd (nX a b):=⟨rfl⟩
noncomputable def qH1:Bd ((qH0 a b).k ()):=⟨rfl⟩
noncomputable def qH2(x):Ic ((qH1 a b).k x):=⟨rfl⟩
noncomputable def qH3(x):Ic (qH2 a b x).f:=⟨rfl⟩
noncomputable def qH4(x):Bd (qH3 a b x).f:=⟨rfl⟩
noncomputable def qH5(x g):Lp ((qH4 a b x).k g):=⟨rfl⟩
section
variable(p q:Nat)(o:Array GO)(r:Nat)
noncomputable def qH6:Lp ((qH5 a b qx0 qg0).F 0 (e_,p,q,o,r)):=⟨rfl⟩
end
variable(p q:Nat)(o:Array GO)(r s t:Nat)
noncomputable def qH7:Bt ((qH6 a b 0 0 #[] r).F 0 (e_,p,q,o,s,t)):=⟨rfl⟩
noncomputable def qH8:Bd ((qH7 a b p q o r s t).k qx0 qx0 (a_ d_)):=⟨rfl⟩
noncomputable def qH9:Bd ((qH7 a b p q o r s t).k qx0 qx0 (a_ c_)):=⟨rfl⟩
noncomputable def qH8a(y):Ic ((qH8 a b p q o r s t).k y):=⟨rfl⟩
noncomputable def qH8b(y):Ic (qH8a a b p q o r s t y).f:=⟨rfl⟩
noncomputable def qH9a(y):Ic ((qH9 a b p q o r s t).k y):=⟨rfl⟩
noncomputable def qH9b(y):Ic (qH9a a b p q o r s t y).f:=⟨rfl⟩
noncomputable def qHa:Bd ((qH6 a b 0 0 #[] r).k (e_,p,q,o,s,t)):=⟨rfl⟩
noncomputable def qHb:Lp ((qHa a b p q o r s t).k ()):=⟨rfl⟩
noncomputable def qHc:Ic ((qHb a b 0 0 #[] 0 0 0).F 0 (e_,p,q,o,r,s,t)):=⟨rfl⟩
noncomputable def qHd:Bd (qHc a b p q o r s t).f:=⟨rfl⟩
noncomputable def qHe:Bd ((qHd a b p q o r s t).k ()):=⟨rfl⟩
noncomputable def qHf(y):Bd ((qHe a b p q o r s t).k y):=⟨rfl⟩
noncomputable def qHg(k):Ic ((qHf a b p q o r s t qx0).k (a_ k)):=⟨rfl⟩
noncomputable def qHg1(k):Ic (qHg a b p q o r s t k).t:=⟨rfl⟩
def qHz(k l:Nat):IP FU LI (Li (Option (Array GO)×Nat×Nat×Array GO×Nat×Nat×Nat)):=
 Qc a (p-1) >>=λz=>if (p-1==0)=d_ then GW (.done (a_ (a.extract 0 (p-1)++b.extract 0 q++(o.push z).reverse),p-1,q,o.push z,r,k,l))
  else if (xF (k<7)&&xF (l<7))=d_ then GW (.done (e_,p-1,q,o.push z,r,k,l))else GW (.yield (e_,p-1,q,o.push z,r,k,l))
def qHy(k:Nat):IP FU LI (Li (Option (Array GO)×Nat×Nat×Array GO×Nat×Nat×Nat)):=
 Qc b (q-1) >>=λz=>if (q-1==1)=d_ then GW (.done (a_ (b.extract 0 (q-1)++a.extract 0 p++(o.push z).reverse),p,q-1,o.push z,r,k,t))
  else Qc a (p-1) >>=λy=>jH d_ y b 0 (q-1) (q-1-1) >>=λx=>match x with
   |some l=>if q-1-l>0 then
     (if (l==1)=d_ then GW (.done (a_ (b.extract 0 l++a.extract 0 p++(o.push z++(b.extract l (q-1)).reverse).reverse),p,l,o.push z++(b.extract l (q-1)).reverse,r,k,q-1-l))
     else if (l==0)=d_ then GW (.done (a_ (a.extract 0 p++b.extract 0 l++(o.push z++(b.extract l (q-1)).reverse).reverse),p,l,o.push z++(b.extract l (q-1)).reverse,r,k,q-1-l))
     else qHz a b p l (o.push z++(b.extract l (q-1)).reverse) r k (q-1-l))
    else qHz a b p (q-1) (o.push z) r k (q-1-l)
   |_=>GW (.done (a_ (a.extract 0 p++b.extract 0 (q-1)++(o.push z).reverse),p,q-1,o.push z,r,k,t))
noncomputable def qHh(k):Bd (qHy a b p q o r t k):=⟨rfl⟩
noncomputable def qHi(k z):Ic ((qHh a b p q o r t k).k z):=⟨rfl⟩
noncomputable def qHj(k z):Bd (qHi a b p q o r t k z).f:=⟨rfl⟩
noncomputable def qHk(k z y):Bd ((qHj a b p q o r t k z).k y):=⟨rfl⟩
noncomputable def qHl(k z l):Ic ((qHk a b p q o r t k z qx0).k (a_ l)):=⟨rfl⟩
noncomputable def qHm(k z l):Ic (qHl a b p q o r t k z l).t:=⟨rfl⟩
noncomputable def qHn(k z l):Ic (qHm a b p q o r t k z l).f:=⟨rfl⟩
end
theorem CB(L:uU prog w A E s κ f key n){B:Bool}{q:Nat}{p:a5}{m:Nat}{Q:Option Nat->FU->Prop}(S:q<n)(U:InN n p)(c:m<=p.length)(a:hint<m)(Y:Kg st=κ)(J:Srt key p)(h:∀k,k<=m->(∀x∈p.take k,(if B=d_ then ltK key x q else !ltK key q x)=d_)->(∀x∈(p.take m).drop k,(if B=d_ then ltK key x q else !ltK key q x)=c_)->Q (a_ k) st):
  Kp (y_ prog w) A E s (jH B (f q) (p.map f).toArray 0 m hint) Q st:=by
 refine zd L S U aW a Y (J.sub ((HW _ _).trans (M1 _ _))) λk I h1 b=>h k I ?_ ?_
 .grind
 .rwa [IX]at b
noncomputable def neg(key:Nat->Int)(x:Nat):Int:= -key x
def xP{l:a5}:Srt (neg key) l↔Srt key l.reverse:=by unfold Srt;rw[List.pairwise_reverse];exact⟨λh=>h.imp λ{a b} h=>Int.le_of_neg_le_neg h,λh=>h.imp λ{a b} h=>J3 h⟩
theorem Srt.lst{l:a5}(h:Srt key l)(h0:0<i)(hi:i<=l.length):∀y∈l.take i,key y<=key (l.getD (i-1) 0):=λy B=>by
 obtain⟨j,I,rfl⟩:=IU B;rw[GC]at I;have h1:i-1<l.length:=ad
 simp only[K1,z_,h1,getElem?_pos,MX];rcases Q6 j (i-1)with c|c
 .exact G2.mp h _ _ _ _ c
 grind
def JH(f:Nat->GO)(key:Nat->Int)(pa pb:a5)(r:Array GO)(na nb:Nat):Prop:=∃o:a5,r=(o.map f).toArray/\MI (neg key) (pa++pb) o (pa.take na).reverse (pb.take nb).reverse
section
variable{r:Array GO}{na nb t:Nat}
def yU(q:a5):(q.map f).toArray.reverse=(q.reverse.map f).toArray:=by simp
theorem zg(p:a5)(h:k<=na):(p.take na).reverse=((p.take na).drop k).reverse++(p.take k).reverse:=by
 rw[<- List.reverse_append];have e:=GR k (p.take na)
 simp_all[List.take_take,LO]
def xO{p:a5}(h0:0<na)(h:na<=p.length):(p.take na).reverse=[p.getD (na-1) 0]++(p.take (na-1)).reverse:=by
 obtain⟨j,rfl⟩:∃j,na=j+1:=⟨na-1,(Nat.succ_pred_eq_of_pos h0).symm⟩
 have B:j<p.length:=h;rw[List.take_succ_eq_append_getElem B];simp[B]
def JH.ak(h:JH f key pa pb r na nb)(S:k<=na)(J:∀x∈(pa.take na).drop k,∀y∈pb.take nb,key y<=key x):JH f key pa pb (r++((pa.map f).toArray.extract k na).reverse) k nb:=by obtain⟨o,rfl,m⟩:=h;rw[zg pa S]at m;exact⟨o++((pa.take na).drop k).reverse,by rw[uN,yU,jT,Qv],MI.left m λx I y B=>J3 (J x (IW.mp I) y (IW.mp B))⟩
def JH.bk(h:JH f key pa pb r na nb)(S:k<=nb)(J:∀x∈(pb.take nb).drop k,∀y∈pa.take na,key y<=key x):JH f key pa pb (r++((pb.map f).toArray.extract k nb).reverse) na k:=by obtain⟨o,rfl,m⟩:=h;rw[zg pb S]at m;exact⟨o++((pb.take nb).drop k).reverse,by rw[uN,yU,jT,Qv],MI.right m λx I y B=>J3 (J x (IW.mp I) y (IW.mp B))⟩
def JH.a1(h:JH f key pa pb r na nb)(h0:0<na)(hi:na<=pa.length)(J:∀y∈pb.take nb,key y<=key (pa.getD (na-1) 0)):JH f key pa pb (r.push (f (pa.getD (na-1) 0))) (na-1) nb:=by
 obtain⟨o,rfl,m⟩:=h;rw[xO h0 hi]at m;refine⟨_,oj ..,MI.left m λx I y B=>?_⟩
 rw[Gi.mp I];exact J3 (J y (IW.mp B))
def JH.b1(h:JH f key pa pb r na nb)(h0:0<nb)(hi:nb<=pb.length)(J:∀y∈pa.take na,key y<=key (pb.getD (nb-1) 0)):JH f key pa pb (r.push (f (pb.getD (nb-1) 0))) na (nb-1):=by
 obtain⟨o,rfl,m⟩:=h;rw[xO h0 hi]at m;refine⟨_,oj ..,MI.right m λx I y B=>?_⟩
 rw[Gi.mp I];exact J3 (J y (IW.mp B))
def A7{q u v B:a5}(h:(q++u.reverse++v.reverse).Perm B/\Srt (neg key) (q++u.reverse++v.reverse)):xE f key B ((v.map f).toArray++(u.map f).toArray++(q.map f).toArray.reverse):=by
 have e:(q++u.reverse++v.reverse).reverse=v++u++q.reverse:=by simp
 rw[yU,jT,jT];exact⟨_,rfl,by rw[<- e];exact(MY _).trans h.1,by rw[<- e];exact xP.mp h.2⟩
def uO(p:a5)(i:Nat):(p.map f).toArray.extract 0 i=((p.take i).map f).toArray:=by simp
def JH.fin(h:JH f key pa pb r na nb)(e:na=0\/nb=0):xE f key (pa++pb) ((pa.map f).toArray.extract 0 na++(pb.map f).toArray.extract 0 nb++r.reverse):=by
 obtain⟨o,rfl,m⟩:=h;rw[uO,uO];refine A7 (MI.done2 m λx I y B=>?_);rcases e with rfl|rfl
 .simp at B
 .simp at I
def JH.first(h:JH f key pa pb r na nb)(J:∀y∈pa,key (pb.getD 0 0)<=key y)(l:0<pb.length)(e:nb=1):xE f key (pa++pb) ((pb.map f).toArray.extract 0 nb++(pa.map f).toArray.extract 0 na++r.reverse):=by obtain⟨o,rfl,m⟩:=h;rw[uO,uO];refine A7 (MI.done m λx I y B=>?_);subst e;rw[xO OY l]at B;rw[show y=pb.getD 0 0 by simpa using B];exact J3 (J x (IJ (IW.mp I)))
structure CH(f:Nat->GO)(key:Nat->Int)(pa pb:a5)(t:Nat)(r:Array GO)(na nb:Nat):Prop where
 j:JH f key pa pb r na nb
 a:0<na
 b:1<nb
 za:na<=pa.length
 zb:nb<=pb.length
 t:t+na+nb<=pa.length+pb.length
theorem CH.no{u:Nat}(h:CH f key pa pb (u+QW 0 ((pa.map f).toArray.size+(pb.map f).toArray.size)) r na nb):False:=by
 obtain⟨_,h1,_,_,_,B⟩:=h;simp at B
 lia
def CH.le(h:CH f key pa pb t r na nb)(e:t'<=t):CH f key pa pb t' r na nb:=⟨h.j,h.a,h.b,h.za,h.zb,C_ (Mf (Mf e _) _) h.t⟩
def oA{l:Nat}(h0:0<i)(h:i<=l):i-1<l:=A_ (M6 h0) h
theorem kr{c:Nat}(e:¬(i==c)=d_):i≠c:=by simp_all
theorem CH.na1(h:CH f key pa pb t r na nb)(j:JH f key pa pb r' (na-1) nb)(e:¬(na-1==0)=d_):CH f key pa pb (t+1) r' (na-1) nb:=
 ⟨j,Jh (kr e),h.b,C_ (Kh ..) h.za,h.zb,by have:=h.t;have:=h.a;lia⟩
theorem CH.nb1(h:CH f key pa pb t r na nb)(j:JH f key pa pb r' na (nb-1))(e:¬(nb-1==1)=d_):CH f key pa pb (t+1) r' na (nb-1):=
 ⟨j,h.a,Gs (Nat.le_pred_of_lt h.b) (HI (kr e)),h.za,C_ (Kh ..) h.zb,by have:=h.t;have:=h.b;lia⟩
end
def hi_turn(L:uU prog w A E s κ f key n){o:Array GO}{p q g u v t:Nat}{W:Li (Option (Array GO)×Nat×Nat×Array GO×Nat×Nat×Nat)->FU->Prop}(na:InN n pa)(nb:InN n pb)(R:Kg st=κ)(sa:Srt key pa)(sb:Srt key pb)(X:∀y∈pa,key (pb.getD 0 0)<=key y)(J:CH f key pa pb t o p q)(m:∀r c I,bH st I->xE f key (pa++pb) r->W (.done (a_ r,c)) I)(w2:∀p q o c I,bH st I->CH f key pa pb t o p q->W (.done (e_,p,q,o,c)) I)(w3:∀p q o c I,bH st I->CH f key pa pb (t+1) o p q->W (.yield (e_,p,q,o,c)) I):
  Kp (y_ prog w) A E s ((qHb (pa.map f).toArray (pb.map f).toArray 0 0 #[] 0 0 0).F 0 (e_,p,q,o,g,u,v)) W st:=by
 have i:=oA (Hk J.b) J.zb;have Q:=A_ (Hk J.b) J.zb;have T:∀g,Kp (y_ prog w) A E s (qHc (pa.map f).toArray (pb.map f).toArray p q o g u v).f W st:=λg=>by
  refine eX (qHd _ _ p q o g u v) (CF λC B=>eX (qHe _ _ p q o g u v) (br (at_of i) (eX (qHf _ _ p q o g u v _) (CB L (nb.at i) na J.za (M6 J.a) (B.kind.trans R) sa λk U G F=>?_))));have a:∀p o k,JH f key pa pb o p q->(∀x∈pa.take p,key x<=key (pb.getD (q-1) 0))->0<p->p<=pa.length->t+p+q<=pa.length+pb.length->Kp (y_ prog w) A E s (qHy (pa.map f).toArray (pb.map f).toArray p q o g v k) W C:=λp o k j tt p0 D K=>by
   have N:=oA p0 D;have b:=j.b1 (Hk J.b) J.zb tt;have O:0<q-1:=K5 J.b;refine eX (qHh _ _ p q o g v k) (br (at_of i) (gT (qHi _ _ p q o g v k _) (λe=>Cb (m _ _ _ B (b.first X Q (HC e)))) λe=>eX (qHj _ _ p q o g v k _) (br (at_of N) (eX (qHk _ _ p q o g v k _ _) (CB L (na.at N) nb (GN i) (M6 O) (B.kind.trans R) sb λl S G F=>?_)))));have Y:∀q o c,JH f key pa pb o p q->(∀x∈pb.take q,key x<=key (pa.getD (p-1) 0))->1<q->q<=pb.length->t+p+q<=pa.length+pb.length->Kp (y_ prog w) A E s (qHz (pa.map f).toArray (pb.map f).toArray p q o g k c) W C:=λq o c j tt q1 zq K=>
    have b:=j.a1 p0 D tt;have Z:CH f key pa pb t o p q:=⟨j,p0,q1,D,zq,K⟩
    HB (br (at_of N) (gT ⟨rfl⟩ (λe=>Cb (m _ _ _ B (b.fin (.inl (HC e))))) λe=>gT ⟨rfl⟩ (λ_=>Cb (w2 _ _ _ _ _ B ((Z.na1 b e).le (Me t)))) λ_=>Cb (w3 _ _ _ _ _ B (Z.na1 b e))))
   have z:∀x∈pb.take l,key x<=key (pa.getD (p-1) 0):=λx d=>Ip (by simpa[ltK] using G x d);have h:=b.bk S λx d y H=>Ho (sa.lst p0 D y H) (by simpa[ltK] using F x d);have lq:=C_ S (GN i);have P:t+p+(q-1)<=pa.length+pb.length:=C_ (Ig (Kh ..) _) K;refine gT (qHl _ _ p q o g v k _ l) (λ_=>gT (qHm _ _ p q o g v k _ l) (λe=>Cb (m _ _ _ B (h.first X Q (HC e)))) λe=>gT (qHn _ _ p q o g v k _ l) (λe=>Cb (m _ _ _ B (h.fin (.inr (HC e))))) λe'=>Y _ _ _ h z (Gs (Jh (kr e')) (HI (kr e))) lq (C_ (Ig S _) P)) λh0=>Y _ _ _ b ?_ (Gs O (HI (kr e))) (GN i) P
   rwa [show l=q-1 from Kt S (LX (J2 h0))]at z
  have z:∀x∈pa.take k,key x<=key (pb.getD (q-1) 0):=λx d=>by simpa[ltK] using G x d
  have h:=J.j.ak U λx d y H=>Ho (sb.lst (Hk J.b) J.zb y H) (Ip (by simpa[ltK] using F x d));refine gT (qHg _ _ p q o g u v k) (λ_=>gT (qHg1 _ _ p q o g u v k) (λe=>Cb (m _ _ _ B (h.fin (.inl (HC e))))) λe=>a _ _ _ h z (Jh (kr e)) (C_ U J.za) (C_ (Mf (Ig U _) _) J.t)) λh0=>a _ _ _ J.j ?_ J.a J.za J.t
  rwa [show k=p from Kt U (LX (J2 h0))]at z
 exact gT (qHc _ _ p q o g u v) (λ_=>T (g-1)) λ_=>T g
theorem Bb(L:uU prog w A E s κ f key n){Q:Array GO->FU->Prop}(na:InN n pa)(nb:InN n pb)(H:Kg st=κ)(sa:Srt key pa)(sb:Srt key pb)(k:0<pa.length)(G:0<pb.length)(C:∀y∈pa,key (pb.getD 0 0)<=key y)(O:∀y∈pb,key y<=key (pa.getD (pa.length-1) 0))(h:∀r B,bH st B->xE f key (pa++pb) r->Q r B):Kp (y_ prog w) A E s (nX (pa.map f).toArray (pb.map f).toArray) Q st:=by
 have b:(pa.map f).toArray.size=pa.length:=by simp
 have j:(pb.map f).toArray.size=pb.length:=by simp
 have l:JH f key pa pb #[f (pa.getD ((pa.map f).toArray.size-1) 0)] ((pa.map f).toArray.size-1) (pb.map f).toArray.size:=by rw[b,j];refine JH.a1 (r:=#[]) ⟨[],rfl,?_⟩ k (i_ _) λy a=>O y (IJ a);rw[J9,J9];exact⟨by rw[IH];exact List.Perm.append (MY _) (MY _),Io,xP.mpr aW,xP.mpr aW,λ_ h=>FR h GH,λ_ h=>FR h GH⟩
 have P:¬((pa.map f).toArray.size-1==0)=d_->¬((pb.map f).toArray.size==1)=d_->CH f key pa pb 1 #[f (pa.getD ((pa.map f).toArray.size-1) 0)] ((pa.map f).toArray.size-1) (pb.map f).toArray.size:=λe1 e2=>⟨l,Jh (kr e1),Gs (M8 aW) (HI (kr e2)),by simp[b],J1 j,by rw[b,j,Nat.add_sub_cancel' k];exact i_ _⟩
 refine eX (qH0 ..) (MK (ID ⟨rfl,eX (qH1 ..) (br (x:=pa.getD ((pa.map f).toArray.size-1) 0) (by rw[b];exact at_of (oA k (i_ _))) ?_)⟩));refine gT (qH2 ..) (λe=>Cb (h _ _ (bH.refl _) (l.fin (.inl (HC e))))) λe1=>gT (qH3 ..) (λe=>Cb (h _ _ (bH.refl _) (l.first C G (HC e)))) λe2=>eX (qH4 ..) (Lx ?_);refine wp_l (qH5 ..) (λx c B=>bH st B/\c.1=e_/\CH f key pa pb (1+x) c.2.2.2.1 c.2.1 c.2.2.1) (R:=λc B=>bH st B/\∃r,c.1=a_ r/\xE f key (pa++pb) r)
  ⟨bH.refl _,rfl,P e1 e2⟩ ?step (λc B ⟨_,_,J⟩=>(CH.no J).elim) λ⟨_,c⟩ B ⟨S,r,e,Y⟩=>by cases e;exact Cb (h _ _ S Y)
 rintro i ⟨_,p,q,o,g⟩ st1 _ _ ⟨S,e,J⟩;cases e;have z:Kg st1=κ:=S.kind.trans H;refine xI (qH6 (pa.map f).toArray (pb.map f).toArray p q o g) (λy c=>c.1=e_/\CH f key pa pb (1+i+y) c.2.2.2.1 c.2.1 c.2.2.1) (R:=λc=>(∃r,c.1=a_ r/\xE f key (pa++pb) r)\/c.1=e_/\CH f key pa pb (1+(i+1)) c.2.2.2.1 c.2.1 c.2.2.1)
  ⟨rfl,J⟩ ?s1 (λc ⟨e,J⟩=>(CH.no J).elim) ?p1
 case s1=>
  rintro y ⟨_,p,q,o,u,v⟩ _ _ ⟨e,J⟩ W d F;cases e;have t:=oA J.a J.za;have D:=Hk J.b;have m:=oA D J.zb;refine wp_t (qH7 _ _ p q o g u v) (br (at_of m) (br (at_of t) (L _ _ _ _ (nb.at m) (na.at t) z ?_)));have K:=J.le (t':=1+i) (Iq _ _);cases hw:ltK key (pb.getD (q-1) 0) (pa.getD (p-1) 0)with
  |true=>have U:=J.j.a1 J.a J.za λy a=>Ho (sb.lst D J.zb y a) (Ip (Mv hw));exact eX (qH8 _ _ p q o g u v) (br (at_of t) (gT (qH8a ..) (λe=>Cb (d _ (.inl ⟨_,rfl,U.fin (.inl (HC e))⟩))) λe=>gT (qH8b ..) (λ_=>Cb (d _ (.inr ⟨rfl,K.na1 U e⟩))) λ_=>Cb (F _ ⟨rfl,J.na1 U e⟩)))|false=>have U:=J.j.b1 D J.zb λy a=>Ho (sa.lst J.a J.za y a) (MP.mp (of_decide_eq_false hw));exact eX (qH9 _ _ p q o g u v) (br (at_of m) (gT (qH9a ..) (λe=>Cb (d _ (.inl ⟨_,rfl,U.first C G (HC e)⟩))) λe=>gT (qH9b ..) (λ_=>Cb (d _ (.inr ⟨rfl,K.nb1 U e⟩))) λ_=>Cb (F _ ⟨rfl,J.nb1 U e⟩)))
 rintro⟨_,p,q,o,u,v⟩ (⟨r,e,Y⟩|⟨e,J⟩)<;>cases e
 .exact Cb ⟨S,r,rfl,Y⟩
 refine eX (qHa _ _ p q o g u v) (MK (ID ⟨rfl,?_⟩));refine wp_l (qHb ..) (λy c B=>bH st B/\c.1=e_/\CH f key pa pb (1+(i+1)+y) c.2.2.2.1 c.2.1 c.2.2.1) (R:=λc B=>bH st B/\((∃r,c.1=a_ r/\xE f key (pa++pb) r)\/c.1=e_/\CH f key pa pb (1+(i+1)) c.2.2.2.1 c.2.1 c.2.2.1))
  ⟨S,rfl,J⟩ ?s2 (λc B ⟨_,_,J⟩=>(CH.no J).elim) ?p2
 case p2=>
  rintro⟨_,p,q,o,g,u,v⟩ B ⟨S,⟨r,e,Y⟩|⟨e,J⟩⟩<;>cases e
  .exact Cb ⟨S,r,rfl,Y⟩
  .exact HB (JZ (Cb ⟨S.trans ⟨_,rfl⟩,rfl,J⟩))
 rintro y ⟨_,p,q,o,g,u,v⟩ N _ _ ⟨I,e,J⟩;cases e;exact hi_turn L na nb (I.kind.trans H) sa sb C J (λ_ _ _ h Y=>⟨I.trans h,.inl ⟨_,rfl,Y⟩⟩) (λ_ _ _ _ _ h c=>⟨I.trans h,.inr ⟨rfl,c.le (Iq _ _)⟩⟩) λ_ _ _ _ _ h c=>⟨I.trans h,rfl,c⟩
end
section
open PySem.W hiding kindOf
variable{s:k_}{f:Nat->GO}{key:Nat->Int}
structure SS(κ:Ow)(f:Nat->GO)(n:Nat)(st:FU)(p:a5):Prop where
 kind:Kg st=κ
 ok:Lh st=e_
 arr:MM st=(p.map f).toArray
 perm:p.Perm (x_ n)
def SS.inN(h:SS κ f n st p):InN n p:=λx B=>Gv.mp (h.perm.mem_iff.mp B)
def SS.len(h:SS κ f n st p):p.length=n:=by rw[h.perm.length_eq,HE]
theorem wF{β:Type}:∀(o v u t:List β),v.length=o.length->(o.zipIdx u.length).foldl (λa (p:β×Nat)=>a.setIfInBounds p.2 p.1) (u++(v++t)).toArray=(u++(o++t)).toArray
 |[],[],u,t,_=>rfl|x::o,y::v,u,t,h=>by
  rw[List.zipIdx_cons,FH];have e:((u++(y::v++t)).toArray.setIfInBounds u.length x)=((u++[x])++(v++t)).toArray:=by
   rw[NJ]
   congr 1
   rw[Oy _ _ (i_ _),KC];simp
  show MA _ ((u++(y::v++t)).toArray.setIfInBounds u.length x) _=_;rw[e];have:=wF o v (u++[x]) t aW
  simp_all
theorem BX(o v u t:List β)(h:v.length=o.length):o.zipIdx.foldl (λa (p:β×Nat)=>a.setIfInBounds (u.length+p.2) p.1) (u++(v++t)).toArray=(u++(o++t)).toArray:=by
 rw[<- wF o v u t h]
 grind[List.zipIdx_eq_map_add,List.foldl_map]
section
variable(ar:Array GO)(st:FU)(sa na sb nb:Nat)
noncomputable def qM(i:Nat):Bd (Qb i):=⟨rfl⟩
def qMz(B:Nat)(r:Array GO):IP FU LI Bool:=
 (modify λs=>setArr s (r.toList.zipIdx.foldl (λa (p:GO×Nat)=>a.setIfInBounds (B+p.2) p.1) (MM s))) >>=λ_=>get >>=λs=>GW (Lh s).isNone
def qMy:IP FU LI Bool:=
 set st >>=λ_=>Qc ar sb >>=λy=>jH c_ y ar sa na 0 >>=λr=>match r with
  |some k=>if (na-k==0)=d_ then GW d_ else Qc ar (sa+k+(na-k)-1) >>=λz=>jH d_ z ar sb nb (nb-1) >>=λr=>match r with
   |some l=>if (l==0)=d_ then GW d_ else if na-k<=l then nW (ar.extract (sa+k) sb) (ar.extract sb (sb+l)) >>=λr=>qMz (sa+k) r else nX (ar.extract (sa+k) sb) (ar.extract sb (sb+l)) >>=λr=>qMz (sa+k) r
   |_=>GW c_
  |_=>GW c_
noncomputable def qM0:Bd (qMy ar st sa na sb nb):=⟨rfl⟩
noncomputable def qM1:Bd ((qM0 ar st sa na sb nb).k ()):=⟨rfl⟩
noncomputable def qM2(y):Bd ((qM1 ar st sa na sb nb).k y):=⟨rfl⟩
noncomputable def qM3(k):Ic ((qM2 ar st sa na sb nb qx0).k (a_ k)):=⟨rfl⟩
noncomputable def qM4(k):Bd (qM3 ar st sa na sb nb k).f:=⟨rfl⟩
noncomputable def qM5(k z):Bd ((qM4 ar st sa na sb nb k).k z):=⟨rfl⟩
noncomputable def qM6(k l):Ic ((qM5 ar st sa na sb nb k qx0).k (a_ l)):=⟨rfl⟩
noncomputable def qM7(k l):Ic (qM6 ar st sa na sb nb k l).f:=⟨rfl⟩
noncomputable def qM8(k l):Bd (qM7 ar st sa na sb nb k l).t:=⟨rfl⟩
noncomputable def qM9(k l):Bd (qM7 ar st sa na sb nb k l).f:=⟨rfl⟩
def qM_is{i kd B gl fl I J}(h1:B[i]?=a_ (sa,na,I))(S:B[i+1]?=a_ (sb,nb,J)):(qM i).k (Kw kd ar B gl fl)=qMy ar (Kw kd ar ((B.setIfInBounds i (sa,na+nb,I)).eraseIdxIfInBounds (i+1)) gl fl) sa na sb nb:=by show(match (B[i]?,B[i+1]?)with|(a_ (_,_,_),a_ (_,_,_))=>_|_=>_)=_;rw[h1,S];rfl
end
section
variable{u a b t:List Nat}{l:Nat}
def seg_a:((u++(a++(b++t))).drop u.length).take a.length=a:=by simp
def seg_b:((u++(a++(b++t))).drop (u.length+a.length)).take b.length=b:=by simp
theorem at_b(B:0<b.length):(u++(a++(b++t)))[u.length+a.length]?=a_ (b.getD 0 0):=by simp_all[FQ,Hb,FJ,KC,Gw]
theorem at_a(B:0<a.length)(I:k<=a.length):(u++(a++(b++t)))[u.length+k+(a.length-k)-1]?=a_ (a.getD (a.length-1) 0):=aV
def ex_a(B:k<=a.length):((u++(a++(b++t))).map f).toArray.extract (u.length+k) (u.length+a.length)=((a.drop k).map f).toArray:=by rw[uN,<- JV,NK,List.drop_append_of_le_length B,Nat.add_sub_add_left,List.take_left' (Hu ..)]
def ex_b(B:l<=b.length):((u++(a++(b++t))).map f).toArray.extract (u.length+a.length) (u.length+a.length+l)=((b.take l).map f).toArray:=by rw[uN,<- JV,NK,NK,Od,List.take_append_of_le_length B]
theorem put_ok{o:a5}(B:k<=a.length)(S:o.length=(a.drop k++b.take l).length):(o.map f).toArray.toList.zipIdx.foldl (λx (p:GO×Nat)=>x.setIfInBounds (u.length+k+p.2) p.1) ((u++(a++(b++t))).map f).toArray=((u++((a.take k++(o++b.drop l))++t)).map f).toArray:=by
 have J:u++(a++(b++t))=(u++a.take k)++((a.drop k++b.take l)++(b.drop l++t)):=by rw[FQ,FQ,<- FQ (b.take l),GR,<- FQ (a.take k),GR]
 have I:u.length+k=((u++a.take k).map f).length:=by simp[LO B]
 rw[I,J,Hc (l₁:=u++a.take k),Hc (l₁:=a.drop k++b.take l)];refine(BX (o.map f) ((a.drop k++b.take l).map f) ((u++a.take k).map f) ((b.drop l++t).map f) aV).trans ?_;simp
theorem AS{o:a5}(sa:Srt key a)(sb:Srt key b)(g:0<a.length)(f:0<b.length)(Y:∀x∈a.take k,key x<=key (b.getD 0 0))(j:∀x∈a.drop k,key (b.getD 0 0)<key x)(U:∀x∈b.take l,key x<key (a.getD (a.length-1) 0))(S:∀x∈b.drop l,key (a.getD (a.length-1) 0)<=key x)(J:o.Perm (a.drop k++b.take l))(c:Srt key o):(a.take k++(o++b.drop l)).Perm (a++b)/\Srt key (a.take k++(o++b.drop l)):=by
 have m:∀y∈b,key (b.getD 0 0)<=key y:=Srt.hd (i:=0) sb f;have h:∀y∈a,key y<=key (a.getD (a.length-1) 0):=λy I=>sa.lst g (i_ _) y aW;have d:∀x∈o,x∈a.drop k\/x∈b.take l:=λx B=>FW.mp (J.mem_iff.mp B);refine⟨((IM _).append (J.append_right _)).trans (by rw[FQ,GR,<- FQ,GR]),GK.mpr ⟨sa.sub (HW _ _),GK.mpr ⟨c,sb.sub (M1 _ _),λx B y I=>?_⟩,λx B y I=>Ho (Y x B) ?_⟩⟩
 .refine Ho ?_ (S y I);rcases d x B with e|e
  .exact h x (OG e)
  .exact Ip (U x e)
 grind
theorem first_ok(h0:0<l)(B:0<b.length):(b.take l).getD 0 0=b.getD 0 0:=by simp_all
theorem last_ok(B:k<a.length):(a.drop k).getD ((a.drop k).length-1) 0=a.getD (a.length-1) 0:=by
 rw[Hu,z_,z_,Po]
 congr 2
 lia
end
theorem wp_qMy(L:uU prog w A E s κ f key n){B:FU}{u a b t:a5}{Q:Bool->FU->Prop}(S:SS κ f n B (u++(a++(b++t))))(sa:Srt key a)(sb:Srt key b)(p:0<a.length)(U:0<b.length)(h:∀I m,m.Perm (a++b)->Srt key m->SS κ f n I (u++(m++t))->FN I=FN B->Q d_ I):Kp (y_ prog w) A E s (qMy ((u++(a++(b++t))).map f).toArray B u.length a.length (u.length+a.length) b.length) Q st1:=by
 have c:=S.inN;have bN:b.getD 0 0<n:=c _ (Gn (at_b U));have aN:a.getD (a.length-1) 0<n:=c _ (Gn (at_a p (i_ _)));have C:Srt key (a++b)->Q d_ B:=λq=>h B (a++b) (IM _) q aW rfl;refine eX (qM0 ((u++(a++(b++t))).map f).toArray B u.length a.length (u.length+a.length) b.length) (JZ (eX (qM1 ((u++(a++(b++t))).map f).toArray B u.length a.length (u.length+a.length) b.length) (br (at_b U) (eX (qM2 ((u++(a++(b++t))).map f).toArray B u.length a.length (u.length+a.length) b.length _) (zd L bN c am p S.kind aW λk F j g=>?_)))));rw[seg_a]at j g;have j:∀x∈a.take k,key x<=key (b.getD 0 0):=λx J=>by simpa[ltK] using j x J
 have g:∀x∈a.drop k,key (b.getD 0 0)<key x:=λx J=>by simpa[ltK] using g x J
 refine gT (qM3 ((u++(a++(b++t))).map f).toArray B u.length a.length (u.length+a.length) b.length k) (λe=>Cb (C (GK.mpr ⟨sa,sb,λx J y Y=>Ho (j x (by rw[Ij (LX (HC e))];exact J)) (Srt.hd (i:=0) sb U y Y)⟩))) λe1=>?_;have v:k<a.length:=Nat.lt_of_sub_pos (Jh (kr e1));refine eX (qM4 ((u++(a++(b++t))).map f).toArray B u.length a.length (u.length+a.length) b.length k) (br (at_a p F) (eX (qM5 ((u++(a++(b++t))).map f).toArray B u.length a.length (u.length+a.length) b.length k _) (zd L aN c aV (Nat.sub_one_lt_of_lt U) S.kind aW λl W d D=>?_)));rw[seg_b]at d D;have d:∀x∈b.take l,key x<key (a.getD (a.length-1) 0):=λx J=>by simpa[ltK] using d x J
 have D:∀x∈b.drop l,key (a.getD (a.length-1) 0)<=key x:=λx J=>by simp_all[ltK]
 refine gT (qM6 ((u++(a++(b++t))).map f).toArray B u.length a.length (u.length+a.length) b.length k l) (λe=>Cb (C (GK.mpr ⟨sa,sb,λx J y Y=>Ho (sa.lst p (i_ _) x aW) (D y (by rw[show l=0 from HC e];exact Y))⟩))) λe2=>?_;have T:=Jh (kr e2);have X:∀r I,bH B I->xE f key (a.drop k++b.take l) r->Kp (y_ prog w) A E s (qMz (u.length+k) r) Q I:=λr I ⟨g',e⟩ ⟨o,eo,O,Z⟩=>by cases e;cases eo;have z:=AS sa sb p U j g d D O Z;have ef:Lh B=e_:=S.ok;refine HB (JZ (HB (Lx (Cb ?_))));show Q (Lh B).isNone _;rw[ef];exact h _ _ z.1 z.2 ⟨S.kind,rfl,by show MA _ (MM B) _=_;rw[S.arr];exact put_ok F O.length_eq,((z.1.append_right t).append_left u).trans (by rw[FQ];exact S.perm)⟩ rfl
 have R:InN n (a.drop k):=λx J=>c x (FP _ (Ha _ (OG J)));have P:InN n (b.take l):=λx J=>c x (FP _ (FP _ (Ha _ (IJ J))));have H:0<(a.drop k).length:=by rw[Hu];exact K5 v
 have G:0<(b.take l).length:=by rw[GC];exact Nat.lt_min.mpr ⟨T,U⟩
 have f1:∀y∈a.drop k,key ((b.take l).getD 0 0)<=key y:=λy Y=>by rw[first_ok T U];exact Ip (g y Y)
 have f2:∀y∈b.take l,key y<=key ((a.drop k).getD ((a.drop k).length-1) 0):=λy Y=>by rw[last_ok v];exact Ip (d y Y)
 have N:Srt key (a.drop k):=sa.sub (M1 _ _);have K:Srt key (b.take l):=sb.sub (HW _ _);refine gT (qM7 ((u++(a++(b++t))).map f).toArray B u.length a.length (u.length+a.length) b.length k l) (λ_=>eX (qM8 ((u++(a++(b++t))).map f).toArray B u.length a.length (u.length+a.length) b.length k l) ?_) λ_=>eX (qM9 ((u++(a++(b++t))).map f).toArray B u.length a.length (u.length+a.length) b.length k l) ?_
 .show Kp _ _ _ _ (nW _ _) _ _;rw[ex_a F,ex_b W];exact Ba L R P S.kind N K H G f1 f2 X
 .show Kp _ _ _ _ (nX _ _) _ _;rw[ex_a F,ex_b W];exact Bb L R P S.kind N K H G f1 f2 X
def Bc(L:uU prog w A E s κ f key n){st:FU}{u a b t:a5}{I:Array (Nat×Nat×Nat)}{wa wb:Nat}{Q:Bool->FU->Prop}(S:SS κ f n st (u++(a++(b++t))))(Y:FN st=I)(h1:I[i]?=a_ (u.length,a.length,wa))(c:I[i+1]?=a_ (u.length+a.length,b.length,wb))(sa:Srt key a)(sb:Srt key b)(U:0<a.length)(J:0<b.length)(h:∀B m,m.Perm (a++b)->Srt key m->SS κ f n B (u++(m++t))->FN B=(I.setIfInBounds i (u.length,a.length+b.length,wa)).eraseIdxIfInBounds (i+1)->Q d_ B):
  Kp (y_ prog w) A E s (Qb i) Q st:=by
 subst Y;refine eX (qM i) (Lx ?_);rw[show(qM i).k st=_ from qM_is (kd:=Kg st) (gl:=gallopOf st) (fl:=Lh st) (MM st) _ _ _ _ h1 c,S.arr];exact wp_qMy L ⟨S.kind,S.ok,rfl,S.perm⟩ sa sb U J h
end
section
open PySem.W hiding kindOf
variable{s:k_}{f:Nat->GO}{key:Nat->Int}
noncomputable def kG(key:Nat->Int)(p:a5)(i:Nat):Int:=key (p.getD i 0)
def Sg(key:Nat->Int)(p:a5)(lo hi:Nat):Prop:=∀i j,lo<=i->i<=j->j<hi->kG key p i<=kG key p j
def Dg(key:Nat->Int)(p:a5)(lo hi:Nat):Prop:=∀i j,lo<=i->i<=j->j<hi->kG key p j<=kG key p i
def Fx(lo:Nat)(p p':a5):Prop:=∀i,i<lo->p'.getD i 0=p.getD i 0
def Fx.refl(p:a5):Fx lo p p:=λ_ _=>rfl
theorem Fx.trans{lo:Nat}{p q r:a5}(h:Fx lo p q)(k:Fx lo q r):Fx lo p r:=λi hi=>(k i hi).trans (h i hi)
noncomputable def rv(p:a5)(i j:Nat):a5:=(kas_rev p.toArray i j).toList
noncomputable def bb(p:a5)(src d:Nat):a5:=(bubble p.toArray src d).toList
theorem zx(B:j<=p.length)(k:Nat):(rv p i j).getD k 0=if i<=k/\k<j then p.getD (i+j-1-k) 0 else p.getD k 0:=by have e:=getElem?_mirror_all (xs:=p.toArray) (i:=i) (j:=j) aW k;unfold rv kas_rev;rw[z_,Jn,e];split<;>simp
theorem bb_get{src d:Nat}(I:src<p.length)(B:d<=src)(k:Nat):(bb p src d).getD k 0=if k=src-d then p.getD src 0 else if src-d<k/\k<=src then p.getD (k-1) 0 else p.getD k 0:=by
 have e:=getElem?_bubble (xs:=p.toArray) (src:=src) aW d B k;unfold bb;rw[z_,Jn,e];split
 .simp
 .split<;>simp
def rv_perm:(rv p i j).Perm p:=NB.mp (mirror_perm p.toArray i j _)
def bb_perm:(bb p i j).Perm p:=NB.mp (bubble_perm p.toArray i j)
theorem rv_fx(B:j<=p.length)(hi:lo<=i):Fx lo p (rv p i j):=λk I=>by rw[zx B,q_ ad]
def nO{Q:Unit->FU->Prop}(S:SS κ f n st p)(h:∀B,SS κ f n B (rv p i j)->FN B=FN st->Q () B):Kp (y_ prog w) A E s (reverseSlice' i j) Q st:=by
 rw[reverseSlice'_eq];refine JZ (h _ ⟨S.kind,S.ok,?_,rv_perm.trans S.perm⟩ rfl);show mirror (MM st) i j ((j-i)/2)=_;rw[S.arr];have e1:mirror (p.toArray.map f) i j ((j-i)/2)=(mirror p.toArray i j ((j-i)/2)).map f:=kas_swaps_map f (λk=>i+k) (λk=>j-1-k) _ p.toArray;have e2:(p.map f).toArray=p.toArray.map f:=by simp
 rw[e2,e1];unfold rv kas_rev;apply Lj.mp;simp
def wpS_movS{l:Nat}{Q:Unit->FU->Prop}(S:SS κ f n st p)(h:∀B,SS κ f n B (bb p k (k-l))->FN B=FN st->Q () B):Kp (y_ prog w) A E s (moveDown' k l) Q st:=by
 rw[moveDown'_eq];refine JZ (h _ ⟨S.kind,S.ok,?_,bb_perm.trans S.perm⟩ rfl);show bubble (MM st) k (k-l)=_;rw[S.arr];have e1:bubble (p.toArray.map f) k (k-l)=(bubble p.toArray k (k-l)).map f:=kas_swaps_map f (λi=>k-i) (λi=>k-i-1) _ p.toArray;have e2:(p.map f).toArray=p.toArray.map f:=by simp
 rw[e2,e1];unfold bb;apply Lj.mp;simp
theorem ou(L:uU prog w A E s κ f key n){Q:Option Bool->FU->Prop}(S:SS κ f n st p)(hi:i<n)(U:j<n)(h:Q (a_ (xF (kG key p i<kG key p j))) st):Kp (y_ prog w) A E s (ltAt' i j) Q st:=by
 have J:=S.len;have I:p[i]?=a_ (p.getD i 0):=by simp[show i<p.length by lia]
 have B:p[j]?=a_ (p.getD j 0):=by simp[show j<p.length by lia]
 rw[ltAt'_eq];refine HB (Lx ?_);rw[S.arr];refine HB (br I (HB (br B ?_)));exact L _ _ _ _ (S.inN _ (Gn I)) (S.inN _ (Gn B)) S.kind h
theorem Sg.step(h:Sg key p lo (lo+m))(h1:1<=m)(U:¬kG key p (lo+m)<kG key p (lo+m-1)):Sg key p lo (lo+(m+1)):=λi j hi I Y=>by
 by_cases B:j<lo+m
 .exact h i j hi I B
 .have S:j=lo+m:=ad
  subst S;by_cases J:i=lo+m
  .simp_all
  .have:=h i (lo+m-1) hi ad ad;lia
theorem Dg.step(h:Dg key p lo (lo+m))(h1:1<=m)(U:kG key p (lo+m)<=kG key p (lo+m-1)):Dg key p lo (lo+(m+1)):=λi j hi I Y=>by
 by_cases B:j<lo+m
 .exact h i j hi I B
 .have S:j=lo+m:=ad
  subst S;by_cases J:i=lo+m
  .simp_all
  .have:=h i (lo+m-1) hi ad ad;lia
def Al(key:Nat->Int)(p:a5)(m q:Nat):Prop:=∀i,m-(q+1)<=i->i<m->kG key p i=kG key p (m-1)
theorem Bs{q:Nat}(I:m<=p.length)(B:Al key p m q)(k:Nat):kG key (rv p (m-(q+1)) m) k=kG key p k:=by
 show key _=key _;rw[zx I];split
 .exact(B _ ad ad).trans (B k ad ad).symm
 .rfl
section
variable(lo nrem m:Nat)
noncomputable def qC0:Lp (countRun' lo nrem):=⟨rfl⟩
noncomputable def qCa(x):Bd ((qC0 lo nrem).F x (e_,m)):=⟨rfl⟩
noncomputable def qC1:Ic ((qC0 lo nrem).k (e_,m)):=⟨rfl⟩
noncomputable def qC2:Ic (qC1 lo nrem m).f:=⟨rfl⟩
noncomputable def qC3:Bd (qC2 lo nrem m).t:=⟨rfl⟩
noncomputable def qC5:Bd ((qC3 lo nrem m).k (a_ c_)):=⟨rfl⟩
noncomputable def qC6:Bd (qC2 lo nrem m).f:=⟨rfl⟩
noncomputable def qC7:Lp ((qC6 lo nrem m).k ()):=⟨rfl⟩
variable(q:Nat)
noncomputable def qC8:Bd ((qC7 lo nrem 0).F 0 (e_,m,q)):=⟨rfl⟩
noncomputable def qC9:Ic ((qC8 lo nrem m q).k (a_ d_)):=⟨rfl⟩
noncomputable def qCb:Bd (qC9 lo nrem m q).t:=⟨rfl⟩
noncomputable def qCc:Bd ((qC8 lo nrem m q).k (a_ c_)):=⟨rfl⟩
noncomputable def qCd:Ic ((qC7 lo nrem 0).k (e_,m,q)):=⟨rfl⟩
noncomputable def qCe:Bd (qCd lo nrem m q).t:=⟨rfl⟩
noncomputable def qCf:Bd (qCd lo nrem m q).f:=⟨rfl⟩
noncomputable def qCg:Lp ((qCf lo nrem m q).k ()):=⟨rfl⟩
end
section
variable{lo x q m:Nat}
structure DIr(key:Nat->Int)(lo:Nat)(p p':a5)(x q:Nat):Prop where
 fx:Fx lo p p'
 dg:Dg key p' lo (lo+x)
 qx:q+1<=x
 al:Al key p' (lo+x) q
theorem al0:Al key p (lo+(x+1)) 0:=λi h1 B=>by grind
def Dg.rva(d:Dg key p lo (lo+x))(a:Al key p (lo+x) q)(B:lo+x<=p.length):Dg key (rv p (lo+x-(q+1)) (lo+x)) lo (lo+x):=λi j h1 J I=>by rw[Bs B a,Bs B a];exact d i j h1 J I
theorem DIr.turn(h:DIr key lo p p' x q)(B:lo+x<=p'.length):DIr key lo p (rv p' (lo+x-(q+1)) (lo+x)) x 0:=
 ⟨h.fx.trans (rv_fx B (by have:=h.qx;lia)),h.dg.rva h.al B,C_ (HQ (Gr _)) h.qx,λi h1 I=>by grind⟩
def DIr.lt(h:DIr key lo p p' x q)(c:kG key p' (lo+x)<kG key p' (lo+x-1)):DIr key lo p p' (x+1) 0:=
 ⟨h.fx,h.dg.step (C_ (HQ (Gr _)) h.qx) (Ip c),HQ (Gr _),al0⟩
theorem DIr.eq(h:DIr key lo p p' x q)(c:kG key p' (lo+x)=kG key p' (lo+x-1)):DIr key lo p p' (x+1) (q+1):=
 ⟨h.fx,h.dg.step (C_ (HQ (Gr _)) h.qx) (Int.le_of_eq c),HQ h.qx,λi h1 B=>by
  rw[show lo+(x+1)-1=lo+x by lia];by_cases hi:i=lo+x
  .rw[hi]
  .rw[c];exact h.al i ad ad⟩
theorem Dg.rise(d:Dg key p lo (lo+x))(B:lo+x<=p.length):Sg key (rv p lo (lo+x)) lo (lo+x):=λi j S J I=>by show key _<=key _;rw[zx B,zx B,p_ ad,p_ ad];exact d _ _ ad ad ad
theorem Sg.flat(h:Sg key p lo (lo+m))(h1:1<=m)(c:¬kG key p lo<kG key p (lo+m-1)):Al key p (lo+m) (m-1):=λi I B=>by have:=h lo i (i_ _) ad B;have:=h i (lo+m-1) ad ad ad;lia
theorem one_Sg:Sg key p lo (lo+1):=λi j J I B=>by grind
theorem Al.dg(a:Al key p (lo+m) (m-1))(h1:1<=m):Dg key p lo (lo+m):=λi j J I B=>by rw[a i ad ad,a j ad B];simp
theorem qY{m nrem n:Nat}(h:m<nrem)(B:lo+nrem<=n):lo+m<n/\lo+m-1<n:=ad
end
theorem wp_asc{t:IP FU LI β}(L:uU prog w A E s κ f key n){lo nrem a:Nat}{Q:β->FU->Prop}(S:SS κ f n st p)(U:lo+nrem<=n)(d:1<=a)(J:a<=nrem)(B:Sg key p lo (lo+a)){k:Option (Option Nat)×Nat->IP FU LI β}(e:t=Pq [a:nrem] (e_,a) (qC0 lo nrem).F >>= k)(h:∀m,a<=m->m<=nrem->Sg key p lo (lo+m)->(m=nrem\/kG key p (lo+m)<kG key p (lo+m-1))->Kp (y_ prog w) A E s (k (e_,m)) Q st):Kp (y_ prog w) A E s t Q st:=
 xI ⟨e⟩ (λx c=>c=(e_,x)/\Sg key p lo (lo+x)) (R:=λc=>∃m,c=(e_,m)/\a<=m/\m<=nrem/\Sg key p lo (lo+m)/\(m=nrem\/kG key p (lo+m)<kG key p (lo+m-1))) ⟨rfl,B⟩ (λx c h1 I ⟨e,B⟩ W b Y=>by
   subst e;refine eX (qCa lo nrem x x) (ou L S (qY I U).1 (qY I U).2 ?_);by_cases c:kG key p (lo+x)<kG key p (lo+x-1)
   .rw[IY c];exact Cb (b _ ⟨x,rfl,h1,GN I,B,.inr c⟩)
   .rw[HY c];exact Cb (Y _ ⟨rfl,B.step (C_ d h1) c⟩)) (λc ⟨e,B⟩=>⟨nrem,aW,J,i_ _,aW,.inl rfl⟩) λc ⟨m,e,h1,I,i,g⟩=>e▸h m h1 I i g
theorem xJ(L:uU prog w A E s κ f key n){lo nrem:Nat}{Q:Option Nat->FU->Prop}(S:SS κ f n st p)(Y:lo+nrem<=n)(h1:1<=nrem)(h:∀m B p',SS κ f n B p'->FN B=FN st->1<=m->m<=nrem->Sg key p' lo (lo+m)->Fx lo p p'->Q (a_ m) B):Kp (y_ prog w) A E s (countRun' lo nrem) Q st:=by
 have b:∀m q p3 I,SS κ f n I p3->FN I=FN st->Fx lo p p3->Dg key p3 lo (lo+m)->1<=m->m<=nrem->Kp (y_ prog w) A E s (qCd lo nrem m q).f Q I:=λm q p3 I C e3 f3 d3 U j=>
  have J:lo+m<=p3.length:=by rw[C.len];exact C_ (Ig j _) Y
  eX (qCf ..) (nO C λX W e4=>wp_asc L W Y U j (d3.rise J) (qCg lo nrem m q).e λm5 g1 g2 Z _=>Cb (h m5 _ _ W (e4.trans e3) (C_ U g1) g2 Z (f3.trans (rv_fx J (i_ _)))))
 have d:∀m p1 st1,SS κ f n st1 p1->FN st1=FN st->Fx lo p p1->Dg key p1 lo (lo+(m+1))->m+1<=nrem->Kp (y_ prog w) A E s (qC2 lo nrem m).f Q st1:=λm p1 st1 O e1 f1 d1 j=>by
  refine eX (qC6 ..) (MK (ID ⟨rfl,?_⟩));refine wp_l (qC7 ..) (λx c B=>∃q p',c=(e_,x,q)/\SS κ f n B p'/\FN B=FN st/\DIr key lo p p' x q) (R:=λc B=>∃m q p',c=(e_,m,q)/\SS κ f n B p'/\FN B=FN st/\DIr key lo p p' m q/\m<=nrem)
   ⟨0,p1,rfl,O,e1,f1,d1,HQ (Gr _),al0⟩ ?step (λc B ⟨q,p',e,g,l,D⟩=>?_) ?post
  case step=>
   rintro x _ B _ k ⟨q,p',rfl,g,l,D⟩;have J:lo+x<=p'.length:=by rw[g.len];exact GN (qY k Y).1
   refine eX (qC8 lo nrem x q) (ou L g (qY k Y).1 (qY k Y).2 ?_);by_cases c:kG key p' (lo+x)<kG key p' (lo+x-1)
   .rw[IY c];exact gT (qC9 lo nrem x q) (λ_=>eX (qCb lo nrem x q) (nO g λo u e2=>Cb ⟨0,_,rfl,u,e2.trans l,(D.turn J).lt (by rw[Bs J D.al,Bs J D.al];exact c)⟩)) λ_=>Cb ⟨0,p',rfl,g,l,D.lt c⟩
   .rw[HY c];refine eX (qCc lo nrem x q) (ou L g (qY k Y).2 (qY k Y).1 ?_);by_cases N:kG key p' (lo+x-1)<kG key p' (lo+x)
    .rw[IY N];exact Cb ⟨x,q,p',rfl,g,l,D,GN k⟩
    .rw[HY N];exact Cb ⟨q+1,p',rfl,g,l,D.eq (Qw (MP.mp N) (MP.mp c))⟩
  case post=>
   rintro _ o ⟨m,q,p2,rfl,u,e2,D,j⟩;have J:lo+m<=p2.length:=by rw[u.len];exact C_ (Ig j _) Y
   have U:=C_ (HQ (Gr q)) D.qx;exact gT (qCd lo nrem m q) (λ_=>eX (qCe lo nrem m q) (nO u λI C e3=>b m q _ I C (e3.trans e2) (D.turn J).fx (D.turn J).dg U j)) λ_=>b m q p2 o u e2 D.fx D.dg U j
  .have v:QW (m+1) nrem=nrem:=Qg j;exact⟨nrem,q,p',by rw[e];exact Jk (λz=>(e_,z,q)) v,g,l,by rwa [show QW (qC7 lo nrem m).a (qC7 lo nrem m).b=nrem from v]at D,i_ _⟩
 refine wp_asc L S Y (i_ 1) h1 one_Sg (qC0 lo nrem).e λm U F G H=>gT (qC1 ..) (λe=>Cb (h m st p S rfl U F G (Fx.refl _))) λy=>?_;have y:¬m=nrem:=λe=>y (by rw[e];exact beq_self_eq_true nrem);have t:=H.resolve_left y;have r:=Gs F y;have J:lo+m<=p.length:=by rw[S.len];exact GN (qY r Y).1
 refine gT (qC2 ..) (λP=>eX (qC3 ..) (ou L S (JQ (Iq lo m) (qY r Y).1) (qY r Y).2 ?_)) λP=>?_
 .by_cases K:kG key p lo<kG key p (lo+m-1)
  .rw[IY K];exact Cb (h m st p S rfl U F G (Fx.refl _))
  .rw[HY K];have a:=G.flat U K;have D:DIr key lo p p m (m-1):=⟨Fx.refl _,a.dg U,J1 (Nat.sub_add_cancel U),a⟩
   have T:=(D.turn J).lt (by rw[Bs J D.al,Bs J D.al];exact t);rw[show lo+m-(m-1+1)=lo by lia]at T;exact eX (qC5 ..) (nO S λst1 O q1=>d m _ st1 O q1 T.fx T.dg r)
 .have v:m=1:=Kt (Qi P) U;subst v;exact d 1 p st S rfl (Fx.refl _) (Dg.step (Al.dg (m:=1) (λi a1 a2=>by grind) (i_ 1)) (i_ 1) (Ip t)) r
end
section
open PySem.W hiding kindOf
variable{s:k_}{f:Nat->GO}{key:Nat->Int}
section
variable(lo m ok k:Nat)
noncomputable def qB0:Lp (binarySort' lo m ok):=⟨rfl⟩
noncomputable def qB1:Lp ((qB0 lo m ok).F k (e_,())):=⟨rfl⟩
noncomputable def qB2(x c):Ic ((qB1 lo m ok k).F x c):=⟨rfl⟩
noncomputable def qB3(x c):Bd (qB2 lo m ok k x c).f:=⟨rfl⟩
noncomputable def qB4(l r:Nat):Bd ((qB1 lo m ok k).k (e_,l,r)):=⟨rfl⟩
end
section
variable{lo k l x o:Nat}
def bdK(key:Nat->Int)(p:a5)(lo k i:Nat):Bool:= !decide (kG key p (lo+k)<kG key p (lo+i))
theorem bdK_f(h:bdK key p lo k x=c_):kG key p (lo+k)<kG key p (lo+x):=by simp_all[bdK]
theorem bdK_t(h:bdK key p lo k x=d_):kG key p (lo+x)<=kG key p (lo+k):=by simp_all[bdK]
def bdK_mo(h:Sg key p lo (lo+k)):MoB (bdK key p lo k) k:=λi j B I e=>by have:=h (lo+i) (lo+j) (Iq _ _) (Ig B _) (Ky I _);have:=bdK_t e;simp only[bdK,K3,Jy];exact MP.mpr (Ho ‹_› this)
theorem oY(e:¬l>=o):l<=(l+o)/2/\(l+o)/2<o:=ad
theorem bb_kG(B:lo+k<p.length)(I:l<=k)(i:Nat):kG key (bb p (lo+k) (lo+k-(lo+l))) i=if i=lo+l then kG key p (lo+k)else if lo+l<i/\i<=lo+k then kG key p (i-1)else kG key p i:=by
 unfold kG;rw[bb_get B (Kh ..),show lo+k-(lo+k-(lo+l))=lo+l by lia];split
 .rfl
 .split<;>rfl
theorem ins_ok(h:Sg key p lo (lo+k))(I:lo+k<p.length)(B:l<=k)(h1:∀i,i<l->bdK key p lo k i=d_)(J:∀i,l<=i->i<k->bdK key p lo k i=c_):Sg key (bb p (lo+k) (lo+k-(lo+l))) lo (lo+(k+1)):=λi j e d c=>by
 rw[bb_kG I B,bb_kG I B];have Y:∀i,lo<=i->i<lo+l->kG key p i<=kG key p (lo+k):=λi a b=>by
  have:=bdK_t (h1 (i-lo) ad)
  simp_all
 have g2:∀i,lo+l<=i->i<lo+k->kG key p (lo+k)<kG key p i:=λi a b=>by
  have:=bdK_f (J (i-lo) ad ad)
  grind
 clear h1 J;by_cases U:i=lo+l
 .grind
 .rw[q_ U];by_cases S:j=lo+l
  .grind
  .rw[q_ S];split<;>split<;>exact h _ _ ad ad ad
theorem ins_fx(B:lo+k<p.length):Fx lo p (bb p (lo+k) (lo+k-(lo+l))):=λi hi=>by rw[bb_get B (Kh ..),q_ ad,q_ ad]
end
theorem CD(L:uU prog w A E s κ f key n){lo m ok:Nat}{Q:Bool->FU->Prop}(S:SS κ f n st p)(v:lo+m<=n)(h1:1<=ok)(U:ok<=m)(G:Sg key p lo (lo+ok))(h:∀I p',SS κ f n I p'->FN I=FN st->Sg key p' lo (lo+m)->Fx lo p p'->Q d_ I):Kp (y_ prog w) A E s (binarySort' lo m ok) Q st:=by
 refine wp_l (qB0 ..) (λk c I=>c=(e_,())/\∃p',SS κ f n I p'/\FN I=FN st/\Sg key p' lo (lo+k)/\Fx lo p p') (R:=λc I=>c=(e_,())/\∃p',SS κ f n I p'/\FN I=FN st/\Sg key p' lo (lo+m)/\Fx lo p p')
  ⟨rfl,p,S,rfl,by show Sg key p lo (lo+QW ok 1);simp_all,Fx.refl _⟩ ?step (λc I ⟨e,p',e1,e2,e3,e4⟩=>⟨e,p',e1,e2,?_,e4⟩) λc I ⟨e,p',F,e1,e2,e3⟩=>by cases e;exact Cb (h _ _ F e1 e2 e3)
 case step=>
  rintro k _ st1 z Y ⟨rfl,p1,g,e1,s1,f1⟩;have d:lo+k<n:=A_ (Ky Y _) v;have J:lo+k<p1.length:=by rw[g.len];exact d
  have M:=bdK_mo s1;refine xI (qB1 lo m ok k) (λx c=>c.1=e_/\Bn (bdK key p1 lo k) k x c.2.1 c.2.2) (R:=λc=>c.1=e_/\∃x,Bn (bdK key p1 lo k) k x c.2.1 c.2.2/\c.2.2<=c.2.1) ⟨rfl,Gr _,i_ _,i_ _,λi hi=>FR hi (NA _),λi a b=>FR b (Ni a)⟩ (λx c _ _ ⟨q,B⟩ W u j=>?_) (λc ⟨q,B⟩=>⟨q,_,B,Bn.ends B⟩) λ⟨_,l,r⟩ ⟨e,x,B,y⟩=>?_
  .refine gT (qB2 ..) (λe=>Cb (u _ ⟨rfl,x,B,e⟩)) λe=>eX (qB3 ..) (ou L g d (A_ (Ky (A_ (oY e).2 B.l2) _) (GN d)) ?_);have C:xF (kG key p1 (lo+k)<kG key p1 (lo+(c.2.1+c.2.2)/2))= !bdK key p1 lo k ((c.2.1+c.2.2)/2):=by simp[bdK]
   rw[C];cases o:bdK key p1 lo k ((c.2.1+c.2.2)/2)with
   |true=>exact Cb (j _ ⟨rfl,B.up M (oY e).1 (oY e).2 o⟩)|false=>exact Cb (j _ ⟨rfl,B.dn M (oY e).1 (oY e).2 o⟩)
  .cases e;cases Kt B.l1 y;exact eX (qB4 ..) (wpS_movS g λt D e2=>Cb ⟨rfl,_,D,e2.trans e1,ins_ok s1 J B.l2 B.y1 B.y2,f1.trans (ins_fx J)⟩)
 rwa [show QW (qB0 lo m ok).a (qB0 lo m ok).b=m from Qg (by rw[show(qB0 lo m ok).a=ok from Nat.max_eq_left h1];exact U)]at e3
end
section
open PySem.W hiding kindOf
variable{s:k_}{f:Nat->GO}{key:Nat->Int}
noncomputable def mkP:Nat->List (a5×Nat)->List (Nat×Nat×Nat)
 |_,[]=>[]|a,(l,w)::r=>(a,l.length,w)::mkP (a+l.length) r
noncomputable def flt(gs:List (a5×Nat)):a5:=(gs.map HN).flatten
def uf(x y:List (a5×Nat)):flt (x++y)=flt x++flt y:=by simp[flt]
theorem i6(g:a5×Nat)(y:List (a5×Nat)):flt (g::y)=g.1++flt y:=by rfl
theorem mv:∀(x:List (a5×Nat)) (a:Nat) (y:List (a5×Nat)),mkP a (x++y)=mkP a x++mkP (a+(flt x).length) y
 |[],a,y=>by rfl|(l,w)::x,a,y=>by
  show(a,l.length,w)::mkP (a+l.length) (x++y)=(a,l.length,w)::(mkP (a+l.length) x++_)
  rw[mv x,i6,FJ,Ki]
theorem tV:∀(x:List (a5×Nat)) (a:Nat),(mkP a x).length=x.length
 |[],_=>rfl|(l,w)::x,a=>by simp[mkP,tV x]
structure RI(κ:Ow)(f:Nat->GO)(key:Nat->Int)(n:Nat)(st:FU)(gs:List (a5×Nat))(rest:a5):Prop where
 ss:SS κ f n st (flt gs++rest)
 pd:FN st=(mkP 0 gs).toArray
 ok:∀g∈gs,Srt key g.1/\0<g.1.length
theorem RI.size{st:FU}{gs:List (a5×Nat)}{rest:a5}(h:RI κ f key n st gs rest):(FN st).size=gs.length:=by rw[h.pd];simp[tV]
theorem RI.few:∀{gs:List (a5×Nat)},(∀g∈gs,Srt key g.1/\0<g.1.length)->gs.length<=(flt gs).length
 |[],_=>Gr _|g::gs,h=>by
  have h1:=(h g Hq).2;have I:=RI.few (gs:=gs) λx B=>h x (Hr _ B)
  grind[i6,FJ,B_]
theorem merge_gs(L:uU prog w A E s κ f key n){B post:List (a5×Nat)}{a b:a5}{wa wb:Nat}{Q:Bool->FU->Prop}(R:RI κ f key n st (B++(a,wa)::(b,wb)::post) rest)(hi:i=B.length)(h:∀I m,m.length=a.length+b.length->RI κ f key n I (B++(m,wa)::post) rest->Q d_ I):Kp (y_ prog w) A E s (Qb i) Q st:=by
 subst hi;have J:=R.ok (a,wa) am;have U:=R.ok (b,wb) am;have o:flt (B++(a,wa)::(b,wb)::post)++rest=flt B++(a++(b++(flt post++rest))):=by rw[uf,i6,i6];simp
 have l:mkP 0 (B++(a,wa)::(b,wb)::post)=mkP 0 B++((flt B).length,a.length,wa)::((flt B).length+a.length,b.length,wb)::mkP ((flt B).length+a.length+b.length) post:=by rw[mv];simp[mkP]
 have S:=R.ss;rw[o]at S;have Y:=R.pd;rw[l]at Y;have j:=tV B 0;refine Bc L S Y (wa:=wa) (wb:=wb) ?_ ?_ J.1 U.1 J.2 U.2 λI m pm c q p'=>h I m (by rw[pm.length_eq,FJ]) ⟨?_,?_,?_⟩
 .simp_all
 .simp_all
 .simp_all[uf,i6]
 .rw[p',mv];have d:m.length=a.length+b.length:=by rw[pm.length_eq,FJ]
  show _=(mkP 0 B++(0+(flt B).length,m.length,wa)::mkP (0+(flt B).length+m.length) post).toArray;rw[KA,d,NJ,<- j,Oy _ _ (i_ _),KC,u_,List.eraseIdxIfInBounds_toArray,List.eraseIdx_append_of_length_le ad,Od,<- Ki];rfl
 .intro g k;rcases FW.mp k with e|e
  .exact R.ok g (Ha _ e)
  .rcases t_.mp e with e|e
   .subst e;have p:0<a.length:=J.2;exact⟨c,by show 0<m.length;rw[pm.length_eq,FJ];lia⟩
   .exact R.ok g (FP _ (Hr _ (Hr _ e)))
theorem split2{l:List α}(h:i+1<l.length):∃B a b post,l=B++a::b::post/\B.length=i:=by
 refine⟨l.take i,l[i],l[i+1],l.drop (i+2),?_,aV⟩
 simp
def rePw(B:Nat):Nat×Nat×Nat->Nat×Nat×Nat
 |(s,l,_)=>(s,l,B)
theorem RI.last{J:Nat}(h:RI κ f key n st gs rest):∃I,I.length=gs.length/\flt I=flt gs/\RI κ f key n (QH st ((FN st).modify ((FN st).size-1) (rePw J))) I rest:=by
 by_cases e:gs=[]
 .subst e;refine⟨[],rfl,rfl,⟨h.ss.kind,h.ss.ok,h.ss.arr,h.ss.perm⟩,?_,h.ok⟩
  show(FN st).modify ((FN st).size-1) (rePw J)=_;rw[h.pd];rfl
 .obtain⟨B,b,eb⟩:∃B b,gs=B++[b]:=⟨gs.dropLast,gs.getLast e,(List.dropLast_concat_getLast e).symm⟩
  subst eb;obtain⟨b,wb⟩:=b;have S:flt (B++[(b,J)])=flt (B++[(b,wb)]):=by simp[flt]
  refine⟨B++[(b,J)],am,S,⟨h.ss.kind,h.ss.ok,?_,?_⟩,?_,λg Y=>?_⟩
  .rw[S];exact h.ss.arr
  .rw[S];exact h.ss.perm
  .show(FN st).modify ((FN st).size-1) (rePw J)=_;rw[h.size,h.pd,mv,mv];have U:=tV B 0;apply Array.ext_getElem?;intro i;rw[Array.getElem?_modify];simp only[FJ,Oz,PJ,List.getElem?_toArray,mkP];by_cases c:B.length=i
   .subst c;rw[p_ rfl,<- U,Hb (i_ _),Hb (i_ _),KC];rfl
   grind
  .rcases FW.mp Y with e|e
   .exact h.ok g (Ha _ e)
   .have:=Gi.mp e;subst this;exact h.ok (b,wb) am
theorem RI.push{st:FU}{gs:List (a5×Nat)}{B rest:a5}(h:RI κ f key n st gs (B++rest))(S:Srt key B)(U:0<B.length):RI κ f key n (QH st ((FN st).push ((flt gs).length,B.length,0))) (gs++[(B,0)]) rest:=by
 have I:flt (gs++[(B,0)])++rest=flt gs++(B++rest):=by simp[flt]
 refine⟨⟨h.ss.kind,h.ss.ok,?_,?_⟩,?_,λg J=>?_⟩
 .rw[I];exact h.ss.arr
 .rw[I];exact h.ss.perm
 .show(FN st).push _=_;rw[h.pd,mv];simp[mkP]
 .rcases FW.mp J with e|e
  .exact h.ok g e
  simp_all
theorem cut_run{B:FU}(R:RI κ f key n st gs rest)(S:SS κ f n B p')(Y:FN B=FN st)(g:(flt gs).length+m<=n)(U:Sg key p' (flt gs).length ((flt gs).length+m))(c:Fx (flt gs).length (flt gs++rest) p'):
  ∃I J,I.length=m/\Srt key I/\RI κ f key n B gs (I++J):=by
 have h:=S.len;refine⟨(p'.drop (flt gs).length).take m,(p'.drop (flt gs).length).drop m,aV,?_,?_⟩
 .refine G2.mpr λi j hi a b=>?_;simp only[GC,Hu]at hi a;rw[K1,K1,M0,M0];have:=U ((flt gs).length+i) ((flt gs).length+j) ad ad ad
  grind[kG]
 .have e:flt gs++((p'.drop (flt gs).length).take m++(p'.drop (flt gs).length).drop m)=p':=by
   rw[GR];have:p'.take (flt gs).length=flt gs:=by
    apply Lq
    .grind
    .intro i h1 d;have:=c i d
     grind
   have e2:=GR (flt gs).length p'
   rwa [this]at e2
  refine⟨by rw[e];exact S,by rw[Y];exact R.pd,R.ok⟩
section
variable(g:FU)(lo m:Nat)
noncomputable def qR0:Bd sortRuns':=⟨rfl⟩
noncomputable def qR1:Lp (qR0.k g):=⟨rfl⟩
noncomputable def qR2:Ic ((qR1 g).F 0 (e_,lo)):=⟨rfl⟩
noncomputable def qR3:Bd (qR2 g lo).f:=⟨rfl⟩
noncomputable def qR4:Ic ((qR3 g lo).k (a_ m)):=⟨rfl⟩
noncomputable def qR5:Bd (qR4 g lo m).t:=⟨rfl⟩
noncomputable def qR6:Bd ((qR5 g lo m).k ()):=⟨rfl⟩
noncomputable def qR7:Bd (qR4 g lo m).f:=⟨rfl⟩
noncomputable def qR8:Lp ((qR1 g).k (e_,lo)):=⟨rfl⟩
noncomputable def qR9:Bd ((qR8 g lo).F 0 (e_,())):=⟨rfl⟩
noncomputable def qRa(h):Ic ((qR9 g lo).k h):=⟨rfl⟩
noncomputable def qRb(h):Bd (qRa g lo h).f:=⟨rfl⟩
end
theorem RI.le(R:RI κ f key n st gs rest):(flt gs).length<=n:=by
 have:=R.ss.len
 grind
def ite_le{c:Prop}[Decidable c]{a b:Nat}(I:a<=k)(B:b<=k):ite c a b<=k:=by split<;>assumption
theorem run_up{l x m:Nat}(c:l<n)(h:x<=l\/l=n)(B:1<=m):x+1<=l+m:=ad
theorem D6{l m:Nat}(c:l<n)(h:m<=n-l):l+m<=n:=ad
theorem two_gs(L:uU prog w A E s κ f key n){Q:Bool->FU->Prop}(R:RI κ f key n st gs rest)(Y:j=i)(hi:i+1<gs.length)(h:∀I B,RI κ f key n I B rest->(flt B).length=(flt gs).length->B.length+1=gs.length->Q d_ I):Kp (y_ prog w) A E s (Qb j) Q st:=by
 obtain⟨S,⟨a,wa⟩,⟨b,wb⟩,post,e,U⟩:=split2 hi;subst e;refine merge_gs L R (Y.trans U.symm) λJ d g c=>h J _ c ?_ ?_
 .simp_all[uf,i6,Ki]
 .simp;rfl
theorem sr_jp(L:uU prog w A E s κ f key n){U g:FU}{p2:a5}{m:Nat}{W:Li (Option Unit×Nat)->FU->Prop}(R:RI κ f key n st1 gs rest)(l:SS κ f n U p2)(q2:FN U=FN st1)(u:1<=m)(t:(flt gs).length+m<=n)(s2:Sg key p2 (flt gs).length ((flt gs).length+m))(f2:Fx (flt gs).length (flt gs++rest) p2)(z:∀S e I,RI κ f key n S e I->(flt e).length=(flt gs).length+m->W (.yield (e_,(flt gs).length+m)) S):Kp (y_ prog w) A E s (qR4 g (flt gs).length m).f W U:=by
 obtain⟨Y,I,v,q,o⟩:=cut_run R l q2 t s2 f2;clear R l s2 f2;refine eX (qR7 g (flt gs).length m) (Lx ?_);have k:∀J B,RI κ f key n J B (Y++I)->(flt B).length=(flt gs).length->Kp (y_ prog w) A E s ((modify λs=>QH s ((FN s).push ((flt gs).length,m,0))) >>=λ_=>GW (.yield (e_,(flt gs).length+m))) W J:=λJ B a b=>by
  refine HB (JZ (Cb (z _ (B++[(Y,0)]) I ?_ ?_)))
  .have:=a.push q (by rw[v];exact u)
   simp_all
  simp_all[uf,FJ,i6,flt]
 show Kp _ _ _ _ (match (FN U).back? with|some (s1,r,_)=>_|_=>_) _ _;rcases(FN U).back? with _|⟨s1,r,C⟩
 .exact k _ gs o rfl
 .refine wp_l ⟨rfl⟩ (λ_ c S=>c=(e_,())/\∃B,RI κ f key n S B (Y++I)/\(flt B).length=(flt gs).length) (R:=λc S=>c=(e_,())/\∃B,RI κ f key n S B (Y++I)/\(flt B).length=(flt gs).length) ⟨rfl,gs,o,rfl⟩ ?step (λ_ _ h=>h) ?post
  case post=>rintro _ J ⟨rfl,B,a,b⟩;obtain⟨d,_,G,j⟩:=a.last;exact HB (JZ (k _ d j aW))
  case step=>
   rintro y _ J _ _ ⟨rfl,B,a,b⟩;refine HB (Lx ?_);show Kp _ _ _ _ (match if (FN J).size>1 then(FN J)[(FN J).size-2]? else e_ with|some (_,_,i)=>_|_=>_) _ _;rw[a.size];split
   .rename_i D;have F:B.length>1:=by
     by_cases c:B.length>1
     .exact c
     .simp_all
    refine gT ⟨rfl⟩ (λ_=>Cb ⟨rfl,B,a,b⟩) λ_=>HB (two_gs L a rfl ad λp d j x _=>Cb ⟨rfl,_,j,x.trans b⟩)
   .exact Cb ⟨rfl,B,a,b⟩
theorem xH(L:uU prog w A E s κ f key n){Q:Unit->FU->Prop}(S:SS κ f n st (x_ n))(K:FN st=#[])(h1:1<=n)(h:∀B p,SS κ f n B p->Srt key p->Q () B):Kp (y_ prog w) A E s sortRuns' Q st:=by
 have hz:(MM st).size=n:=by rw[S.arr];simp
 refine eX qR0 (Lx ?_);refine wp_l (qR1 st) (λx c B=>∃gs rest,RI κ f key n B gs rest/\c=(e_,(flt gs).length)/\(x<=(flt gs).length\/(flt gs).length=n)) (R:=λc B=>∃gs rest,RI κ f key n B gs rest/\c=(e_,(flt gs).length)/\(flt gs).length=n)
  ⟨[],x_ n,⟨S,K,λ_ h=>FR h GH⟩,rfl,.inl (Gr _)⟩ ?step (λc B ⟨gs,rest,R,e,q⟩=>⟨gs,rest,R,e,?_⟩) ?post
 case step=>
  rintro x _ st1 _ q ⟨gs,rest,R,rfl,b⟩;have r:=R.le;refine gT (qR2 st (flt gs).length) (λc=>Cb ⟨gs,rest,R,rfl,Kt r (hz▸c)⟩) λc=>?_;have j:(flt gs).length<n:=Qh (hz▸c);have u:∀m,1<=m->∀B U J,RI κ f key n B U J->(flt U).length=(flt gs).length+m->∃U J,RI κ f key n B U J/\(e_,(flt gs).length+m)=((e_,(flt U).length):Option Unit×Nat)/\(x+1<=(flt U).length\/(flt U).length=n):=λm d B U J R' v=>⟨U,J,R',by rw[v],.inl (by rw[v];exact run_up j b d)⟩
  refine eX (qR3 ..) (xJ L R.ss (J1 aW) (K5 aW) λm F p2 C q2 d i s2 f2=>?_);rw[hz]at i;refine gT (qR4 st (flt gs).length m) (λz=>eX (qR5 ..) (MK (ID ⟨rfl,eX (qR6 ..) (CD L C ?_ d ?_ s2 λY p3 O H G f3=>?_)⟩))) λ_=>sr_jp L R C q2 d (D6 j i) s2 f2 (u m d)
  .exact D6 j (hz▸Qu ..)
  .exact Nat.le_min.mpr ⟨hz▸i,GN z⟩
  .have l:=C_ d (Nat.le_min.mpr ⟨hz▸i,GN z⟩);exact sr_jp L R O (H.trans q2) l (D6 j (hz▸Qu ..)) G (f2.trans f3) (u _ l)
 case post=>
  rintro _ st1 ⟨gs,rest,R,rfl,b⟩;have N:rest=[]:=JR.mp (by have:=R.ss.len;simp_all);subst N;refine wp_l (qR8 st (flt gs).length) (λy c B=>c=(e_,())/\∃I,RI κ f key n B I []/\(I.length+y<=n\/I.length<=1)) (R:=λc B=>c=(e_,())/\∃I,RI κ f key n B I []/\I.length<=1) ⟨rfl,gs,R,.inl (b▸RI.few R.ok)⟩ ?step1 (λc B ⟨e,I,a,o⟩=>⟨e,I,a,?_⟩) λc Y ⟨e,I,a,t⟩=>?_
  case step1=>
   rintro y _ Y _ o ⟨rfl,I,a,t⟩;refine eX (qR9 ..) (Lx (gT (qRa ..) (λc=>Cb ⟨rfl,I,a,a.size▸c⟩) λc=>eX (qRb ..) ?_));have W:¬I.length<=1:=a.size▸c;refine two_gs L a rfl ?_ λD k P _ T=>Cb ⟨rfl,k,P,.inl ?_⟩
   .have e:=a.size;refine JQ (HQ (ite_le (Kh ((FN Y).size-2) 1) (i_ _))) (?_:(FN Y).size-2+1<_);lia
   grind
  .have:(I.length+QW 0 (MM st).size<=n\/I.length<=1):=o
   grind
  .cases e;refine Cb (h Y (flt I) (by have:=a.ss;simp_all) ?_)
   match I,t,a.ok with
   |[],_,_=>exact Io|[g],_,ok=>simp_all[i6,flt]
 .have r:=R.le;have:QW 0 (MM st).size<=(flt gs).length\/(flt gs).length=n:=q
  lia
end
section
open PySem.W hiding kindOf
variable{s:k_}{key:Nat->Int}
def Ci(key:Nat->Int)(vs out:a8):Prop:=∃ps:a5,ps.Perm (x_ vs.length)/\Srt key ps/\out=ps.map λi=>vs.getD i FY
def ltOk_of(B:∀i j (C:Bool->k_->Prop),i<vs.length->j<vs.length->C (ltK key i j) s->Oa prog w A κ vs i j C s):uU prog w A E s κ (λi=>(vs.getD i FY,vs.getD i FY)) key vs.length:=by intro i j Q st hi J I h;rw[lt'_eq];refine HB (Lx ?_);rw[I];refine HB (MK (IZ (GX (B i j (λb s'=>s'=s/\b=ltK key i j) hi J ⟨rfl,rfl⟩) (λb s' S=>?_) λ_ _ x=>x.elim)));obtain⟨rfl,rfl⟩:=S;exact⟨rfl,Cb h⟩
theorem wj{P:Pd->k_->Prop}(U:s.heap.get? a=a_ (Iv "list" vs.toArray n))(hz:vs.length<=o_)(C:2<=vs.length->∀h1:Gu,(∀b o,b≠a->s.heap.get? b=a_ o->h1.get? b=a_ o)->Ct prog w A key vs {s with heap:=h1})(h:∀(h':Gu) (c:Nat) (out:a8),Ci key vs out->(∀b o,b≠a->s.heap.get? b=a_ o->h'.get? b=a_ o)->h'.get? a=a_ (Iv "list" out.toArray c)->P (.done (.ret .none)) {s with heap:=h'}):
  r_ (y_ prog w) A (Builtin.«list.sort» ⟨[.ref a],[]⟩) P E s:=by
 have z:a<s.z:=s_ U;obtain⟨e1,g⟩:∃e1,(s.heap.update a (HP λ_=>(#[]:Array h_))).get? a=a_ (Iv "list" #[] e1):=⟨_,get?_update_seq U λ_=>#[]⟩
 rw[list_sort_plain];refine b_ (listItems_at U rfl (b_ (OW U rfl (b_ (Qa g rfl (b_ (Of (b_ (OJ (G8 ?_) (Gr _))) aW)))) aW (Gr _))));have J:∀b o,b≠a->s.heap.get? b=a_ o->(((s.heap.update a (HP λ_=>(#[]:Array h_))).push (Iv "tuple" vs.toArray 0)).push (Iv "list" #[] 0)).get? b=a_ o:=λb o k q=>f_ _ (f_ _ ((Jd _ _ (HI k)).trans q))
 have I:(((s.heap.update a (HP λ_=>(#[]:Array h_))).push (Iv "tuple" vs.toArray 0)).push (Iv "list" #[] 0)).get? a=a_ (Iv "list" #[] e1):=f_ _ (f_ _ g);show r_ (y_ prog w) A _ P E {s with heap:=((s.heap.update a (HP λ_=>(#[]:Array h_))).push (Iv "tuple" vs.toArray 0)).push (Iv "list" #[] 0)};dsimp only;have j:∀(out:a8),Ci key vs out->P (.done (.ret .none)) {s with heap:=(((s.heap.update a (HP λ_=>(#[]:Array h_))).push (Iv "tuple" vs.toArray 0)).push (Iv "list" #[] 0)).update a (HP λ_=>out.toArray)}:=λout d=>h _ _ out d (λb o k q=>(Jd _ _ (HI k)).trans (J b o k q)) (get?_update_seq I λ_=>out.toArray)
 have l:(x_ vs.length).map (λi=>vs.getD i FY)=vs:=by
  apply Lq
  .simp
  .intro i G D;simp[D]
 by_cases e:vs.toArray.size<2
 .rw[p_ e,p_ e];refine b_ (g_ ?_);rw[StateT.run_pure];refine b_ (g_ ?_);dsimp only;have Y:vs.length<2:=by simpa using e
  have d:(MM (Kw general' (vs.toArray.zip vs.toArray) #[] 7 e_)).map (·.2)=vs.toArray:=by show(vs.toArray.zip vs.toArray).map (·.2)=vs.toArray;apply Lj.mp;simp only[Array.toList_map,PN];exact List.map_snd_zip (i_ _)
  rw[d];refine b_ (Qa I rfl (b_ (OW I rfl ?_ (Gr _) ad)));have e3:Lh (Kw general' (vs.toArray.zip vs.toArray) #[] 7 e_)=e_:=rfl;simp only[e3,bne_self_eq_false,Gk,HF];refine g_ (j vs ⟨x_ vs.length,IM _,?_,l.symm⟩)
  match vs,Y with
  |[],_=>exact Io|[x],_=>exact List.pairwise_singleton _ _
 .rw[q_ e,q_ e];have Y:2<=vs.length:=by rw[GJ]at e;lia
  refine b_ (GX (C Y _ J) (fun κ F v=>?_) λ_ _ x=>x.elim);obtain⟨es,t⟩:=v;subst es;have ea:vs.toArray.zip vs.toArray=((x_ vs.length).map λi=>(vs.getD i FY,vs.getD i FY)).toArray:=by
   apply Lj.mp;simp only[PN];apply Lq
   .simp
   .grind
  have f:=xH (E:=E) (ltOk_of (E:=E) t) (st:=Kw κ (vs.toArray.zip vs.toArray) #[] 7 e_) (Q:=λ_ B=>Lh B=e_/\∃out,Ci key vs out/\(MM B).map (·.2)=out.toArray) ⟨rfl,rfl,ea,IM _⟩ rfl ad (λB p S sp=>⟨S.ok,_,⟨p,S.perm,sp,rfl⟩,by rw[S.arr];simp⟩);unfold Kp at f;refine b_ (GX f (λr s' u=>?_) λ_ _ x=>x);obtain⟨⟨⟩,B⟩:=r;obtain⟨es,m,out,U,d⟩:=u;subst es;have m:Lh B=e_:=m;have d:(MM B).map (·.2)=out.toArray:=d;dsimp only;rw[d];have y:out.length=vs.length:=by obtain⟨ps,h1,_,rfl⟩:=U;rw[oe,h1.length_eq,HE]
  refine b_ (Qa I rfl (b_ (OW I rfl ?_ (Gr _) aV)));simp only[m,bne_self_eq_false,Gk,HF];exact g_ (j _ U)
theorem mf{Q:Mq}(a:s.heap.IsList l vs.toArray)(J:vs.length<=o_)(d:2<=vs.length->∀h1:Gu,(∀b o,s.heap.get? b=a_ o->h1.get? b=a_ o)->Ct prog w A.in1.in1 key vs {s with heap:=h1})(h:∀(h':Gu) (D:iF) (c:Nat) (out:a8),Ci key vs out->s.heap.objs.size<=D->(∀b o,s.heap.get? b=a_ o->h'.get? b=a_ o)->h'.get? D=a_ (Iv "list" out.toArray c)->Q (.ref D) {s with heap:=h'}):
  r_ (y_ prog w) A (Kz (.builtin "sorted") [.ref l]) Q E s:=by
 refine NG kind_sorted plain_sorted entry_sorted (args_sorted1 _) ?_;unfold Builtin.«sorted»;refine b_ (m:=checkCount "sorted" 1 1 _) (g_ (b_ (collect_list a (b_ (OJ ?_ ad)) ad)));have hz:((s.heap.push (Iv "list" #[] 0)).update s.z (HP (·++vs.toArray))).objs.size=s.z+1:=by rw[Heap.size_update,size_push']
 have U:(((s.heap.push (Iv "list" #[] 0)).update s.z (HP (·++vs.toArray))).push (Iv "list" vs.toArray 0)).get? (s.z+1)=a_ (Iv "list" vs.toArray 0):=by rw[<- hz];exact j_ _ rfl
 have B:∀b o,s.heap.get? b=a_ o->(((s.heap.push (Iv "list" #[] 0)).update s.z (HP (·++vs.toArray))).push (Iv "list" vs.toArray 0)).get? b=a_ o:=λb o q=>f_ _ ((Jd _ _ (HG (s_ q))).trans (f_ _ q))
 show r_ _ _ _ _ _ {s with heap:=((s.heap.push (Iv "list" #[] 0)).update s.z (HP (·++vs.toArray))).push (Iv "list" vs.toArray 0)};rw[hz];have I:∀b o,s.heap.get? b=a_ o->b≠s.z+1:=λb o q=>FO (PX (s_ q));refine b_ (G8 (FT slot_list_sort ⟨_,U,rfl⟩ entry_list_sort (wj U J (λe h1 S=>d e h1 λb o q=>S b o (I b o q) (B b o q)) λh' c out Y k' f=>⟨_,rfl,?_⟩) (args_list_sort _)));exact g_ ⟨_,rfl,h h' _ c out Y (Me _) (λb o q=>k' b o (I b o q) (B b o q)) f⟩
end
section
open PySem.W hiding kindOf
variable{lt:α->α->Bool}
theorem vU(o:Ord lt)(B:List α)(d:α){ps:a5}(h1:ps.Perm (x_ B.length))(Y:Srt (rk lt B d) ps):ps.map (λi=>B.getD i d)=cx lt B:=by
 refine kL o ?_ ?_ (fq o B)
 .refine(h1.map _).trans ?_;have:(x_ B.length).map (λi=>B.getD i d)=B:=by
   apply Lq
   .simp
   .intro i c U;simp[U]
  rw[this];exact(bC B).symm
 .rw[MZ];refine MO (λ{a b} S I J=>?_) Y;rw[<- Dd o (d:=d) (Gv.mp (h1.mem_iff.mp I)) (Gv.mp (h1.mem_iff.mp S))];exact HY ad
variable{W:cy}
theorem vo(o:Ord lt){s:k_}{Q:VK}{B:List α}{d0:α}{J:α->A'}(I:B5 X B2 σ H s)(m:aX F H)(t:SqL X.K F a xs)(r:ay X.K F (B.map J) xs)(y:∀its:a8,C' xs its->2<=its.length->∀h1:Gu,(∀b o,s.heap.get? b=a_ o->h1.get? b=a_ o)->Ct X.prog X.w X.A.in1.in1 (rk lt B d0) its {s with heap:=h1})(p:aE X.K W d_ F H (.ok (.lst ((cx lt B).map J))) Q):r_ (y_ X.prog X.w) X.A (Kz (.builtin "sorted") [.ref a]) (EP X B2 σ Q) X.xe s:=by
 obtain⟨its,Y,pl,hz⟩:=I.list (m.lst t);have A:=Y.length;have u:=r.length;rw[oe]at u;refine mf (key:=rk lt B d0) pl.isList ad (λl h1 f=>y its Y l h1 f) λh' D c out x n f e=>?_;obtain⟨ps,h1,l,rfl⟩:=x;rw[show its.length=B.length by lia]at h1;have S:∀i∈ps,i<xs.length:=λi hi=>by grind
 have j:(ps.map λi=>xs.getD i .non).length<=o_:=by rw[oe,h1.length_eq,HE];lia
 have h:=vals_map Y ps S;have g:ay X.K F ((cx lt B).map J) (ps.map λi=>xs.getD i .non):=by
  rw[<- vU o B d0 h1 l,FK];refine ay.of_get am λk C v U g2=>?_;rw[FL]at U g2;cases ek:ps[k]? with
  |none=>simp_all|some i=>
   rw[ek]at U g2;simp only[Iz,GF,LY]at U g2;have hi:=S i (Gn ek);obtain⟨w,e1,q⟩:=r.get (i:=i) (d:=J (B[i]'(by omega))) (by simp[show i<B.length by lia]);rw[getD_get (show i<B.length by lia)]at U
   simp_all
 have z:B5 X B2 σ (upd H D (.lst (ps.map λi=>xs.getD i .non))) {s with heap:=h'}:=I.laid (t':=s.toks) f n (show gW _ h' D (.lst _)from⟨j,_,c,h,e⟩);exact⟨.ref D,_,z,rfl,p.lst m g (I.hok.fresh n)⟩
def t5(ds:List A'):M A':=match cF ds with
 |.ok is=>.ok (.lst ((cx ltZ is).map .int))|.error _=>(fQ ds).bind λts=>if (ts.all λt=> !t.isEmpty)=d_ then .ok (.lst ((cx xC ts).map aP))else stk
def eY:List A'->M A'
 |[.lst ds]=>t5 ds|_=>stk
def qh(k: ~~~(X.K=K)):jU K W d_ X (.builtin "sorted") eY:=by
 subst k;intro B2 s σ H xs us Q I j h;obtain⟨F,d,x,s1,e,q,p⟩:=gw (λds=>by match ds with|[d]=>simp|[]=>exact .inr rfl|a::b::c=>exact .inr (by cases a<;>rfl)) h;subst e;obtain⟨u,rfl,i⟩:=j.one;cases d with
 |lst ds=>
  obtain⟨a,ys,e1,t,r⟩:=q;subst e1;cases i;have p':aE X.K W d_ F H (t5 ds) Q:=p;unfold t5 at p';cases S:cF ds with
  |ok is=>rw[S]at p';have f:=Ew S;subst f;refine vo ordZ (d0:=0) I s1 t r (λits U Y h1 g=>?_) p';have e2:ys=is.map V.int:=dh r S;subst e2;exact Fw (intsAre_of U) Y|error z=>
   rw[S]at p';have p2:aE X.K W d_ F H ((fQ ds).bind λts=>if (ts.all λt=> !t.isEmpty)=d_ then .ok (.lst ((cx xC ts).map aP))else stk) Q:=p';cases J:fQ ds with
   |error l=>rw[J]at p2;have:=l7 J;subst this;exact aE.stuck p2|ok ts=>
    rw[J]at p2;have f:=l6 J;subst f;have p3:aE X.K W d_ F H (if (ts.all λt=> !t.isEmpty)=d_ then .ok (.lst ((cx xC ts).map aP))else stk) Q:=p2;by_cases B:(ts.all λt=> !t.isEmpty)=d_
    .rw[p_ B]at p3;exact vo ordLex (d0:=[]) I s1 t r (λits U Y h1 g=>Fv I s1 r B U Y g) p3
    .rw[q_ B]at p3;exact aE.stuck p3
 |_=>exact aE.stuck p
end
section
open PySem SetTable
end
section
open PySem
end
section
open PySem SetTable
end
section
open PySem.W
end
section
open PySem
structure IK(prog:GD)(w:Hw)(κ:Type)[Jl κ] where
 is:Gu->κ->h_->Prop
 hash:κ->Int
 draws:κ->Nat
 up:Nat
 fuel:Nat
 inj:∀{h:Gu} {v:h_} {x y:κ},is h x v->is h y v->x=y
 keeps:∀{h h':Gu} {k:κ} {v:h_},is h k v->(∀(a:iF) (o:Mx) (us:Array h_) (n:Nat),h.get? a=a_ o->o.data=.seq us n->h'.get? a=a_ o)->is h' k v
 pyHash:∀{A:HL} {E:Mq} {s:k_} {k:κ} {v:h_} {Q:Int->k_->Prop},A.units+up<GQ->is s.heap k v->Q (hash k) {s with toks:=s.toks+draws k}->r_ (y_ prog w) A (MD v) Q E s
 eqBool:∀{A:HL} {E:Mq} {s:k_} {x y:κ} {u v:h_} {Q:Bool->k_->Prop},A.units+up<GQ->is s.heap x u->is s.heap y v->Q (xF (x=y)) s->r_ (y_ prog w) A (Kr u v) Q E s
 quiet:∀{A:HL} {E:Mq} {s:k_} {k:κ} {v:h_} {Q:Bool->k_->Prop} (n:Nat),fuel<=n->is s.heap k v->Q d_ s->r_ (y_ prog w) A (O4 n v) Q E s
variable{s:k_}
def TupAt(h:Gu)(a:iF)(us:a8):Prop:=∃o n,h.get? a=a_ o/\o.cls=.type "tuple"/\o.data=.seq us.toArray n
def TupAt.ty(h:TupAt s.heap a us):s.TypeIs (.ref a) "tuple":=let ⟨o,_,B,I,_⟩:=h;⟨o,B,I⟩
theorem TupAt.inj(x:TupAt h a us)(y:TupAt h a vs):us=vs:=by
 obtain⟨o,n,S,_,U⟩:=x;obtain⟨o',J,B,_,I⟩:=y
 simp_all
def TupAt.keep(x:TupAt h a us)(k:∀(a:iF) (o:Mx) (us:Array h_) (n:Nat),h.get? a=a_ o->o.data=.seq us n->h'.get? a=a_ o):TupAt h' a us:=
 let ⟨o,n,I,J,B⟩:=x;⟨o,n,k _ _ _ _ I B,J,B⟩
inductive Hs(prog:GD)(w:Hw)(A:HL)(h:Gu):List h_->List Int->Nat->Prop
 |nil:Hs prog w A h [] [] 0
 |cons {v:h_} {vs:List h_} {i:Int} {is:List Int} {d n:Nat} (hv:∀(E:Mq) (s:k_) (Q:Int->k_->Prop),s.heap=h->Q i {s with toks:=s.toks+d}->r_ (y_ prog w) A (MD v) Q E s) (r:Hs prog w A h vs is n):Hs prog w A h (v::vs) (i::is) (d+n)
theorem Ao{Q:Int->k_->Prop}(j:A.units<GQ)(c:TupAt s.heap a us)(hi:Hs prog w A.in1 s.heap us is n)(h:Q (La (Ga is)) {s with toks:=s.toks+(n+1)}):
  r_ (y_ prog w) A (MD (.ref a)) Q E s:=by
 have I:=c.ty;obtain⟨o,m,l,_,q⟩:=c;unfold MD
 first|unfold pyHashByItsType|skip
 first|refine b_ (wpAny_cRoomFor_or (.inr j) ?_)|skip
 refine b_ (KI I Lk.lookup ?_);show r_ _ _ (ite ((a_ (Qq "tuple.__hash__")==a_ FY)=d_) _ _) Q E s;rw[q_ am];refine b_ (KI I Lk.lookup ?_);show r_ _ _ (callSpecialIfBoundUnlessNone? (.ref a) "__hash__" _ >>= _) Q E s;refine b_ (wpAny_callSpecialIfBoundUnlessNone?_slot I Lk (FT Lk I F.entry_tuple_hash ?_ (F.args_tuple_hash_1 _)));show r_ _ _ (Mr (.ref a) >>= _) _ _ s;refine b_ (JW l q ?_);refine b_ ?_;rw[<- O1];refine Kq _ (λrest (b:Array Int) s'=>∃B m k,Hs prog w A.in1 s.heap rest B m/\b.toList++B=is/\k+m=n/\s'={s with toks:=s.toks+k}) _ ?_ ?_ _ _ ⟨is,n,0,hi,rfl,ad,rfl⟩
 .rintro x rest b s' ⟨B,m,k,S,Y,p,rfl⟩;cases S with
  |@cons _ _ i J d f g r=>refine b_ (g _ _ _ rfl (g_ ⟨J,f,k+d,r,aW,ad,?_⟩));simp[Ki]
 .rintro b s' ⟨B,m,k,S,Y,p,rfl⟩;cases S;rw[Hn]at Y;have U:k=n:=ad
  subst U;show r_ _ _ (retInt (Ga b.toList)) _ _ _;rw[Y];refine wpAny_ret_mkInt ?_;refine(?_:r_ _ _ (ite ((xF (-(2:Int)^63<=Ga is)&&xF (Ga is<2^63))=d_) _ _) Q E _)
  unfold La at h;by_cases e:(xF (-(2:Int)^63<=Ga is)&&xF (Ga is<2^63))=d_
  .rw[p_ e]at h ⊢;exact g_ (by simp_all[Ki])
  .rw[q_ e]at h ⊢;exact b_ (ID (g_ (by simpa[Ki] using h)))
inductive Es(prog:GD)(w:Hw)(A:HL)(h:Gu):List h_->List h_->Bool->Prop
 |nil {us vs:List h_} (e:us=[]\/vs=[]):Es prog w A h us vs d_
 |cons {u v:h_} {us vs:List h_} {b c:Bool} (hv:∀(E:Mq) (s:k_) (Q:Bool->k_->Prop),s.heap=h->Q b s->r_ (y_ prog w) A (Kr u v) Q E s) (r:Es prog w A h us vs c):Es prog w A h (u::us) (v::vs) (b&&c)
theorem yA{c:Bool}{P:Pd->k_->Prop}(o:TupAt s.heap a us)(m:TupAt s.heap b vs)(x:Es prog w A s.heap us vs c)(h:P (.done (.ret (.bool (c&&us.length==vs.length)))) s):
  r_ (y_ prog w) A (Builtin.«tuple.__eq__» ⟨[.ref a,.ref b],[]⟩) P E s:=by
 have k:=m.ty;obtain⟨H,na,g,_,j⟩:=o;obtain⟨G,nb,f,_,i⟩:=m;show r_ _ _ (QB (.ref b) (.type "tuple") >>= _) _ _ s;refine b_ (HV k Mm ?_);simp only[Jm,Gk,HF];refine b_ (JW g j (b_ (JW f i (b_ ?_))));refine Kq _ (λrest r s'=>r.1=e_/\s'=s/\∃I B S,rest=List.zip I B/\Es prog w A s.heap I B S/\S=c) _ ?_ ?_ _ _ ⟨rfl,rfl,us,vs,c,am,x,rfl⟩
 .rintro⟨u,v⟩ rest r s' ⟨d,rfl,I,B,S,hz,J,n⟩;cases J with
  |nil e=>
   rcases e with e|e
   .simp_all
   simp_all
  |@cons D C Y U z y p l=>
   simp only[My,J7,L3]at hz;obtain⟨⟨rfl,rfl⟩,rfl⟩:=hz;refine b_ (p _ _ _ rfl ?_);cases z with
   |true=>simp only[Jm,Gk,HF];exact g_ ⟨rfl,rfl,Y,U,y,rfl,l,aW⟩|false=>
    simp only[L6,Jw];have t:c=c_:=by rw[<- n];rfl
    rw[t,L7]at h;exact b_ (g_ (g_ (g_ h)))
 .rintro⟨l,F⟩ s' ⟨d,rfl,I,B,S,hz,J,n⟩;simp only at d;subst d;have q:c=d_:=by
   cases J with
   |nil e=>lia|cons _ _=>simp_all
  rw[q,K9]at h;refine g_ ?_;show P (.done (.ret (.bool (us.toArray.size==vs.toArray.size)))) s';exact h
theorem eq_tup{c:Bool}{Q:Bool->k_->Prop}(S:A.units<GQ)(I:TupAt s.heap a us)(J:TupAt s.heap b vs)(Y:Es prog w A.in1 s.heap us vs c)(U:a=b->(c&&us.length==vs.length)=d_)(h:Q (c&&us.length==vs.length) s):
  r_ (y_ prog w) A (Kr (.ref a) (.ref b)) Q E s:=by
 unfold Kr
 try with_reducible refine G8 ?_
 show r_ _ _ (ite ((w_ a==w_ b)=d_) _ _) Q E s;by_cases B:(w_ a==w_ b)=d_
 .rw[p_ B];have e:a=b:=by have:=HC B;injection this
  rw[U e]at h;exact b_ (ID (g_ h))
 .rw[q_ B];exact b_ (KW (op:=.Eq) I.ty J.ty Ll (FT Ll I.ty F.entry_tuple_eq (yA I J Y ⟨_,rfl,(λe=>nomatch e),Hm h⟩) (F.args_tuple_eq_2 _ _)) S)
theorem vH{Q:Bool->k_->Prop}(n:Nat)(S:TupAt s.heap a us)(Y:∀v∈us,∀(E:Mq) (Q:Bool->k_->Prop),Q d_ s->r_ (y_ prog w) A (O4 n v) Q E s)(h:Q d_ s):r_ (y_ prog w) A (O4 (n+1) (.ref a)) Q E s:=by
 have U:=S.ty;obtain⟨o,m,b,_,c⟩:=S;unfold O4;refine b_ (KI U Ll.lookup ?_);show r_ _ _ (QB (.ref a) (.type "tuple") >>= _) _ _ s;refine b_ (HV U Mm ?_);simp only[Jm,Gk,HF];refine b_ (H_ b c (b_ ?_));show r_ _ _ (Pq us.toArray _ _) _ _ s;rw[<- O1];refine Kq _ (λrest r s'=>r.1=e_/\s'=s/\∀v∈rest,v∈us) _ ?_ ?_ _ _ ⟨rfl,rfl,λv f=>by simp_all⟩
 .rintro v rest r s' ⟨J,rfl,B⟩;refine b_ (Y v (B v Hq) _ _ ?_);simp only[Jm,Gk,HF];exact g_ ⟨rfl,rfl,λu I=>B u (Hr _ I)⟩
 .rintro⟨e,d⟩ s' ⟨J,rfl,_⟩;simp only at J;subst J;exact g_ h
end
section
open PySem
variable{κ μ:Type}[Jl κ][Jl μ]
inductive qt{α β:Type}(R:α->β->Prop):List α->List β->Prop
 |nil:qt R [] []
 |cons {x:α} {y:β} {xs:List α} {ys:List β} (h:R x y) (t:qt R xs ys):qt R (x::xs) (y::ys)
def qt.imp{R S:α->β->Prop}(f:∀x y,R x y->S x y){xs:List α}{ys:List β}(h:qt R xs ys):qt S xs ys:=by
 induction h with
 |nil=>exact .nil|cons h _ B=>exact .cons (f _ _ h) B
theorem qt.mem{R:α->β->Prop}{xs:List α}{ys:List β}(h:qt R xs ys):∀y∈ys,∃x,R x y:=by
 induction h with
 |nil=>simp|cons h _ B=>grind
def yr(prog:GD)(w:Hw):IK prog w Int where
 is:=λ_ k v=>∃t,v=.int k t
 hash:=hashInt
 draws:=λ_=>1
 up:=0
 fuel:=0
 inj:=λ⟨t,e⟩ ⟨u,f⟩=>by lia
 keeps:=λh _=>h
 pyHash:=λ_ ⟨t,e⟩ h=>by subst e;exact(N_ prog w).pyHash (QC _ _ _ _) h
 eqBool:=λ_ ⟨t,e⟩ ⟨u,f⟩ h=>by subst e f;exact(N_ prog w).eqBool (QC _ _ _ _) (QC _ _ _ _) h
 quiet:=λn _ ⟨t,e⟩ h=>by subst e;rw[eqIsQuiet_byValue n rfl];exact g_ h
theorem hs_all(I:IK prog w κ){A:HL}{h:Gu}(B:A.units+I.up<GQ):∀{ks:List κ} {us:a8},qt (I.is h) ks us->Hs prog w A h us (ks.map I.hash) ((ks.map I.draws).sum)
 |_,_,.nil=>.nil|_,_,.cons q t=>.cons (λE s Q e J=>I.pyHash B aW J) (hs_all I B t)
theorem es_all(I:IK prog w κ){A:HL}{h:Gu}(B:A.units+I.up<GQ):∀{ks ls:List κ} {us vs:a8},qt (I.is h) ks us->qt (I.is h) ls vs->∃c,Es prog w A h us vs c/\(c&&us.length==vs.length)=xF (ks=ls)
 |_,_,_,_,.nil,.nil=>⟨d_,.nil (.inl rfl),am⟩|_,_,_,_,.nil,.cons q t=>⟨d_,.nil (.inl rfl),am⟩|_,_,_,_,.cons q t,.nil=>⟨d_,.nil (.inr rfl),am⟩|k::ks,l::ls,_,_,.cons q t,.cons S t'=>by
  obtain⟨c,e,U⟩:=es_all I B t t';refine⟨xF (k=l)&&c,.cons (λE s Q e J=>I.eqBool B aW aW J) e,?_⟩
  grind
theorem yV(I:IK prog w κ){h:Gu}:∀{ks ls:List κ} {us:a8},qt (I.is h) ks us->qt (I.is h) ls us->ks=ls
 |_,_,_,.nil,.nil=>rfl|_,_,_,.cons q t,.cons B t'=>by rw[I.inj q B,yV I t t']
def tupI(I:IK prog w κ):IK prog w (List κ) where
 is:=λh ks v=>∃a us,v=.ref a/\TupAt h a us/\qt (I.is h) ks us
 hash:=λks=>La (Ga (ks.map I.hash))
 draws:=λks=>(ks.map I.draws).sum+1
 up:=I.up+1
 fuel:=I.fuel+1
 inj:=λ⟨a,us,e,t,q⟩ ⟨b,vs,f,t',B⟩=>by rw[e]at f;cases f;have:=t.inj t';subst this;exact yV I q B
 keeps:=λ⟨a,us,e,t,q⟩ k=>⟨a,us,e,t.keep k,q.imp λ_ _ z=>I.keeps z k⟩
 pyHash:=λ{A E s k v Q} Y ⟨a,us,e,t,q⟩ h=>by subst e;exact Ao ad t (hs_all I (A:=A.in1) ad q) h
 eqBool:=λ{A E s x y u v Q} Y ⟨a,us,e,t,q⟩ ⟨b,vs,f,t',B⟩ h=>by subst e f;obtain⟨c,es,S⟩:=es_all I (A:=A.in1) ad q B;rw[<- S]at h;refine eq_tup ad t t' es (λe=>?_) h;subst e;have:=t.inj t';subst this;rw[S,yV I q B];simp
 quiet:=λ{A E s k v Q} n g ⟨a,us,e,t,q⟩ h=>by
  subst e;obtain⟨m,rfl⟩:∃m,n=m+1:=⟨n-1,ad⟩
  refine vH m t (λv U E Q d=>?_) h;obtain⟨k',J⟩:=q.mem v U;exact I.quiet m ad J d
def pairI(I:IK prog w κ)(J:IK prog w μ):IK prog w (κ×μ) where
 is:=λh k v=>∃a U S,v=.ref a/\TupAt h a [U,S]/\I.is h k.1 U/\J.is h k.2 S
 hash:=λk=>La (Ga [I.hash k.1,J.hash k.2])
 draws:=λk=>I.draws k.1+(J.draws k.2+0)+1
 up:=QW I.up J.up+1
 fuel:=QW I.fuel J.fuel+1
 inj:=λ{h v x y} ⟨a,U,S,e,t,q1,q2⟩ ⟨b,c,Y,f,t',p1,p2⟩=>by rw[e]at f;cases f;have:=t.inj t';simp only[J7,and_true]at this;obtain⟨rfl,rfl⟩:=this;exact NH (I.inj q1 p1) (J.inj q2 p2)
 keeps:=λ⟨a,U,S,e,t,q1,q2⟩ k=>⟨a,U,S,e,t.keep k,I.keeps q1 k,J.keeps q2 k⟩
 pyHash:=λ{A E s k v Q} i ⟨a,U,S,e,t,q1,q2⟩ h=>by subst e;exact Ao ad t (.cons (λE s' Q e B=>I.pyHash (A:=A.in1) ad aW B) (.cons (λE s' Q e B=>J.pyHash (A:=A.in1) ad aW B) .nil)) h
 eqBool:=λ{A E s x y u v Q} i ⟨a,U,S,e,t,q1,q2⟩ ⟨b,c,Y,f,t',p1,p2⟩ h=>by
  subst e f;have g:((xF (x.1=y.1)&&(xF (x.2=y.2)&&d_))&&[U,S].length==[c,Y].length)=xF (x=y):=by obtain⟨p,o⟩:=x;obtain⟨l,j⟩:=y;simp[L3]
  rw[<- g]at h;refine eq_tup ad t t' (.cons (λE s' Q e B=>I.eqBool (A:=A.in1) (by show A.units+1+I.up<GQ;lia) aW aW B) (.cons (λE s' Q e B=>J.eqBool (A:=A.in1) (by show A.units+1+J.up<GQ;lia) aW aW B) (.nil (.inl rfl)))) (λe=>?_) h;subst e;have:=t.inj t';simp only[J7,and_true]at this;obtain⟨rfl,rfl⟩:=this;rw[g,NH (I.inj q1 p1) (J.inj q2 p2)];simp
 quiet:=λ{A E s k v Q} n q ⟨a,U,S,e,t,q1,q2⟩ h=>by
  subst e;obtain⟨m,rfl⟩:∃m,n=m+1:=⟨n-1,ad⟩
  refine vH m t (λv d E Q B=>?_) h;simp only[t_,GH,Qx]at d;rcases d with e|e
  .subst e;exact I.quiet m ad q1 B
  .subst e;exact J.quiet m ad q2 B
def heapI(I:IK prog w κ)(f:I.fuel<=8):Nx prog w κ where
 is:=λh k a=>I.is h k (.ref a)
 hash:=I.hash
 draws:=I.draws
 room:=λA=>A.units+I.up<GQ
 inj:=λJ B=>I.inj J B
 keeps:=λ{h h' k a d o es ep} x i j Y=>I.keeps x λb g us n c l=>by
  rw[Y.2 b λe=>?_]
  .exact c
  simp_all
 pyHash:=λS U h=>I.pyHash S U h
 eqBool:=λS J B h=>I.eqBool S J B h
 quiet:=λU h=>I.quiet 8 f U h
def labI(prog:GD)(w:Hw):IK prog w LK:=pairI (yr prog w) (tupI (tupI (yr prog w)))
end
abbrev yq(P:GD)(w:Hw):Nx P w LK:=heapI (labI P w) (by show QW 0 (0+1+1)+1<=8;decide)
def ko.map(s:∀b xs,SqT K F b xs->SqT K F' b xs){k:LK}(h:ko K F b k):ko K F' b k:=
 let ⟨r,U,S,J,l,I⟩:=h;⟨r,U,s _ _ S,s _ _ J,l,λj B c e1 e2=>s _ _ (I j B c e1 e2)⟩
noncomputable def putL(ks:a9)(k:LK):a9:=if k∈ks then ks else ks++[k]
noncomputable def lB(xs:List (LK×iF))(k:LK)(b:iF):List (LK×iF):=if k∈xs.map (·.1)then xs else xs++[(k,b)]
def rA(xs:List (LK×iF))(k:LK)(b:iF):(lB xs k b).map (·.1)=putL (xs.map (·.1)) k:=by unfold lB putL;split<;>simp
def vK{xs:List (LK×iF)}{k:LK}{x:LK×iF}(h:x∈lB xs k b):x∈xs\/x=(k,b):=by
 unfold lB at h;split at h
 .exact .inl h
 .simpa using h
def vL(xs:List (LK×iF))(k:LK)(b:iF):(lB xs k b).length<=xs.length+1:=by unfold lB;split<;>simp
noncomputable def enL(x:LK×iF):LK×iF×h_:=(x.1,x.2,.bool d_)
def Ax(xs:List (LK×iF)):(xs.map enL).map (·.1)=xs.map (·.1):=by rw[FK];rfl
def atL(xs:List (LK×iF))(k:LK):(O7 (xs.map enL) k).isSome=xF (k∈xs.map (·.1)):=by
 unfold O7;rw[OX,Nq,List.find?_isSome,FG];simp only[Gq,FG];constructor
 .rintro⟨x,⟨y,B,rfl⟩,e⟩;exact⟨y,B,e⟩
 .rintro⟨y,B,e⟩;exact⟨enL y,⟨y,B,rfl⟩,e⟩
def CT(xs:List (LK×iF))(k:LK)(b:iF):MR (xs.map enL) k b (.bool d_)=(lB xs k b).map enL:=by
 unfold MR lB;rw[atL];by_cases h:k∈xs.map (·.1)
 .rw[IY h,p_ rfl,p_ h];rw[FK];refine Ib λx _=>?_;show putAt k (.bool d_) (enL x)=enL x;unfold putAt;split<;>rfl
 .rw[HY h,q_ am,q_ h];simp[enL]
section
variable{s:k_}{xs:List (LK×iF)}{k:LK}
def CM(I:B5 X B2 σ H s){vs:a7}(h:SqT X.K H b vs):∃us,C' vs us/\TupAt s.heap b us:=by obtain⟨its,r,⟨o,h1,J,n,B⟩,_⟩:=I.tuple h;exact⟨its,r,o,n,h1,J,B⟩
theorem An:∀{B:a0} {us:a8} {h:Gu},C' (B.map V.int) us->qt ((yr X.prog X.w).is h) B us
 |[],_,_,.nil=>.nil|i::B,_,_,.cons r t=>.cons r (An t)
def row_at(I:B5 X B2 σ H s){B:a0}(h:SqT X.K H b (B.map V.int)):(tupI (yr X.prog X.w)).is s.heap B (.ref b):=by obtain⟨us,r,t⟩:=CM I h;exact⟨b,us,rfl,t,An r⟩
theorem zH(I:B5 X B2 σ H s):∀{rows:List a0} {J:List iF} {us:a8},C' (J.map V.ref) us->J.length=rows.length->(∀(j:Nat) (B:a0) (c:iF),rows[j]?=a_ B->J[j]?=a_ c->SqT X.K H c (B.map V.int))->qt ((tupI (yr X.prog X.w)).is s.heap) rows us
 |[],[],_,.nil,_,_=>.nil|[],_::_,_,_,l,_=>by simp at l|_::_,[],_,_,l,_=>by simp at l|B::rows,c::J,_,.cons r t,l,h=>by cases(show _=w_ c from r);exact .cons (row_at I (h 0 B c rfl rfl)) (zH I t (by simpa using l) λj B c e1 e2=>h (j+1) B c e1 e2)
def mw(I:B5 X B2 σ H s)(h:ko X.K H b k):(yq X.prog X.w).is s.heap k b:=by obtain⟨r,i,d,c,l,a⟩:=h;obtain⟨us,e,Y⟩:=CM I d;obtain⟨vs,J,B⟩:=CM I c;obtain⟨U,S,rfl,g,f⟩:=e.two;cases(show S=w_ r from f);exact⟨b,U,.ref r,rfl,Y,g,r,vs,rfl,B,zH I J l a⟩
def FD(K:Pn)(H:Hp)(xs:List (LK×iF)):Prop:=∀x∈xs,ko K H x.2 x.1
def yB{xs:List (LK×iF)}(z:Ck h a xs ep):gW H h a (xA a xs ep):=by
 have I:=z;obtain⟨h1,j,i,o,es,S,g⟩:=z;refine⟨I,⟨o,S⟩,λ_ _ J e=>?_⟩
 obtain⟨f,g2,d,o',B,c,b,Y,U⟩:=J;exact⟨f,g2,d,o',B,e _ c,b,Y,U⟩
def EO(I:B5 X B2 σ H s)(e:H a=a_ (xA a xs ep)):Ck s.heap a xs ep:=(show Ck s.heap a xs ep/\_ from I.hok a _ e).1
def ER(I:B5 X B2 σ H s)(e:H a=a_ (xA a xs ep))(z:FD X.K H xs):(a==G5)=c_/\xs.length<=o_/\s.heap.DictOfH (yq X.prog X.w) a (xs.map enL):=by
 obtain⟨Y,U,S,o,es,h1,d,c,b⟩:=EO I e;refine⟨Y,U,o,es,ep,h1,d,c,?_,λq J=>?_,by rw[Ax];exact S⟩
 .rw[b,FK];rfl
 .obtain⟨x,B,rfl⟩:=Gq.mp J;exact mw I (z x B)
def AB(b:h.DictOfH (yq P w) a (xs.map enL))(J:(a==G5)=c_)(I:xs.length<=o_):∃ep,Ck h a xs ep:=by
 obtain⟨o,es,ep,h1,Y,U,S,_,B⟩:=b;rw[Ax]at B;refine⟨ep,J,I,B,o,es,h1,Y,U,?_⟩
 rw[S,FK];rfl
def B5.dil{ys:List (LK×iF)}{t':Nat}(I:B5 X B2 σ H s)(e:H a=a_ (xA a xs ep))(B:HD a s.heap h')(z:Ck h' a ys ep'):B5 X B2 σ (upd H a (xA a ys ep')) {s with heap:=h',toks:=t'}:=
 I.write (x:=a) (e:=a) (by rw[e];exact J8) (.inl rfl) (λc q J w=>(B.2 c J).trans w) (let ⟨_,_,_,o,_,w,_,_,_⟩:=z;⟨o,w⟩) (yB z)
theorem lroom(B:A.units+64<GQ):(yq X.prog X.w).room A.in1:=by show A.units+1+3<GQ;lia
end
def tNewL:TE:=λ_ H Q=>∀p,H p=e_->Q (.ref p) (upd H p (xA p [] 0))
def sPutT(K:Pn)(td ty tv:TE):TS:=λD σ H=>tv σ H λv H1=>td σ H1 λx H2=>ty σ H2 λy B=>∃a b k xs ep,v=.bl d_/\x=.ref a/\y=.ref b/\B a=a_ (xA a xs ep)/\FD K B xs/\ko K B b k/\xs.length<o_/\∀ep',D.nx σ (upd B a (xA a (lB xs k b) ep'))
def rInL(K:Pn)(neg:Bool):R2:=λy x H Q=>∃a b k xs ep,x=.ref a/\y=.ref b/\H a=a_ (xA a xs ep)/\FD K H xs/\ko K H b k/\Q (.bl (if neg=d_ then !decide (k∈xs.map (·.1))else xF (k∈xs.map (·.1)))) H
section
variable{o i:G4}{ty:TE}
def pe_newL:PE X (.Dict [] [] pos) tNewL:=λB2 s σ H Q I h=>QZ ⟨.ref s.heap.objs.size,_,I.laid (a:=s.heap.objs.size) (o:=xA s.heap.objs.size [] 0) (t':=s.toks) (λ_ _ q=>f_ _ q) (i_ _) (yB (⟨Ka.mpr (HI (FO I.big)),Gr _,L4,_,#[],j_ _ rfl,⟨rfl,rfl,rfl⟩,rfl,rfl⟩)),rfl,h _ (I.hok.fresh (i_ _))⟩
theorem ps_putT(j:X.A.units+64<GQ)(m:PE X o td)(hi:PE X i ty)(g:PE X value tv)(l:HM value (a_ (.Subscript o i pos')) pos.line X.env=GW c_):PS X (.Assign [.Subscript o i pos'] value pos) (sPutT X.K td ty tv):=by intro B2 s σ H D I h;refine Pt (D' (g B2 s σ H _ I h) λr s1 B=>?_) l;obtain⟨v,H1,C,d,q1⟩:=B;refine D' (m B2 s1 σ H1 _ C q1) λu s2 B=>?_;obtain⟨x,H2,A,c,q2⟩:=B;refine D' (hi B2 s2 σ H2 _ A q2) λf E B=>?_;obtain⟨y,G,U,Y,a,b,k,xs,ep,ev,ex,q,ea,n,t,F,e⟩:=B;subst ev ex q;cases(show u=w_ a from c);cases(show f=w_ b from Y);cases(show r=Mo d_ from d);obtain⟨p,hz,w⟩:=ER U ea n;refine Qy (hsz:=by rw[oe];exact hz) (lroom j) (mw U t) w λh' J S=>?_;rw[CT]at J;obtain⟨ep',z⟩:=AB J p (by have:=vL xs k b;lia);exact⟨σ,_,U.dil ea S z,e ep'⟩
def op_inL(S:X.A.units+64<GQ):OpR X (Gy .In) (rInL X.K c_):=by intro B2 s σ H y x u v Q I B J h;obtain⟨a,b,k,xs,ep,rfl,rfl,ea,U,t,q⟩:=h;cases(show v=w_ a from J);cases(show u=w_ b from B);obtain⟨Y,hz,c⟩:=ER I ea U;refine wpAny_in_heap (lroom S) (mw I t) Y c ?_;rw[atL];exact⟨.bl _,H,I.tok _,rfl,q⟩
def Dy(S:X.A.units+64<GQ):OpR X (Gy .NotIn) (rInL X.K d_):=by intro B2 s σ H y x u v Q I B J h;obtain⟨a,b,k,xs,ep,rfl,rfl,ea,U,t,q⟩:=h;cases(show v=w_ a from J);cases(show u=w_ b from B);obtain⟨Y,hz,c⟩:=ER I ea U;refine wpAny_notIn_heap (lroom S) (mw I t) Y c ?_;rw[atL];exact⟨.bl _,H,I.tok _,rfl,q⟩
end
def o7:A'->M LK
 |.tup [.int c,.tup rs]=>(fQ rs).bind λrows=>.ok (c,rows)|_=>stk
def aY(k:LK):A':=.tup [.int k.1,.tup (k.2.map aP)]
theorem Eh{k:LK}(h:o7 d=.ok k):d=aY k:=by
 unfold o7 at h;split at h
 .rename_i c rs;cases e:fQ rs with
  |error x=>simp_all|ok rows=>rw[e]at h;cases h;rw[l6 e];rfl
 .cases h
theorem o6{e:Err}(h:o7 d=.error e):e=.stuck:=by
 unfold o7 at h;split at h
 .rename_i c rs;cases e1:fQ rs with
  |error x=>rw[e1]at h;cases h;exact l7 e1|ok rows=>simp_all
 .cases h;rfl
theorem vd{K:Pn}{F:Hp}:∀{rows:List a0} {ys:a7},ay K F (rows.map aP) ys->∃J:List iF,ys=J.map V.ref/\J.length=rows.length/\∀(j:Nat) (B:a0) (c:iF),rows[j]?=a_ B->J[j]?=a_ c->SqT K F c (B.map V.int)
 |[],_,h=>⟨[],h,rfl,λj B c e=>by simp⟩|B::rows,_,⟨v,vs,e,⟨b,xs,ev,t,z⟩,r⟩=>by
  obtain⟨J,e1,l,h⟩:=vd r;have S:=dh z (fw _);subst S;refine⟨b::J,aW,by simp[l],λj I c q1 q2=>?_⟩
  cases j with
  |zero=>cases q1;cases q2;exact t|succ j=>exact h j I c q1 q2
def u3{k:LK}(h:o7 d=.ok k)(q:bf K F d v):∃b,v=.ref b/\ko K F b k:=by have:=Eh h;subst this;obtain⟨b,xs,e,t,S,J,e1,q1,f,B,e2,⟨r,ys,a,U,I⟩,e3⟩:=q;cases(show S=V.int k.1 from q1);subst a;cases(show B=[]from e3);subst e2 e1;obtain⟨c,eb,l,Y⟩:=vd I;subst eb;exact⟨b,e,r,c,t,U,l,Y⟩
noncomputable def wQ(ρ:ag)(i:Nat):M a9:=match ρ[i]? with
 |some (a_ (.dil ks))=>.ok ks|_=>.error .stuck
def AD{ks:a9}(h:wQ ρ i=.ok ks):ρ[i]?=a_ (a_ (.dil ks)):=by
 unfold wQ at h;split at h
 .cases h;assumption
 .cases h
def ES{e:Err}(h:wQ ρ i=.error e):e=.stuck:=by
 unfold wQ at h;split at h
 .cases h
 .cases h;rfl
noncomputable def isTr:A'->Bool
 |.bl d_=>d_|_=>c_
def oJ(i:Nat)(fk fv:ag->M A'):ag->M B6:=λρ=>(fv ρ).bind λd=>(wQ ρ i).bind λks=>(fk ρ).bind λkd=>(o7 kd).bind λk=>if (isTr d&&xF (ks.length<o_))=d_ then .ok (.nx (ρ.set i (a_ (.dil (putL ks k)))))else .error .stuck
def inLD:A'->A'->M A'
 |kd,.dil ks=>(o7 kd).bind λk=>.ok (.bl (xF (k∈ks)))|_,_=>stk
def tU:A'->A'->M A'
 |kd,.dil ks=>(o7 kd).bind λk=>.ok (.bl (!decide (k∈ks)))|_,_=>stk
section
variable{W:cy}{D:Ends}
theorem rs_putT(hi:i∈O)(t:tS K W ro F0 H0 OL O O (oJ i fk fv) D σ H):sPutT K (vi i) (tD K W c_ fk) (tD K W c_ fv) D σ H:=by
 obtain⟨FB,F,ρ,r,p⟩:=t;refine aJ r.ku r.gu (λe c=>p.iB (r.freeze (O2:=[]) am).st (by unfold oJ;rw[c];rfl)) λd l v F1 H1 s1 q=>?_;have n:oJ i fk fv ρ=(wQ ρ i).bind λks=>(fk ρ).bind λkd=>(o7 kd).bind λk=>if (isTr d&&xF (ks.length<o_))=d_ then .ok (.nx (ρ.set i (a_ (.dil (putL ks k)))))else .error .stuck:=by unfold oJ;rw[l];rfl
 rw[n]at p;cases J:wQ ρ i with
 |error e=>have:=ES J;subst this;exact p.stuck (by rw[J];rfl)|ok ks=>
  rw[J]at p;have p1:eu K W ro F0 H0 FB OL O D ((fk ρ).bind λkd=>(o7 kd).bind λk=>if (isTr d&&xF (ks.length<o_))=d_ then .ok (.nx (ρ.set i (a_ (.dil (putL ks k)))))else .error .stuck):=p;have I:=r.i8 s1;obtain⟨s,e2,a,xs,ev,⟨ep,m⟩,_,_,z⟩:=I.ow i _ (AD J) hi;subst ev;refine⟨.ref a,e2,?_⟩
  refine aJ I.ku I.gu (λe c=>p1.iB (I.freeze (O2:=[]) am).st (by rw[c];rfl)) λkd j w u H2 s2 q2=>?_;rw[j]at p1;have p2:eu K W ro F0 H0 FB OL O D ((o7 kd).bind λk=>if (isTr d&&xF (ks.length<o_))=d_ then .ok (.nx (ρ.set i (a_ (.dil (putL ks k)))))else .error .stuck):=p1;cases B:o7 kd with
  |error e=>have:=o6 B;subst this;exact p2.stuck (by rw[B];rfl)|ok k=>
   rw[B]at p2;have p3:eu K W ro F0 H0 FB OL O D (if (isTr d&&xF (ks.length<o_))=d_ then .ok (.nx (ρ.set i (a_ (.dil (putL ks k)))))else .error .stuck):=p2;by_cases S:(isTr d&&xF (ks.length<o_))=d_
   .rw[p_ S]at p3;simp only[m_,FG]at S;have o:d=.bl d_:=by
     have h1:=S.1;unfold isTr at h1;split at h1
     .rfl
     .lia
    subst o;cases(show v=V.bl d_ from q);obtain⟨b,rfl,t⟩:=u3 B q2;have U:=I.i8 s2;have f:=z.mono (I.eJ s2);have h:=t.map (I.rK s2);have g:xs.length=ks.length:=by rw[<- z.1,oe]
    refine⟨a,b,k,xs,ep,rfl,rfl,rfl,s2.hh _ _ m,λx Y=>(f.2 x Y).mono U.st.fh,h.mono U.st.fh,aW,λep'=>p3 σ _ _ (U.zc hi (AD J) rfl e2 λf0 h0=>⟨a,_,rfl,⟨ep',av⟩,f0,h0,?_,λx Y=>?_⟩)⟩
    .rw[rA,z.1]
    .rcases vK Y with e|e
     .exact f.2 x e
     simp_all
   .rw[q_ S]at p3;exact p3.stuck rfl
end
noncomputable def isDil:A'->Bool
 |.dil _=>d_|_=>c_
def rInL_D{W:cy}{neg:Bool}{g:A'->A'->M A'}(Y:∀kd ks,g kd (.dil ks)=(o7 kd).bind λk=>.ok (.bl (if neg=d_ then !decide (k∈ks)else xF (k∈ks))))(U:∀a b,isDil b=c_->g a b=stk){x:V}{Q:VK}(h:rD2 K W c_ g x y H Q):rInL K neg x y H Q:=by
 obtain⟨F,a,b,s1,J,I,p⟩:=h;cases b with
 |dil ks=>
  rw[Y]at p;cases B:o7 a with
  |error e=>rw[B]at p;have:=o6 B;subst this;exact aE.stuck p|ok k=>
   rw[B]at p;obtain⟨c,rfl,t⟩:=u3 B J;obtain⟨d,xs,rfl,⟨ep,f⟩,z⟩:=I;refine⟨d,c,k,xs,ep,rfl,rfl,s1 _ _ f,λx S=>(z.2 x S).mono s1,t.mono s1,?_⟩
   rw[z.1];exact p _ F H (B4.refl s1) rfl
 |_=>rw[U _ _ rfl]at p;exact aE.stuck p
section
variable{W:cy}{p:NV}
def de_newL:DE K W d_ X (.Dict [] [] pos) (fC (.dil [])):=pe_newL.imp λσ H Q h=>by obtain⟨F,ρ,r,s,q⟩:=h;exact λa B=>q (.ref a) F _ (B4.grow s B) ⟨a,[],rfl,⟨0,av⟩,s.free B,B,rfl,λx I=>FR I GH⟩
def o_inL(B:X.A.units+64<GQ)(I: ~~~(X.K=K)):Op2 K W c_ X (Gy .In) inLD:=by subst I;exact(op_inL B).imp λx y H Q h=>rInL_D (neg:=c_) (λ_ _=>rfl) (λa b e=>by cases b<;>first|rfl|cases e) h
def o_notInL(B:X.A.units+64<GQ)(I: ~~~(X.K=K)):Op2 K W c_ X (Gy .NotIn) tU:=by subst I;exact(Dy B).imp λx y H Q h=>rInL_D (neg:=d_) (λ_ _=>rfl) (λa b e=>by cases b<;>first|rfl|cases e) h
def ds_putT(J:X.A.units+64<GQ)(Y:DE K W c_ X ek fk)(a:DE K W c_ X ev fv)(U:(i∈O)⁻¹)(c: ~~~(X.N[i]?=a_ x))(I:autoParam (Vis X.env.scope x) Jq5)(b:((x==("__debug__":Gf))=c_)⁻¹)(B:((x==("__classdict__":Gf))=c_)⁻¹)(d: ~~~(X.K=K))(S: ~~~(HM ev (a_ (.Subscript (.Name x p) ek pos')) pos.line X.env=GW c_)):DS K W ro X OL O O (.Assign [.Subscript (.Name x p) ek pos'] ev pos) (oJ i fk fv):=λF0 H0=>by subst d;exact PS.imp (ps_putT J (pv i c I b B) Y a S) λ_ _ _=>rs_putT U
end
section
open PySem
variable{s:k_}
inductive Ls(prog:GD)(w:Hw)(A:HL)(h:Gu):List h_->List h_->Bool->Prop
 |nil {us vs:List h_} (e:us=[]\/vs=[]):Ls prog w A h us vs (xF (us.length<vs.length))
 |eq {u v:h_} {us vs:List h_} {c:Bool} (hv:∀(E:Mq) (s:k_) (Q:Bool->k_->Prop),s.heap=h->Q d_ s->r_ (y_ prog w) A (Kr u v) Q E s) (r:Ls prog w A h us vs c):Ls prog w A h (u::us) (v::vs) c
 |ne {u v:h_} {us vs:List h_} {c:Bool} (hv:∀(E:Mq) (s:k_) (Q:Bool->k_->Prop),s.heap=h->Q c_ s->r_ (y_ prog w) A (Kr u v) Q E s) (hl:∀(E:Mq) (s:k_) (Q:Mq),s.heap=h->Q (.bool c) s->r_ (y_ prog w) A (richCompare .Lt u v) Q E s):Ls prog w A h (u::us) (v::vs) c
theorem oZ{c:Bool}{P:Pd->k_->Prop}(l:TupAt s.heap a us)(k:TupAt s.heap b vs)(o:Ls prog w A s.heap us vs c)(h:P (.done (.ret (.bool c))) s):
  r_ (y_ prog w) A (Builtin.«tuple.__lt__» ⟨[.ref a,.ref b],[]⟩) P E s:=by
 have i:=k.ty;obtain⟨x,na,d,_,g⟩:=l;obtain⟨t,nb,Y,_,f⟩:=k;show r_ _ _ (QB (.ref b) (.type "tuple") >>= _) _ _ s;refine b_ (HV i Mm ?_);simp only[Jm,Gk,HF];refine b_ (JW d g (b_ (JW Y f (b_ ?_))));refine Kq _ (λrest r s'=>r.1=e_/\s'=s/\∃I B,rest=List.zip I B/\Ls prog w A s.heap I B c/\I.length+vs.length=us.length+B.length) _ ?_ ?_ _ _ ⟨rfl,rfl,us,vs,am,o,rfl⟩
 .rintro⟨u,v⟩ rest r s' ⟨U,rfl,I,B,hz,J,n⟩;cases J with
  |nil e=>
   rcases e with e|e
   .simp_all
   simp_all
  |eq S j=>simp only[My,J7,L3]at hz;obtain⟨⟨rfl,rfl⟩,rfl⟩:=hz;refine b_ (S _ _ _ rfl ?_);simp only[Jm,Gk,HF];exact g_ ⟨rfl,rfl,_,_,rfl,j,aV⟩
  |ne S p=>simp only[My,J7,L3]at hz;obtain⟨⟨rfl,rfl⟩,rfl⟩:=hz;refine b_ (S _ _ _ rfl ?_);simp only[L6,Jw];show r_ _ _ (rule _ >>=λ_=>_) _ _ _;refine b_ (ID (b_ (p _ _ _ rfl ?_)));exact b_ (g_ (g_ (g_ h)))
 .rintro⟨j,q⟩ s' ⟨U,rfl,I,B,hz,J,n⟩;simp only at U;subst U;have m:c=xF (us.length<vs.length):=by
   cases J with
   |nil e=>lia|eq _ _=>simp_all|ne _ _=>simp_all
  rw[m]at h;refine g_ ?_;show P (.done (.ret (.bool (xF (us.toArray.size<vs.toArray.size))))) s';exact h
def LtI{κ:Type}[Jl κ](I:IK prog w κ)(lt:κ->κ->Bool):Prop:=∀{A:HL} {E:Mq} {s:k_} {x y:κ} {u v:h_} {Q:Mq},A.units+I.up<GQ->I.is s.heap x u->I.is s.heap y v->Q (.bool (lt x y)) s->r_ (y_ prog w) A (richCompare .Lt u v) Q E s
noncomputable def p9{κ:Type}[Jl κ](lt:κ->κ->Bool):List κ->List κ->Bool
 |x::xs,y::ys=>if x=y then p9 lt xs ys else lt x y
 |xs,ys=>xF (xs.length<ys.length)
def int_lt:LtI (yr prog w) λx y=>xF (x<y):=λ_ ⟨t,e⟩ ⟨u,f⟩ h=>by subst e f;exact Ph h
theorem DY{κ:Type}[Jl κ](I:IK prog w κ){lt:κ->κ->Bool}(U:LtI I lt){h:Gu}(J:A.units+I.up<GQ):∀{ks ls:List κ} {us vs:a8},qt (I.is h) ks us->qt (I.is h) ls vs->Ls prog w A h us vs (p9 lt ks ls)
 |_,_,_,_,.nil,.nil=>.nil (.inl rfl)|_,_,_,_,.nil,@qt.cons _ _ _ y v ys vs q t=>by
  have e:p9 lt [] (y::ys)=xF (([]:a8).length<(v::vs).length):=by simp[p9]
  rw[e];exact .nil (.inl rfl)
 |_,_,_,_,@qt.cons _ _ _ x u xs us q t,.nil=>by
  have e:p9 lt (x::xs) []=xF ((u::us).length<([]:a8).length):=by simp[p9]
  rw[e];exact .nil (.inr rfl)
 |_,_,_,_,@qt.cons _ _ _ x u xs us q t,@qt.cons _ _ _ y v ys vs q2 Y=>by
  show Ls prog w A h _ _ (if x=y then p9 lt xs ys else lt x y);by_cases e:x=y
  .rw[p_ e];exact .eq (λE s Q B S=>I.eqBool J (by rw[B];exact q) (by rw[B];exact q2) aW) (DY I U J t Y)
  .rw[q_ e];exact .ne (λE s Q B S=>I.eqBool J (by rw[B];exact q) (by rw[B];exact q2) aW) λE s Q B S=>U J aW aW S
theorem tup_lt{κ:Type}[Jl κ]{I:IK prog w κ}{lt:κ->κ->Bool}(c:LtI I lt):LtI (tupI I) (p9 lt):=λ{A E s x y u v Q} S ⟨a,us,e1,B,Y⟩ ⟨b,vs,e2,J,U⟩ h=>by subst e1 e2;have S:A.units+(I.up+1)<GQ:=S;exact KW (op:=.Lt) B.ty J.ty KD (FT KD B.ty OV (oZ B J (DY I c ad Y U) ⟨_,rfl,(λe=>nomatch e),h⟩) (OE _ _)) ad
end
theorem yh{κ:Type}[Jl κ]{lt:κ->κ->Bool}(o:Ord lt):Ord (p9 lt):=by
 refine⟨λa=>?_,λa b c=>?_,λa b=>?_⟩
 .induction a with
  |nil=>rfl|cons x xs I=>simp[p9,I]
 .induction a generalizing b c with
  |nil=>
   cases b with
   |nil=>simp|cons y ys=>
    intro _ B;cases c with
    |nil=>simp_all[p9]|cons z S=>rfl
  |cons x xs I=>
   intro h1 B;cases b with
   |nil=>simp_all[p9]|cons y ys=>
    cases c with
    |nil=>simp_all[p9]|cons z S=>
     simp only[p9]at h1 B ⊢;by_cases e1:x=y
     .grind
     .rw[q_ e1]at h1;by_cases e2:y=z
      .simp_all
      .rw[q_ e2]at B;have J:=o.tr _ _ _ h1 B;by_cases e3:x=z
       .subst e3;rw[o.irr]at J;cases J
       simp_all
 .induction a generalizing b with
  |nil=>simp[p9]|cons x xs I=>
   cases b with
   |nil=>simp[p9]|cons y ys=>
    simp only[p9];by_cases e:x=y
    .grind
    .rw[q_ e,q_ (HI e)];intro h1 B;exact FR (o.tot _ _ h1 B) e
abbrev ltR:List a0->List a0->Bool:=p9 (p9 λx y=>xF (x<y))
theorem ordR:Ord ltR:=yh (yh ⟨λa=>by simp,λa b c h1 B=>by lia,λa b h1 B=>by lia⟩)
def ltL(k l:LK):Bool:=if k.1=l.1 then ltR k.2 l.2 else xF (k.1<l.1)
theorem ordL:Ord ltL:=by
 refine⟨λa=>?_,λa b c h1 B=>?_,λa b h1 B=>?_⟩
 .unfold ltL;rw[p_ rfl];exact ordR.irr _
 .unfold ltL at h1 B ⊢;by_cases e1:a.1=b.1
  .rw[p_ e1]at h1;by_cases e2:b.1=c.1
   .rw[p_ e2]at B;rw[p_ (e1.trans e2)];exact ordR.tr _ _ _ h1 B
   simp_all
  grind
 .unfold ltL at h1 B;by_cases e:a.1=b.1
  .rw[p_ e]at h1;rw[p_ e.symm]at B;exact NH e (ordR.tot _ _ h1 B)
  lia
section
open PySem.W
variable{s:k_}
def LKeys(prog:GD)(w:Hw)(h:Gu)(rs:List (LK×iF)):Prop:=∀r∈rs,(labI prog w).is h r.1 (.ref r.2)
theorem asks_L{rs:List (LK×iF)}(Q:A.units+8<GQ)(y:LKeys prog w s.heap rs)(W:2<=rs.length):Ct prog w A (rk ltL (rs.map HN) (0,[])) (rs.map λr=>w_ r.2) s:=by
 have S:∀i,i<rs.length->∃(l:iF) (J I:h_),(rs.map λr=>w_ r.2).getD i FY=.ref l/\TupAt s.heap l [J,I]/\(yr prog w).is s.heap ((rs.map HN).getD i (0,[])).1 J/\(tupI (tupI (yr prog w))).is s.heap ((rs.map HN).getD i (0,[])).2 I:=λi hi=>by obtain⟨a,J,I,e,t,q1,q2⟩:=y rs[i] (FX hi);cases e;exact⟨rs[i].2,J,I,by simp[hi],t,by simpa[hi] using q1,by simpa[hi] using q2⟩
 have U:∀(k:Nat),k<=rs.length->∃fs,KatTups s.heap ((rs.map λr=>w_ r.2).drop (rs.length-k)) fs/\fs.length=k/\∀v∈fs,∃i t,v=Lc i t:=by
  intro k
  induction k with
  |zero=>intro _;exact⟨[],by rw[M5,Ly am];exact Qp,rfl,λ_ h=>nomatch h⟩
  |succ k x=>
   intro R;obtain⟨fs,q1,q2,b⟩:=x ad;have hi:rs.length-(k+1)<rs.length:=ad
   obtain⟨l,J,I,e1,⟨L,n,e2,e3,e4⟩,⟨t,e5⟩,_⟩:=S _ hi;refine⟨J::fs,?_,by simp[q2],λv c=>?_⟩
   .have Y:rs.length-(k+1)<(rs.map λr=>w_ r.2).length:=by rw[oe];exact hi
    rw[Gd Y];rw[show rs.length-(k+1)+1=rs.length-k by lia];rw[getD_get Y]at e1;rw[e1];exact P7 e2 e3 e4 rfl q1
   .rcases t_.mp c with e|e
    .rw[e];exact⟨_,_,e5⟩
    .exact b v e
 obtain⟨fs,q1,q2,b⟩:=U rs.length (i_ _);rw[KC,IX]at q1;unfold Ct;refine kat_kind (s:=s) (T:=.type "int") q1 ad (λv c=>?_) rfl ⟨rfl,λi j C hi q B=>?_⟩
 .obtain⟨i,t,e⟩:=b v c;rw[e];exact Qo rfl
 .rw[oe]at hi q;unfold Oa;obtain⟨G,J,I,e1,⟨O,P,z,_,E⟩,o,g⟩:=S i hi;obtain⟨F,u,p,e2,⟨N,n2,g2,_,D⟩,m,d⟩:=S j q;rw[e1,e2];rw[Dd ordL aW aW]at B;generalize (rs.map HN).getD i (0,[])=k at o g B;generalize (rs.map HN).getD j (0,[])=l at m d B;refine kat_lt (s:=s) z E g2 D ?_;show KatLex prog w _ _ _ _ [(J,u),(I,p)] 0 s;refine kat_cons ((yr prog w).eqBool (by show A.units+0<GQ;lia) o m ?_);unfold ltL at B;by_cases e:k.1=l.1
  .rw[p_ e]at B;rw[IY e];refine kat_yes (kat_cons ((tupI (tupI (yr prog w))).eqBool (by show A.units+(0+1+1)<GQ;lia) g d ?_));by_cases f:k.2=l.2
   .rw[IY f];rw[f,ordR.irr]at B;exact kat_yes (kat_nil B)
   .rw[HY f];show r_ (y_ prog w) _ (oneLt' c_ I p) _ _ _;rw[oneLt'_eq];simp only[Gk,HF];exact b_ (tup_lt (tup_lt int_lt) (by show A.units+(0+1+1)<GQ;lia) g d (Hm B))
  .rw[q_ e]at B;rw[HY e];obtain⟨K,f1⟩:=o;obtain⟨H,f2⟩:=m;subst f1 f2;exact oneLt_int B
end
section
open PySem PySem.W
variable{s:k_}
theorem walksR(f:A.handled=e_)(I d:iF)(Y:d≠I)(es:Array HA)(ep:Nat):
  Walks prog w A I [I,d] [I] es.size (λi v=>∃e,es[i]?=a_ e/\v=e.key) (λi h=>h.IsKeyIter I d i es.size ep/\qp h d es ep) where
 sub:=λb U=>by simp_all
 frame:=λ_ _ _ st c=>⟨st.1.at λo e=>c I am o e,st.2.at λo e=>c d am o e⟩
 item:=λi s Q E hi st S=>by refine rJ st.1 st.2 (e:=es[i]) am λh' J B=>?_;exact S _ h' s.toks ⟨es[i],am,rfl⟩ ⟨J,st.2.at λo e=>B.extBut d o Y e⟩ λb o U e=>B.extBut b o (λh=>U (by simp[h])) e
 done:=λs Q E st S=>wN f st.1 st.2 (i_ _) λh' a=>S h' s.toks λb o U e=>a b o (λh=>U (by simp[h])) e
 self:=λ_ _ _ _ st S=>PZ st.1 S
def srcR{d:iF}(lo:(d==G5)=c_):KdlSrc prog w "dict" d d es.size (λi v=>∃e,es[i]?=a_ e/\v=e.key) (λh=>qp h d es ep) where
 type:=λ_ z=>z.ty
 there:=λ_ ⟨o,h,_⟩=>⟨s_ h,s_ h⟩
 keep:=λ_ _ z I=>z.at λo e=>I d (.inl rfl) o e
 notList:=by decide
 notTuple:=by decide
 hint:=λ_ _ _ _ z B=>kdl_hint_dict z.ty B
 iter:=λA s J z=>⟨_,_,(λ_ _ B=>rP lo z B),walksR J _ d (let ⟨o,h,_⟩:=z;FO (s_ h)) es ep,⟨⟨_,j_ _ rfl,rfl,rfl⟩,z.at λo e=>f_ _ e⟩⟩
theorem collectR{d:iF}{Q:a8->k_->Prop}(t:A.handled=e_)(lo:(d==G5)=c_)(z:qp s.heap d es ep)(p:es.size<=o_)(h:∀(h':Gu) (tk:Nat),(∀b o,s.heap.get? b=a_ o->h'.get? b=a_ o)->s.heap.objs.size<=h'.objs.size->Q (es.toList.map (·.key)) {s with heap:=h',toks:=tk}):r_ (y_ prog w) A (QR (.ref d)) Q E s:=by
 have j:d<s.z:=by obtain⟨o,n,_⟩:=z;exact s_ n
 unfold QR;refine b_ (wpAny_runValue (JS (Pf) ?_));rw[IB (Pe) _];show r_ (y_ prog w) A.in1 (QQ [] >>=λl=>again (.builtin "list.__iadd__" ⟨[l,.ref d],[]⟩)) _ _ s;refine b_ (Ge ?_);refine g_ ⟨Na Lm _,JS (Qs) ?_⟩;rw[IB (Lm) _];have u:(s.heap.push {cls:=.type "list",data:=.seq ([]:a8).toArray}).get? s.z=a_ {cls:=.type "list",data:=.seq #[]}:=j_ _ rfl;refine GX (kdl_extend (A:=A) (s:={s with heap:=s.heap.push {cls:=.type "list",data:=.seq ([]:a8).toArray}})
  (R:=λ(q:PD) (s':k_)=>∃(h':Gu) (tk:Nat) (B:Array h_) (c:Nat),q=.ok (.ret (.ref s.z))/\s'={s with heap:=h',toks:=tk}/\(∀b o,s.heap.get? b=a_ o->h'.get? b=a_ o)/\h'.get? s.z=a_ {cls:=.type "list",dict:=e_,data:=.seq B c,slots:=#[]}/\B.toList=es.toList.map (·.key))
  (srcR (ep:=ep) lo) t (z.at λo e=>f_ _ e) s.z (HG j) (HG j) (.ref s.z) 0 u
  (λh' tk B c U J I=>⟨h',tk,B,c,rfl,rfl,λb o e=>U b o (FO (s_ e)) (f_ _ e),J,(by
    apply List.ext_getElem?;intro i;by_cases hi:i<es.size
    .have L:i<B.size:=by rw[I.1];exact hi
     obtain⟨e,K,H⟩:=I.2 i B[i] am
     simp_all
    .rw[J6 (by rw[Gb,I.1];lia),J6 aW])⟩) p) (λg s' x=>?_) λe s' x=>?_
 .have k:∀(s':k_),(∃(h':Gu) (tk:Nat) (B:Array h_) (c:Nat),s'={s with heap:=h',toks:=tk}/\(∀b o,s.heap.get? b=a_ o->h'.get? b=a_ o)/\h'.get? s.z=a_ {cls:=.type "list",dict:=e_,data:=.seq B c,slots:=#[]}/\B.toList=es.toList.map (·.key))->∃(o:Mx) (B:Array h_) (c:Nat),s'.heap.get? s.z=a_ o/\o.data=.seq B c/\Q B.toList s':=λs' ⟨h',tk,B,c,e,U,J,ea⟩=>by
   subst e;exact⟨_,B,c,J,rfl,by rw[ea];exact h h' tk U (GN (s_ J))⟩
  cases g with
  |done f=>obtain⟨h',tk,B,c,e,r⟩:=x;cases e;obtain⟨⟨G,D,C,v⟩,B,c,J,a,Y⟩:=k s' ⟨h',tk,B,c,r⟩;cases a;show r_ _ A (load s.z >>= _) _ _ _;exact b_ (L9 J (g_ Y))
  |again m=>
   refine⟨x.1,JM x.2 λq S y=>?_⟩
   obtain⟨h',tk,B,c,rfl,r⟩:=y;obtain⟨⟨G,D,C,v⟩,B,c,J,a,Y⟩:=k S ⟨h',tk,B,c,r⟩;cases a;show r_ _ A (load s.z >>= _) _ _ _;exact b_ (L9 J (g_ Y))
 simp_all
theorem zu{d:iF}{key:Nat->Int}{Q:Mq}(f:A.handled=e_)(lo:(d==G5)=c_)(z:qp s.heap d es ep)(S:es.toList.map (·.key)=vs)(hz:vs.length<=o_)(e:2<=vs.length->∀(h1:Gu) (tk:Nat),(∀b o,s.heap.get? b=a_ o->h1.get? b=a_ o)->Ct prog w A.in1.in1 key vs {s with heap:=h1,toks:=tk})(h:∀(h':Gu) (D:iF) (c tk:Nat) (out:a8),s.heap.objs.size<=D->(∀b o,s.heap.get? b=a_ o->h'.get? b=a_ o)->h'.get? D=a_ (Iv "list" out.toArray c)->Ci key vs out->Q (.ref D) {s with heap:=h',toks:=tk}):
  r_ (y_ prog w) A (Kz (.builtin "sorted") [.ref d]) Q E s:=by
 have hsz:es.size=vs.length:=by rw[<- S,oe,Gb]
 refine NG kind_sorted plain_sorted entry_sorted (args_sorted1 _) ?_;unfold Builtin.«sorted»;refine b_ (m:=checkCount "sorted" 1 1 _) (g_ (b_ (collectR (A:=A.in1) f lo z ad λh1 tk B I=>?_)));rw[S];refine b_ (OJ ?_ hz);have U:(h1.push (Iv "list" vs.toArray 0)).get? h1.objs.size=a_ (Iv "list" vs.toArray 0):=j_ _ rfl;have J:∀b o,s.heap.get? b=a_ o->b≠h1.objs.size:=λb o q=>FO (s_ (B b o q));refine b_ (G8 (FT (s:={s with heap:=h1.push (Iv "list" vs.toArray 0),toks:=tk}) slot_list_sort ⟨_,U,rfl⟩ entry_list_sort (wj (key:=key) U hz (λi g Y=>?_) λh' c out a k' j=>⟨_,rfl,?_⟩) (args_list_sort _)))
 .exact e i g tk λb o q=>Y b o (J b o q) (f_ _ (B b o q))
 .exact g_ ⟨_,rfl,h h' _ c tk out I (λb o q=>k' b o (J b o q) (f_ _ (B b o q))) j a⟩
end
section
variable{W:cy}
theorem u0{k:LK}(h:ko K F b k):bf K F (aY k) (.ref b):=by
 obtain⟨r,U,S,J,l,I⟩:=h;refine⟨b,_,rfl,S,V.int k.1,_,rfl,rfl,.ref r,[],rfl,⟨r,_,rfl,J,?_⟩,rfl⟩
 refine ay.of_get aW λi d v e1 e2=>?_;rw[FL]at e1 e2;cases f1:k.2[i]? with
 |none=>simp_all|some B=>
  cases f2:U[i]? with
  |none=>simp_all|some c=>rw[f1]at e1;rw[f2]at e2;simp only[Iz,GF]at e1 e2;subst e1 e2;exact⟨c,_,rfl,I i B c f1 f2,iE B⟩
def mx:List A'->M a9
 |[]=>.ok []|d::ds=>(o7 d).bind λk=>(mx ds).bind λks=>.ok (k::ks)
def oC:List A'->M A'
 |[.dil ks]=>.ok (.lst ((cx ltL ks).map aY))|[.lst ds]=>(mx ds).bind λks=>.ok (.lst ((cx ltL ks).map aY))|_=>stk
theorem wy:∀{ds:List A'} {e:Err},mx ds=.error e->e=.stuck
 |[],_,h=>by cases h|d::ds,e,h=>by
  unfold mx at h;cases e1:o7 d with
  |error x=>rw[e1]at h;cases h;exact o6 e1|ok k=>
   rw[e1]at h;cases e2:mx ds with
   |error x=>rw[e2]at h;cases h;exact wy e2|ok ks=>simp_all
theorem wx:∀{ds:List A'} {ks:a9},mx ds=.ok ks->ds=ks.map aY
 |[],_,h=>by cases h;rfl|d::ds,ks,h=>by
  unfold mx at h;cases e1:o7 d with
  |error x=>simp_all|ok k=>
   rw[e1]at h;cases e2:mx ds with
   |error x=>simp_all|ok ls=>rw[e2]at h;cases h;rw[wx e2,Eh e1];rfl
theorem m8:∀ts:List a0,fQ (ts.map aP)=.ok ts
 |[]=>rfl|t::ts=>by show(cF (t.map .int)).bind _=_;rw[fw,af];show(fQ (ts.map aP)).bind _=_;rw[m8 ts];rfl
def k9(k:LK):o7 (aY k)=.ok k:=by show(fQ (k.2.map aP)).bind _=_;rw[m8];rfl
theorem Eg{F:Hp}:∀{ks:a9} {xs:a7},ay K F (ks.map aY) xs->∃rs:List (LK×iF),rs.map HN=ks/\xs=rs.map (λr=>V.ref r.2)/\∀r∈rs,ko K F r.2 r.1
 |[],_,h=>⟨[],rfl,h,λr I=>nomatch I⟩
 |k::ks,_,⟨v,vs,e,q,r⟩=>by obtain⟨b,e1,t⟩:=u3 (k9 k) q;obtain⟨rs,e2,e3,h⟩:=Eg r;exact⟨(k,b)::rs,aW,aW,λx B=>(t_.mp B).elim (λz=>by simp_all) (h x)⟩
def uZ{rs:List (α×iF)}(h:C' (rs.map λr=>V.ref r.2) us):us=rs.map λr=>w_ r.2:=by
 induction rs generalizing us with
 |nil=>cases h;rfl|cons r rs B=>
  cases h with
  |cons q t=>rw[B t];cases(show _=w_ r.2 from q);rfl
def E4{k:LK}{v:h_}(x:(labI prog w).is h k v)(e:∀b o,h.get? b=a_ o->h'.get? b=a_ o):(labI prog w).is h' k v:=(labI prog w).keeps x λa o us n q _=>e a o q
theorem sort_out{lt:α->α->Bool}(o:Ord lt){d0:α}{I:α->A'}{rs:List (α×iF)}(J:∀r∈rs,bf K F (I r.1) (.ref r.2)){ps:a5}(h1:ps.Perm (x_ rs.length))(S:Srt (rk lt (rs.map HN) d0) ps):
  ay K F ((cx lt (rs.map HN)).map I) (ps.map λi=>(rs.map λr=>V.ref r.2).getD i .non):=by
 rw[<- vU o (rs.map HN) d0 aW S,FK];refine ay.of_get am λk U v B g2=>?_;rw[FL]at B g2;cases ek:ps[k]? with
 |none=>rw[ek]at B;cases B|some i=>rw[ek]at B g2;simp only[Iz,GF,LY]at B g2;have hi:i<rs.length:=Gv.mp (h1.mem_iff.mp (Gn ek));rw[getD_get (by simpa using hi)]at B;rw[getD_get (by simpa using hi)]at g2;rw[<- B,<- g2,G7,G7];exact J _ (FX hi)
theorem vals_out{rs:List (α×iF)}{ps:a5}(h1:ps.Perm (x_ rs.length)):C' (ps.map λi=>(rs.map λr=>V.ref r.2).getD i .non) (ps.map λi=>(rs.map λr=>w_ r.2).getD i FY):=by
 have B:∀i∈ps,i<rs.length:=λi hi=>Gv.mp (h1.mem_iff.mp hi);clear h1
 induction ps with
 |nil=>exact .nil|cons i ps I=>have hi:=B i Hq;refine .cons ?_ (I λj J=>B j (Hr _ J));dsimp only;rw[getD_get aW,getD_get aW,G7,G7];rfl
def nQ{lt:α->α->Bool}(o:Ord lt){d0:α}{B:α->A'}{s:k_}{Q:VK}{rs:List (α×iF)}{D:iF}{c tk:Nat}{out:a8}(I:B5 X B2 σ H s)(s1:aX F H)(Y:∀r∈rs,bf X.K F (B r.1) (.ref r.2))(hz:rs.length<=o_)(p:aE X.K W d_ F H (.ok (.lst ((cx lt (rs.map HN)).map B))) Q)(J:s.heap.objs.size<=D)(S:∀b o,s.heap.get? b=a_ o->h'.get? b=a_ o)(e:h'.get? D=a_ (Iv "list" out.toArray c))(U:Ci (rk lt (rs.map HN) d0) (rs.map λr=>w_ r.2) out):EP X B2 σ Q (.ref D) {s with heap:=h',toks:=tk}:=by obtain⟨ps,h1,a,rfl⟩:=U;rw[oe]at h1;have d:B5 X B2 σ (upd H D (.lst (ps.map λi=>(rs.map λr=>V.ref r.2).getD i .non))) {s with heap:=h',toks:=tk}:=I.laid (t':=tk) S J (show gW _ h' D (.lst _)from⟨by rw[oe,h1.length_eq,HE];exact hz,_,c,vals_out h1,e⟩);exact⟨.ref D,_,d,rfl,p.lst s1 (sort_out o Y h1 a) (I.hok.fresh J)⟩
theorem xk(E:X.A.units+64<GQ)(v: ~~~(X.calm=d_))(J: ~~~(X.K=K)):jU K W d_ X (.builtin "sorted") oC:=by
 subst J;intro B2 s σ H xs us Q I l h;obtain⟨F,d,x,s1,e,q,p⟩:=gw (λds=>by match ds with|[d]=>simp|[]=>exact .inr rfl|a::b::c=>exact .inr (by cases a<;>rfl)) h;subst e;obtain⟨u,rfl,j⟩:=l.one;have S:∀{rs:List (LK×iF)} {h':Gu},(∀r∈rs,ko X.K F r.2 r.1)->(∀b o,s.heap.get? b=a_ o->h'.get? b=a_ o)->LKeys X.prog X.w h' rs:=λ{rs h'} J B r U=>E4 (mw I ((J r U).mono s1)) B;cases d with
 |dil ks=>obtain⟨a,rs,e1,⟨ep,w⟩,ek,J⟩:=q;subst e1;cases j;have p:aE X.K W d_ F H (.ok (.lst ((cx ltL ks).map aY))) Q:=p;rw[<- ek]at p;obtain⟨n,m,G,o,es,C,g2,A,y⟩:=EO I (s1 _ _ w);refine zu (key:=rk ltL (rs.map HN) (0,[])) (vs:=rs.map λr=>w_ r.2) (I.ok.hd v) n ⟨o,C,g2,A⟩ (by rw[y,FK];rfl) aW (λf h1 tk B=>?_) λh' D c tk out i B e g=>nQ ordL I s1 (λr U=>u0 (J r U)) m p i B e g;rw[oe]at f;exact asks_L (s:={s with heap:=h1,toks:=tk}) ad (S J B) f
 |lst ds=>
  obtain⟨a,ys,e1,t,r⟩:=q;subst e1;cases j;have p:aE X.K W d_ F H ((mx ds).bind λks=>.ok (.lst ((cx ltL ks).map aY))) Q:=p;cases ek:mx ds with
  |error z=>cases wy ek;rw[ek]at p;exact aE.stuck p|ok ks=>rw[ek,af]at p;rw[wx ek]at r;obtain⟨rs,e2,e3,J⟩:=Eg r;subst e2;obtain⟨its,k,pl,hz⟩:=I.list (s1.lst t);subst e3;have Y:=uZ k;subst Y;rw[oe]at hz;refine mf (key:=rk ltL (rs.map HN) (0,[])) pl.isList aW (λf h1 B=>?_) λh' D c out g i B e=>nQ (tk:=s.toks) ordL I s1 (λr U=>u0 (J r U)) hz p i B e g;rw[oe]at f;exact asks_L (s:={s with heap:=h1}) ad (S J B) f
 |_=>exact aE.stuck p
end
section
open PySem PySem.W
end
section
variable{W:cy}{own:Bool}{f:ag->M A'}
theorem EN(h:DE K W own X e f)(B: ~~~(HM e e_ pos.line X.env=GW c_)):DS K W ro X OL O O (.Expr e pos) (oK O f):=λF0 H0=>PS.imp (kJ h B) λD σ H ⟨FB,F,ρ,r,p⟩=>by
 refine aJ r.jW r.st.fh (λe J=>p.iB r.st (by simp_all[oK])) λd I v F1 H1 s1 q=>?_;have z:oK O f ρ=.ok (.nx ρ):=by unfold oK;rw[I];rfl
 rw[z]at p;exact p σ F1 H1 (r.step s1)
end
mutual
noncomputable def dI:A'->Bool
 |.tup ds=>gv ds|.lst ds=>gv ds|.ins _ _=>c_|.dic _=>c_|.dil _=>c_|_=>d_
noncomputable def gv:List A'->Bool
 |[]=>d_|d::ds=>dI d&&gv ds
end
mutual
theorem bf.plain{K:Pn}{F F':Hp}(s:∀a xs,SqT K F a xs->SqT K F' a xs)(t:∀a xs,SqL K F a xs->SqL K F' a xs):∀{d:A'} {v:V},dI d=d_->bf K F d v->bf K F' d v
 |.non,_,_,h=>h|.bl _,_,_,h=>h|.int _,_,_,h=>h|.tup ds,_,f,⟨a,xs,e,q,r⟩=>⟨a,xs,e,s _ _ q,ay.plain s t (by simpa[dI] using f) r⟩|.lst ds,_,f,⟨a,xs,e,q,r⟩=>⟨a,xs,e,t _ _ q,ay.plain s t (by simpa[dI] using f) r⟩|.ins _ _,_,f,_=>by simp_all[dI]|.dic _,_,f,_=>by simp_all[dI]|.dil _,_,f,_=>by simp_all[dI]
theorem ay.plain{K:Pn}{F F':Hp}(s:∀a xs,SqT K F a xs->SqT K F' a xs)(t:∀a xs,SqL K F a xs->SqL K F' a xs):∀{ds:List A'} {xs:a7},gv ds=d_->ay K F ds xs->ay K F' ds xs
 |[],_,_,h=>h|d::ds,_,f,⟨v,vs,e,q,r⟩=>by simp only[gv,m_]at f;exact⟨v,vs,e,bf.plain s t f.1 q,ay.plain s t f.2 r⟩
end
def lz(i:Nat)(fk fv:ag->M A'):ag->M B6:=λρ=>(fv ρ).bind λd=>(lU ρ i).bind λks=>(fk ρ).bind λkd=>(kZ kd).bind λk=>if (dI d&&xF (ks.length<o_))=d_ then .ok (.nx (ρ.set i (a_ (.dic (gU ks k d)))))else .error .stuck
@[simp]def e_putDL(i:Nat)(fk fv:ag->M A')(ρ:ag):lz i fk fv ρ=(fv ρ).bind λd=>(lU ρ i).bind λks=>(fk ρ).bind λkd=>(kZ kd).bind λk=>if (dI d&&xF (ks.length<o_))=d_ then .ok (.nx (ρ.set i (a_ (.dic (gU ks k d)))))else .error .stuck:=id rfl
section
variable{W:cy}{D:Ends}
theorem Rep.minusL(r:Rep K F0 H0 FB [i] F H σ ρ)(B:ρ[i]?=a_ (a_ (.dic ks)))(s:B4 (plus F H (l5 [i] [] σ ρ)) H F1 H1)(b:iF)(xs:a7)(h:SqL K F1 b xs):SqL K (minus F1 (l5 [i] [] σ ρ)) b xs:=by
 have key:∀{b:iF} {o:HO},F1 b=a_ o->(∀f,o≠.ext f)->minus F1 (l5 [i] [] σ ρ) b=a_ o:=λ{b o} h n=>by
  by_cases I:l5 [i] [] σ ρ b
  .obtain⟨j,d,J,_,_,e1,e2⟩:=id I;have:=Gi.mp J;subst this;rw[B]at e1;cases e1;obtain⟨v,e3,a,ys,ev,⟨ep,S⟩,_⟩:=r.ow j _ B Hq;rw[e2]at e3;cases e3;cases ev;have:=s.ff _ _ (by rw[gq I];exact S);rw[h]at this;cases this;exact FR rfl (n _)
  simp_all[cu]
 rcases h with(h|⟨o,h⟩)|h
 .exact .inl (.inl (key h λf z=>nomatch z))
 .exact .inl (.inr ⟨o,key h λf z=>nomatch z⟩)
 .exact .inr h
def rs_putDL(t:tS K W ro F0 H0 OL [i] [i] (lz i fk fv) D σ H):sPut K (vi i) (tD K W c_ fk) (tD K W c_ fv) D σ H:=by
 obtain⟨FB,F,ρ,r,p⟩:=t;have hi:i∈[i]:=Hq;refine aJ r.ku r.gu (λe Y=>p.iB (r.freeze (O2:=[]) am).st (by unfold lz;rw[Y];rfl)) λd j v F1 H1 s1 q=>?_;have m:lz i fk fv ρ=(lU ρ i).bind λks=>(fk ρ).bind λkd=>(kZ kd).bind λk=>if (dI d&&xF (ks.length<o_))=d_ then .ok (.nx (ρ.set i (a_ (.dic (gU ks k d)))))else .error .stuck:=by unfold lz;rw[j];rfl
 rw[m]at p;cases J:lU ρ i with
 |error e=>have:=wU J;subst this;exact p.stuck (by rw[J];rfl)|ok ks=>
  rw[J]at p;have p1:eu K W ro F0 H0 FB OL [i] D ((fk ρ).bind λkd=>(kZ kd).bind λk=>if (dI d&&xF (ks.length<o_))=d_ then .ok (.nx (ρ.set i (a_ (.dic (gU ks k d)))))else .error .stuck):=p;have I:=r.i8 s1;obtain⟨n,e2,a,xs,ev,⟨ep,l⟩,_,_,z⟩:=I.ow i _ (lT J) hi;subst ev;refine⟨.ref a,e2,?_⟩
  refine aJ I.ku I.gu (λe Y=>p1.iB (I.freeze (O2:=[]) am).st (by rw[Y];rfl)) λkd h w o H2 s2 q2=>?_;rw[h]at p1;have p2:eu K W ro F0 H0 FB OL [i] D ((kZ kd).bind λk=>if (dI d&&xF (ks.length<o_))=d_ then .ok (.nx (ρ.set i (a_ (.dic (gU ks k d)))))else .error .stuck):=p1;cases B:kZ kd with
  |error e=>have:=kc B;subst this;exact p2.stuck (by rw[B];rfl)|ok k=>
   rw[B]at p2;have p3:eu K W ro F0 H0 FB OL [i] D (if (dI d&&xF (ks.length<o_))=d_ then .ok (.nx (ρ.set i (a_ (.dic (gU ks k d)))))else .error .stuck):=p2;by_cases S:(dI d&&xF (ks.length<o_))=d_
   .rw[p_ S]at p3;simp only[m_,FG]at S;obtain⟨b,rfl,t⟩:=my B q2;have U:=I.i8 s2;have g:bf K (minus F1 (l5 [i] [] σ ρ)) d v:=bf.plain (r.rK s1) (r.minusL (lT J) s1) S.1 q;have c:=z.mono (I.eJ s2);have f:=I.rK s2 b _ t;exact⟨a,b,k,xs,ep,rfl,rfl,s2.hh _ _ l,c.key.mono U.st.fh,U.st.fh.tup f,by rw[z.length];exact S.2,λep'=>p3 σ _ _ (U.zc hi (lT J) rfl e2 λf0 h0=>⟨a,_,rfl,⟨ep',av⟩,f0,h0,c.put f (g.mono (I.eJ s2))⟩)⟩
   .rw[q_ S]at p3;exact p3.stuck rfl
end
section
variable{W:cy}{p:NV}
theorem uj(c:X.A.units+64<GQ)(S:DE K W c_ X ek fk)(U:DE K W c_ X ev fv)(a: ~~~(X.N[i]?=a_ x))(I:autoParam (Vis X.env.scope x) Jq5)(Y:((x==("__debug__":Gf))=c_)⁻¹)(B:((x==("__classdict__":Gf))=c_)⁻¹)(b: ~~~(X.K=K))(J: ~~~(HM ev (a_ (.Subscript (.Name x p) ek pos')) pos.line X.env=GW c_)):DS K W ro X OL [i] [i] (.Assign [.Subscript (.Name x p) ek pos'] ev pos) (lz i fk fv):=λF0 H0=>by subst b;exact PS.imp (ps_put ad (pv i a I Y B) S U J) λ_ _ _=>rs_putDL
end
section
open PySem PySem.W
end
structure B7 where
 f:iF
 c:h_
 A:HL
 o:List OF
 s:k_
 H:Hp
 E:XK
section
variable{base:Gu}{q:Gf}{st:G6}
def YO(_:∃f fd,Def K mg x st ps f fd)(P:GD)(w:Hw)(base:Gu)(k:Nat)(ro:Bool)(m:List A'->M A'):Prop:=∃f fd,Yd P w K mg base CX0 k x st ps (spF K ro m ps.length) f fd
def YM(_:∃f fd,Mth K C x q st ps f fd)(P:GD)(w:Hw)(mg:Ld)(base:Gu)(k:Nat)(ro:Bool)(m:List A'->M A'):Prop:=∃f fd,Mth K C x q st ps f fd/\jk P w K mg base CX0 k f fd ps (spF K ro m ps.length)
def fY(N:List Gf){h:∃f fd,Def K mg x st ps f fd}(I:∀z:B7,N.Nodup->ji k (z.A.deeper (LF x (aS st) z.s.heap.objs.size z.f z.c))->DSs K Fl ro (cxOf CX0 P w K mg base N x (aS st) z.f z.c z.A z.o z.s z.H z.E).nox [] [] [] (cL st) g)(S:autoParam (j6 N ps (aS st)) Jq11):YO h P w base (k+1) ro (bJ N.length ps.length g):=
 let ⟨f,fd,D⟩:=h
 ⟨f,fd,D,fn_D D.fn S ro g λc A o s H E B=>I ⟨f,c,A,o,s,H,E⟩ S.nd B⟩
def fM(N:List Gf){h:∃f fd,Mth K C x q st ps f fd}(I:∀z:B7,N.Nodup->ji k (z.A.deeper (LF q (aS st) z.s.heap.objs.size z.f z.c))->DSs K Fl ro (cxOf CX0 P w K mg base N q (aS st) z.f z.c z.A z.o z.s z.H z.E).nox [] [] [] (cL st) g)(S:autoParam (j6 N ps (aS st)) Jq11):YM h P w mg base (k+1) ro (bJ N.length ps.length g):=
 let ⟨f,fd,D⟩:=h
 ⟨f,fd,D,fn_D D.fn S ro g λc A o s H E B=>I ⟨f,c,A,o,s,H,E⟩ S.nd B⟩
end
section
variable{W:cy}{a b d:G4}{es:List G4}{p:NV}{f:ag->M A'}{fr:ag->M (List A')}
def dY{st:G6}(Y:∃f fd,Yd X.prog X.w X.K X.mg X.base CX0 k x st ps (spF K ro (bJ nN n g) n) f fd)(S:ji j X.A)(b:DA K Fl X (e::es) fr)(U:(k<=j)⁻¹)(a: ~~~(Gl X x))(J:((x==("__debug__":Gf))=c_)⁻¹)(B: ~~~(l_ (e::es) X.env=(c_,FV e X.env)::l_ es X.env))(I: ~~~((Hi pos (l_ es X.env)).any (·.1)=c_)):
  DE K Fl ro X (.Call (.Name x p) (e::es) [] pos) (fL (bJ nN n g) fr):=let ⟨_,_,Y⟩:=Y;EW Y.o (S.mono U) Y.d.mg Y.d.fn.kp Y.d.bd b a J B I
def da1(I:DE K W c_ X a fa)(B: ~~~(l_ [a] X.env=[(c_,FV a X.env)])):DA K W X [a] (aa fa aw):=aH I ba B
theorem da2(J:DE K W c_ X a fa)(I:DE K W c_ X b fb)(S: ~~~(l_ [a,b] X.env=[(c_,FV a X.env),(c_,FV b X.env)]))(B: ~~~(l_ [b] X.env=[(c_,FV b X.env)])):DA K W X [a,b] (aa fa (aa fb aw)):=aH J (da1 I B) aW
def da3{f1 f2:ag->M A'}(h1:DE K W c_ X e1 f1)(J:DE K W c_ X e2 f2)(I:DE K W c_ X e3 f3)(s1: ~~~(l_ [e1,e2,e3] X.env=(c_,FV e1 X.env)::l_ [e2,e3] X.env))(s2: ~~~(l_ [e2,e3] X.env=(c_,FV e2 X.env)::l_ [e3] X.env))(B: ~~~(l_ [e3] X.env=(c_,FV e3 X.env)::l_ [] X.env)):DA K W X [e1,e2,e3] (aa f1 (aa f2 (aa f3 aw))):=(aH h1 (aH J (aH I ba B) s2) s1)
def da4{f1 f2:ag->M A'}(h1:DE K W c_ X e1 f1)(U:DE K W c_ X e2 f2)(S:DE K W c_ X e3 f3)(J:DE K W c_ X e4 f4)(s1: ~~~(l_ [e1,e2,e3,e4] X.env=(c_,FV e1 X.env)::l_ [e2,e3,e4] X.env))(s2: ~~~(l_ [e2,e3,e4] X.env=(c_,FV e2 X.env)::l_ [e3,e4] X.env))(I: ~~~(l_ [e3,e4] X.env=(c_,FV e3 X.env)::l_ [e4] X.env))(B: ~~~(l_ [e4] X.env=(c_,FV e4 X.env)::l_ [] X.env)):DA K W X [e1,e2,e3,e4] (aa f1 (aa f2 (aa f3 (aa f4 aw)))):=(aH h1 (aH U (aH S (aH J ba B) I) s2) s1)
def da5{f1 f2:ag->M A'}(h1:DE K W c_ X e1 f1)(a:DE K W c_ X e2 f2)(Y:DE K W c_ X e3 f3)(U:DE K W c_ X e4 f4)(S:DE K W c_ X e5 f5)(s1: ~~~(l_ [e1,e2,e3,e4,e5] X.env=(c_,FV e1 X.env)::l_ [e2,e3,e4,e5] X.env))(s2: ~~~(l_ [e2,e3,e4,e5] X.env=(c_,FV e2 X.env)::l_ [e3,e4,e5] X.env))(J: ~~~(l_ [e3,e4,e5] X.env=(c_,FV e3 X.env)::l_ [e4,e5] X.env))(I: ~~~(l_ [e4,e5] X.env=(c_,FV e4 X.env)::l_ [e5] X.env))(B: ~~~(l_ [e5] X.env=(c_,FV e5 X.env)::l_ [] X.env)):DA K W X [e1,e2,e3,e4,e5] (aa f1 (aa f2 (aa f3 (aa f4 (aa f5 aw))))):=(aH h1 (aH a (aH Y (aH U (aH S ba B) I) J) s2) s1)
def da6{B:G4}{f1 f2:ag->M A'}(h1:DE K W c_ X e1 f1)(d:DE K W c_ X e2 f2)(c:DE K W c_ X e3 f3)(b:DE K W c_ X e4 f4)(a:DE K W c_ X e5 f5)(Y:DE K W c_ X B f6)(s1: ~~~(l_ [e1,e2,e3,e4,e5,B] X.env=(c_,FV e1 X.env)::l_ [e2,e3,e4,e5,B] X.env))(s2: ~~~(l_ [e2,e3,e4,e5,B] X.env=(c_,FV e2 X.env)::l_ [e3,e4,e5,B] X.env))(U: ~~~(l_ [e3,e4,e5,B] X.env=(c_,FV e3 X.env)::l_ [e4,e5,B] X.env))(S: ~~~(l_ [e4,e5,B] X.env=(c_,FV e4 X.env)::l_ [e5,B] X.env))(J: ~~~(l_ [e5,B] X.env=(c_,FV e5 X.env)::l_ [B] X.env))(I: ~~~(l_ [B] X.env=(c_,FV B X.env)::l_ [] X.env)):DA K W X [e1,e2,e3,e4,e5,B] (aa f1 (aa f2 (aa f3 (aa f4 (aa f5 (aa f6 aw)))))):=(aH h1 (aH d (aH c (aH b (aH a (aH Y ba I) J) S) U) s2) s1)
def bV(U:X.N.Nodup)(S:DE K W c_ X e f)(hi: ~~~(X.N[i]?=a_ x))(B:autoParam (Loc X.env.scope x) Jq6)(I: ~~~(HM e (a_ (.Name x pos')) pos.line X.env=GW c_))(J:autoParam (X.fn x=d_\/X.env.scope.names.lookup x=a_ .local) Jq4):
  DS K W ro X OL O (aft c_ i O) (.Assign [.Name x pos'] e pos) (aQ O i f):=ui U S hi B I J
def mE(U:X.N.Nodup)(S:DE K W d_ X e f)(hi: ~~~(X.N[i]?=a_ x))(B:autoParam (Loc X.env.scope x) Jq6)(I: ~~~(HM e (a_ (.Name x pos')) pos.line X.env=GW c_))(J:autoParam (X.fn x=d_\/X.env.scope.names.lookup x=a_ .local) Jq4):
  DS K W ro X OL O (aft d_ i O) (.Assign [.Name x pos'] e pos) (aQ O i f):=ui U S hi B I J
end
section
variable{f:iF}{q:Gf}{st:G6}
def dF(I:K.In h)(G:h.Ns G3 mg)(a:autoParam (nsIn K G3 x=a_ (a_ (.ref f))) Jq2)(l:autoParam (K.lookup f=a_ ⟨oc,od,.func (NO x x (eR st) (cL st) (aS st) .none kV doc pm an cdv ct),osl⟩) Jq2)(c:autoParam (Om K cdv x=d_) Jq2)(k:autoParam (KL K (.ref f)=d_) Jq2)(B:autoParam (∀(kV doc pm:h_) (an:Option iF) (cdv ct:h_) (us:a8),us.length=ps.length->Nv (NO x x (eR st) (cL st) (aS st) .none kV doc pm an cdv ct) ⟨us,[]⟩=GW (ps.zip us)) Jq12):∃f fd,Def K mg x st ps f fd:=⟨_,_,def_of I G a l c k B⟩
def mF(a:autoParam (KN K (.ref C) x=a_ (a_ (.ref f))) Jq2)(i:autoParam (isFn K (.ref f)=d_) Jq2)(l:autoParam (K.lookup f=a_ ⟨oc,od,.func (NO x q (eR st) (cL st) (aS st) .none kV doc pm an cdv ct),osl⟩) Jq2)(c:autoParam (Om K cdv q=d_) Jq2)(k:autoParam (KL K (.ref f)=d_) Jq2)(B:autoParam (∀(kV doc pm:h_) (an:Option iF) (cdv ct:h_) (us:a8),us.length=ps.length->Nv (NO x q (eR st) (cL st) (aS st) .none kV doc pm an cdv ct) ⟨us,[]⟩=GW (ps.zip us)) Jq12):∃f fd,Mth K C x q st ps f fd:=⟨_,_,(⟨Ar l c k,⟨a,i,k⟩,(Ar l c k).binds B⟩)⟩
def kF(e:K.In h)(G:h.Ns G3 mg)(a:autoParam (nsIn K G3 x=a_ (a_ (.ref C))) Jq2)(I:autoParam (Ol K C Str.empty=d_) Jq2)(U:autoParam (Pa K C=d_) Jq2)(B:autoParam (Q3 K C=d_) Jq2)(sa:autoParam (KN K (.ref C) "__setattr__"=a_ (a_ (.builtin "object.__setattr__"))) Jq2)(J:autoParam (QT K C=d_) Jq2)(S:autoParam (KL K (.ref C)=d_) Jq2)(d:autoParam (KN K (.ref C) "__class__"=a_ (a_ (.builtin "object.__class__"))) Jq2)(c:autoParam (O9 K (.builtin "object.__class__") "__get__"=a_ (a_ (.builtin "getset_descriptor.__get__"))) Jq2)(b:autoParam (O8 K (.builtin "object.__class__")=a_ d_) Jq2)(Y:autoParam (PU K C (.type "object")=a_ d_) Jq2):Kls K mg x C:=⟨⟨I,U,B,sa⟩,mg_of e G a,J,S,d,c,b,Y⟩
def lF{y:Gf}(J:K.In h)(G:h.Ns G3 mg)(a:autoParam (nsIn K G3 x=a_ (a_ (.ref f))) Jq2)(l:autoParam (K.lookup f=a_ ⟨oc,od,.func (NO x x (eR st) (cL st) (aS st) .none kV doc pm an cdv ct),osl⟩) Jq2)(c:autoParam (Om K cdv x=d_) Jq2)(k:autoParam (KL K (.ref f)=d_) Jq2)(B:∀(kV doc pm:h_) (an:Option iF) (cdv ct:h_) (v:h_),Nv (NO x x (eR st) (cL st) (aS st) .none kV doc pm an cdv ct) ⟨[v],[]⟩=GW [(y,v)]:=by intros;rfl):∃f fd,Def K mg x st [y] f fd/\∀(s:k_) (v:h_),MW s fd ⟨[v],[]⟩ [(y,v)]:=
 ⟨_,_,def_of J G a l c k λ_ _ _ _ _ _ us I=>match us,I with|[_],_=>B ..,λ_ _=>.of_eq (B ..)⟩
theorem Fun.uniq{B:IG}(a:Fun K x q st f fd)(b:Fun K x q st f B):fd=B:=by
 obtain⟨oc,od,kV,doc,pm,an,cdv,ct,osl,rfl,i,_⟩:=a.ex;obtain⟨c,Y,e,J,U,h,S,g,I,rfl,d,_⟩:=b.ex
 lia
def rS(N:∃f fd,Mth K C x q st ps f fd)(a:autoParam (KN K (.ref C) x=a_ (a_ (.ref f))) Jq2)(s1:autoParam (O9 K (.ref C) "__getattribute__"=a_ (a_ (.builtin "type.__getattribute__"))) Jq9)(s2:autoParam (O_ K C mc=d_) Jq9)(I:autoParam (Pb K (.ref C) mc x=a_ (.val (.ref f))) Jq9)(B:autoParam (KL K (.ref f)=d_) Jq2):∃f fd,Mth K C x q st ps f fd/\Stat K C mc x f:=by obtain⟨J,fd,M⟩:=N;have e:=M.mt.1.symm.trans a;cases e;exact⟨_,fd,M,s1,s2,I,B⟩
end
open Classical in
theorem gR.hide(r:gR K F σ ρ)(i:Nat)(v:Option V):gR K F (σ.set i v) (ρ.set i e_):=
 ⟨by rw[FZ,FZ,r.len],λj d e=>by
  by_cases B:i=j
  .subst B;by_cases hi:i<ρ.length
   .rw[E_ hi]at e;cases e
   .rw[J6 (by rw[FZ];lia)]at e;cases e
  .rw[tF B]at e;obtain⟨v,h1,I⟩:=r.sl j d e;exact⟨v,by rw[tF B];exact h1,I⟩⟩
theorem gR.tell(r:gR K F σ ρ)(e:σ[i]?=a_ (a_ v))(q:bf K F d v):gR K F σ (ρ.set i (a_ d)):=
 ⟨by rw[FZ,r.len],λj d' B=>by
  by_cases I:i=j
  .subst I;by_cases hi:i<ρ.length
   .rw[E_ hi]at B;cases B;exact⟨v,e,q⟩
   .rw[J6 (by rw[FZ];lia)]at B;cases B
  .rw[tF I]at B;exact r.sl j d' B⟩
def pi_seqD(c:PE X e tl):PI X tg e (iSeq X.K tl):=by
 intro B2 s σ H R I h;refine D' (c B2 s σ H _ I h) λv s1 a=>?_;obtain⟨y,H1,B,Y,q1⟩:=a;obtain⟨l,e1,q⟩:=q1;subst e1;cases Y;rcases q with⟨⟨xs,J⟩,q⟩|⟨⟨xs,J⟩,q⟩
 .obtain⟨its,U,p,hz⟩:=B.list J;refine Kb p.isList ⟨s1.z,[s1.z],_,_,H1,rfl,B.kept (t':=s1.toks) λb o e=>f_ _ e,oz l _,⟨_,j_ _ rfl,rfl,rfl⟩,λb S=>?_,q⟩;have e:b=s1.z:=by simpa using S
  subst e;exact B.fpOk (i_ _) (B.hok.fresh (i_ _))
 .obtain⟨its,U,p,hz⟩:=B.tuple J;refine Jr (show s1.heap.IsTuple l its.toArray from p) ⟨s1.z,[s1.z],_,_,H1,rfl,B.kept (t':=s1.toks) λb o e=>f_ _ e,qZ l _,⟨_,j_ _ rfl,rfl,rfl⟩,λb S=>?_,q⟩;have e:b=s1.z:=by simpa using S
  subst e;exact B.fpOk (i_ _) (B.hok.fresh (i_ _))
open Classical in
def Rep.ofE(r:gR K F σ ρ)(st:B4 F0 H0 F H)(fb:aX FB F):Rep K F0 H0 FB [] F H σ ρ:=
 ⟨st,fb,r.len,λi d e _=>r.sl i d e,(λ_ _ _ h=>nomatch h),(λ_ _ _ _ _ h=>nomatch h)⟩
noncomputable abbrev PKs:=List ((Gf×Gf)×Int)
structure Jst where
 dk:List A'
 dn:List A'
 df:List A'
 dc:List A'
 g:PKs
 b:PKs
structure Jad where
 p:iF
 T:iF
 g:iF
 b:iF
 k:iF
 n:iF
 f:iF
 c:iF
section
open PySem.W
end
section
open PySem PySem.W
end
section
open PySem.W
end
section
open PySem PySem.W
end
section
open PySem.W
end
def ItLL(a:iF)(xs:List (LK×iF))(ep:Nat):It:=
 ⟨λi H=>H a=a_ (xA a xs ep)/\i<xs.length,λi H v H'=>∃x,v=.ref x.2/\xs[i]?=a_ x/\H'=H,λi H=>H a=a_ (xA a xs ep)/\xs.length<=i⟩
def xY{s:k_}{xs:List (LK×iF)}(I:B5 X B2 σ H s)(e:H a=a_ (xA a xs ep)):∃es:Array HA,(a==G5)=c_/\qp s.heap a es ep/\es.toList=xs.map rowL/\es.size=xs.length:=by obtain⟨J,b,Y,o,es,h1,U,S,B⟩:=EO I e;exact⟨es,J,⟨o,h1,U,S⟩,B,by rw[<- Gb,B,oe]⟩
theorem CJ(a q:iF)(xs:List (LK×iF))(ep:Nat):Turn P w K tg (ItLL a xs ep) [q] q (λi h=>h.IsKeyIter q a i xs.length ep) where
 mem:=by simp
 obj:=λi h st b J=>by
  obtain⟨o,e,c,d⟩:=st;have:b=q:=by simpa using J
  subst this;exact⟨_,e,λv z=>by rw[d]at z;cases z⟩
 keep:=λi h h' st k=>let ⟨o,e,r⟩:=st;⟨o,k q am _ e,r⟩
 item:=by
  intro X Y hw f j i B2 s σ H E I S st U;subst Y hw f;obtain⟨h0,hi⟩:=U;obtain⟨es,m,z,g,hsz⟩:=xY I h0;rw[<- hsz]at st;obtain⟨f0,f1,f2,f3,f4,f5⟩:=S q am;have l:es[i]?=a_ (rowL xs[i]):=by rw[<- Jn,g,FL,v_ hi];rfl
  refine rJ st z l λh' B sb=>?_;have n:B5 X B2 σ H {s with heap:=h'}:=I.turned (t':=s.toks) (λb o J e=>(sb.2 b J).trans e) f0 f1 f3 f4 f5;obtain⟨o,e,c,d⟩:=id B;exact⟨_,rfl,go_of (s:={s with heap:=h'}) e c d as ⟨.ref xs[i].2,H,n,rfl,⟨xs[i],rfl,v_ hi,rfl⟩,by rw[hsz]at B;exact B,λb J=>(S b J).1⟩⟩
 done:=by intro X Y hw f j i B2 s σ H E I S st U;subst Y hw f;obtain⟨h0,hi⟩:=U;obtain⟨es,m,z,g,hsz⟩:=xY I h0;rw[<- hsz]at st;obtain⟨f0,f1,f2,f3,f4,f5⟩:=S q am;exact wN (I.ok.hd j) st z ad λh' eb=>⟨rfl,I.turned (t':=s.toks) (λb o J e=>eb b o J e) f0 f1 f3 f4 f5⟩
 self:=λ_ _ _ _ _ st h=>PZ st h
def En{xs:List (LK×iF)}{ks:a9}(J:F a=a_ (xA a xs ep))(z:yW K F ks xs):nM K F (ItLL a xs ep) (ks.map aY) where
 go:=λi F' H' s1 s2 hi=>⟨s2 _ _ (s1 _ _ J),by rw[<- z.1]at hi;simpa using hi⟩
 yl:=λi F' H' x H2 d s1 s2 I S=>by obtain⟨y,ev,B,U⟩:=S;subst ev U;rw[<- z.1,FK,FL,B]at I;cases I;exact⟨F',B4.refl s2,u0 ((z.2 y (Gn B)).mono s1)⟩
 st:=λF' H' s1 s2=>⟨s2 _ _ (s1 _ _ J),by rw[<- z.1];simp⟩
def pA:A'->M (List A')
 |.lst ds=>.ok ds|.dil ks=>.ok (ks.map aY)|_=>.error .stuck
def fItL(fa:ag->M A'):ag->M (List A'):=λρ=>(fa ρ).bind pA
@[simp]def e_fItL{fd:ag->M A'}{ρ:ag}:fItL fd ρ=(fd ρ).bind pA:=id rfl
@[simp]def e_itemsLL(ks:a9):pA (.dil ks)=.ok (ks.map aY):=id rfl
@[simp]def e_itemsLLl(ds:List A'):pA (.lst ds)=.ok ds:=id rfl
def ET{W:cy}{o:G4}{fd:ag->M A'}(i:DE K W c_ X o fd)(k: ~~~(X.K=K)):DI K W X tg o (fItL fd):=by
 subst k;intro B2 s σ H R I ⟨F,ρ,r,g,p⟩;have p:(match (fd ρ).bind pA with
  |.ok ds=>∀U F1 H1,B4 F H F1 H1->nM X.K F1 U ds->R U H1|.error e=>W.p e F H):=p
 refine D' (i B2 s σ H (λv H1=>∃d F1,fd ρ=.ok d/\B4 F H F1 H1/\bf X.K F1 d v) I (aJ r g (λe Y=>by rw[Y]at p;exact p) λd J v F1 H1 s1 q=>⟨d,F1,J,s1,q⟩)) λv s1 h=>?_;obtain⟨y,H1,B,S,d,F1,J,st,q⟩:=h;rw[J]at p;have fp:∀b,b∈[s1.z]->_:=λb j=>by
  have e:b=s1.z:=by simpa using j
  subst e;exact B.fpOk (i_ _) (B.hok.fresh (i_ _))
 cases d with
 |lst ds=>obtain⟨l,xs,e1,t,z⟩:=q;subst e1;cases S;obtain⟨its,m,pl,hz⟩:=B.list (st.fh.lst t);exact Kb pl.isList ⟨s1.z,[s1.z],_,_,H1,rfl,B.kept (t':=s1.toks) λb o e=>f_ _ e,oz l _,⟨_,j_ _ rfl,rfl,rfl⟩,fp,p _ F1 H1 st (wz t z)⟩
 |dil ks=>obtain⟨a,xs,e1,⟨ep,c⟩,z⟩:=q;subst e1;cases S;obtain⟨es,J,f,Y,hsz⟩:=xY B (st.fh _ _ c);exact rP J f ⟨s1.z,[s1.z],_,_,H1,rfl,B.kept (t':=s1.toks) λb o e=>f_ _ e,CJ a _ xs ep,⟨_,j_ _ rfl,rfl,by rw[<- hsz];rfl⟩,fp,p _ F1 H1 st (En c z)⟩
 |_=>exact(W.ns p).elim
def j7:List A'->M a9
 |[]=>.ok []|.tup [kd,.bl d_]::ds=>(o7 kd).bind λk=>(j7 ds).bind λr=>.ok (k::r)|_=>stk
def AE:List A'->M A'
 |[.lst ds]=>(j7 ds).bind λks=>.ok (.dil (ks.foldl putL []))|_=>stk
@[simp]def uh(ds:List A'):AE [.lst ds]=(j7 ds).bind λks=>.ok (.dil (ks.foldl putL [])):=id rfl
theorem rG:∀{ds:List A'} {e:Err},j7 ds=.error e->e=.stuck
 |[],_,h=>by cases h|d::ds,e,h=>by
  unfold j7 at h;split at h
  .cases h
  .rename_i kd S J;cases I:o7 kd with
   |error z=>rw[I]at h;have:=o6 I;subst this;cases h;rfl|ok k=>
    rw[I]at h;cases B:j7 S with
    |error z=>rw[B]at h;cases J;have:=rG B;subst this;cases h;rfl|ok r=>rw[B]at h;cases h
  .cases h;rfl
def E3:KKeep (yq prog w):=λz e=>E4 z e
def yx(rs:List (LK×iF))(B:List (LK×iF)):List (LK×iF):=rs.foldl (λa x=>lB a x.1 x.2) B
theorem rZ:∀(rs B:List (LK×iF)),(rs.map enL).foldl stR (B.map enL)=(yx rs B).map enL
 |[],_=>rfl|r::rs,B=>by show(rs.map enL).foldl stR (MR (B.map enL) r.1 r.2 (.bool d_))=_;rw[CT];exact rZ rs _
theorem s9:∀(rs B:List (LK×iF)),(yx rs B).map (·.1)=(rs.map (·.1)).foldl putL (B.map (·.1))
 |[],_=>rfl|r::rs,B=>by show(yx rs (lB B r.1 r.2)).map _=(rs.map (·.1)).foldl putL (putL (B.map (·.1)) r.1);rw[s9,rA]
theorem wH{P:LK×iF->Prop}:∀(rs B:List (LK×iF)),(∀x∈rs,P x)->(∀x∈B,P x)->∀x∈yx rs B,P x
 |[],_,_,h=>h|r::rs,B,h1,J=>wH rs (lB B r.1 r.2) (λx I=>h1 x (by simp[I])) λx I=>by
  rcases vK I with e|e
  .exact J x e
  .subst e;exact h1 _ am
theorem wI:∀(rs B:List (LK×iF)),(yx rs B).length<=B.length+rs.length
 |[],_=>i_ _|r::rs,B=>by have h1:=wI rs (lB B r.1 r.2);have I:=vL B r.1 r.2;show(yx rs (lB B r.1 r.2)).length<=_;rw[B_];lia
section
variable{W:cy}
theorem vT{B2:Vp}{σ:St}{F H:Hp}{s:k_}(I:B5 X B2 σ H s)(i:aX F H):∀{ds:List A'} {ys:a7} {its:a8} {ks:a9},ay X.K F ds ys->C' ys its->j7 ds=.ok ks ->
  ∃rs:List (LK×iF),rs.map (·.1)=ks/\rs.length=its.length/\(∀r∈rs,ko X.K F r.2 r.1)/\∀(j:Nat) (x:LK×iF×h_),(rs.map enL)[j]?=a_ x->∃T,its[j]?=a_ (.ref T)/\NY s.heap T #[.ref x.2.1,x.2.2]/\(yq X.prog X.w).is s.heap x.1 x.2.1
 |[],_,_,_,h,r,e=>by rw[show _=[]from h]at r;cases r;cases e;exact⟨[],rfl,rfl,λr c=>(nomatch c),λj x h=>by simp at h⟩
 |d::ds,_,_,ks,⟨v,vs,ev,q,t⟩,r,e=>by
  subst ev;cases r with
  |cons E rs=>
   rename_i u us;unfold j7 at e;split at e
   .rename_i B;cases B
   .rename_i kd Q B;cases B;cases g:o7 kd with
    |error z=>rw[g]at e;cases e|ok k=>
     rw[g]at e;cases f:j7 ds with
     |error z=>rw[f]at e;cases e|ok a=>
      rw[f]at e;have e:GY (k::a)=(GY ks:M _):=e;cases e;obtain⟨L,h1,N,K,G⟩:=vT I i t rs f;obtain⟨T,ws,P,C,W,n,O,q1,o,S,l,q2,m⟩:=q;subst P O l;have m:S=[]:=m;subst m;cases(show u=w_ T from E);cases(show o=V.bl d_ from q2);obtain⟨b,rfl,tb⟩:=u3 g q1;obtain⟨A,D,y,_⟩:=I.tuple (i.tup C);obtain⟨w,p,rfl,Y,U⟩:=D.two;cases(show w=w_ b from Y);cases(show p=Mo d_ from U);refine⟨(k,b)::L,by simp[h1],by simp[N],λr c=>?_,λj x J=>?_⟩
      .rcases t_.mp c with e|e
       .subst e;exact tb
       .exact K r e
      .cases j with
       |zero=>simp only[pk,HX,GF]at J;subst J;exact⟨T,rfl,y,mw I (tb.mono i)⟩|succ j=>simp only[pk,GV]at J;obtain⟨R,f1,f2⟩:=G j x J;exact⟨R,by simpa using f1,f2⟩
   .cases e
theorem c_dictLD(O:X.A.units+64<GQ)(C: ~~~(X.calm=d_))(E: ~~~(X.K=K)):jU K W d_ X (.type "dict") AE:=by
 subst E;intro B2 s σ H xs us Q I y h;obtain⟨F,d,x,s1,e,q,p⟩:=gw (λds=>by match ds with|[d]=>exact .inl ⟨d,rfl⟩|[]=>exact .inr rfl|a::b::c=>exact .inr (by cases a<;>rfl)) h;subst e;obtain⟨u,rfl,w⟩:=y.one;cases d with
 |lst ds=>
  obtain⟨a,ys,e1,t,r⟩:=q;subst e1;cases w;have p':aE X.K W d_ F H ((j7 ds).bind λks=>.ok (.dil (ks.foldl putL []))) Q:=p;cases U:j7 ds with
  |error z=>rw[U]at p';have:=rG U;subst this;exact aE.stuck p'|ok ks=>
   rw[U]at p';obtain⟨its,l,pl,hz⟩:=I.list (s1.lst t);obtain⟨o,n,N,S,B,J⟩:=id pl;obtain⟨oc,od,f,osl⟩:=o;cases(show oc=.type "list" from S);cases(show od=e_ from B);cases(show f=.seq its.toArray n from J);obtain⟨rs,h1,m,L,G⟩:=vT I s1 r l U;have D:rs.length<=o_:=by rw[m,<- l.length];exact hz
   refine sM (knd:=yq X.prog X.w) (I.ok.hd C) E3 (by show X.A.units+1+1+3<GQ;lia) N (rs.map enL) (by simp[m]) (by simpa using D) (λj x g=>by obtain⟨T,f1,f2⟩:=G j x g;exact⟨T,by simpa using f1,f2⟩) λh' Y A v=>?_;rw[show([]:List (LK×iF×h_))=([]:List (LK×iF)).map enL from rfl,rZ]at v;have i:(yx rs []).length<=o_:=by have:=wI rs [];simp at this;lia
   obtain⟨ep,z⟩:=AB v (Ka.mpr (HI (FO I.big))) i;have k:=I.hok.fresh (i_ s.z);refine⟨.ref s.z,_,I.laid (a:=s.z) (o:=xA s.z _ ep) (t':=Y) (λb o e=>A b o e) (i_ _) (yB z),rfl,p' (.ref s.z) F _ (B4.grow s1 k) ⟨s.z,_,rfl,⟨ep,av⟩,s1.free k,k,?_,wH rs [] L λx g=>nomatch g⟩⟩
   rw[s9,h1];rfl
 |_=>exact aE.stuck p
end
def xD:A'->A'->M A'
 |.dic ks,kd=>(kZ kd).bind λk=>match qv ks k with
  |some d=>.ok d|none=>stk
 |_,_=>stk
@[simp]def jO(ks:List (a0×A'))(kd:A'):xD (.dic ks) kd=(kZ kd).bind λk=>match qv ks k with|some d=>.ok d|none=>stk:=id rfl
def rIxK(K:Pn):R2:=λx y H Q=>∃a b k xs ep v,x=.ref a/\y=.ref b/\H a=a_ (iJ a xs ep)/\n8 K H xs/\SqT K H b (k.map V.int)/\uW xs k=a_ v/\Q v H
theorem ix_K(i:X.A.units+1<GQ):IxR X (rIxK X.K):=by
 intro value B B2 s σ H x y v u Q I f d h j;obtain⟨a,b,k,xs,ep,z,rfl,rfl,ea,l,t,e,q⟩:=h;cases(show v=w_ a from f);cases(show u=w_ b from d);obtain⟨vs,g,m,hz,c⟩:=pP I ea l;have S:=nR (k:=k) g;rw[e]at S;obtain⟨w,Y,J⟩:=S.some_of;cases U:O7 vs k with
 |none=>simp_all|some p=>rw[U]at Y;cases Y;exact Mc (x:=p.2) c.typeIs slot_dict_getitem.lookup (wpAny_getItem_heap (Q:=λr s'=>r=p.2/\EP X B2 σ Q r s') (JX i) (m9 I t) c U ⟨rfl,z,H,I.tok _,J,q⟩) j
theorem uY{W:cy}(Y:X.A.units+64<GQ)(U: ~~~(X.K=K)):IxR X (rD2 K W c_ xD):=by
 subst U;refine(ix_K (X:=X) ad).imp λx y H Q h=>?_;obtain⟨F,a,b,s1,J,I,p⟩:=h;cases a with
 |dic ks=>
  have p:aE X.K W c_ F H ((kZ b).bind λk=>match qv ks k with|some d=>.ok d|none=>stk) Q:=p;cases B:kZ b with
  |error e=>rw[B]at p;have:=kc B;subst this;exact aE.stuck p|ok k=>
   rw[B,af]at p;obtain⟨a,xs,rfl,⟨ep,S⟩,z⟩:=J;obtain⟨c,rfl,t⟩:=my B I;rcases z.at (k:=k)with⟨e1,_⟩|⟨d,v,e1,e2,q⟩
   .rw[e1]at p;exact aE.stuck p
   .rw[e1]at p;exact⟨a,c,k,xs,ep,v,rfl,rfl,s1 _ _ S,z.key.mono s1,s1.tup t,e2,p v F H (B4.refl s1) q⟩
 |_=>exact aE.stuck p
section
open PySem.W
variable{s:k_}
def BP{c:Bool}{Q:Bool->k_->Prop}(J:A.units<GQ)(B:TupAt s.heap a us)(I:TupAt s.heap b vs)(S:Ls prog w A.in1 s.heap us vs c)(h:Q c s):r_ (y_ prog w) A (keyLt' oneType' (.ref a) (.ref b)) Q E s:=by rw[keyLt'_oneType,oneLt'_eq];simp only[Jw];refine b_ (wpAny_cRoomFor J ?_);refine b_ (wpAny_callSpecialIfBound?_slot B.ty KD (FT KD B.ty OV (oZ B I S ⟨_,rfl,?_⟩) (OE _ _)));exact Hm h
theorem sf:∀(vs:a8),(∀v∈vs,∃a us,v=.ref a/\TupAt s.heap a us)->∃fs:List (Option h_),(∀Q:List (Option h_)->k_->Prop,Q fs s->r_ (y_ prog w) A (vs.mapM firstOfTuple') Q E s)/\∀a,vs.head? =a_ (.ref a)->TupAt s.heap a []->fs.head? =a_ e_
 |[],_=>⟨[],λQ h=>by rw[List.mapM_nil];exact g_ h,λa e=>by cases e⟩|v::vs,h=>by
  obtain⟨fs,h1,_⟩:=sf vs λv I=>h v (by simp[I]);obtain⟨a,us,rfl,o,n,B,Y,U⟩:=h v am;refine⟨us[0]?::fs,λQ d=>?_,λb e t=>?_⟩
  .rw[List.mapM_cons];refine b_ ?_;rw[kas_first_eq];refine b_ (OT (show Looks (y_ prog w) s.heap (typeOf (.ref a)) o.cls from(Looks.ld B).andThen .now) ?_);rw[Y,q_ am];refine b_ (listItems_at B U (g_ ?_));exact b_ (h1 _ (g_ aW))
  .cases e;obtain⟨o',c,J,_,S⟩:=t
   simp_all
theorem kind0{Q:Ow->k_->Prop}(h0:vs.head? =a_ (.ref a))(c:TupAt s.heap a [])(S:∀v∈vs,∃a us,v=.ref a/\TupAt s.heap a us)(h:Q oneType' s):r_ (y_ prog w) A (keyKind' vs.toArray) Q E s:=by
 obtain⟨fs,h1,I⟩:=sf (prog:=prog) (w:=w) (A:=A) (E:=E) vs S;have I:=I a h0 c;rw[keyKind'_eq,PL,map_eq_pure_bind];refine b_ (b_ (h1 _ (g_ ?_)));obtain⟨f,fs,rfl⟩:∃f fr,fs=f::fr:=by
  cases fs with
  |nil=>cases I|cons f fr=>lia
 cases I;rw[q_ am,q_ am];rw[oneTypeOnly'_eq,PL,map_eq_pure_bind];have ty:∀v∈vs,Looks (y_ prog w) s.heap (typeOf v) (Hz "tuple"):=λv J=>by obtain⟨b,us,rfl,o,n,Y,d,e⟩:=S v J;rw[<- d];exact(Looks.ld Y).andThen .now
 refine b_ (b_ (b_ (kas_mapM (r:=Hz "tuple") _ (λv J g U=>(ty v J).here U) (g_ ?_))));cases vs with
 |nil=>cases h0|cons v vs=>
  have B:((List.map (λ_=>Hz "tuple") (v::vs)).toArray.all λx=>x==Hz "tuple")=d_:=by simp only[List.all_toArray,List.all_map,Hd];intro _ _;rfl
  have h0:(List.map (λ_=>Hz "tuple") (v::vs)).toArray[0]?=a_ (Hz "tuple"):=by simp
  rw[h0];simp only[B,Jw];exact g_ (g_ h)
abbrev tY:a0->a0->Bool:=p9 ltZ
def ordI:Ord tY:=yh ordZ
def TKs0(prog:GD)(w:Hw)(h:Gu)(rs:List (a0×iF)):Prop:=∀r∈rs,(tupI (yr prog w)).is h r.1 (.ref r.2)
theorem Fy{rs:List (a0×iF)}(k:A.units+8<GQ)(f:TKs0 prog w s.heap rs)(h0:(rs.map HN).head? =a_ []):Ct prog w A (rk tY (rs.map HN) []) (rs.map λr=>w_ r.2) s:=by
 have B:∀r∈rs,∃us,TupAt s.heap r.2 us/\qt ((yr prog w).is s.heap) r.1 us:=λr d=>by obtain⟨a,us,e,t,z⟩:=f r d;cases e;exact⟨us,t,z⟩
 cases rs with
 |nil=>cases h0|cons I rs=>
  have g:I.1=[]:=by simpa using h0
  unfold Ct;refine kind0 (a:=I.2) rfl ?_ (λv h=>?_) ⟨rfl,λi j C hi J S=>?_⟩
  .obtain⟨us,t,z⟩:=B I am;rw[g]at z;cases z;exact t
  .grind
  .rw[oe]at hi J;rw[Dd ordI aW aW]at S;obtain⟨us,c,Y⟩:=B _ (FX hi);obtain⟨vs,b,U⟩:=B _ (FX J);unfold Oa;rw[getD_get (by rw[oe];exact hi),getD_get (by rw[oe];exact J),G7,G7];rw[getD_get (by rw[oe];exact hi),getD_get aV,G7,G7]at S;exact BP ad c b (DY _ int_lt (by show A.units+1+0<GQ;lia) Y U) S
end
def i9:List A'->M A'
 |[.dic ks]=>if (ks.map (·.1)).head? =a_ []then .ok (.lst ((cx tY (ks.map (·.1))).map aP))else stk
 |[.lst ds]=>(fQ ds).bind λts=>if ts.head? =a_ []then .ok (.lst ((cx tY ts).map aP))else stk
 |_=>stk
@[simp]def kf(ks:List (a0×A')):i9 [.dic ks]=if (ks.map (·.1)).head? =a_ []then .ok (.lst ((cx tY (ks.map (·.1))).map aP))else stk:=id rfl
@[simp]def sv(ds:List A'):i9 [.lst ds]=(fQ ds).bind λts=>if ts.head? =a_ []then .ok (.lst ((cx tY ts).map aP))else stk:=id rfl
section
variable{W:cy}
def tk_keep{k:a0}{v:h_}(x:(tupI (yr prog w)).is h k v)(e:∀b o,h.get? b=a_ o->h'.get? b=a_ o):(tupI (yr prog w)).is h' k v:=(tupI (yr prog w)).keeps x λa o us n q _=>e a o q
theorem v9{F:Hp}:∀{ts:List a0} {xs:a7},ay K F (ts.map aP) xs->∃rs:List (a0×iF),rs.map HN=ts/\xs=rs.map (λr=>V.ref r.2)/\∀r∈rs,SqT K F r.2 (r.1.map V.int)
 |[],_,h=>⟨[],rfl,h,λr I=>(nomatch I)⟩
 |t::ts,_,⟨v,vs,e,⟨b,ys,ev,q,z⟩,r⟩=>by obtain⟨rs,e2,e3,h⟩:=v9 r;have J:=dh z (fw _);subst J;exact⟨(t,b)::rs,aW,aW,λx B=>(t_.mp B).elim (λz=>by simp_all) (h x)⟩
theorem sE{F:Hp}:∀{ks:List (a0×A')} {xs:List gn},bA K F ks xs->xs.map (·.1)=ks.map (·.1)
 |[],_,h=>by rw[show _=[]from h];rfl|(k,d)::ks,_,⟨b,v,r,e,t,q,z⟩=>by rw[e,pk,sE z];rfl
theorem oS:∀{xs:List gn} {vs:List (a0×iF×h_)},I_ e8 xs vs->(vs.map Cm).map (·.key)=xs.map λx=>w_ x.2.1
 |_,_,.nil=>rfl|_,_,.cons r t=>by rw[pk,pk,pk,oS t,r.2.1];rfl
theorem qg(L:X.A.units+64<GQ)(C: ~~~(X.calm=d_))(i: ~~~(X.K=K)):jU K W d_ X (.builtin "sorted") i9:=by
 subst i;intro B2 s σ H xs us Q I n h;obtain⟨F,d,x,s1,e,q,p⟩:=gw (λds=>by match ds with|[d]=>simp|[]=>exact .inr rfl|a::b::c=>exact .inr (by cases a<;>rfl)) h;subst e;obtain⟨u,rfl,k⟩:=n.one;have l:∀{rs:List (a0×iF)},(∀r∈rs,SqT X.K F r.2 (r.1.map V.int))->∀r∈rs,bf X.K F (aP r.1) (.ref r.2):=λh r S=>⟨r.2,_,rfl,h r S,iE r.1⟩
 have J:∀{rs:List (a0×iF)} {h':Gu},(∀r∈rs,SqT X.K F r.2 (r.1.map V.int))->(∀b o,s.heap.get? b=a_ o->h'.get? b=a_ o)->TKs0 X.prog X.w h' rs:=λ{rs h'} i B r S=>tk_keep (row_at I (s1.tup (i r S))) B;cases d with
 |dic ks=>
  obtain⟨a,rs,e1,⟨ep,E⟩,z⟩:=q;subst e1;cases k;have p:aE X.K W d_ F H (if (ks.map (·.1)).head? =a_ []then .ok (.lst ((cx tY (ks.map (·.1))).map aP))else stk) Q:=p;by_cases h0:(ks.map (·.1)).head? =a_ []
  .rw[p_ h0]at p;obtain⟨vs,es,f,A,hz,m,y,hsz⟩:=oM I (s1 _ _ E);have w:(rs.map λx=>(x.1,x.2.1)).map HN=ks.map (·.1):=by rw[FK,<- sE z];rfl
   have Y:∀r∈rs.map λx=>(x.1,x.2.1),SqT X.K F r.2 (r.1.map V.int):=λr S=>by obtain⟨x,v,rfl⟩:=Gq.mp S;exact z.key x v
   rw[<- w]at p h0;refine zu (key:=rk tY ((rs.map λx=>(x.1,x.2.1)).map HN) []) (vs:=(rs.map λx=>(x.1,x.2.1)).map λr=>w_ r.2) (I.ok.hd C) A m (by rw[y,oS f,FK];rfl) aW (λG h1 tk B=>?_) λh' D c tk out j B e g=>nQ ordI I s1 (l Y) aW p j B e g;exact Fy (s:={s with heap:=h1,toks:=tk}) ad (J Y B) h0
  .rw[q_ h0]at p;exact aE.stuck p
 |lst ds=>
  obtain⟨a,ys,e1,t,r⟩:=q;subst e1;cases k;have p:aE X.K W d_ F H ((fQ ds).bind λts=>if ts.head? =a_ []then .ok (.lst ((cx tY ts).map aP))else stk) Q:=p;cases ek:fQ ds with
  |error z=>cases l7 ek;rw[ek]at p;exact aE.stuck p|ok ts=>
   rw[ek,af]at p;rw[l6 ek]at r;by_cases h0:ts.head? =a_ []
   .rw[p_ h0]at p;obtain⟨rs,e2,e3,Y⟩:=v9 r;subst e2;obtain⟨its,f,pl,hz⟩:=I.list (s1.lst t);subst e3;have U:=uZ f;subst U;rw[oe]at hz;refine mf (key:=rk tY (rs.map HN) []) pl.isList aW (λG h1 B=>?_) λh' D c out g j B e=>nQ (tk:=s.toks) ordI I s1 (l Y) hz p j B e g;exact Fy (s:={s with heap:=h1}) ad (J Y B) h0
   .rw[q_ h0]at p;exact aE.stuck p
 |_=>exact aE.stuck p
end
def bI{x:M α}{f:α->M β}{y:β}(h:x.bind f=.ok y):∃a,x=.ok a/\f a=.ok y:=by
 cases x with
 |error e=>cases h|ok a=>exact⟨a,rfl,h⟩
def iI{p:Prop}[Decidable p]{x:M α}{y:α}(h:(if p then x else stk)=.ok y):p/\x=.ok y:=by
 by_cases e:p
 .rw[p_ e]at h;exact⟨e,h⟩
 .rw[q_ e]at h;cases h
def tD_at{W:cy}{own:Bool}{f:ag->M A'}{R:VK}(r:gR K F σ ρ)(s:aX F H)(e:f ρ=.ok d)(B:∀v F1 H1,B4 F H F1 H1->Val K own F1 H H1 d v->R v H1):tD K W own f σ H R:=
 aJ r s (λ_ z=>nomatch e.symm.trans z) λ_ z=>by cases e.symm.trans z;exact B
def tDT_at{W:cy}{f:ag->M Bool}{d:Bool}(r:gR K F σ ρ)(s:aX F H)(e:f ρ=.ok d)(B:∀F1 H1,B4 F H F1 H1->R d H1):tDT K W f σ H R:=
 jt r s (λ_ z=>nomatch e.symm.trans z) λ_ z=>by cases e.symm.trans z;exact B
structure Ens(K:Pn)(F0 H0 FB:Hp)(i j k:Nat)(a b c:iF)(ys vs ws:a7)(rs ds es:List A')(F H:Hp)(σ:St)(ρ:ag):Prop where
 r:gR K F σ ρ
 st:B4 F0 H0 F H
 fz:aX FB F
 si:σ[i]?=a_ (a_ (.ref a))
 sj:σ[j]?=a_ (a_ (.ref b))
 sk:σ[k]?=a_ (a_ (.ref c))
 ha:H a=a_ (.lst ys)
 hb:H b=a_ (.lst vs)
 hc:H c=a_ (.lst ws)
 fa:F a=e_/\H0 a=e_
 fb:F b=e_/\H0 b=e_
 fc:F c=e_/\H0 c=e_
 ow:sS K F H0 H rs ys
 db:ay K F ds vs
 dc:ay K F es ws
 ab:a≠b
 ac:a≠c
 bc:b≠c
 na:∀(m:Nat) (x:iF),ys[m]?=a_ (.ref x)->x≠a/\x≠b/\x≠c
def wM(pt:Pat)(f:ag->M A')(t:Nat):List A'->ag->M ag
 |[],ρ=>.ok ρ|d::ds,ρ=>(cA pt d ρ).bind λB=>(f B).bind λx=>wM pt f t ds (B.set t (a_ x))
section
variable{t:Nat}{vs:List V}{es:List A'}{p:Pat}{f:ag->M A'}{D:Ends}
theorem Ens.step(h:Ens K F0 H0 FB i j k a b c ys vs ws rs ds es F H σ ρ)(s:B4 F H F1 H1):Ens K F0 H0 FB i j k a b c ys vs ws rs ds es F1 H1 σ ρ:=
 ⟨h.r.mono s.ff,h.st.trans s,h.fz.trans s.ff,h.si,h.sj,h.sk,s.hh _ _ h.ha,s.hh _ _ h.hb,s.hh _ _ h.hc,⟨s.stays h.fa.1 h.ha,h.fa.2⟩,⟨s.stays h.fb.1 h.hb,h.fb.2⟩,⟨s.stays h.fc.1 h.hc,h.fc.2⟩,h.ow.step s,h.db.mono s.ff,h.dc.mono s.ff,h.ab,h.ac,h.bc,h.na⟩
theorem Ens.set(h:Ens K F0 H0 FB i j k a b c ys vs ws rs ds es F H σ ρ)(q:bf K F d v)(n:t≠i/\t≠j/\t≠k):Ens K F0 H0 FB i j k a b c ys vs ws rs ds es F H (σ.set t (a_ v)) (ρ.set t (a_ d)):=
 {h with r:=h.r.set q t,si:=by rw[tF n.1];exact h.si,sj:=by rw[tF n.2.1];exact h.sj,sk:=by rw[tF n.2.2];exact h.sk}
def Ens.pat{R:St->Hp->Prop}(h:Ens K F0 H0 FB i j k a b c ys vs ws rs ds es F H σ ρ)(n:i∉p.names/\j∉p.names/\k∉p.names)(q:bf K F d v)(e:cA p d ρ=.ok ρ')(t:∀J,Ens K F0 H0 FB i j k a b c ys vs ws rs ds es F H J ρ'->R J H):gP K p v σ H R:=by refine yu n.1 (R':=λB H1=>H1=H/\gR K F B ρ'/\B[j]?=σ[j]?/\B[k]?=σ[k]?) (yu n.2.1 (R':=λB H1=>H1=H/\gR K F B ρ'/\B[k]?=σ[k]?) (yu n.2.2 (R':=λB H1=>H1=H/\gR K F B ρ') (EA h.r h.st.fh q e λB I=>⟨rfl,I⟩) λB H1 ⟨e1,I⟩ e2=>⟨e1,I,e2⟩) λB H1 ⟨e1,I,e3⟩ e2=>⟨e1,I,e2,e3⟩) λB H1 S e4=>?_;obtain⟨e1,I,e2,e3⟩:=S;subst e1;exact t B {h with r:=I,si:=e4.trans h.si,sj:=e2.trans h.sj,sk:=e3.trans h.sk}
def Ens.mid{x:iF}{o:HO}(h:Ens K F0 H0 FB i j k a b c ys vs ws rs ds es F H σ ρ)(fx:F x=e_/\H0 x=e_)(n:∀(m:Nat) (z:iF),ys[m]?=a_ (.ref z)->z≠x):B4 F0 H0 F (upd H x o)/\sS K F H0 (upd H x o) rs ys:=
 ⟨⟨h.st.ff,λy o z=>by rw[ax (aC z fx.2)];exact h.st.hh y o z,λy o z=>by rw[ax (aC z fx.1)];exact h.st.fh y o z,h.st.nw⟩,⟨h.ow.len,λm d e=>by obtain⟨y,xs,es,B,g2,J,I⟩:=h.ow.get m d e;exact⟨y,xs,es,B,g2,by rw[ax (n m y B)];exact J,I⟩,h.ow.ap⟩⟩
def Ens.appB(h:Ens K F0 H0 FB i j k a b c ys vs ws rs ds es F H σ ρ)(q:bf K F d v):Ens K F0 H0 FB i j k a b c ys (vs++[v]) ws rs (ds++[d]) es F (upd H b (.lst (vs++[v]))) σ ρ:=
 {h with st:=(h.mid h.fb λm z e=>(h.na m z e).2.1).1,ha:=by rw[ax h.ab];exact h.ha,hb:=av,hc:=by rw[ax h.bc.symm];exact h.hc,ow:=(h.mid h.fb λm z e=>(h.na m z e).2.1).2,db:=ay.append h.db ⟨v,[],rfl,q,rfl⟩}
def Ens.appC(h:Ens K F0 H0 FB i j k a b c ys vs ws rs ds es F H σ ρ)(q:bf K F d v):Ens K F0 H0 FB i j k a b c ys vs (ws++[v]) rs ds (es++[d]) F (upd H c (.lst (ws++[v]))) σ ρ:=
 {h with st:=(h.mid h.fc λm z e=>(h.na m z e).2.2).1,ha:=by rw[ax h.ac];exact h.ha,hc:=av,hb:=by rw[ax h.bc];exact h.hb,ow:=(h.mid h.fc λm z e=>(h.na m z e).2.2).2,dc:=ay.append h.dc ⟨v,[],rfl,q,rfl⟩}
theorem rs_ensIn(h:Ens K F0 H0 FB i j k a b c ys vs ws rs ds es F H σ ρ)(n:i∉p.names/\j∉p.names/\k∉p.names)(u:t≠i/\t≠j/\t≠k)(G:wM p f t es ρ=.ok ρ')(S:∀F' H' B,Ens K F0 H0 FB i j k a b c ys vs ws rs ds es F' H' B ρ'->D.nx B H'):tFor (iSeq K (vi k)) (gP K p) (r9 (tD K Fl c_ f) (jm t)) D σ H:=by
 refine⟨.ref c,h.sk,c,rfl,.inl ⟨⟨_,SqL.of h.hc⟩,λn m B H'=>m+n=es.length/\∃F' I,Ens K F0 H0 FB i j k a b c ys vs ws rs ds es F' H' B I/\wM p f t (es.drop n) I=.ok ρ',⟨es.length,ad,F,ρ,h,aW⟩,λU m B H' Y=>?_⟩⟩
 obtain⟨e1,F',I,J,e2⟩:=Y;by_cases L:m=0
 .refine .inl ⟨⟨_,SqL.of J.hc,by rw[J.dc.length];lia⟩,S F' H' B ?_⟩;rw[Lz ad]at e2;cases e2;exact J
 .have hi:U<es.length:=ad
  obtain⟨v,ev,q⟩:=J.dc.get (show es[U]?=a_ es[U] by simp);refine .inr ⟨⟨_,v,SqL.of J.hc,ev⟩,_,λl H2 z=>⟨m-1,ad,z⟩,λx H2 Y=>?_⟩;obtain⟨C,A⟩:=Y;subst C;have ex:=A _ (SqL.of J.hc);rw[ev]at ex;cases ex;rw[Gd hi,wM]at e2;cases eb:cA p es[U] I with
  |error z=>simp_all|ok o=>rw[eb]at e2;simp only[af]at e2;refine J.pat n q eb λg d=>?_;refine aJ d.r d.st.fh (λe N=>by simp_all) λx y w E O r s=>?_;rw[y]at e2;simp only[af]at e2;exact⟨ad,E,_,(d.step r).set s u,e2⟩
open Classical in
theorem Ens.toR(h:Ens K F0 H0 FB i j k a b c ys vs ws rs ds es F H σ ρ):RepR K F0 (upd (upd H0 b (.lst vs)) c (.lst ws)) F i a ys rs F H σ ρ:=by
 have ne:∀x,x≠b->x≠c->upd (upd H0 b (.lst vs)) c (.lst ws) x=H0 x:=λx h1 h2=>by simp_all[ax]
 refine⟨Rep.ofE h.r ⟨h.st.ff,λx o z=>?_,h.st.fh,λx o z=>?_⟩ (aX.refl _),h.si,h.ha,h.fa.1,by rw[ne a h.ab h.ac];exact h.fa.2,λm z=>(h.na m a z).1 rfl,⟨h.ow.len,λm d e=>?_,h.ow.ap⟩⟩
 .by_cases e1:x=c
  .subst e1;rw[av]at z;cases z;exact h.hc
  .by_cases e2:x=b
   .subst e2;rw[ax e1,av]at z;cases z;exact h.hb
   .rw[ne x e2 e1]at z;exact h.st.hh x o z
 .rw[ne x (aC z h.fb.1) (aC z h.fc.1)];exact h.st.nw x o z
 .obtain⟨y,xs,es,g1,g2,g3,g4,g5,g6⟩:=h.ow.get m d e;exact⟨y,xs,es,g1,g2,g3,g4,by rw[ne y (h.na m y g1).2.1 (h.na m y g1).2.2];exact g5,g6⟩
theorem Ens.ofR{B:List A'}(h:Ens K F0 H0 FB i j k a b c ys vs ws rs ds es F H σ ρ)(z:RepR K F0 (upd (upd H0 b (.lst vs)) c (.lst ws)) F i a ys B F' H' σ ρ):Ens K F0 H0 FB i j k a b c ys vs ws B ds es F' H' σ ρ:=by
 have J:aX H0 (upd (upd H0 b (.lst vs)) c (.lst ws)):=λx o e=>by rw[ax (aC e h.fc.2),ax (aC e h.fb.2)];exact e
 have I:upd (upd H0 b (.lst vs)) c (.lst ws) b=a_ (.lst vs):=by rw[ax h.bc,av]
 have S:upd (upd H0 b (.lst vs)) c (.lst ws) c=a_ (.lst ws):=av;have out:∀{x:iF} {o:HO},F x=e_->upd (upd H0 b (.lst vs)) c (.lst ws) x=a_ o->F' x=e_:=λ{x o} fx e=>by
  cases q:F' x with
  |none=>rfl|some u=>
   rcases z.r.st.nw x u q with w|w
   .rw[h.st.ff x u w]at fx;lia
   simp_all
 exact⟨z.r.repE,⟨z.r.st.ff,J.trans z.r.st.hh,z.r.st.fh,λx o e=>(z.r.st.nw x o e).imp id λw=>J.free w⟩,h.fz.trans z.r.fb,z.sl,h.sj,h.sk,z.hp,z.r.st.hh _ _ I,z.r.st.hh _ _ S,⟨z.fa,h.fa.2⟩,⟨out h.fb.1 I,h.fb.2⟩,⟨out h.fc.1 S,h.fc.2⟩,z.ow.back J,h.db.mono z.r.fb,h.dc.mono z.r.fb,h.ab,h.ac,h.bc,h.na⟩
theorem Ens.seen{R:VK}{W:cy}(h:Ens K F0 H0 FB i j k a b c ys vs ws rs ds es F H σ ρ)(A:∀e,f (ρ.set i (a_ (.lst rs)))≠.error e)(t:∀d,f (ρ.set i (a_ (.lst rs)))=.ok d->eC d=d_/\∀v F1 H1,B4 F H F1 H1->bf K F1 d v->R v H1):tD K W c_ f σ H R:=by
 have I:∀x,(x=a\/∃m:Nat,ys[m]?=a_ (.ref x))->F x=e_/\∃S,H x=a_ (.lst S):=λx z=>by
  rcases z with z|⟨m,z⟩
  .rw[z];exact⟨h.fa.1,_,h.ha⟩
  .obtain⟨xs,_,_,g,Y,_⟩:=h.ow.at z;exact⟨Y,xs,g⟩
 have J:aX F (plus F H λx=>x=a\/∃m:Nat,ys[m]?=a_ (.ref x)):=λx o z=>by grind[cN]
 have D:aX (plus F H λx=>x=a\/∃m:Nat,ys[m]?=a_ (.ref x)) H:=λx o z=>by
  by_cases B:x=a\/∃m:Nat,ys[m]?=a_ (.ref x)
  .simp_all[gq]
  .rw[cN B]at z;exact h.st.fh x o z
 have E:bf K (plus F H λx=>x=a\/∃m:Nat,ys[m]?=a_ (.ref x)) (.lst rs) (.ref a):=
  ⟨a,ys,rfl,SqL.of (by rw[gq (.inl rfl)];exact h.ha),ay.of_get h.ow.len λm d u e1 e2=>by obtain⟨x,xs,fs,U,k2,p,L,G,l⟩:=h.ow.get m d e1;rw[U]at e2;cases e2;subst k2;exact⟨x,xs,rfl,SqL.of (by rw[gq (.inr ⟨m,U⟩)];exact p),l.mono J⟩⟩
 refine aJ ((h.r.mono J).tell h.si E) D (λe r=>(A e r).elim) λd s v F1 H1 s1 q=>?_;obtain⟨fl,C⟩:=t d s;refine C v (minus F1 λx=>x=a\/∃m:Nat,ys[m]?=a_ (.ref x)) H1 ⟨λx o z=>?_,s1.hh,λx o z=>?_,λx o z=>?_⟩ (bf.flat (λx xs z=>?_) fl q)
 .by_cases B:x=a\/∃m:Nat,ys[m]?=a_ (.ref x)
  .rw[(I x B).1]at z;cases z
  .rw[cu B];exact s1.ff x o (J x o z)
 .by_cases B:x=a\/∃m:Nat,ys[m]?=a_ (.ref x)
  .simp_all[lI]
  .rw[cu B]at z;exact s1.fh x o z
 .by_cases B:x=a\/∃m:Nat,ys[m]?=a_ (.ref x)
  .simp_all[lI]
  .rw[cu B]at z;rcases s1.nw x o z with w|w
   .rw[cN B]at w;exact .inl w
   simp_all
 .have key:∀{y:iF} {o:HO},F1 y=a_ o->isMu o=c_->minus F1 (λx=>x=a\/∃m:Nat,ys[m]?=a_ (.ref x)) y=a_ o:=λ{y o} w n=>by
   by_cases B:y=a\/∃m:Nat,ys[m]?=a_ (.ref y)
   .obtain⟨_,S,e⟩:=I y B;have:=s1.fh y o w;rw[s1.hh y _ e]at this;cases this;cases n
   .rw[cu B];exact w
  rcases z with(z|⟨o,z⟩)|z
  .exact .inl (.inl (key z rfl))
  .exact .inl (.inr ⟨o,key z rfl⟩)
  .exact .inr z
end
section
variable(pt pt2 pt3:Pat)(i t u:Nat)(f1 f2 f3 f4 f5 fx fA fB f6:ag->M A')(ft:ag->M Bool)
def pM:List A'->List A'->List A'->List A'->ag->M A'
 |[],_,ds,_,_=>.ok (.lst ds)|p::ps,rs,ds,es,ρ=>(cA pt p ρ).bind λJ=>(f1 J).bind λa=>(cA pt2 a J).bind λI=>(f2 I).bind λY=>(wM pt3 f3 t es (I.set t (a_ Y))).bind λB=>(ft B).bind λq=>if q=d_ then .ok (.lst ds)else
  (f4 B).bind λe=>(f5 B).bind λU=>(sY rs fx fA fB (B.set u (a_ U))).bind λS=>(f6 ((B.set u (a_ U)).set i (a_ (.lst S)))).bind λd=>if (eC d&&xF (ds.length<o_)&&xF (es.length<o_))=d_ then pM ps S (ds++[d]) (es++[e]) (B.set u (a_ U))else stk
def sEns(j k:Nat)(fc f0:ag->M A')(fs:ag->M (List A')):ag->M B6:=λρ=>(fc (ρ.set j e_)).bind λd=>(lstOf d).bind λrs=>(f0 (((ρ.set j e_).set i e_).set k e_)).bind λB=>(fs ((((ρ.set j e_).set i e_).set k e_).set u (a_ B))).bind λps=>if (xF (i<ρ.length)&&xF (j<ρ.length)&&xF (k<ρ.length))=d_ then(pM pt pt2 pt3 i t u f1 f2 f3 f4 f5 fx fA fB f6 ft ps rs [] [] ((((ρ.set j e_).set i e_).set k e_).set u (a_ B))).bind λd=>.ok (.rt d)else stk
def tEnsB(K:Pn)(j k:Nat):TS:=nP (r9 (tD K Fl c_ f1) (gP K pt2)) (nP (r9 (tD K Fl c_ f2) (jm t)) (nP (tFor (iSeq K (vi k)) (gP K pt3) (r9 (tD K Fl c_ f3) (jm t))) (nP (tIfS (tDT K Fl ft) (tRet (vi j)) tNext)
 (nP (tApp K k (tD K Fl c_ f4)) (nP (r9 (tD K Fl c_ f5) (jm u)) (nP (r9 (tD K Fl c_ fx) (gSub (tOp (rIx K) (vi i) (tD K Fl c_ fA)) (tD K Fl c_ fB) Bx)) (tApp K j (tD K Fl c_ f6))))))))
end
section
variable{t u:Nat}{vs:List V}{es ps:List A'}{D:Ends}{pt:Pat}{f1 f2 fB:ag->M A'}{out:A'}
def rs_ensB{N:St->Hp->Prop}(h:Ens K F0 H0 FB i j k a b c ys vs ws rs ds es F H σ ρ)(n2:i∉pt2.names/\j∉pt2.names/\k∉pt2.names)(n3:i∉pt3.names/\j∉pt3.names/\k∉pt3.names)(nt:t≠i/\t≠j/\t≠k)(Z:u≠i/\u≠j/\u≠k){m:Ends}(e1:m.nx=N)(e2:m.rt=D.rt)(B:((f1 ρ).bind λT=>(cA pt2 T ρ).bind λU=>(f2 U).bind λR=>(wM pt3 f3 t es (U.set t (a_ R))).bind λI=>(ft I).bind λq=>if q=d_ then .ok (.lst ds)else
   (f4 I).bind λe=>(f5 I).bind λn=>(sY rs fx fA fB (I.set u (a_ n))).bind λJ=>(f6 ((I.set u (a_ n)).set i (a_ (.lst J)))).bind λd=>
   if (eC d&&xF (ds.length<o_)&&xF (es.length<o_))=d_ then pM pt pt2 pt3 i t u f1 f2 f3 f4 f5 fx fA fB f6 ft ps J (ds++[d]) (es++[e]) (I.set u (a_ n))else stk)=.ok out)(nx:∀F' H' f ρ' w s J l g,Ens K F0 H0 FB i j k a b c ys w s J l g F' H' f ρ'->pM pt pt2 pt3 i t u f1 f2 f3 f4 f5 fx fA fB f6 ft ps J l g ρ'=.ok out->N f H')(rt:∀v F H,B4 F0 H0 F H->kg K F H0 H out v->D.rt v H):tEnsB pt2 pt3 i t u f1 f2 f3 f4 f5 fx fA fB f6 ft K j k m σ H:=by
 obtain⟨T,C,B⟩:=bI B;obtain⟨U,eb,B⟩:=bI B;obtain⟨R,A,B⟩:=bI B;obtain⟨I,ei,B⟩:=bI B;obtain⟨q,hq,B⟩:=bI B;refine tD_at h.r h.st.fh C λv1 F1 H1 s1 q1=>(h.step s1).pat n2 q1 eb λσ2 Q=>tD_at Q.r Q.st.fh A λv2 F2 H2 s2 q2=>rs_ensIn ((Q.step s2).set q2 nt) n3 nt ei λF4 H4 σ4 P=>tDT_at P.r P.st.fh hq λF5 H5 s5=>?_;have S:=P.step s5;cases q with
 |true=>rw[p_ rfl]at B;cases B;exact⟨.ref b,S.sj,by show m.rt _ _;rw[e2];exact rt _ F5 H5 S.st ⟨b,vs,rfl,S.hb,S.fb.1,S.fb.2,S.db⟩⟩|false=>
 rw[q_ as]at B;obtain⟨x4,z,B⟩:=bI B;obtain⟨n,y,B⟩:=bI B;obtain⟨J,hr,B⟩:=bI B;obtain⟨d,hd,B⟩:=bI B;obtain⟨o,B⟩:=iI B;simp only[m_,FG]at o;refine⟨.ref c,S.sk,⟨rfl,_,_,rfl,SqL.of S.hc⟩,tD_at S.r S.st.fh z λv4 F6 H6 s6 q4=>?_⟩
 have O:=S.step s6;have r:=O.appC q4;refine⟨c,ws,v4,rfl,rfl,O.hc,by rw[O.dc.length];exact o.2,tD_at r.r r.st.fh y λv5 F8 H8 W X=>CW (fx:=fx) (fA:=fA) (fB:=fB) ((r.step W).set X Z).toR (λe G=>nomatch hr.symm.trans G) λrs2 E F9 H9 z9=>?_⟩
 cases hr.symm.trans E;have p:=((r.step W).set X Z).ofR z9;refine⟨.ref b,p.sj,⟨rfl,_,_,rfl,SqL.of p.hb⟩,p.seen (λe G=>nomatch hd.symm.trans G) λd2 L=>?_⟩
 cases hd.symm.trans L;refine⟨o.1.1,λv6 F10 H10 x q6=>?_⟩
 have Y:=p.step x;refine⟨b,vs,v6,rfl,rfl,Y.hb,by rw[Y.db.length];exact o.1.2,?_⟩
 show m.nx _ _;rw[e1];exact nx _ _ _ _ _ _ _ _ _ (Y.appB q6) B
theorem rs_ensL{fs:ag->M (List A')}(h:Ens K F0 H0 FB i j k a b c ys vs ws rs ds es F H σ ρ)(P:i∉pt.names/\j∉pt.names/\k∉pt.names)(n2:i∉pt2.names/\j∉pt2.names/\k∉pt2.names)(O:i∉pt3.names/\j∉pt3.names/\k∉pt3.names)(N:t≠i/\t≠j/\t≠k)(L:u≠i/\u≠j/\u≠k)(Q:fs ρ=.ok ps)(ho:pM pt pt2 pt3 i t u f1 f2 f3 f4 f5 fx fA fB f6 ft ps rs ds es ρ=.ok out)(q:∀v F H,B4 F0 H0 F H->kg K F H0 H out v->D.rt v H):
  nP (tFor (iD K Fl fs) (gP K pt) (tEnsB pt2 pt3 i t u f1 f2 f3 f4 f5 fx fA fB f6 ft K j k)) (tRet (vi j)) D σ H:=by
 refine⟨F,ρ,h.r,h.st.fh,?_⟩
 rw[Q];intro J F1 H1 s1 g;refine⟨λn m σ H=>∃F ρ vs ws rs ds es,Ens K F0 H0 F1 i j k a b c ys vs ws rs ds es F H σ ρ/\n<=ps.length/\m=ps.length-n/\pM pt pt2 pt3 i t u f1 f2 f3 f4 f5 fx fA fB f6 ft (ps.drop n) rs ds es ρ=.ok out,⟨ps.length,F1,ρ,vs,ws,rs,ds,es,{h.step s1 with fz:=aX.refl _},Gr _,ad,aW⟩,?_⟩
 rintro n m s H2 ⟨U,z,d,A,E,W,T,B,hn,rfl,e2⟩;by_cases S:n<ps.length
 .rw[Gd S,pM]at e2;refine .inr ⟨g.go n U H2 B.fz B.st.fh S,λI H'=>(∃F ρ vs ws rs ds es,Ens K F0 H0 F1 i j k a b c ys vs ws rs ds es F H' I ρ/\pM pt pt2 pt3 i t u f1 f2 f3 f4 f5 fx fA fB f6 ft (ps.drop (n+1)) rs ds es ρ=.ok out),λI H' ⟨F,ρ,vs,ws,rs,ds,es,p,X⟩=>⟨ps.length-(n+1),ad,F,ρ,vs,ws,rs,ds,es,p,S,rfl,X⟩,λx H' y=>?_⟩;obtain⟨F3,C,G⟩:=g.yl n U H2 x H' ps[n] B.fz B.st.fh am y;obtain⟨w,eb,e2⟩:=bI e2;refine(B.step C).pat P G eb λr R=>?_;exact rs_ensB R n2 O N L rfl rfl e2 (λF' H' I ρ' e Y f o l Z p=>⟨F',ρ',e,Y,f,o,l,Z,p⟩) q
 .have:n=ps.length:=ad
  subst this;rw[JB,pM]at e2;cases e2;exact .inl ⟨g.st U H2 B.fz B.st.fh,.ref b,B.sj,q _ U H2 B.st ⟨b,d,rfl,B.hb,B.fb.1,B.fb.2,B.db⟩⟩
end
section
variable{t u:Nat}{D:Ends}{pt:Pat}{f1 f2 fB:ag->M A'}{fs:ag->M (List A')}
def wc(h:fL bj aw ρ=.ok d):d=.lst []:=by cases h;rfl
theorem rs_ens(hL:∀ρ d,fe ρ=.ok d->∃es,d=.lst es)(n1:i∉pt.names/\j∉pt.names/\k∉pt.names)(n2:i∉pt2.names/\j∉pt2.names/\k∉pt2.names)(n3:i∉pt3.names/\j∉pt3.names/\k∉pt3.names)(nt:t≠i/\t≠j/\t≠k)(W:u≠i/\u≠j/\u≠k)(ne:i≠j/\i≠k/\j≠k)(z:tS K Fl ro F0 H0 OL [] O' (sEns pt pt2 pt3 i t u f1 f2 f3 f4 f5 fx fA fB f6 ft j k (bD fi ix p0 ft0 fe) f0 fs) D σ H):
  nP (r9 (tD K Fl d_ (fL bj aw)) (jm j)) (nP (lg i (iD K Fl fi) ix (gP K p0) (tDT K Fl ft0) (tD K Fl d_ fe)) (nP (r9 (tD K Fl d_ (fL bj aw)) (jm k)) (nP (r9 (tD K Fl c_ f0) (jm u))
   (nP (tFor (iD K Fl fs) (gP K pt) (tEnsB pt2 pt3 i t u f1 f2 f3 f4 f5 fx fA fB f6 ft K j k)) (tRet (vi j)))))) D σ H:=by
 obtain⟨FB,F,ρ,r,q⟩:=z;cases B:sEns pt pt2 pt3 i t u f1 f2 f3 f4 f5 fx fA fB f6 ft j k (bD fi ix p0 ft0 fe) f0 fs ρ with
 |error x=>rw[B]at q;exact Gh q|ok fl=>
 rw[B]at q;unfold sEns at B;obtain⟨d1,e1,B⟩:=bI B;obtain⟨rs,e2,B⟩:=bI B;obtain⟨x0,e3,B⟩:=bI B;obtain⟨ps,e4,B⟩:=bI B;obtain⟨hl,B⟩:=iI B;obtain⟨out,e5,B⟩:=bI B;simp only[m_,FG]at hl;cases B;have q:∀v F H,B4 F0 H0 F H->Val K ro F H0 H out v->D.rt v H:=q;have q:∀v F H,B4 F0 H0 F H->kg K F H0 H out v->D.rt v H:=λv F H s h=>by
  cases ro with
  |true=>exact q v F H s h|false=>obtain⟨F',s1,s2,n,z⟩:=kg.freeze s.fh h;exact q v F' H ⟨s.ff.trans s1,s.hh,s2,λb o e=>(n b o e).elim (s.nw b o) .inr⟩ z
 have G:=r.repE;have ls:=G.len;refine aJ G r.st.fh (λe g=>by cases g) λd J vb F1 H1 s1 qb=>?_;have:=wc J;subst this;obtain⟨b,Z,rfl,hb,fb,nb,db⟩:=(show kg K F1 H H1 (.lst []) vb from qb)
 have C:Z=[]:=db;subst C;have T:gR K F1 (σ.set j (a_ (.ref b))) (ρ.set j e_):=(G.mono s1.ff).hide j (a_ (.ref b));refine zN T s1.fh hL (λe g=>by lia) λS f ys y H2 s2 ow a ha=>?_;rw[e1]at f;cases f;have:S=rs:=by cases e2;rfl
 subst this;have E:B4 y H2 y (upd H2 a (.lst ys)):=B4.grow s2.fh ha;have p:=s2.trans E;have U:=(ow.step E)
 have R:gR K y ((σ.set j (a_ (.ref b))).set i (a_ (.ref a))) ((ρ.set j e_).set i e_):=(T.mono s2.ff).hide i (a_ (.ref a));have l:upd H2 a (.lst ys) b=a_ (.lst []):=p.hh _ _ hb;have N:y b=e_:=p.stays fb hb;have ab:a≠b:=λz=>by
  have:=s2.hh _ _ hb
  simp_all
 have Y:∀(m:Nat) (x:iF),ys[m]?=a_ (.ref x)->x≠a/\x≠b:=λm x e=>by
  obtain⟨xs,fs,_,g1,g2,g3,_⟩:=ow.at e
  lia
 refine aJ R E.fh (λe g=>by cases g) λd J vc w Q I qc=>?_;have:=wc J;subst this;obtain⟨c,X,rfl,hc,fc,nc,dc⟩:=(show kg K w (upd H2 a (.lst ys)) Q (.lst []) vc from qc)
 have A:X=[]:=dc;subst A;have r4:gR K w (((σ.set j (a_ (.ref b))).set i (a_ (.ref a))).set k (a_ (.ref c))) (((ρ.set j e_).set i e_).set k e_):=(R.mono I.ff).hide k (a_ (.ref c));have O:=I.hh _ _ l;have P:Q a=a_ (.lst ys):=I.hh _ _ av;have L:Ens K F0 H0 w i j k a b c ys [] [] S [] [] w Q (((σ.set j (a_ (.ref b))).set i (a_ (.ref a))).set k (a_ (.ref c))) (((ρ.set j e_).set i e_).set k e_):={
  r:=r4,st:=r.st.trans (s1.trans (p.trans I)),fz:=aX.refl _
  si:=aV
  sj:=by grind[tF,E_]
  sk:=by simp_all
  ha:=P,hb:=O,hc:=hc
  fa:=⟨I.stays (s2.fh.free ha) av,r.st.hh.free (s1.hh.free (s2.hh.free ha))⟩
  fb:=⟨I.stays N l,r.st.hh.free nb⟩
  fc:=⟨fc,r.st.hh.free (s1.hh.free (p.hh.free nc))⟩
  ow:=((U.step I).back (r.st.hh.trans s1.hh))
  db:=rfl,dc:=rfl,ab:=ab
  ac:=λz=>by simp_all[av]
  bc:=λz=>by simp_all
  na:=λm x e=>⟨(Y m x e).1,(Y m x e).2,λz=>by
   obtain⟨xs,fs,_,g1,_⟩:=U.at e
   simp_all⟩}
 refine aJ L.r L.st.fh (λe g=>by simp_all) λd J v5 F5 H5 s5 q5=>?_;rw[e3]at J;cases J;exact rs_ensL ((L.step s5).set q5 W) n1 n2 n3 nt W e4 e5 q
end
section
variable{t u:Nat}{pt:Pat}{f1 f2 fB:ag->M A'}{fs:ag->M (List A')}
def ds_ens(Y:∀ρ d,fe ρ=.ok d->∃es,d=.lst es)(p:PSs X sts (nP (r9 (tD K Fl d_ (fL bj aw)) (jm j)) (nP (lg i (iD K Fl fi) ix (gP K p0) (tDT K Fl ft0) (tD K Fl d_ fe)) (nP (r9 (tD K Fl d_ (fL bj aw)) (jm k)) (nP (r9 (tD K Fl c_ f0) (jm u))
   (nP (tFor (iD K Fl fs) (gP K pt) (tEnsB pt2 pt3 i t u f1 f2 f3 f4 f5 fx fA fB f6 ft K j k)) (tRet (vi j))))))))(U:(i∉pt.names/\j∉pt.names/\k∉pt.names)⁻¹)(n2:(i∉pt2.names/\j∉pt2.names/\k∉pt2.names)⁻¹)(S:(i∉pt3.names/\j∉pt3.names/\k∉pt3.names)⁻¹)(I:(t≠i/\t≠j/\t≠k)⁻¹)(B:(u≠i/\u≠j/\u≠k)⁻¹)(J:(i≠j/\i≠k/\j≠k)⁻¹):
  DSs K Fl ro X OL [] O' sts (sEns pt pt2 pt3 i t u f1 f2 f3 f4 f5 fx fA fB f6 ft j k (bD fi ix p0 ft0 fe) f0 fs):=λF0 H0=>PSs.imp p λ_ _ _=>rs_ens Y U n2 S I B J
end
section
variable{W:cy}{fB:ag->M A'}
def ps_comp(N':List Gf)(ix:List (Option Nat))(e:X.N.Nodup)(hi:DI K W X tg iter fi)(b:∀L cs s H fp,DG K (bo X N' sc L cs s H fp) tg p0)(U:n6 ix (gP K p0))(J:∀L cs s H fp,PTs (bo X N' sc L cs s H fp) ifs (tDT K W ft))(c:∀L cs s H fp,DE K W d_ (bo X N' sc L cs s H fp) elt fe)(a: ~~~(X.N[i]?=a_ x))(I: ~~~(X.env.scope.names.lookup x=a_ .local))(d: ~~~(X.calm=d_))(B: ~~~(HM (.ListComp elt [⟨tg,iter,ifs,0⟩] sc pos) (a_ (.Name x py)) spos.line X.env=GW d_))(ok: ~~~(bF X.N X.env.scope N' sc ix=d_))(Y: ~~~(sc.kind=.function))(S:autoParam (∀x,Ii iter X.env x=GW x) Jq3):
  PS X (.Assign [.Name x py] (.ListComp elt [⟨tg,iter,ifs,0⟩] sc pos) spos) (lg i (iD K W fi) ix (gP K p0) (tDT K W ft) (tD K W d_ fe)):=mq N' ix e a I d hi b U J c B ok Y S
def ps_row(U:DE K W c_ X ex fx)(f:DE K W c_ X ea fA)(e:DE K W c_ X eb fB)(d: ~~~(X.K=K))(a: ~~~(X.N[i]?=a_ x))(Y:autoParam (Vis X.env.scope x) Jq5)(b:((x==("__debug__":Gf))=c_)⁻¹)(S:((x==("__classdict__":Gf))=c_)⁻¹)(J:autoParam (uT ea) Jq8)(c:autoParam (∀v,JY (.Subscript (.Subscript (.Name x p1) ea p2) eb p3) X.env v=(do
   let ov <- II [v] (FV (.Subscript (.Name x p1) ea p2) X.env)
   let B <- II [v,ov] (FV eb X.env)
   Lv p3
   II [v,ov,B] (Pu ov B v)
   QP [v,ov,B] [])) Jq3)(I: ~~~(LB [.Subscript (.Subscript (.Name x p1) ea p2) eb p3] ex p4.line X.env=GW c_))(hw: ~~~(LC [.Subscript (.Subscript (.Name x p1) ea p2) eb p3] ex X.env=GW e_))(h1: ~~~((Il [.Subscript (.Subscript (.Name x p1) ea p2) eb p3] X.env).map (·.2)=[JY (.Subscript (.Subscript (.Name x p1) ea p2) eb p3) X.env])):
  PS X (.Assign [.Subscript (.Subscript (.Name x p1) ea p2) eb p3] ex p4) (r9 (tD K W c_ fx) (gSub (tOp (rIx K) (vi i) (tD K W c_ fA)) (tD K W c_ fB) Bx)):=by
 subst d;exact vM U (Dt (pe_ix Ej (pv i a Y b S) f J) e set_list c) I hw h1
end
def tClrK(td:TE):TE:=λσ H Q=>td σ H λx H1=>∃a xs ep,x=.ref a/\H1 a=a_ (iJ a xs ep)/\∀ep',Q .non (upd H1 a (iJ a [] ep'))
section
variable{o:G4}
def pe_clrK(j:PE X o td)(J: ~~~(HK o "clear" X.env (FV o X.env)=FV o X.env))(B: ~~~((apos.endLine==cpos.line)=d_)):PE X (.Call (.Attribute o "clear" apos) [] [] cpos) (tClrK td):=by
 intro B2 s σ H Q I h;refine LP J B (D' (j B2 s σ H _ I h) λv s1 i=>?_);obtain⟨x,H1,d,g,a,xs,ep,ex,ea,q1⟩:=i;subst ex;cases(show v=w_ a from g);obtain⟨Y,e⟩:=AF d ea;refine⟨"dict","dict.clear",JK,ND,PySem.F.type_dict_clear,Y,e,Jc rfl (Ma ?_)⟩
 obtain⟨vs,f,na,k,p,n,es,h1,m,U,l⟩:=AG d ea;have c:es.size<=o_:=by
  have e1:es.size=vs.length:=by rw[<- Gb,l,oe]
  rw[e1,<- f.length];exact k
 refine FT ND Y PySem.F.entry_dict_clear ?_ (PySem.F.args_dict_clear_1 _);unfold Builtin.«dict.clear»;refine b_ ?_;unfold Lo;refine b_ (HS Y ?_);show r_ _ _ (GW a) _ _ s1;refine g_ ?_;refine b_ (Gm h1 U ?_);refine b_ ?_;unfold bearsInstanceDictMark;refine b_ (L9 h1 (g_ ?_));refine b_ (wpAny_updateDictKeys (hz:=c) h1 U ?_);have b:qr (s1.heap.update a (Qr λ_=>#[])) a [] (ep+1):=⟨[],.nil,na,Gr _,L4,_,_,Iu _ h1 (Pc (Km U _)),m.mapDictKeys _,Km U _,rfl⟩
 have S:EP X B2 σ Q .none {s1 with heap:=s1.heap.update a (Qr λ_=>#[])}:=⟨.non,_,d.dic (t':=s1.toks) ea (G1 ..) b,rfl,q1 _⟩
 split
 .exact b_ (MB (g_ ⟨.none,rfl,S⟩))
 .exact b_ (g_ (g_ ⟨.none,rfl,S⟩))
end
def aI:List a0->Bool
 |[]=>d_|k::ks=>ks.all (λx=>vj x != vj k)&&aI ks
def dictC:List A'->M A'
 |[.dic ks]=>if (!ks.isEmpty&&aI (ks.map (·.1)))=d_ then .ok (.dic ks)else .error .stuck
 |_=>.error .stuck
@[simp]def EL(ks:List (a0×A')):dictC [.dic ks]=if (!ks.isEmpty&&aI (ks.map (·.1)))=d_ then .ok (.dic ks)else .error .stuck:=id rfl
section
open PySem
variable{s:k_}
theorem xv:∀{vs:List (a0×iF×h_)},aI (vs.map (·.1))=d_->∀q∈vs,((vs.map Cm).filter λe=>e.hash==vj q.1).length<=1
 |[],_,_,h=>nomatch h
 |x::vs,h,q,I=>by
  simp only[pk,aI,m_,Hd,Gq,bne_iff_ne]at h;have B:∀c:Int,(∀y∈vs,vj y.1≠c)->((vs.map Cm).filter λe=>e.hash==c)=[]:=λc S=>by grind[Oe,Cm]
  rw[pk,List.filter_cons];by_cases e:vj x.1=vj q.1
  .rw[p_ (by simpa[Cm] using e),B _ λy J=>by rw[<- e];exact h.1 y.1 ⟨y,J,rfl⟩];simp
  .rw[q_ (by simp_all[Cm])];rcases t_.mp I with rfl|I
   .simp_all
   .exact xv h.2 q I
theorem Ca{vs:List (a0×iF×h_)}{Q:Mq}(R:(a==G5)=c_)(L:s.heap.DictOfH (jr prog w) a vs)(hz:vs.length<=o_)(m:vs≠[])(j:aI (vs.map (·.1))=d_)(k:∀h',FF s.heap h'->h'.DictOfH (jr prog w) s.heap.objs.size vs->Q (.ref s.heap.objs.size) {s with heap:=h'}):r_ (y_ prog w) A (Kz (.type "dict") [.ref a]) Q E s:=by
 obtain⟨B,g,d,tk,J⟩:=s;refine callType_codes (Q₁:=λu t=>u=.ref B.objs.size/\t=⟨B.push {cls:=.type "dict",data:=.dict #[]},g,d,tk,J⟩) QF (PF _) Qt (Q1 _ ⟨rfl,rfl⟩) ?_;rintro u t ⟨rfl,rfl⟩;have ty:(⟨B.push {cls:=.type "dict",data:=.dict #[]},g,d,tk,J⟩:k_).TypeIs (.ref B.objs.size) "dict":=⟨_,j_ _ rfl,rfl⟩
 obtain⟨o,es,ep,h1,O,y,S,r,N⟩:=L;have I:(B.push {cls:=.type "dict",data:=.dict #[]}).get? a=a_ o:=f_ _ h1;have ta:(⟨B.push {cls:=.type "dict",data:=.dict #[]},g,d,tk,J⟩:k_).TypeIs (.ref a) "dict":=⟨o,I,O.1⟩
 have K:B.objs.size≠a:=(FO (s_ h1)).symm;have U:es.size=vs.length:=by rw[<- Gb,S,oe]
 refine⟨ty,P9 _ _,?_⟩;unfold Builtin.«dict.__init__»;refine b_ ?_;unfold MU;refine b_ (HS ty ?_);show r_ _ _ (GW (B.objs.size,[w_ a])) _ _ _;refine g_ ?_;show r_ _ _ (JA "dict.__init__" B.objs.size (.ref a) [] .none) _ _ _;unfold JA;refine b_ (L8 ta ?_);rw[q_ as];refine b_ ?_;unfold Builtin.Dict.merge Builtin.Dict.readDirectly;refine b_ (b_ (HV ta NW ?_));simp only[Jm,Gk,HF];refine b_ (KI ta Lf.lookup (g_ ?_));rw[p_ as];refine b_ (g_ ?_);unfold Builtin.Dict.mergeDict Gz;rw[q_ aW,q_ aW];refine b_ (g_ (b_ (Gm I y ?_)));have l:(xF (es.size<=8)&&es.all λe=>(keyPart e.key).isSome)=c_:=by obtain⟨v,vs,rfl⟩:=List.exists_cons_of_ne_nil m;rw[OC];refine .inr ?_;rw[<- Array.all_toList,S];rfl
 simp only[l,L6,Jw];refine b_ (Gm (j_ _ rfl) rfl ?_);rw[p_ (by rfl)];refine b_ ?_;unfold Builtin.Dict.entriesForEmpty;refine b_ (Gm I y ?_);refine b_ (MeetsSeq2.wpAny_forIn_array _ (λrest _ s'=>s'=⟨B.push {cls:=.type "dict",data:=.dict #[]},g,d,tk,J⟩/\∀e∈rest,e∈es.toList) _ ?_ ?_ _ _ ⟨rfl,λ_ h=>h⟩)
 .rintro e rest b s' ⟨rfl,p⟩;have f:=p e am;rw[S]at f;obtain⟨q,Y,rfl⟩:=Gq.mp f;obtain⟨G,its,n,D,C,P⟩:=r q Y;have tt:(⟨B.push {cls:=.type "dict",data:=.dict #[]},g,d,tk,J⟩:k_).TypeIs (.ref q.2.1) "tuple":=⟨G,f_ _ D,C⟩
  refine b_ ?_;show r_ _ _ (Nk (.ref q.2.1)) _ _ _;unfold Nk;refine b_ (KI tt Ll.lookup (g_ ?_));rw[p_ as];have i:(es.filter λx=>x.hash==(Cm q).hash).size<=1:=by rw[<- Gb,Array.toList_filter,S];exact xv j q Y
  rw[q_ (show ¬(es.filter λx=>x.hash==(entryOfKey (jr prog w) q).hash).size>1 from Nat.not_lt.mpr i)];exact g_ ⟨rfl,λe f=>p e (by simp[f])⟩
 .rintro b s' ⟨rfl,_⟩;refine g_ ?_;have H:es.isEmpty=c_:=by
   rw[Array.isEmpty_eq_false_iff];intro z;rw[z]at U;exact m (JR.mp U.symm)
  simp only[H,L6,Jw];refine b_ (wpAny_updateDictKeysTo (j_ _ rfl) rfl (g_ ?_) ad);refine b_ (show r_ _ _ (MV _ []) _ _ _ from g_ (g_ ⟨rfl,?_⟩));refine k _ (λc o' e=>?_) ⟨_,es,1,Iu _ (j_ _ rfl) (Pc (Km rfl _)),⟨rfl,rfl,rfl⟩,Km rfl _,S,λq Y=>?_,N⟩
  .exact(G1 ..).2 c (λz=>by rw[z]at e;exact FR (s_ e) (IQ _)) |>.trans (f_ _ e)
  .exact vf (r q Y) λc o' e=>(G1 ..).2 c (λz=>by rw[z]at e;exact FR (s_ e) (IQ _)) |>.trans (f_ _ e)
end
section
variable{W:cy}
theorem vD:∀{xs:List gn} {vs:List (a0×iF×h_)},I_ e8 xs vs->vs.map (·.1)=xs.map (·.1)
 |_,_,.nil=>rfl|x::xs,q::vs,.cons h t=>by rw[pk,pk,vD t,h.1]
theorem bA.keys{F:Hp}:∀{ks:List (a0×A')} {xs:List gn},bA K F ks xs->xs.map (·.1)=ks.map (·.1)
 |[],_,h=>by rw[show _=[]from h];rfl|(k,d)::ks,_,⟨b,v,r,e,t,q,z⟩=>by rw[e,pk,pk,bA.keys z]
theorem c_dictC(j: ~~~(X.K=K)):jU K W d_ X (.type "dict") dictC:=by
 subst j;intro B2 s σ H xs us Q I Y h;obtain⟨F,d,x,s1,e,q,p⟩:=gw (λds=>by match ds with|[d]=>simp|[]=>exact .inr rfl|a::b::c=>exact .inr (by cases a<;>rfl)) h;subst e;obtain⟨u,rfl,U⟩:=Y.one;cases d with
 |dic ks=>
  obtain⟨a,ys,e1,⟨ep,t⟩,r⟩:=q;subst e1;cases U;have p':aE X.K W d_ F H (if (!ks.isEmpty&&aI (ks.map (·.1)))=d_ then .ok (.dic ks)else .error .stuck) Q:=p;by_cases J:(!ks.isEmpty&&aI (ks.map (·.1)))=d_
  .rw[p_ J]at p';simp only[m_]at J;obtain⟨vs,S,i,hz,k⟩:=pP I (s1 _ _ t) (r.key.mono s1);have g:vs.map (·.1)=ks.map (·.1):=(vD S).trans r.keys;have B:vs≠[]:=λz=>by
    simp_all
   refine Ca i k (by rw[<- KU S];exact hz) B (by rw[g];exact J.2) λh' f d'=>?_;obtain⟨ep',z⟩:=oh d' S (Ka.mpr (HI (FO I.big))) hz;have B:=I.hok.fresh (i_ s.z);exact⟨.ref s.z,_,I.laid (a:=s.z) (o:=iJ s.z _ ep') (t':=s.toks) (λb o e=>f b o e) (i_ _) (pO z),rfl,p' (.ref s.z) F _ (B4.grow s1 B) ⟨s.z,_,rfl,⟨ep',av⟩,s1.free B,B,r⟩⟩
  .rw[q_ J]at p';exact aE.stuck p'
 |_=>exact aE.stuck p
end
def oE:List (a0×A')->List (a0×A')->Bool
 |[],[]=>d_|(k,d)::ks,(j,e)::B=>xF (k=j)&&E' d 40&&E' e 40&&eqD d e&&oE ks B|_,_=>c_
def eqKD:A'->A'->M A'
 |.dic ks,.dic B=>if oE ks B=d_ then .ok (.bl d_)else .error .stuck
 |_,_=>.error .stuck
@[simp]def e_eqKD(ks B:List (a0×A')):eqKD (.dic ks) (.dic B)=if oE ks B=d_ then .ok (.bl d_)else .error .stuck:=id rfl
section
open PySem
variable{s:k_}
theorem Bl{u:String}{vs us:List (a0×iF×h_)}{Q:Bool->k_->Prop}(v:(jr prog w).room A)(X:(a==G5)=c_)(W:(b==G5)=c_)(G:s.heap.DictOfH (jr prog w) a vs)(F:s.heap.DictOfH (jr prog w) b us)(T:vs.length=us.length)(f:∀(j:Nat) (x y:a0×iF×h_),vs[j]?=a_ x->us[j]?=a_ y->x.1=y.1/\JN A s x.2.2 y.2.2 d_)(h:Q d_ s):
  r_ (y_ prog w) A (Nb u a b) Q E s:=by
 obtain⟨N,es,ep,Y,a2,U,t,K,a6⟩:=G;obtain⟨L,fs,Z,o,b2,m,g,H,r⟩:=F;have P:es.size=vs.length:=by rw[<- Gb,t,oe]
 have O:fs.size=us.length:=by rw[<- Gb,g,oe]
 unfold Nb Gz;rw[q_ aW,q_ aW];refine b_ (g_ (b_ (g_ (b_ (Gm Y U ?_)))));dsimp only;refine b_ (Gm o m ?_);rw[q_ aW];refine b_ (Hv Y U ?_);refine b_ ?_;rw[Qm];simp only[Ql,M5,PJ,Nat.div_one];refine Kq _ (λrest q s'=>s'=s/\q=(e_,())/\∃i,rest=GZ i (es.size-i)/\i<=es.size) _ ?_ ?_ _ _ ⟨rfl,rfl,0,am,Gr _⟩
 .rintro x rest q s' ⟨rfl,rfl,i,R,hi⟩;have B:i<es.size:=by
   rcases Q6 i es.size with h|h
   .exact h
   .simp_all
  obtain⟨rfl,I⟩:x=i/\rest=GZ (i+1) (es.size-(i+1)):=by
   have e:es.size-i=(es.size-(i+1))+1:=ad
   grind[IV]
  have c:x<vs.length:=ad
  have hw:x<us.length:=ad
  have D:es[x]'B=Cm vs[x]:=by have:=Jk (λl:List HA=>l[x]?) t;simp only[Jn,JC B,FL,v_ c,Iz,GF]at this;exact this
  have C:fs[x]'(by omega)=Cm us[x]:=by have:=Jk (λl:List HA=>l[x]?) g;simp only[Jn,JC (show x<fs.size by lia),FL,v_ hw,Iz,GF]at this;exact this
  obtain⟨ek,ev⟩:=f x vs[x] us[x] (v_ c) (v_ hw);have only:∀(j:Nat) (p:iF×h_),us[j]?=a_ (vs[x].1,p)->j=x:=λj p d=>by
   obtain⟨S,J⟩:=n_.mp d;have n:=G2.mp r;rcases K6 j x with z|z|z
   .exact FR (by rw[G7,G7,J,<- ek]) (n j x (by simpa using S) (by simpa using hw) z)
   .exact z
   .exact FR (by rw[G7,G7,J,<- ek]) (n x j (by simpa using hw) (by simpa using S) z)
  refine b_ (Gm Y U ?_);rw[JC B];show r_ _ _ (II [(es[x]'B).key,(es[x]'B).val] _ >>= _) _ _ _;rw[D];refine b_ (G8 (b_ (wpAny_dictFind_heap (knd:=jr prog w) (k:=vs[x].1) v (K _ (FX c)) o m g H r (λz=>?_) λj p d=>?_)))
  .exact FR (v_ hw) (by rw[show us[x]=(vs[x].1,us[x].2) by rw[ek]];exact z x us[x].2)
  .have:=only j p d;subst this;refine b_ (Gm o m ?_);rw[JC (show j<fs.size by lia)];refine G8 ?_;rw[C];refine ev prog w _ _ ?_;show r_ _ _ (if (!true)=d_ then _ else _) _ _ _;rw[q_ as];refine b_ (Hv Y U ?_);rw[q_ am];exact g_ ⟨rfl,rfl,j+1,I,B⟩
 .rintro q s' ⟨rfl,rfl,_⟩;exact g_ h
theorem eq_dicD{vs us:List (a0×iF×h_)}{Q:Mq}(U:(jr prog w).room A.in1)(d:(a==G5)=c_)(c:(b==G5)=c_)(B:s.heap.DictOfH (jr prog w) a vs)(J:s.heap.DictOfH (jr prog w) b us)(Y:vs.length=us.length)(I:∀(j:Nat) (x y:a0×iF×h_),vs[j]?=a_ x->us[j]?=a_ y->x.1=y.1/\JN A.in1 s x.2.2 y.2.2 d_)(S:A.units<GQ)(h:Q (.bool d_) s):
  r_ (y_ prog w) A (Gy .Eq (.ref a) (.ref b)) Q E s:=by
 refine KW (op:=.Eq) B.typeIs J.typeIs N4 (FT N4 B.typeIs PySem.F.entry_dict_eq ?_ (PySem.F.args_dict_eq_2 _ _)) S;show r_ _ _ (MJ "__eq__" ⟨[.ref a,.ref b],[]⟩ >>= _) _ _ s;refine b_ ?_;unfold MJ;refine b_ (HS B.typeIs ?_);show r_ _ _ (GW (w_ a,w_ b)) _ _ s;refine g_ ?_;refine b_ (HV (T:="dict") J.typeIs NW ?_);simp only[Jm,Gk,HF];refine b_ (g_ (b_ (g_ ?_)));refine b_ (Bl U d c B J Y I ?_);refine g_ ⟨_,rfl,?_,?_⟩
 .simp
 simp_all
end
section
variable{W:cy}{own:Bool}
theorem D5{B2:Vp}{σ:St}{F H:Hp}{s:k_}{A:HL}(I:B5 X B2 σ H s)(b:aX F H)(a:A.units+40<GQ):∀{ks S:List (a0×A')} {xs ys:List gn} {vs us:List (a0×iF×h_)},oE ks S=d_->bA X.K F ks xs->bA X.K F S ys->I_ e8 xs vs->I_ e8 ys us ->
  vs.length=us.length/\∀(j:Nat) (x y:a0×iF×h_),vs[j]?=a_ x->us[j]?=a_ y->x.1=y.1/\JN A s x.2.2 y.2.2 d_
 |[],[],_,_,_,_,_,h1,U,J,B=>by rw[show _=[]from h1]at J;rw[show _=[]from U]at B;cases J;cases B;simp|[],_::_,_,_,_,_,h,_,_,_,_=>by simp_all[oE]|_::_,[],_,_,_,_,h,_,_,_,_=>by simp_all[oE]|(k,d)::ks,(j,e)::S,_,_,_,_,h,⟨v,q,J,e1,t,q1,g⟩,⟨u,p,B,e2,r,q2,f⟩,p1,p2=>by
  subst e1 e2;cases p1 with
  |cons c p1=>
  cases p2 with
  |cons g2 p2=>
  simp only[oE,m_,FG]at h;obtain⟨⟨⟨⟨h1,U⟩,o⟩,n⟩,i⟩:=h;obtain⟨l,rest⟩:=D5 I b a i g f p1 p2;refine⟨by simp[l],λm x y ex Y=>?_⟩
  cases m with
  |zero=>simp only[HX,GF]at ex Y;subst ex Y;have:=EC I b d e U o q1 q2 c.2.2 g2.2.2 a;rw[n]at this;exact⟨c.1.symm.trans (h1.trans g2.1),this⟩|succ m=>exact rest m x y (by simpa using ex) (by simpa using Y)
theorem o_eqK(z:X.A.units+64<GQ)(m: ~~~(X.K=K)):Op2 K W own X (Gy .Eq) eqKD:=by
 subst m;intro B2 s σ H x y v u Q I f e h;obtain⟨F,a,b,s1,i,g,p⟩:=h;cases a with
 |dic ks=>
  cases b with
  |dic d=>
   obtain⟨w,xs,rfl,⟨q,h1⟩,c⟩:=i;obtain⟨t,ys,rfl,⟨o,n⟩,Y⟩:=g;cases f;cases e;have p':aE X.K W own F H (if oE ks d=d_ then .ok (.bl d_)else .error .stuck) Q:=p;by_cases S:oE ks d=d_
   .rw[p_ S]at p';obtain⟨vs,j,k,_,r⟩:=pP I (s1 _ _ h1) (c.key.mono s1);obtain⟨us,q1,J,_,U⟩:=pP I (s1 _ _ n) (Y.key.mono s1);obtain⟨l,B⟩:=D5 (A:=X.A.in1) I s1 ad S c Y j q1;refine eq_dicD (JX ad) k J r U l B ad ⟨.bl d_,H,I,rfl,?_⟩;exact p' (.bl d_) F H (B4.refl s1) (by cases own<;>rfl)
   .rw[q_ S]at p';exact aE.stuck p'
  |_=>exact aE.stuck p
 |_=>exact aE.stuck p
end
mutual
noncomputable def noD:A'->Bool
 |.tup ds=>ym ds|.lst ds=>ym ds|.ins _ gs=>noDF gs|.dic _=>c_|.dil _=>c_|_=>d_
noncomputable def ym:List A'->Bool
 |[]=>d_|d::ds=>noD d&&ym ds
noncomputable def noDF:List (Gf×A')->Bool
 |[]=>d_|(_,d)::gs=>noD d&&noDF gs
end
noncomputable def BU:HO->Bool
 |.ext _=>d_|_=>c_
def qq(F F':Hp):Prop:=∀b o,F b=a_ o->BU o=c_->F' b=a_ o
def qq.tup(s:qq F F')(h:SqT K F a xs):SqT K F' a xs:=by
 rcases h with(h|⟨o,h⟩)|h
 .exact .inl (.inl (s _ _ h rfl))
 .exact .inl (.inr ⟨o,s _ _ h rfl⟩)
 .exact .inr h
def qq.lst(s:qq F F')(h:SqL K F a xs):SqL K F' a xs:=by
 rcases h with(h|⟨o,h⟩)|h
 .exact .inl (.inl (s _ _ h rfl))
 .exact .inl (.inr ⟨o,s _ _ h rfl⟩)
 .exact .inr h
mutual
theorem bf.noD{K:Pn}{F F':Hp}(s:qq F F'):∀{d:A'} {v:V},noD d=d_->bf K F d v->bf K F' d v
 |.non,_,_,h=>h|.bl _,_,_,h=>h|.int _,_,_,h=>h|.tup ds,_,f,⟨a,xs,e,q,r⟩=>⟨a,xs,e,s.tup q,ay.noD s (by simpa[Lake.noD] using f) r⟩|.lst ds,_,f,⟨a,xs,e,q,r⟩=>⟨a,xs,e,s.lst q,ay.noD s (by simpa[Lake.noD] using f) r⟩|.ins _ gs,_,f,⟨a,dx,fs,e,q,r⟩=>⟨a,dx,fs,e,s _ _ q rfl,kX.noD s (by simpa[Lake.noD] using f) r⟩|.dic _,_,f,_=>by simp_all[Lake.noD]|.dil _,_,f,_=>by simp_all[Lake.noD]
theorem ay.noD{K:Pn}{F F':Hp}(s:qq F F'):∀{ds:List A'} {xs:a7},ym ds=d_->ay K F ds xs->ay K F' ds xs
 |[],_,_,h=>h|d::ds,_,f,⟨v,vs,e,q,r⟩=>by simp only[ym,m_]at f;exact⟨v,vs,e,bf.noD s f.1 q,ay.noD s f.2 r⟩
theorem kX.noD{K:Pn}{F F':Hp}(s:qq F F'):∀{gs:List (Gf×A')} {fs:List (Gf×V)},noDF gs=d_->kX K F gs fs->kX K F' gs fs
 |[],_,_,h=>h|(f,d)::gs,_,h,⟨v,r,e,q,t⟩=>by simp only[noDF,m_]at h;exact⟨v,r,e,bf.noD s h.1 q,kX.noD s h.2 t⟩
end
theorem bA.noD{K:Pn}{F F':Hp}(s:qq F F'):∀{ks:List (a0×A')} {xs:List gn},(ks.all λp=>Lake.noD p.2)=d_->bA K F ks xs->bA K F' ks xs
 |[],_,_,h=>h|(k,d)::ks,_,h,⟨b,v,r,e,t,q,z⟩=>by simp only[QJ,m_]at h;exact⟨b,v,r,e,s.tup t,bf.noD s h.1 q,bA.noD s h.2 z⟩
def ndE:Option A'->Option A'
 |some d=>if noD d=d_ then a_ d else e_
 |none=>e_
theorem gR.nd(r:gR K F σ ρ)(s:qq F F'):gR K F' σ (ρ.map ndE):=⟨by rw[oe,r.len],λi d e=>by
 rw[FL]at e
 match h:ρ[i]? with
 |some (a_ d')=>
  rw[h]at e;have e:ndE (a_ d')=a_ d:=by simpa using e
  have e:(if noD d'=d_ then a_ d' else e_)=a_ d:=e;by_cases B:noD d'=d_
  .rw[p_ B]at e;cases e;obtain⟨v,h1,I⟩:=r.sl i d h;exact⟨v,h1,I.noD s B⟩
  simp_all
 |some e_=>simp_all[ndE]|none=>simp_all⟩
noncomputable def onlyB:A'->M B6
 |.bl b=>.ok (.rt (.bl b))|_=>.error .stuck
def vB(x y:Nat)(fk f:ag->M A'):ag->M B6:=λρ=>match ρ[x]? with
 |some (a_ (.dic _))=>(fk ρ).bind λkd=>match kd with
  |.dic ks=>if (xF (x≠y)&&xF (y<ρ.length)&&ks.all λp=>noD p.2)=d_ then(f ((ρ.map ndE).set y (a_ (.dic ks)))).bind onlyB else .error .stuck
  |_=>.error .stuck
 |_=>.error .stuck
def NoExt(F:Hp):Prop:=∀b o,F b=a_ o->BU o=c_
def DSn(K:Pn)(ro:Bool)(X:Cx)(OL O O':a5)(sts:List G6)(g:ag->M B6):Prop:=∀F0 H0,NoExt F0->PSs X sts (tS K Fl ro F0 H0 OL O O' g)
noncomputable def onlyR:B6->M B6
 |.rt (.bl b)=>.ok (.rt (.bl b))|_=>.error .stuck
def ndO:Option A'->Bool
 |some d=>noD d|none=>d_
def zw(g:ag->M B6):ag->M B6:=λρ=>if ρ.all ndO=d_ then(g ρ).bind onlyR else .error .stuck
section
variable{st:G6}{h:ag->M B6}{x y:Nat}{f:ag->M A'}
def gG(h1:DS K Fl ro X OL O O' st g)(B:DSn K ro X OL O' O2 sts h):DSn K ro X OL O O2 (st::sts) (bw g h):=λF0 H0 n=>(bB (h1 F0 H0) (B F0 H0 n)).imp λ_ _ _=>rs_seq
theorem dn_tail(p:PSs X sts (nP (r9 (tD K Fl d_ fk) (jm y)) (nP (tDrop (tClrK (vi x))) (tRet (tD K Fl c_ f))))):DSn K ro X OL [] O' sts (vB x y fk f):=λF0 H0 n=>PSs.imp p λD σ H=>by
  intro t;obtain⟨FB,F,ρ,r,q⟩:=t;unfold vB at q;split at q
  rotate_left
  .exact Gh q
  rename_i kx L;have I:=r.repE;obtain⟨vx,l,P,xs,rfl,⟨ep,J⟩,_⟩:=I.sl x _ L;have h0:H0 P=e_:=by
   rcases r.st.nw P _ J with z|z
   .exact FR (n P _ z) (by simp[iJ,BU])
   .exact z
  refine aJ I r.st.fh (λe Y=>by rw[Y]at q;exact q) λkd N v F1 H1 s1 C=>?_;rw[N]at q;simp only[af]at q;split at q
  rotate_left
  .exact Gh q
  rename_i ks;split at q
  rotate_left
  .exact Gh q
  rename_i i;simp only[m_,FG]at i;obtain⟨⟨S,ly⟩,U⟩:=i;obtain⟨B,ys,rfl,⟨ep',Q⟩,T,G,Z⟩:=(show kg K F1 H H1 (.dic ks) v from C)
  have R:H P=a_ (iJ P xs ep):=r.st.fh _ _ J;have ne:B≠P:=λz=>by simp_all
  have ls:=I.len;have W:=s1.ff _ _ J;refine⟨.ref P,by rw[tF (HI S)];exact l,P,xs,ep,rfl,s1.hh _ _ R,λa=>?_⟩
  have j:qq F1 (upd (minus F1 λx=>x=P) B (iJ B ys ep')):=λb o e z=>by grind[iJ,BU,ax,cu]
  have u:gR K (upd (minus F1 λx=>x=P) B (iJ B ys ep')) (σ.set y (a_ (.ref B))) ((ρ.map ndE).set y (a_ (.dic ks))):=
   ((I.mono s1.ff).nd j).set (show bf K _ (.dic ks) (.ref B)from⟨B,ys,rfl,⟨ep',av⟩,Z.noD j U⟩) y
  have m:aX (upd (minus F1 λx=>x=P) B (iJ B ys ep')) (upd H1 P (iJ P [] a)):=λb o e=>by
   by_cases n2:b=B
   .simp_all[av,ax]
   .rw[ax n2]at e;by_cases h:b=P
    .simp_all[lI]
    .rw[cu (A:=λx=>x=P) h]at e;rw[ax h];exact s1.fh _ _ e
  refine aJ u m (λe Y=>by rw[Y]at q;exact q) λd O w F3 k s E=>?_;rw[O]at q;cases d with
  |bl b=>have q:∀v F H,B4 F0 H0 F H->Val K ro F H0 H (.bl b) v->D.rt v H:=q;have g:∀c o,H c=a_ o->c≠P->k c=a_ o:=λc o e n=>s.hh _ _ (by rw[ax n];exact s1.hh _ _ e);refine q w F0 k ⟨aX.refl _,λc o e=>g c o (r.st.hh _ _ e) (aC e h0),λc o e=>g c o (r.st.fh _ _ (r.st.ff _ _ e)) λz=>?_,λ_ _ e=>.inl e⟩ (by cases ro<;>exact E);have:=r.st.ff _ _ e;rw[z,J]at this;cases this;exact FR (n _ _ e) (by simp[iJ,BU])
  |_=>exact Gh q
theorem ds_fresh(p:DSn K ro X OL [] O' sts g):DSs K Fl ro X OL [] O' sts (zw g):=by
 intro F0 H0 B2 s σ H D I t;obtain⟨FB,F,ρ,r,q⟩:=t;unfold zw at q;split at q
 rotate_left
 .exact Gh q
 rename_i U;have B:=r.repE
 let F1:Hp:=λb=>(F b).filter λo=> !BU o
 have c:qq F F1:=λb o e z=>by grind
 have S:NoExt F1:=λb o e=>by
  have e:(F b).filter _=a_ o:=e
  simp_all
 have a:aX F1 F:=λb o e=>(Option.filter_eq_some_iff.mp (show(F b).filter _=a_ o from e)).1;have J:gR K F1 σ ρ:=⟨B.len,λi d e=>by obtain⟨v,h1,Y⟩:=B.sl i d e;have:=Hd.mp U (a_ d) (Gn e);exact⟨v,h1,Y.noD c this⟩⟩
 refine p F1 H S B2 s σ H D I ⟨F1,F1,ρ,Rep.ofE J (B4.refl (a.trans r.st.fh)) (aX.refl _),?_⟩;cases e:g ρ with
 |error z=>rw[e]at q;exact Gh q|ok fl=>
  rw[e]at q;cases fl with
  |rt d=>
   cases d with
   |bl b=>have q:∀v F H,B4 F0 H0 F H->Val K ro F H0 H (.bl b) v->D.rt v H:=q;exact λv f H2 s2 w=>q v F H2 ⟨r.st.ff,r.st.hh.trans s2.hh,r.st.fh.trans s2.hh,r.st.nw⟩ (by cases ro<;>exact w)
   |_=>exact Gh q
  |_=>exact Gh q
end
end Lake
namespace Tactic
open PySem Lake PyProof.Rows
variable{n m i k j sh st:Nat}{w:Hw}{mg:Ld}{CP:iF}{d:A'}{u a c:Int}{v:V}{ts b l:List Int}{rows L:List (List Int)}{q:Int×List (List Int)}{p:List (Nat×Nat)}{x y:LK}{ks ls:List LK}
def fD:ag->M B6:=
 (bw (aQ [] 1 (fL intD (aa (f2 eqM (f2 kj (f2 nH (ae 0) (fC (.int 8))) (fC (.int 4))) (fC (.int 1))) aw)))
  (bw (aQ [] 2 (f2 eW (fC (.int 1)) (f2 kj (ae 0) (fC (.int 2)))))
  (bw (aQ [] 3 (f2 ixD (fL bj (aa (f2 eW (fC (.int 1)) (f2 kj (f2 nH (ae 0) (fC (.int 2))) (fC (.int 3)))) (aa (f2 kj (f2 nH (ae 0) (fC (.int 2))) (fC (.int 4))) aw))) (f2 zo (ae 2) (fC (.int 1)))))
  (bw (aQ [] 4 (fL bj (aa (fL bj (aa (fL bj (aa (fC (.int 0)) (aa (fC (.int 12)) (aa (fC (.int 7)) (aa (fC (.int 6)) aw))))) (aa (fL bj (aa (fC (.int 0)) (aa (fC (.int 18)) (aa (fC (.int 10)) (aa (fC (.int 8)) aw))))) aw))) (aa (fL bj (aa (fL bj (aa (fC (.int 8)) (aa (fC (.int 5)) (aa (fC (.int 4)) (aa (fC (.int 4)) aw))))) (aa (fL bj (aa (fC (.int 8)) (aa (fC (.int 6)) (aa (fC (.int 5)) (aa (fC (.int 4)) aw))))) aw))) aw))))
  (d7 (fL cq (aa (f2 zo (fC (.int 2)) (ae 1)) (aa (ae 2) (aa (ae 3) (aa (f2 ixD (f2 ixD (f2 ixD (ae 4) (f2 zo (ae 2) (fC (.int 1)))) (ae 1)) (ae 3)) aw))))))))))
def c9:List A'->M A':=bJ 5 1 (fD)
def gh:ag->M B6:=
 sIf (fB (f2 ltD (ae 1) (fL kO (aa (ae 0) aw))))
   (d7 (f2 ixD (ae 0) (ae 1)))
   d8
def j4:ag->M B6:=
 sIf (fB (f2 eqM (ae 0) (fL bj aw)))
   (d7 (fC (.int 0)))
   d8
def iS:ag->M B6:=
 (bw (gh)
  (bw (j4)
  (d7 (f2 eW (f2 nV (f2 ixD (ae 0) (f2 kj (ae 1) (fL kO (aa (ae 0) aw)))) (fC (.int 69621))) (f2 nV (f2 nV (ae 1) (ae 1)) (fC (.int 48271)))))))
def bh:List A'->M A':=bJ 2 2 (iS)
def dZ:ag->M B6:=
 (jx [3,5] 5 (bD (gF jl (aa (ae 1) aw)) [e_,a_ 0,a_ 4,a_ 6] (.nm 0) gp (f2 kj (fL (bh) (aa (ae 1) (aa (f2 eW (f2 eW (f2 eW (fC (.int 1)) (f2 nV (fC (.int 4)) (ae 2))) (f2 nV (fC (.int 2)) (ae 3))) (ae 0)) aw))) (fC (.int 10)))))
def dX:ag->M B6:=
 (bw (aQ [3] 5 (fL bj aw))
  (bw (iM [3,5] (gF jl (aa (ae 1) aw)) (.nm 6) (dZ))
  (jx [3] 3 (ae 5))))
def lO:ag->M B6:=
 (bw (aQ [] 3 (fL bj aw))
  (bw (iM [3] (gF jl (aa (ae 2) aw)) (.nm 4) (dX))
  (d7 (ae 3))))
def cQ:List A'->M A':=bJ 7 3 (lO)
def lM:ag->M B6:=
 (d7 (bD (fIt (ae 0)) [e_] (.nm 0) gp (fL fX (aa (ae 0) aw))))
def fV:List A'->M A':=bJ 1 1 (lM)
def sN:ag->M B6:=
 sIf (fOr (Cp (uX (f1 o8 (ae 0)))) (uX (f1 lL (ae 0))))
   (d7 (fC (.bl c_)))
   d8
def Aq:ag->M B6:=
 (bw (sN)
  (d7 (jM leD leD (fC (.int 0)) (ae 0) (fC (.int 1000000)))))
def jZ:List A'->M A':=bJ 1 1 (Aq)
def mX:ag->M B6:=
 (d7 (yy (f1 lK (ae 0)) (yy (f2 eqM (fL kO (aa (ae 0) aw)) (ae 1)) (fL allD (aa (bD (fIt (ae 0)) [e_] (.nm 0) gp (fL (jZ) (aa (ae 0) aw))) aw)))))
def dB:List A'->M A':=bJ 2 2 (mX)
def jh:ag->M B6:=
 sIf (Cp (fB (jM leD leD (fC (.int 1)) (ae 1) (fC (.int 6)))))
   sStk
   d8
def jg:ag->M B6:=
 sIf (Cp (uX (fL allD (aa (bD (fIt (ae 0)) [e_,a_ 1] (.nm 0) gp (fL (dB) (aa (ae 0) (aa (ae 1) aw)))) aw))))
   sStk
   d8
def kB:ag->M B6:=
 (bw (aQ [] 1 (fL kO (aa (ae 0) aw)))
  (bw (jh)
  (bw (jg)
  (d7 (fL (fV) (aa (ae 0) aw))))))
def az:List A'->M A':=bJ 2 1 (kB)
def dw:ag->M B6:=
 (bw (aQ [3] 5 (bD (gF jl (aa (fC (.int 3)) aw)) [e_,a_ 0,a_ 4] (.nm 0) gp (fL (bh) (aa (ae 1) (aa (f2 eW (f2 eW (fC (.int 9)) (f2 nV (fC (.int 3)) (ae 2))) (ae 0)) aw)))))
  (bw (aQ [3] 6 (f2 eW (f2 nV (fC (.int 3)) (ae 4)) (f2 kj (f2 nH (f2 ixD (ae 5) (fC (.int 0))) (ae 1)) (fC (.int 8)))))
  (bw (aQ [3] 7 (f2 eW (ae 6) (f2 kj (f2 ixD (ae 5) (fC (.int 1))) (f2 ixD (fL bj (aa (fC (.int 60)) (aa (fC (.int 12)) (aa (fC (.int 60)) (aa (fC (.int 300)) aw))))) (f2 kj (f2 nH (f2 ixD (ae 5) (fC (.int 1))) (fC (.int 300))) (fC (.int 4)))))))
  (jx [3] 3 (fL cq (aa (f2 kj (f2 ixD (ae 5) (fC (.int 0))) (ae 1)) (aa (ae 6) (aa (ae 7) (aa (f2 eW (ae 6) (f2 kj (f2 ixD (ae 5) (fC (.int 2))) (fC (.int 9)))) (aa (f2 kj (f2 nH (f2 ixD (ae 5) (fC (.int 2))) (fC (.int 9))) (fC (.int 5))) aw))))))))))
def kC:ag->M B6:=
 (bw (aQ [] 3 (fL bj aw))
  (bw (iM [3] (gF jl (aa (ae 2) aw)) (.nm 4) (dw))
  (d7 (ae 3))))
def de:List A'->M A':=bJ 8 3 (kC)
def ij(R:List A'->M A'):ag->M B6:=
 sIf (fB (f2 eqM (ae 1) (fC (.int 0))))
   (d7 (fL bj (aa (fL cq aw) aw)))
   d8
def fg(R:List A'->M A'):ag->M B6:=
 (jx [2] 2 (f2 eW (fL cq (aa (ae 4) aw)) (ae 5)))
def f9(R:List A'->M A'):ag->M B6:=
 (iM [2] (fIt (fL R (aa (fSl cB (ae 0) (iN (f2 eW (ae 3) (fC (.int 1)))) kh) (aa (f2 zo (ae 1) (fC (.int 1))) aw)))) (.nm 5) (fg R))
def fy(R:List A'->M A'):ag->M B6:=
 (bw (ij R)
  (bw (aQ [] 2 (fL bj aw))
  (bw (iM [2] (C0 (ae 0)) (.tp [3,4]) (f9 R))
  (d7 (ae 2)))))
def bG:Nat->ag->M B6
 |0=>λ_=>stk|d+1=>fy (bJ 6 2 (bG d))
def jC:List A'->M A':=bJ 6 2 (bG 6)
def jJ:ag->M B6:=
 (bw (aQ [] 3 (fTR (gF jl (aa (fL maxD (aa (fC (.int 0)) (aa (f2 zo (ae 2) (ae 1)) aw))) aw))))
  (bw (aQ [] 4 (fLR (gF zL (aa (fL kO (aa (ae 3) aw)) (aa (fL minD (aa (ae 0) (aa (f2 eW (ae 2) (ae 1)) aw))) aw)))))
  (d7 (bD (fIt (fL (jC) (aa (ae 4) (aa (f2 zo (ae 2) (fL kO (aa (ae 3) aw))) aw)))) [e_,a_ 3] (.nm 0) gp (f2 eW (ae 1) (ae 0))))))
def cI:List A'->M A':=bJ 5 3 (jJ)
def jc:ag->M B6:=
 (d7 (bD (mY (ae 0)) [e_,e_,a_ 0] (.tp [0,1]) gp (fL cq (aa (f2 eW (fSl cB (ae 2) kh (iN (ae 0))) (fSl cB (ae 2) (iN (f2 eW (ae 0) (fC (.int 1)))) kh)) (aa (ae 1) aw)))))
def cv:List A'->M A':=bJ 1 1 (jc)
def ql:ag->M B6:=
 (Br 4 (ae 5) (fL sumD (aa (bD (fIt (fL (cv) (aa (ae 5) aw))) [e_,e_,a_ 2] (.tp [0,1]) gp (qQ (ae 2) (ae 0) (fC (.int 0)))) aw)))
def qj:ag->M B6:=
 (bw (aQ [] 4 (fC (.dic [])))
  (bw (iM [4] (fIt (fL (cI) (aa (ae 0) (aa (ae 1) (aa (ae 3) aw))))) (.nm 5) (ql))
  (aQ [] 2 (ae 4))))
def ue:ag->M B6:=
 (bw (aQ [] 2 (f2 mkD1 (fL cq aw) (fC (.int 1))))
  (bw (iM [] (gF zL (aa (fC (.int 1)) (aa (f2 eW (ae 0) (fC (.int 1))) aw))) (.nm 3) (qj))
  (d7 (f1 sumVD (ae 2)))))
def aD:List A'->M A':=bJ 6 2 (ue)
def gE:ag->M B6:=
 (d7 (fC (.int 1)))
def aU:List A'->M A':=bJ 1 1 (gE)
def i5:ag->M B6:=
 (d7 (fC (.int 2)))
def b9:List A'->M A':=bJ 1 1 (i5)
def f7(CR CP:iF)(n:Nat):ag->M B6:=
 (aQ [] 3 (f2 nV (ae 3) (dE CR CP "many_strips" (aU) (b9) (ae 0) aw)))
def mV(CR CP:iF)(n:Nat):ag->M B6:=
 (bw (aQ [] 3 (fL (aD) (aa (ae 1) (aa (ae 2) aw))))
  (bw (iM [] (gF jl (aa (ae 1) aw)) (.nm 4) (f7 CR CP n))
  (d7 (ae 3))))
def hV(CR CP:iF)(n:Nat):List A'->M A':=bJ 5 3 (mV CR CP n)
def gH(CR CP:iF)(n:Nat):ag->M B6:=
 sIf (fB (f2 gtD (fL (hV CR CP n) (aa (ae 0) (aa (fL kO (aa (ae 1) aw)) (aa (ae 2) aw)))) (fC (.int 5000))))
   sStk
   d8
def iy(CR CP:iF)(n:Nat):ag->M B6:=
 (gH CR CP n)
def bY(CR CP:iF)(n:Nat):List A'->M A':=bJ 3 3 (iy CR CP n)
def cE:ag->M B6:=
 (sExt [2] 2 (fL (cI) (aa (ae 0) (aa (ae 1) (aa (ae 3) aw)))))
def jf:ag->M B6:=
 (bw (aQ [] 2 (fL bj aw))
  (bw (iM [2] (gF jl (aa (f2 eW (ae 0) (fC (.int 1))) aw)) (.nm 3) (cE))
  (d7 (ae 2))))
def cw:List A'->M A':=bJ 4 2 (jf)
def dT:ag->M B6:=
 sIf (fB (f2 gtD (f2 ixD (ae 0) (fC (.int 0))) (f2 ixD (ae 1) (fC (.int 0)))))
   (d7 (fC (.bl c_)))
   d8
def gI:ag->M B6:=
 sIf (fB (f2 gtD (ae 4) (ae 5)))
   (d7 (fC (.bl c_)))
   d8
def dW:ag->M B6:=
 (gI)
def dU:ag->M B6:=
 (iM [] (qP (ae 2) (ae 3)) (.tp [4,5]) (dW))
def fZ:ag->M B6:=
 (bw (dT)
  (bw (iM [] (qP (f2 ixD (ae 0) (fC (.int 1))) (f2 ixD (ae 1) (fC (.int 1)))) (.tp [2,3]) (dU))
  (d7 (fC (.bl d_)))))
def cb:List A'->M A':=bJ 6 2 (fZ)
def fK:ag->M B6:=
 sIf (uX (fL (cb) (aa (ae 2) (aa (ae 1) aw))))
   (d7 (fC (.bl d_)))
   d8
def bE:ag->M B6:=
 (fK)
def di:ag->M B6:=
 (bw (iM [] (fItL (ae 0)) (.nm 2) (bE))
  (d7 (fC (.bl c_))))
def bq:List A'->M A':=bJ 3 2 (di)
def gJ:ag->M B6:=
 sIf (Cp (uX (fL (bq) (aa (ae 1) (aa (ae 2) aw)))))
   (jx [1] 1 (ae 2))
   d8
def c7:ag->M B6:=
 (gJ)
def lN:ag->M B6:=
 (bw (aQ [] 1 (fL bj aw))
  (bw (iM [1] (fIt (fL oC (aa (ae 0) aw))) (.nm 2) (c7))
  (d7 (ae 1))))
def fW:List A'->M A':=bJ 3 1 (lN)
def dP(CR CP:iF)(n:Nat):ag->M B6:=
 (d7 (fL kO (aa (f1 (qX [CR,CP] "gaps") (ae 0)) aw)))
def aZ(CR CP:iF)(n:Nat):List A'->M A':=bJ 1 1 (dP CR CP n)
def iR(CR CP:iF)(n:Nat):ag->M B6:=
 (bw (aQ [] 1 (fL fj (aa (bD (gF jl (aa (dE CR CP "many_kinds" (aZ CR CP n) (aZ CR CP n) (ae 0) aw) aw)) [e_] (.nm 0) gp (f1 BI (fC (.int 1)))) aw)))
  (d7 (fL cq (aa (fC (.int 0)) (aa (fL fj (aa (bD (gF jl (aa (dE CR CP "many_strips" (aU) (b9) (ae 0) aw) aw)) [e_,a_ 1] (.nm 0) gp (ae 1)) aw)) aw)))))
def fU(CR CP:iF)(n:Nat):List A'->M A':=bJ 2 1 (iR CR CP n)
def km:ag->M B6:=
 sIf (yz (uX (ae 1)) (fB (f2 leD (ae 2) (f2 ixD (f2 ixD (ae 1) (f1 BI (fC (.int 1)))) (fC (.int 1))))))
   (Bq 1 (f1 BI (fC (.int 1))) (fL cq (aa (f2 ixD (f2 ixD (ae 1) (f1 BI (fC (.int 1)))) (fC (.int 0))) (aa (fL maxD (aa (ae 3) (aa (f2 ixD (f2 ixD (ae 1) (f1 BI (fC (.int 1)))) (fC (.int 1))) aw))) aw))))
   (jx [1] 1 (fL cq (aa (ae 2) (aa (ae 3) aw))))
def kn:ag->M B6:=
 (km)
def i4:ag->M B6:=
 (bw (aQ [] 1 (fL bj aw))
  (bw (iM [1] (fIt (fL eY (aa (ae 0) aw))) (.tp [2,3]) (kn))
  (d7 (ae 1))))
def dK:List A'->M A':=bJ 4 1 (i4)
def uE:ag->M B6:=
 sIf (fB (jM leD ltD (ae 2) (ae 1) (ae 3)))
   (d7 (ae 3))
   d8
def uK:ag->M B6:=
 (uE)
def pF:ag->M B6:=
 (bw (iM [] (fIt (fL (dK) (aa (ae 0) aw))) (.tp [2,3]) (uK))
  (d7 (ae 1)))
def gA:List A'->M A':=bJ 4 2 (pF)
def mW:ag->M B6:=
 (bw (xV 3 (bD (fIt (ae 0)) [e_] (.nm 0) gp (fL fX (aa (ae 0) aw))) (ae 2) (f2 ixD (ae 1) (fC (.int 1))) (f2 ixD (ae 1) (fC (.int 0))))
  (d7 (fL fj (aa (bD (fIt (ae 3)) [e_] (.nm 0) gp (fL fj (aa (ae 0) aw))) aw))))
def hZ:List A'->M A':=bJ 4 3 (mW)
def pG:ag->M B6:=
 (bw (aQ [] 2 (f2 ixD (ae 0) (fC (.int 3))))
  (bw (aQ [] 3 (f2 ixD (ae 0) (fC (.int 4))))
  (d7 (f2 nV (ae 3) (fL maxD (aa (fC (.int 0)) (aa (f2 zo (ae 1) (ae 2)) aw)))))))
def iO:List A'->M A':=bJ 4 2 (pG)
def lP(CR CP:iF)(n:Nat):ag->M B6:=
 (d7 (f2 ixD (f2 ixD (f1 (qX [CR,CP] "gaps") (ae 0)) (f2 ixD (ae 1) (fC (.int 0)))) (f2 ixD (ae 2) (fC (.int 0)))))
def dM(CR CP:iF)(n:Nat):List A'->M A':=bJ 3 3 (lP CR CP n)
def jK(CR CP:iF)(n:Nat):ag->M B6:=
 (bw (aQ [] 3 (fIte (fB (f2 eqM (f2 ixD (ae 1) (fC (.int 1))) (f2 ixD (ae 2) (fC (.int 1))))) (f1 (qX [CR,CP] "gaps") (ae 0)) (f1 (qX [CP] "beside") (ae 0))))
  (d7 (f2 ixD (f2 ixD (ae 3) (f2 ixD (ae 1) (fC (.int 0)))) (f2 ixD (ae 2) (fC (.int 0))))))
def dC(CR CP:iF)(n:Nat):List A'->M A':=bJ 4 3 (jK CR CP n)
def dS(CR CP:iF)(n:Nat):ag->M B6:=
 sIf (fB (f2 neM (ae 7) (f1 BI (fC (.int 1)))))
   (jx [3] 3 (f2 eW (ae 7) (dE CR CP "apart" (dM CR CP n) (dC CR CP n) (ae 0) (aa (fL cq (aa (ae 6) (aa (ae 4) aw))) (aa (ae 2) aw)))))
   d8
def bQ(CR CP:iF)(n:Nat):ag->M B6:=
 (dS CR CP n)
def cD(CR CP:iF)(n:Nat):ag->M B6:=
 (iM [3] (mY (ae 5)) (.tp [6,7]) (bQ CR CP n))
def jd(CR CP:iF)(n:Nat):ag->M B6:=
 (bw (aQ [] 3 (fL bj aw))
  (bw (iM [3] (mY (ae 1)) (.tp [4,5]) (cD CR CP n))
  (d7 (ae 3))))
def du(CR CP:iF)(n:Nat):List A'->M A':=bJ 8 3 (jd CR CP n)
def fJ:ag->M B6:=
 sIf (fB (f2 gtD (ae 8) (f2 ixD (ae 6) (fC (.int 2)))))
   (d7 (fC .non))
   d8
def ie(CR CP:iF)(n:Nat):ag->M B6:=
 (bw (aQ [] 6 (f2 ixD (ae 1) (ae 4)))
  (bw (aQ [] 7 (fL cq (aa (f2 ixD (ae 6) (fC (.int 0))) (aa (ae 5) aw))))
  (bw (aQ [] 8 (fL (gA) (aa (ae 2) (aa (fL maxD (aa (f2 eW (fL bj (aa (f2 ixD (ae 6) (fC (.int 1))) aw)) (fL (du CR CP n) (aa (ae 0) (aa (f2 ixD (ae 3) (fC (.int 1))) (aa (ae 7) aw))))) aw)) aw))))
  (bw (fJ)
  (d7 (fL cq (aa (f2 eW (f2 ixD (ae 3) (fC (.int 0))) (fL (iO) (aa (ae 6) (aa (ae 8) aw)))) (aa (fL (hZ) (aa (f2 ixD (ae 3) (fC (.int 1))) (aa (ae 7) (aa (ae 8) aw)))) aw))))))))
def bU(CR CP:iF)(n:Nat):List A'->M A':=bJ 9 6 (ie CR CP n)
def eS:ag->M B6:=
 sIf (fB (f2 w9 (ae 10) (fC .non)))
   (oJ 5 (ae 10) (fC (.bl d_)))
   d8
def c6(CR CP:iF)(n:Nat):ag->M B6:=
 (bw (aQ [5] 10 (fL (bU CR CP n) (aa (ae 0) (aa (ae 1) (aa (ae 2) (aa (ae 8) (aa (ae 7) (aa (ae 9) aw))))))))
  (eS))
def cY(CR CP:iF)(n:Nat):ag->M B6:=
 (iM [5] (gF jl (aa (dE CR CP "many_strips" (aU) (b9) (ae 0) aw) aw)) (.nm 9) (c6 CR CP n))
def cW(CR CP:iF)(n:Nat):ag->M B6:=
 (iM [5] (fIt (qQ (ae 3) (ae 6) (fL bj aw))) (.nm 8) (cY CR CP n))
def jI(CR CP:iF)(n:Nat):ag->M B6:=
 (bw (aQ [] 5 (fC (.dil [])))
  (bw (iM [5] (fIt (fL (cv) (aa (ae 4) aw))) (.tp [6,7]) (cW CR CP n))
  (d7 (ae 5))))
def cH(CR CP:iF)(n:Nat):List A'->M A':=bJ 11 5 (jI CR CP n)
def jS(CR CP:iF)(n:Nat):ag->M B6:=
 sIf (fB (f2 eqM (ae 5) (fL cq aw)))
   (lz 4 (ae 5) (fL bj (aa (fL (fU CR CP n) (aa (ae 0) aw)) aw)))
   (lz 4 (ae 5) (fL (fW) (aa (fL (cH CR CP n) (aa (ae 0) (aa (ae 1) (aa (ae 2) (aa (ae 4) (aa (ae 5) aw)))))) aw)))
def fG(CR CP:iF)(n:Nat):ag->M B6:=
 (jS CR CP n)
def rV(CR CP:iF)(n:Nat):ag->M B6:=
 (bw (oK [] (fL (bY CR CP n) (aa (ae 0) (aa (ae 1) (aa (ae 3) aw)))))
  (bw (aQ [] 4 (fC (.dic [])))
  (bw (iM [4] (fIt (fL (cw) (aa (fL kO (aa (ae 1) aw)) (aa (ae 3) aw)))) (.nm 5) (fG CR CP n))
  (d7 (ae 4)))))
def eK(CR CP:iF)(n:Nat):List A'->M A':=bJ 6 4 (rV CR CP n)
def gL:ag->M B6:=
 sIf (fB (f2 eqM (ae 2) (fL bj aw)))
   (d7 (fC .non))
   d8
def cf:ag->M B6:=
 (bw (aQ [] 2 (bD (fIt (fL i9 (aa (ae 0) aw))) [e_,a_ 0] (.nm 0) (yz (fB (f2 gtD (fL kO (aa (ae 0) aw)) (fC (.int 0)))) (fB (f2 neM (f2 xD (ae 1) (ae 0)) (fL bj aw)))) (ae 0)))
  (bw (gL)
  (bw (aQ [] 3 (f2 ixD (ae 2) (f2 kj (f2 kj (f2 nV (ae 1) (fC (.int 48271))) (fC (.int 65537))) (fL kO (aa (ae 2) aw)))))
  (bw (aQ [] 4 (f2 kj (f2 nH (ae 1) (fC (.int 7))) (fL kO (aa (f2 xD (ae 0) (ae 3)) aw))))
  (bw (aQ [] 5 (fL dictC (aa (ae 0) aw)))
  (bw (lz 5 (ae 3) (f2 eW (fSl cB (f2 xD (ae 0) (ae 3)) kh (iN (ae 4))) (fSl cB (f2 xD (ae 0) (ae 3)) (iN (f2 eW (ae 4) (fC (.int 1)))) kh)))
  (d7 (ae 5))))))))
def cR:List A'->M A':=bJ 6 2 (cf)
def gg:ag->M B6:=
 sIf (yz (fB (f2 gtD (ae 1) (fC (.int 1)))) (yz (fB (f2 leD (fL absD (aa (f2 zo (f2 zo (f2 ixD (ae 4) (ae 7)) (ae 7)) (fC (.int 1))) aw)) (ae 2))) (fB (f2 leD (fL absD (aa (f2 zo (f2 ixD (ae 4) (f2 eW (ae 7) (fC (.int 1)))) (ae 7)) aw)) (ae 2)))))
   (aQ [] 4 (f2 eW (f2 eW (fSl cB (ae 4) kh (iN (ae 7))) (fL bj (aa (f2 ixD (ae 4) (f2 eW (ae 7) (fC (.int 1)))) (aa (f2 ixD (ae 4) (ae 7)) aw)))) (fSl cB (ae 4) (iN (f2 eW (ae 7) (fC (.int 2)))) kh)))
   d8
def cZ:ag->M B6:=
 (bw (aQ [] 7 (f2 kj (ae 5) (fL maxD (aa (fC (.int 1)) (aa (f2 zo (ae 1) (fC (.int 1))) aw)))))
  (bw (aQ [] 5 (f2 eW (f2 kj (f2 nV (ae 5) (fC (.int 40014))) (fC (.int 2147483563))) (ae 6)))
  (gg)))
def gm:ag->M B6:=
 (bw (aQ [8] 5 (f2 kj (f2 nV (ae 5) (fC (.int 40014))) (fC (.int 2147483563))))
  (jx [8] 8 (fL cq (aa (ae 9) (aa (f2 kj (f2 nH (ae 5) (fC (.int 8))) (ae 3)) aw)))))
def pH:ag->M B6:=
 (bw (aQ [] 4 (fLR (gF jl (aa (ae 1) aw))))
  (bw (aQ [] 5 (f2 kj (f2 nV (f2 kj (f2 nV (ae 0) (fC (.int 48271))) (fC (.int 2147483647))) (fC (.int 69621))) (fC (.int 2147483629))))
  (bw (iM [] (gF jl (aa (f2 nV (fC (.int 2)) (ae 1)) aw)) (.nm 6) (cZ))
  (bw (aQ [] 8 (fL bj aw))
  (bw (iM [8] (fIt (ae 4)) (.nm 9) (gm))
  (d7 (ae 8)))))))
def iP:List A'->M A':=bJ 10 4 (pH)
def cU(CR CP:iF)(n:Nat):ag->M B6:=
 sIf (fB (f2 eqM (ae 4) (fL cq aw)))
   (d7 (f2 eqM (f2 xD (ae 3) (ae 4)) (fL bj (aa (fL (fU CR CP n) (aa (ae 0) aw)) aw))))
   d8
def eU:ag->M B6:=
 sIf (Cp (uX (fL allD (aa (bD (fItL (ae 6)) [e_,a_ 5] (.nm 0) gp (f2 inLD (ae 0) (ae 1))) aw))))
   (d7 (fC (.bl c_)))
   d8
def dN(CR CP:iF)(n:Nat):ag->M B6:=
 (bw (cU CR CP n)
  (bw (aQ [] 5 (fL (cH CR CP n) (aa (ae 0) (aa (ae 1) (aa (ae 2) (aa (ae 3) (aa (ae 4) aw)))))))
  (bw (aQ [] 6 (fL AE (aa (bD (fIt (f2 xD (ae 3) (ae 4))) [e_] (.nm 0) gp (fL cq (aa (ae 0) (aa (fC (.bl d_)) aw)))) aw)))
  (bw (eU)
  (d7 (fL allD (aa (bD (fItL (ae 5)) [e_,a_ 6] (.nm 0) (fB (f2 tU (ae 0) (ae 1))) (fL (bq) (aa (ae 1) (aa (ae 0) aw)))) aw)))))))
def bK(CR CP:iF)(n:Nat):List A'->M A':=bJ 7 5 (dN CR CP n)
def mZ:ag->M B6:=
 sIf (fB (f2 neM (fL i9 (aa (ae 4) aw)) (fL i9 (aa (ae 5) aw))))
   (d7 (fC (.bl c_)))
   d8
def rW(CR CP:iF)(n:Nat):ag->M B6:=
 (bw (oK [] (fL (bY CR CP n) (aa (ae 0) (aa (ae 1) (aa (ae 3) aw)))))
  (bw (aQ [] 5 (fL (cw) (aa (fL kO (aa (ae 1) aw)) (aa (ae 3) aw))))
  (bw (mZ)
  (d7 (fL allD (aa (bD (fIt (ae 5)) [e_,a_ 0,a_ 1,a_ 2,a_ 4] (.nm 0) gp (fL (bK CR CP n) (aa (ae 1) (aa (ae 2) (aa (ae 3) (aa (ae 4) (aa (ae 0) aw))))))) aw))))))
def iu(CR CP:iF)(n:Nat):List A'->M A':=bJ 6 5 (rW CR CP n)
def gc:ag->M A':=
 (fL maxD (aa (ae 14) (aa (f2 eW (ae 17) (f2 ixD (f2 ixD (f2 ixD (ae 0) (fL intD (aa (f2 neM (ae 16) (ae 8)) aw))) (ae 15)) (ae 9))) aw)))
def gb:ag->M A':=
 (fL cq (aa (ae 9) (aa (ae 8) (aa (ae 14) aw))))
def g9:ag->M A':=
 (f2 eW (ae 6) (f2 nV (ae 13) (fL maxD (aa (fC (.int 0)) (aa (f2 zo (ae 14) (ae 12)) aw)))))
def g8:ag->M A':=
 (fL cq (aa (ae 6) (aa (fL fj (aa (bD (fIt (ae 4)) [e_] (.nm 0) gp (fL fj (aa (ae 0) aw))) aw)) aw)))
def fS:ag->M Bool:=
 (fB (f2 gtD (ae 14) (ae 11)))
def pI:ag->M B6:=
 (sEns (.tp [7,8]) (.tp [9,10,11,12,13]) (.tp [15,16,17]) 4 14 6 (f2 ixD (ae 1) (ae 7)) (ae 10) (gc) (gb) (g9) (ae 14) (ae 8) (ae 9) (g8) (fS) 3 5 (bD (fIt (ae 0)) [e_,a_ 0] (.nm 0) gp (f2 Df (fL bj (aa (f1 BI (fC (.int 1))) aw)) (fL kO (aa (f2 ixD (ae 1) (fC (.int 0))) aw)))) (fC (.int 0)) (fIt (ae 2)))
def gB:List A'->M A':=bJ 18 3 (pI)
def cV:ag->M B6:=
 sIf (fB (f2 gtD (f2 ixD (ae 0) (fC (.int 0))) (f2 ixD (ae 1) (fC (.int 0)))))
   (d7 (fC (.bl c_)))
   d8
def eV:ag->M B6:=
 sIf (fB (f2 neM (bD (gF jl (aa (fL kO (aa (ae 2) aw)) aw)) [e_,a_ 2,a_ 3] (.nm 0) (fB (f2 gtD (f2 ixD (ae 1) (ae 0)) (f2 ixD (ae 2) (ae 0)))) (ae 0)) (fL bj aw)))
   (d7 (fC (.bl c_)))
   d8
def c8:ag->M B6:=
 (eV)
def dO:ag->M B6:=
 (bw (cV)
  (bw (iM [] (qP (f2 ixD (ae 0) (fC (.int 1))) (f2 ixD (ae 1) (fC (.int 1)))) (.tp [2,3]) (c8))
  (d7 (fC (.bl d_)))))
def aT:List A'->M A':=bJ 4 2 (dO)
def gO:ag->M B6:=
 sIf (fB (f2 neM (ae 4) (fL oC (aa (ae 4) aw))))
   (d7 (fC (.bl c_)))
   d8
def cp(CR CP:iF)(n:Nat):ag->M B6:=
 (jx [5] 5 (fL (bU CR CP n) (aa (ae 0) (aa (ae 1) (aa (fL bj aw) (aa (ae 8) (aa (ae 6) (aa (ae 9) aw))))))))
def cn(CR CP:iF)(n:Nat):ag->M B6:=
 (iM [5] (gF jl (aa (dE CR CP "many_strips" (aU) (b9) (ae 0) aw) aw)) (.nm 9) (cp CR CP n))
def cm(CR CP:iF)(n:Nat):ag->M B6:=
 (bw (aQ [5] 7 (fL fj (aa (bD (fIt (ae 3)) [e_,a_ 6] (.nm 0) (fB (f2 neM (ae 0) (ae 1))) (ae 0)) aw)))
  (iM [5] (fIt (qQ (ae 2) (ae 7) (fL bj aw))) (.nm 8) (cn CR CP n)))
def gN:ag->M B6:=
 sIf (fB (f2 neM (bD (gF jl (aa (fL kO (aa (ae 4) aw)) aw)) [e_,a_ 4,a_ 10] (.nm 0) (yz (fB (f2 neM (ae 0) (ae 2))) (uX (fL (aT) (aa (f2 ixD (ae 1) (ae 0)) (aa (f2 ixD (ae 1) (ae 2)) aw))))) (ae 0)) (fL bj aw)))
   (d7 (fC (.bl c_)))
   d8
def gM:ag->M B6:=
 sIf (fB (f2 DK (f2 ixD (ae 4) (ae 10)) (ae 5)))
   (d7 (fC (.bl c_)))
   d8
def ck:ag->M B6:=
 (bw (gN)
  (gM))
def iz(CR CP:iF)(n:Nat):ag->M B6:=
 (bw (aQ [] 4 (f2 xD (ae 2) (ae 3)))
  (bw (gO)
  (bw (aQ [] 5 (fL bj aw))
  (bw (iM [5] (fIt (ae 3)) (.nm 6) (cm CR CP n))
  (bw (iM [] (gF jl (aa (fL kO (aa (ae 4) aw)) aw)) (.nm 10) (ck))
  (d7 (fC (.bl d_))))))))
def bZ(CR CP:iF)(n:Nat):List A'->M A':=bJ 11 4 (iz CR CP n)
def gK:ag->M B6:=
 sIf (fB (f2 eqM (bD (fIt (f2 xD (ae 3) (ae 8))) [e_,a_ 6,a_ 7] (.nm 0) (uX (fL (aT) (aa (ae 0) (aa (f2 ixD (ae 1) (ae 2)) aw)))) (ae 0)) (fL bj aw)))
   (d7 (fC (.bl c_)))
   d8
def cj:ag->M B6:=
 (bw (aQ [] 8 (fL fj (aa (fL eY (aa (bD (fIt (fSl cB (ae 4) kh (iN (f2 eW (ae 7) (fC (.int 1)))))) [e_,e_] (.tp [0,1]) gp (ae 0)) aw)) aw)))
  (gK))
def cS(CR CP:iF)(n:Nat):ag->M B6:=
 (bw (aQ [] 6 (fL (gB) (aa (ae 1) (aa (ae 2) (aa (ae 4) aw)))))
  (bw (iM [] (gF jl (aa (fL kO (aa (ae 6) aw)) aw)) (.nm 7) (cj))
  (d7 (fL (bZ CR CP n) (aa (ae 0) (aa (ae 2) (aa (ae 3) (aa (fL fj (aa (fL eY (aa (bD (fIt (fSl cB (ae 4) kh (iN (ae 5)))) [e_,e_] (.tp [0,1]) gp (ae 0)) aw)) aw)) aw))))))))
def eN(CR CP:iF)(n:Nat):List A'->M A':=bJ 9 6 (cS CR CP n)
def uG(CR CP:iF)(n:Nat):ag->M B6:=
 sIf (fB (f2 eqM (ae 2) (fC (.int 2))))
   (aQ [] 6 (fL (newP CP (az)) (aa (f2 ixD (ae 5) (fC (.int 0))) (aa (f2 ixD (ae 5) (fC (.int 1))) aw))))
   d8
def Fi(CR CP:iF)(n:Nat):ag->M B6:=
 sIf (Cp (uX (fL (eN CR CP n) (aa (ae 6) (aa (ae 5) (aa (ae 7) (aa (ae 8) (aa (ae 11) (aa (f2 eW (fC (.int 1)) (f2 kj (ae 10) (ae 4))) aw)))))))))
   (d7 (fC (.bl c_)))
   d8
def uL(CR CP:iF)(n:Nat):ag->M B6:=
 (bw (aQ [] 10 (fL (bh) (aa (ae 0) (aa (f2 eW (fC (.int 50)) (ae 9)) aw))))
  (bw (aQ [] 11 (fL (iP) (aa (ae 10) (aa (ae 4) (aa (ae 3) (aa (ae 2) aw))))))
  (Fi CR CP n)))
def yS(CR CP:iF)(n:Nat):ag->M B6:=
 sIf (fB (f2 DL (fL (iu CR CP n) (aa (ae 6) (aa (fL fX (aa (ae 7) aw)) (aa (fL bj aw) (aa (ae 3) (aa (ae 8) aw)))))) (fC (.bl d_))))
   (d7 (fC (.bl c_)))
   d8
def uF(CR CP:iF)(n:Nat):ag->M B6:=
 sIf (yz (fB (f2 w9 (ae 12) (fC .non))) (fB (f2 DL (fL (iu CR CP n) (aa (ae 6) (aa (fL fX (aa (ae 7) aw)) (aa (fL bj aw) (aa (ae 3) (aa (ae 12) aw)))))) (fC (.bl c_)))))
   (d7 (fC (.bl c_)))
   d8
def yR:ag->M B6:=
 sIf (fB (f2 gtD (f2 kj (fL (bh) (aa (ae 0) (aa (fC (.int 62)) aw))) (fC (.int 4))) (fC (.int 0))))
   (d7 (fC (.bl d_)))
   d8
def g_law(CR CP:iF)(n:Nat):ag->M B6:=
 (zw (bw (Bp [] (.tp [1,2,3,4]) (fL (c9) (aa (fL (bh) (aa (ae 0) (aa (fC (.int 0)) aw))) aw)))
  (bw (aQ [] 5 (fL (cQ) (aa (ae 0) (aa (ae 1) (aa (ae 2) aw)))))
  (bw (aQ [] 6 (fL (newR CR (az)) (aa (f2 ixD (ae 5) (fC (.int 0))) aw)))
  (bw (uG CR CP n)
  (bw (aQ [] 7 (fL (de) (aa (ae 0) (aa (ae 1) (aa (ae 4) aw)))))
  (bw (aQ [] 8 (fL (eK CR CP n) (aa (ae 6) (aa (fL fX (aa (ae 7) aw)) (aa (fL bj aw) (aa (ae 3) aw))))))
  (bw (iM [] (gF jl (aa (fC (.int 12)) aw)) (.nm 9) (uL CR CP n))
  (bw (yS CR CP n)
  (bw (aQ [] 12 (fL (cR) (aa (ae 8) (aa (fL (bh) (aa (ae 0) (aa (fC (.int 62)) aw))) aw))))
  (bw (uF CR CP n)
  (bw (yR)
  (vB 8 13 (fL C4 (aa (bD (jL (ae 8)) [e_,e_] (.tp [0,1]) gp (fL cq (aa (ae 0) (aa (fL fX (aa (ae 1) aw)) aw)))) aw)) (f2 eqKD (fL (eK CR CP n) (aa (ae 6) (aa (fL fX (aa (ae 7) aw)) (aa (fL bj aw) (aa (ae 3) aw))))) (ae 13)))))))))))))))
def m_law(CR CP:iF)(n:Nat):List A'->M A':=bJ 14 1 (g_law CR CP n)
noncomputable def top(i:Nat):G6:=QG.main.body.getD i (.Pass ⟨0,0,0,0⟩)
abbrev vz:G6:=top 43
abbrev xU:G6:=top 42
abbrev tB:G6:=top 44
abbrev tj:G6:=top 37
abbrev s_is_gap:G6:=top 35
abbrev vy:G6:=top 36
abbrev ic:G6:=top 38
abbrev qC:G6:=top 45
abbrev gY:G6:=top 17
abbrev oH:G6:=top 18
abbrev nk:G6:=top 19
abbrev t8:G6:=top 20
abbrev kI:G6:=inClass (top 39) 2
abbrev lu:G6:=inClass (top 40) 1
abbrev vv:G6:=top 23
abbrev mh:G6:=top 24
abbrev nv:G6:=top 25
abbrev t9:G6:=top 15
abbrev qB:G6:=top 27
abbrev tw:G6:=top 28
abbrev gZ:G6:=inClass (top 39) 1
abbrev tf:G6:=top 11
abbrev lj:G6:=top 8
abbrev xQ:G6:=top 9
abbrev vw:G6:=top 13
abbrev xR:G6:=top 6
abbrev tG:G6:=inClass (top 39) 3
abbrev vA:G6:=inClass (top 40) 2
abbrev nq:G6:=top 12
abbrev qA:G6:=top 14
abbrev oF:G6:=top 26
abbrev Bm:G6:=top 29
abbrev tE:G6:=top 51
abbrev xS:G6:=top 46
abbrev oG:G6:=top 30
abbrev Bo:G6:=top 31
abbrev xT:G6:=top 48
abbrev oI:G6:=top 47
abbrev mj:G6:=top 49
abbrev mi:G6:=top 50
abbrev s_law:G6:=top 52
abbrev s_nR:G6:=inClass (top 39) 0
abbrev s_nP:G6:=inClass (top 40) 0
structure Zs(K:Pn)(mg:Ld)(CR CP:iF):Prop where
 kR:Kls K mg "Rules" CR
 kP:Kls K mg "Pair" CP
 iT:∀C∈[CR,CP],Cls K C/\jj K C "gaps"
 sd:∀C∈[CP],Cls K C/\jj K C "beside"
 z_abs:mg "abs"=e_
 Cw:mg "all"=e_
 z_bool:mg "bool"=e_
 Cv:mg "dict"=e_
 iK:mg "enumerate"=e_
 z_int:mg "int"=e_
 jo:mg "isinstance"=e_
 ik:mg "len"=e_
 kq:mg "list"=e_
 xG:mg "max"=e_
 z_min:mg "min"=e_
 bR:mg "range"=e_
 gX:mg "sorted"=e_
 z_sum:mg "sum"=e_
 i7:mg "tuple"=e_
 z_zip:mg "zip"=e_
 qO:∃t,mg "GREATEST_GAP"=a_ (.int 1000000 t)
 wD:∃t,mg "MOST_KINDS"=a_ (.int 6 t)
 wC:∃t,mg "MOST_PLANS"=a_ (.int 5000 t)
 kit:Kit K
 wZ:∃f fd,Def K mg "_law_sizes" vz ["_law_cell_here"] f fd
 yM:∃f fd,Def K mg "_law_cell" xU ["_law_script","_law_k"] f fd
 uA:∃f fd,Def K mg "_law_tables" tB ["_law_script","_law_kinds","_law_strips"] f fd
 uy:∃f fd,Def K mg "copied_rows" tj ["rows"] f fd
 d_is_gap:∃f fd,Def K mg "is_gap" s_is_gap ["number"] f fd
 wY:∃f fd,Def K mg "is_gap_row" vy ["row","kinds"] f fd
 qT:∃f fd,Def K mg "checked_rows" ic ["rows"] f fd
 qU:∃f fd,Def K mg "_law_flights" qC ["_law_script","_law_kinds","_law_many"] f fd
 bG:∃f fd,Def K mg "choices_of" gY ["pool","size"] f fd
 pV:∃f fd,Def K mg "beginnings_of" oH ["many","shift","size"] f fd
 nI:∃f fd,Def K mg "smaller_by_one" nk ["some"] f fd
 ur:∃f fd,Def K mg "many_orders" t8 ["many","shift"] f fd
 wW:∃f fd,Def K mg "many_plans" vv ["rules","many","shift"] f fd
 mG:∃f fd,Def K mg "refuse_too_many" mh ["rules","flights","shift"] f fd
 nK:∃f fd,Def K mg "all_beginnings" nv ["many","shift"] f fd
 uw:∃f fd,Def K mg "is_no_worse" t9 ["one","other"] f fd
 qS:∃f fd,Def K mg "has_no_worse" qB ["labels","label"] f fd
 uz:∃f fd,Def K mg "best_labels" tw ["labels"] f fd
 ux:∃f fd,Def K mg "first_label" tf ["rules"] f fd
 lV:∃f fd,Def K mg "joined_stretches" lj ["closed"] f fd
 yI:∃f fd,Def K mg "next_open" xQ ["closed","time"] f fd
 wX:∃f fd,Def K mg "lasts_with" vw ["lasts","spot","time"] f fd
 yJ:∃f fd,Def K mg "late_cost" xR ["flight","time"] f fd
 nJ:∃f fd,Def K mg "last_gap_times" nq ["rules","lasts","spot"] f fd
 qR:∃f fd,Def K mg "label_behind" qA ["rules","flights","closed","label","flight","strip"] f fd
 pS:∃f fd,Def K mg "labels_behind" oF ["rules","flights","closed","paper","some"] f fd
 C6:∃f fd,Def K mg "paper_of" Bm ["rules","flights","closed","shift"] f fd
 uB:∃f fd,Def K mg "_law_needed" tE ["_law_paper","_law_cell_here"] f fd
 yK:∃f fd,Def K mg "_law_plan" xS ["_law_cell_here","_law_many","_law_shift","_law_strips"] f fd
 pU:∃f fd,Def K mg "is_right_list" oG ["rules","flights","closed","paper","some"] f fd
 C7:∃f fd,Def K mg "is_paper" Bo ["rules","flights","closed","shift","paper"] f fd
 yL:∃f fd,Def K mg "_law_ends" xT ["_law_tables_here","_law_flights_here","_law_plan_here"] f fd
 pW:∃f fd,Def K mg "_law_no_worse" oI ["_law_one","_law_other"] f fd
 mI:∃f fd,Def K mg "_law_list_right" mj ["_law_rules","_law_flights_here","_law_paper","_law_some"] f fd
 mH:∃f fd,Def K mg "_law_plan_right" mi ["_law_rules","_law_tables_here","_law_flights_here","_law_paper","_law_plan_here","_law_at"] f fd
 d_law:∃f fd,Def K mg "law" s_law ["_law_script"] f fd/\∀(s:k_) (v:h_),MW s fd ⟨[v],[]⟩ [("_law_script",v)]
 m_M_R_many_strips:∃f fd,Mth K CR "many_strips" "Rules.many_strips" kI ["self"] f fd
 m_M_P_many_strips:∃f fd,Mth K CP "many_strips" "Pair.many_strips" lu ["self"] f fd
 m_M_R_many_kinds:∃f fd,Mth K CR "many_kinds" "Rules.many_kinds" gZ ["self"] f fd
 m_M_P_many_kinds:∃f fd,Mth K CP "many_kinds" "Rules.many_kinds" gZ ["self"] f fd
 m_M_R_apart:∃f fd,Mth K CR "apart" "Rules.apart" tG ["self","one","other"] f fd
 m_M_P_apart:∃f fd,Mth K CP "apart" "Pair.apart" vA ["self","one","other"] f fd
 n_R:∃f fd,Mth K CR "__init__" "Rules.__init__" s_nR ["self","gaps"] f fd/\Stat K CR (.type "type") "__init__" f
 n_P:∃f fd,Mth K CP "__init__" "Pair.__init__" s_nP ["self","gaps","beside"] f fd
 ne:CR≠CP
noncomputable abbrev Zq(_:Nat)(_:GD)(_:Hw)(_:Gu):=Zs
def putGB(a b:V):uV ("beside":Gf) b [(("gaps":Gf),a)]=[(("gaps":Gf),a),(("beside":Gf),b)]:=by rfl
section
variable{P:GD}{base:Gu}{K:Pn}{CR:iF}(Z:Zq n P w base K mg CR CP)
include Z
def tO:YO Z.wZ P w base 1 c_ (c9):=
 fY ["_law_cell_here","_law_great","_law_strips","_law_shift","_law_few"] λz B I=>(by refine aj (O':=[]) ?_ ?_;exact(bV B (bg c_int Z.z_int Ng (da1 (sF (DH I.units) (aF gz (aF mS (ah 0) ai) ai) ai))));refine aj (O':=[]) ?_ ?_;exact(bV B (ao (aF cG ai (aF gz (ah 0) ai))));refine aj (O':=[]) ?_ ?_;exact(bV B (aR d6 (ao (bp (da2 (ao (aF cG ai (aF gz (aF mS (ah 0) ai) ai))) (aF gz (aF mS (ah 0) ai) ai)))) (aF nG (ah 2) ai)));refine aj (O':=[]) ?_ ?_;refine ui (i:=4) (own:=c_) ?_ ?_;exact B;refine ao ?_;refine bp ?_;refine aH ?_ ?_;refine ao ?_;refine bp ?_;refine aH ?_ ?_;refine ao ?_;refine bp ?_;refine aH ?_ ?_;exact ai;refine aH ?_ ?_;exact ai;refine aH ?_ ?_;exact ai;refine aH ?_ ?_;exact ai;exact ba;refine aH ?_ ?_;refine ao ?_;refine bp ?_;refine aH ?_ ?_;exact ai;refine aH ?_ ?_;exact ai;refine aH ?_ ?_;exact ai;refine aH ?_ ?_;exact ai;exact ba;exact ba;refine aH ?_ ?_;refine ao ?_;refine bp ?_;refine aH ?_ ?_;refine ao ?_;refine bp ?_;refine aH ?_ ?_;exact ai;refine aH ?_ ?_;exact ai;refine aH ?_ ?_;exact ai;refine aH ?_ ?_;exact ai;exact ba;refine aH ?_ ?_;refine ao ?_;refine bp ?_;refine aH ?_ ?_;exact ai;refine aH ?_ ?_;exact ai;refine aH ?_ ?_;exact ai;refine aH ?_ ?_;exact ai;exact ba;exact ba;exact ba;exact(au (aG (dQ (da4 (aF nG ai (ah 1)) (ah 2) (ah 3) (aR d6 (aR d6 (aR d6 (ah 4) (aF nG (ah 2) ai)) (ah 1)) (ah 3)))))))
def dA:YO Z.yM P w base 1 c_ (bh):=
 fY ["_law_script","_law_k"] λz I B=>(aj (d9 (bz o_lt (ah 1) (aA j3 Z.ik Gg (da1 (ah 0)))) (au (aG (aR d6 (ah 0) (ah 1)))) bL) (aj (d9 (bz (DH B.units) (ah 0) (ao (bp ba))) (au (aG ai)) bL) (au (aG (ao (aF cG (aF ki (aR d6 (ah 0) (aF gz (ah 1) (aA j3 Z.ik Gg (da1 (ah 0))))) ai) (aF ki (aF ki (ah 1) (ah 1)) ai)))))))
def qK:YO Z.uA P w base 2 c_ (cQ):=
 fY ["_law_script","_law_kinds","_law_strips","_law_tables_here","_law_side","_law_rows","_law_one"] λz B I=>(aj (mE B (bp ba)) (aj (bO (pt:=.nm 4) (cK Z.bR (da1 (ah 2))) (ig B) (aj (mE B (bp ba)) (cg (O2:=[3,5]) (aj (bO (pt:=.nm 6) (cK Z.bR (da1 (ah 1))) (ig B) (au (iV (i:=5) (ao (bP ["_law_other","_law_script","_law_side","_law_one"] [e_,a_ 0,a_ 4,a_ 6] (cK Z.bR (da1 (ah 1))) (λ_ _ _ _ _=>dq dkK) (aK rfl) (λ_ _ _ _ _=>c5) (λ_ _ _ _ _=>(aF gz (dY (dA Z) I (da2 (ah 1) (ao (aF cG (ao (aF cG (ao (aF cG ai (aF ki ai (ah 2)))) (aF ki ai (ah 3)))) (ah 0))))) ai))))))) (cg (O2:=[3]) (au (iV (i:=3) (ah 5)))))))) (cg (O2:=[]) (au (aG (ah 3))))))
def qI:YO Z.uy P w base 1 c_ (fV):=
 fY ["rows"] λz B I=>(au (aG (ao (bP ["row"] [e_] (bX (ah 0)) (λ_ _ _ _ _=>dq dkK) (aK rfl) (λ_ _ _ _ _=>c5) (λ_ _ _ _ _=>(ao (bg qi Z.kq GU (da1 (ah 0)))))))))
def DB:YO Z.d_is_gap P w base 1 c_ (jZ):=
 fY ["number"] λz B I=>(aj (d9 (PW.pt (dw_or (sD (kD (C5 Z.kit Z.jo Z.z_int (ah 0)))) (dw_or1 (kD (yF Z.kit Z.jo Z.z_bool (ah 0)))))) (au (aG gd)) bL) (au (aG (de_chain o_le o_le ai (ah 0) (yG Z.qO)))))
theorem tM:YO Z.wY P w base 2 c_ (dB):=
 fY ["row","kinds"] λz I B=>(au (aG (de_and (yE Z.kit Z.jo Z.kq (ah 0)) (de_and (sF (DH B.units) (aA j3 Z.ik Gg (da1 (ah 0))) (ah 1)) (de_one (aA (Fm rfl) Z.Cw Ov (da1 (ao (bP ["number"] [e_] (bX (ah 0)) (λ_ _ _ _ _=>dq aV) (aK rfl) (λ_ _ _ _ _=>c5) (λ_ _ _ _ _=>(dY (DB Z) B (da1 (ah 0)))))))))))))
def jB:YO Z.qT P w base 3 c_ (az):=
 fY ["rows","kinds"] λz I B=>(aj (bV I (aA j3 Z.ik Gg (da1 (ah 0)))) (aj (d9 (sD (Ay o_le o_le ai (ah 1) (yG Z.wD))) (au EM) bL) (aj (d9 (sD (kD (aA (Fm rfl) Z.Cw Ov (da1 (ao (bP ["row","kinds"] [e_,a_ 1] (bX (ah 0)) (λ_ _ _ _ _=>dq dkK) (aK rfl) (λ_ _ _ _ _=>c5) (λ_ _ _ _ _=>(dY (tM Z) B (da2 (ah 0) (ah 1)))))))))) (au EM) bL) (au (aG (dY (qI Z) B (da1 (ah 0))))))))
end
def sc_nR:j6 ["self","gaps"] ["self","gaps"] (aS s_nR):=⟨rfl,rfl,rfl,by decide +kernel,rfl,by decide +kernel,by decide +kernel⟩
theorem okn_R{P : GD}{w : Hw}{K : Pn}{mg : Gf -> Option h_}{base : Gu}{C U f : iF}{Y fd : IG}(J : Def K mg "checked_rows" ic ["rows"] U Y)(k : jk P w K mg base CX0 3 U Y ["rows"] (spF K c_ (az) 1))(N : Fun K "__init__" "Rules.__init__" s_nR f fd)(j : Cls K C)(na : jj K C "gaps"): jk P w K mg base CX0 4 f fd ["self", "gaps"] (spI1 K C (az)) := by
  refine N.okX sc_nR (λvs H Q E h => ?_) (λcdv A outer s H vs Q E g h => ?_)
  · obtain⟨p,dx,v,F,d,rfl,_⟩ := h
    rfl
  · obtain⟨p,dx,v,F,d,rfl,i,l,s1,b,q⟩ := h
    refine⟨_,jy (ps_fld (pv 0) (yg k g (by rfl) J.mg J.fn.kp J.bd .nil vR (bT (pv 1) eG)) rfl),?_⟩
    refine⟨v,rfl,F,[d],s1,⟨v,[],rfl,b,rfl⟩,rfl,?_⟩
    skip;cases S : az [d]with
    | error e => rw[S]at q; exact q| ok r =>
      rw[S]at q;intro u F' H' st a;have I : F' p = e_ := by
        cases hz : F' p with
        | none => rfl| some o =>
          rcases st.nw p o hz with z | z
          · simp_all
          simp_all
      refine⟨_,rfl,p,C,dx,[],rfl,st.hh _ _ i,j,na,am,?_⟩
      refine q u F' _ st.ff (λc o e => ?_) I st.nw (λc o e B => by rw[ax B]; exact st.hh _ _ e) av a;have B : c ≠ p :=λz => by simp_all
      rw[ax B];exact st.fh _ _ e
def sc_nP:j6 ["self","gaps","beside"] ["self","gaps","beside"] (aS s_nP):=⟨rfl,rfl,rfl,by decide +kernel,rfl,by decide +kernel,by decide +kernel⟩
def okn_P{P:GD}{K:Pn}{base:Gu}{CR:iF}{O f L:iF}{R fd U:IG}{mc:h_}(m:Def K mg "checked_rows" ic ["rows"] O R)(OK:jk P w K mg base CX0 3 O R ["rows"] (spF K c_ (az) 1))(S:Stat K CR mc "__init__" L)(bI:Binds K U ["self","gaps"] [])(FI:jk P w K mg base CX0 4 L U ["self","gaps"] (spI1 K CP (az)))(mR:mg "Rules"=a_ (.ref CR))(n:mg "len"=e_)(N:Fun K "__init__" "Pair.__init__" s_nP f fd)(l:Cls K CP)(na:jj K CP "gaps")(nb:jj K CP "beside"):jk P w K mg base CX0 5 f fd ["self","gaps","beside"] (spI2 K CP (az)):=by
 refine N.okX sc_nP (λvs H Q E h=>?_) (λcdv A outer s H vs Q E C h=>?_)
 .obtain⟨p,dx,v,g,F,d,k,rfl,_⟩:=h;rfl
 .obtain⟨p,dx,v,g,F,d,k,rfl,hp,hF,s1,qd,j,q⟩:=h;refine⟨_,bB (kJ (pe_cmeth S (by rfl) mR FI C bI .nil vR (bT (pv 0) (bT (pv 1) eG))))
   (bB (ps_fld (pv 0) (yg OK (C.mono as) (by rfl) m.mg m.fn.kp m.bd .nil vR (bT (pv 2) eG)) rfl)
   (jy (ps_if (Dl op_ne (lE jR (by rfl) n Gg (bT (Dw (pv 0) rfl) eG)) (lE jR (by rfl) n Gg (bT (Dw (pv 0) rfl) eG)) (DM _)) Dm ye))),?_⟩
  refine⟨_,rfl,_,rfl,p,dx,v,F,d,rfl,hp,hF,s1,qd,?_⟩
  cases D:az [d]with
  |error e=>rw[D]at q;exact q|ok r=>
   rw[D,af]at q;intro u F1 H1 Z a2 a3 a4 X W T;refine⟨g,rfl,F1,[k],a2,⟨g,[],rfl,bf.mono Z j,rfl⟩,rfl,?_⟩
   skip;cases J:az [k]with
   |error e=>rw[J]at q;exact Gh q|ok x=>
    rw[J,af]at q;intro t a H2 st y;by_cases I:twoL r x=d_
    .rw[p_ I]at q;have B:a p=e_:=by
      cases hz:a p with
      |none=>rfl|some o=>
       rcases st.nw p o hz with z|z
       .rw[a3]at z;cases z
       .rw[W]at z;cases z
     refine⟨_,rfl,p,CP,dx,_,rfl,st.hh _ _ W,l,nb,(by show 1<1000;decide),?_⟩
     rw[putGB];have i:aX a (upd H2 p (.ins CP dx [("gaps",u),("beside",t)])):=λc o e=>by
      have Y:c≠p:=λz=>by rw[z,B]at e;cases e
      rw[ax Y];exact st.fh _ _ e
     cases r with
     |lst xs=>
      cases x with
      |lst ys=>
       have hl:xs.length=ys.length:=Mv I;obtain⟨g1,xs1,e1,t1,z1⟩:=bf.mono st.ff T;obtain⟨g2,xs2,e2,t2,z2⟩:=id y;refine⟨_,rfl,p,CP,dx,_,_,rfl,av,l,nb,rfl,g2,_,by rw[e2],.inl (i.lst t2),_,rfl,p,CP,dx,_,_,rfl,av,l,na,rfl,g1,_,by rw[e1],.inl (i.lst t1),rfl,_,rfl,?_⟩
       refine iteNS (by rw[z1.length,z2.length,hl]) ?_;refine q u t a _ (Z.trans st.ff) i B (λb o e=>?_) (λc o e Y=>by rw[ax Y];exact st.hh _ _ (X c o e Y)) av (bf.mono st.ff T) y;rcases st.nw b o e with z|z
       .exact a4 b o z
       .refine .inr ?_;cases hz:H b with
        |none=>rfl|some o'=>
         by_cases G:b=p
         .subst G;rw[B]at e;cases e
         .rw[X b o' hz G]at z;cases z
      |_=>cases I
     |_=>cases I
    .rw[q_ I]at q;exact Gh q
section
variable{P:GD}{base:Gu}{K:Pn}{CR:iF}(Z:Zq n P w base K mg CR CP)
include Z
def oV:YO Z.qU P w base 2 c_ (de):=
 fY ["_law_script","_law_kinds","_law_many","_law_flights_here","_law_k","_law_cells","_law_first","_law_last"] λz B I=>(aj (mE B (bp ba)) (aj (bO (pt:=.nm 4) (cK Z.bR (da1 (ah 2))) (ig B) (aj (Az (i:=5) c_ ["_law_j","_law_script","_law_k"] [e_,a_ 0,a_ 4] B (cK Z.bR (da1 ai)) (λ_ _ _ _ _=>dq dkK) (aK rfl) (λ_ _ _ _ _=>c5) (λ_ _ _ _ _=>(dY (dA Z) I (da2 (ah 1) (ao (aF cG (ao (aF cG ai (aF ki ai (ah 2)))) (ah 0))))))) (aj (bV B (ao (aF cG (aF ki ai (ah 4)) (aF gz (aF mS (aR d6 (ah 5) ai) (ah 1)) ai)))) (aj (bV B (ao (aF cG (ah 6) (aF gz (aR d6 (ah 5) ai) (aR d6 (ao (bp (da4 ai ai ai ai))) (aF gz (aF mS (aR d6 (ah 5) ai) ai) ai)))))) (au (iV (i:=3) (dQ (da5 (aF gz (aR d6 (ah 5) ai) (ah 1)) (ah 6) (ah 7) (ao (aF cG (ah 6) (aF gz (aR d6 (ah 5) ai) ai))) (aF gz (aF mS (aR d6 (ah 5) ai) ai) ai))))))))) (cg (O2:=[]) (au (aG (ah 3))))))
end
def dH:j6 ["pool","size","choices","place","one","rest"] ["pool","size"] (aS gY):=⟨rfl,rfl,rfl,by decide +kernel,rfl,by decide +kernel,by decide +kernel⟩
def qF{P:GD}{K:Pn}{base:Gu}{CR:iF}(Z:Zs K mg CR CP){I:iF}{J:IG}(B:Def K mg "choices_of" gY ["pool","size"] I J){d:Nat}{h:ag->M B6}(S:jk P w K mg base CX0 d I J ["pool","size"] (spF K c_ (bJ 6 2 h) 2)):jk P w K mg base CX0 (d+1) I J ["pool","size"] (spF K c_ (bJ 6 2 (fy (bJ 6 2 h))) 2):=
 fn_D (O':=[]) B.fn dH c_ (fy (bJ 6 2 h)) λcdv A outer s H E U=>
  (aj (d9 (bz (DH U.units) (ah 1) ai)
   (au (aG (ao (bp (aH (dQ ba) ba)))))
   bL)
  (aj (ui (i:=2) (own:=d_) dH.nd (bp ba))
  (aj (bO (pt:=.tp [3,4]) (di_enum Z.iK (ah 0)) (jn rfl (aM (i:=3) dH.nd (aM (i:=4) dH.nd cz)))
   (au (bO (pt:=.nm 5) (bX (EW S U B.mg B.fn.kp B.bd (aH (ao (uq x_sl (ah 0) (iW (ao (aF cG (ah 3) ai))) iX)) (aH (aF nG (ah 1) ai) ba)))) (ig dH.nd)
   (au (iV (i:=2) (ao (aF cG (dQ (aH (ah 4) ba)) (ah 5))))))))
  (cg (O2:=[]) (au (aG (ah 2)))))))
theorem kv{P:GD}{w:Hw}{K:Pn}{mg:Ld}{base:Gu}{CR CP:iF}(Z:Zs K mg CR CP){B:iF}{I:IG}(J:Def K mg "choices_of" gY ["pool","size"] B I):∀d:Nat,jk P w K mg base CX0 d B I ["pool","size"] (spF K c_ (bJ 6 2 (bG d)) 2)
 |0=>fn_stk|d+1=>qF Z J (kv Z J d)
section
variable{P:GD}{base:Gu}{K:Pn}{CR:iF}(Z:Zq n P w base K mg CR CP)
include Z
def tN:YO Z.bG P w base 6 c_ (jC):=let ⟨_,_,D⟩:=Z.bG;⟨_,_,D,(kv Z D 6)⟩
def j9:YO Z.pV P w base 7 d_ (cI):=
 fY ["many","shift","size","sure","free"] λz B I=>(aj (bV B (de_trng1 Z.i7 Z.bR (da1 (aA (yQ rfl) Z.xG ML (da2 ai (aF nG (ah 2) (ah 1))))))) (aj (bV B (ao (de_lrng2 Z.kq Z.bR (da2 (aA j3 Z.ik Gg (da1 (ah 3))) (aA (c_min rfl) Z.z_min boot_min (da2 (ah 0) (ao (aF cG (ah 2) (ah 1))))))))) (au (aG (bP ["some","sure"] [e_,a_ 3] (bX (dY (tN Z) I (da2 (ah 4) (aF nG (ah 2) (aA j3 Z.ik Gg (da1 (ah 3))))))) (λ_ _ _ _ _=>dq dkK) (aK rfl) (λ_ _ _ _ _=>c5) (λ_ _ _ _ _=>(ao (aF cG (ah 1) (ah 0)))))))))
def il:YO Z.nI P w base 1 c_ (cv):=
 fY ["some"] λz B I=>(au (aG (ao (bP ["place","flight","some"] [e_,e_,a_ 0] (uk Z.iK (ah 0)) (λ_ _ _ _ _=>jn rfl (dm (i:=0) dkK (dm (i:=1) dkK cz))) (jE as) (λ_ _ _ _ _=>c5) (λ_ _ _ _ _=>(dQ (da2 (ao (aF cG (ao (uq x_sl (ah 2) iX (iW (ah 0)))) (ao (uq x_sl (ah 2) (iW (ao (aF cG (ah 0) ai))) iX)))) (ah 1))))))))
def qG:YO Z.ur P w base 8 c_ (aD):=
 fY ["many","shift","counts","size","grown","some"] λz B I=>(aj (bV B (ao (de_disp1 I.units (dQ ba) ai))) (aj (bO (pt:=.nm 3) (di_rng2 Z.bR (da2 ai (ao (aF cG (ah 0) ai)))) (ig B) (aj (mE B EU) (aj (bO (pt:=.nm 5) (bX (ao (dY (j9 Z) I (da3 (ah 0) (ah 1) (ah 3))))) (ig B) (au (ds_putD (i:=4) I.units (ah 5) (aA (c_sum rfl) Z.z_sum boot_sum (da1 (ao (bP ["smaller","flight","counts"] [e_,e_,a_ 2] (bX (dY (il Z) I (da1 (ah 5)))) (λ_ _ _ _ _=>jn rfl (dm (i:=0) dkK (dm (i:=1) dkK cz))) (jE as) (λ_ _ _ _ _=>c5) (λ_ _ _ _ _=>(yH I.units (ah 2) (ah 0) ai))))))))) (cg (O2:=[]) (au (bV B (ah 4))))))) (au (aG (de_sumV rfl Z.z_sum (ah 2))))))
def cO:YM Z.m_M_R_many_strips P w mg base 1 c_ (aU):=
 fM ["self"] λz B I=>(au (aG ai))
def cP:YM Z.m_M_P_many_strips P w mg base 1 c_ (b9):=
 fM ["self"] λz B I=>(au (aG ai))
def tK:YO Z.wW P w base 9 c_ (hV CR CP n):=
 fY ["rules","many","shift","plans","flight"] λz J S=>let ⟨_,_,U,I⟩:=cP Z;let ⟨_,_,Y,B⟩:=cO Z;(aj (bV J (dY (qG Z) S (da2 (ah 1) (ah 2)))) (aj (bO (pt:=.nm 4) (cK Z.bR (da1 (ah 1))) (ig J) (au (bV J (aF ki (ah 3) (jP Z.kR.cl Y.mt B (S.mono as) Y.bd Z.kP.cl U.mt I (S.mono as) U.bd (ah 0)))))) (au (aG (ah 3)))))
def hU:YO Z.mG P w base 10 c_ (bY CR CP n):=
 fY ["rules","flights","shift"] λz I B=>(au (d9 (bz o_gt (dY (tK Z) B (da3 (ah 0) (aA j3 Z.ik Gg (da1 (ah 1))) (ah 2))) (yG Z.wC)) (au EM) bL))
def ip:YO Z.nK P w base 8 c_ (cw):=
 fY ["many","shift","beginnings","size"] λz B I=>(aj (mE B (bp ba)) (aj (bO (pt:=.nm 3) (cK Z.bR (da1 (ao (aF cG (ah 0) ai)))) (ig B) (au (ds_ext (i:=2) (dY (j9 Z) I (da3 (ah 0) (ah 1) (ah 3)))))) (cg (O2:=[]) (au (aG (ah 2))))))
def qH:YO Z.uw P w base 1 c_ (cb):=
 fY ["one","other","row","bounds","last","bound"] λz B I=>(aj (d9 (bz o_gt (aR d6 (ah 0) ai) (aR d6 (ah 1) ai)) (au (aG gd)) bL) (aj (bO (pt:=.tp [2,3]) (yC Z.z_zip (aR d6 (ah 0) ai) (aR d6 (ah 1) ai)) (jn rfl (aM (i:=2) B (aM (i:=3) B cz))) (au (bO (pt:=.tp [4,5]) (yC Z.z_zip (ah 2) (ah 3)) (jn rfl (aM (i:=4) B (aM (i:=5) B cz))) (au (d9 (bz o_gt (ah 4) (ah 5)) (au (aG gd)) bL))))) (au (aG gd))))
def jA:YO Z.qS P w base 2 c_ (bq):=
 fY ["labels","label","one"] λz B I=>(aj (bO (pt:=.nm 2) (ET (ah 0)) (ig B) (au (d9 (kD (dY (qH Z) I (da2 (ah 2) (ah 1)))) (au (aG gd)) bL))) (au (aG gd)))
def qJ:YO Z.uz P w base 3 c_ (fW):=
 fY ["labels","best","label"] λz B I=>(aj (mE B (bp ba)) (aj (bO (pt:=.nm 2) (bX (ao (aA (xk I.units) Z.gX J4 (da1 (ah 0))))) (ig B) (au (d9 (sD (kD (dY (jA Z) I (da2 (ah 1) (ah 2))))) (au (iV (i:=1) (ah 2))) bL))) (cg (O2:=[]) (au (aG (ah 1))))))
def nE:YM Z.m_M_R_many_kinds P w mg base 1 c_ (aZ CR CP n):=
 fM ["self"] λz B I=>(au (aG (aA j3 Z.ik Gg (da1 (wV (Cs:=[CR,CP]) Z.iT (ah 0))))))
def nF:YM Z.m_M_P_many_kinds P w mg base 1 c_ (aZ CR CP n):=
 fM ["self"] λz B I=>(au (aG (aA j3 Z.ik Gg (da1 (wV (Cs:=[CR,CP]) Z.iT (ah 0))))))
def ky:YO Z.ux P w base 2 c_ (fU CR CP n):=
 fY ["rules","row"] λz d U=>let ⟨_,_,Y,S⟩:=nF Z;let ⟨_,_,b,I⟩:=cP Z;let ⟨_,_,a,J⟩:=nE Z;let ⟨_,_,c,B⟩:=cO Z;(aj (bV d (bg iZ Z.i7 GA (da1 (ao (bP ["kind"] [e_] (cK Z.bR (da1 (jP Z.kR.cl a.mt J U a.bd Z.kP.cl Y.mt S U Y.bd (ah 0)))) (λ_ _ _ _ _=>dq dkK) (aK rfl) (λ_ _ _ _ _=>c5) (λ_ _ _ _ _=>(yD yk ai))))))) (au (aG (dQ (da2 ai (bg iZ Z.i7 GA (da1 (ao (bP ["strip","row"] [e_,a_ 1] (cK Z.bR (da1 (jP Z.kR.cl c.mt B U c.bd Z.kP.cl b.mt I U b.bd (ah 0)))) (λ_ _ _ _ _=>dq dkK) (aK rfl) (λ_ _ _ _ _=>c5) (λ_ _ _ _ _=>(ah 1)))))))))))
def kM:YO Z.lV P w base 1 c_ (dK):=
 fY ["closed","joined","start","stop"] λz B I=>(aj (mE B (bp ba)) (aj (bO (pt:=.tp [2,3]) (bX (ao (aA qh Z.gX J4 (da1 (ah 0))))) (jn rfl (aM (i:=2) B (aM (i:=3) B cz))) (au (d9 (PW.pt (sC (kD (ah 1)) (pN (bz o_le (ah 2) (aR d6 (aR d6 (ah 1) (yD yk ai)) ai))))) (au (ds_setI (i:=1) (dQ (da2 (aR d6 (aR d6 (ah 1) (yD yk ai)) ai) (aA (yQ rfl) Z.xG ML (da2 (ah 3) (aR d6 (aR d6 (ah 1) (yD yk ai)) ai))))) (yD yk ai))) (au (iV (i:=1) (dQ (da2 (ah 2) (ah 3)))))))) (cg (O2:=[]) (au (aG (ah 1))))))
def vV:YO Z.yI P w base 2 c_ (gA):=
 fY ["closed","time","start","stop"] λz B I=>(aj (bO (pt:=.tp [2,3]) (bX (dY (kM Z) I (da1 (ah 0)))) (jn rfl (aM (i:=2) B (aM (i:=3) B cz))) (au (d9 (Ay o_le o_lt (ah 2) (ah 1) (ah 3)) (au (aG (ah 3))) bL))) (au (aG (ah 1))))
theorem tL:YO Z.wX P w base 1 c_ (hZ):=
 fY ["lasts","spot","time","rows"] λz B I=>(ds_rows (i:=3) ["row"] [e_] B (bX (ah 0)) (λ_ _ _ _ _=>dq aV) (aK rfl) (λ_ _ _ _ _=>c5) (λ_ _ _ _ _=>(bg qi Z.kq GU (da1 (ah 0)))) E5 (ah 2) (aR d6 (ah 1) ai) (aR d6 (ah 1) ai) (au (aG (bg iZ Z.i7 GA (da1 (ao (bP ["row"] [e_] (bX (ah 3)) (λ_ _ _ _ _=>dq aV) (aK rfl) (λ_ _ _ _ _=>c5) (λ_ _ _ _ _=>(bg iZ Z.i7 GA (da1 (ah 0)))))))))))
def vW:YO Z.yJ P w base 1 c_ (iO):=
 fY ["flight","time","due","price"] λz B I=>(aj (bV B (aR d6 (ah 0) ai)) (aj (bV B (aR d6 (ah 0) ai)) (au (aG (aF ki (ah 3) (aA (yQ rfl) Z.xG ML (da2 ai (aF nG (ah 1) (ah 2)))))))))
def yi:YM Z.m_M_R_apart P w mg base 1 c_ (dM CR CP n):=
 fM ["self","one","other"] λz B I=>(au (aG (aR d6 (aR d6 (wV (Cs:=[CR,CP]) Z.iT (ah 0)) (aR d6 (ah 1) ai)) (aR d6 (ah 2) ai))))
def yj:YM Z.m_M_P_apart P w mg base 1 c_ (dC CR CP n):=
 fM ["self","one","other","rows"] λz B I=>(aj (bV B (de_ite (bz (DH I.units) (aR d6 (ah 1) ai) (aR d6 (ah 2) ai)) (wV (Cs:=[CR,CP]) Z.iT (ah 0)) (wV (Cs:=[CP]) Z.sd (ah 0)))) (au (aG (aR d6 (aR d6 (ah 3) (aR d6 (ah 1) ai)) (aR d6 (ah 2) ai)))))
def mr:YO Z.nJ P w base 2 c_ (du CR CP n):=
 fY ["rules","lasts","spot","times","strip","row","kind","last"] λz J S=>let ⟨_,_,U,I⟩:=yj Z;let ⟨_,_,Y,B⟩:=yi Z;(aj (mE J (bp ba)) (aj (bO (pt:=.tp [4,5]) (uk Z.iK (ah 1)) (jn rfl (aM (i:=4) J (aM (i:=5) J cz))) (au (bO (pt:=.tp [6,7]) (uk Z.iK (ah 5)) (jn rfl (aM (i:=6) J (aM (i:=7) J cz))) (au (d9 (bz (o_ne S.units) (ah 7) (yD yk ai)) (au (iV (i:=3) (ao (aF cG (ah 7) (de_meth2 Z.kR.cl Y.mt B S Y.bd Z.kP.cl U.mt I S U.bd (ah 0) (da2 (dQ (da2 (ah 6) (ah 4))) (ah 2))))))) bL))))) (cg (O2:=[]) (au (aG (ah 3))))))
def jz:YO Z.qR P w base 3 c_ (bU CR CP n):=
 fY ["rules","flights","closed","label","flight","strip","told","spot","time"] λz I B=>(aj (bV I (aR d6 (ah 1) (ah 4))) (aj (bV I (dQ (da2 (aR d6 (ah 6) ai) (ah 5)))) (aj (bV I (dY (vV Z) B (da2 (ah 2) (aA (yQ rfl) Z.xG ML (da1 (ao (aF cG (ao (bp (da1 (aR d6 (ah 6) ai)))) (dY (mr Z) B (da3 (ah 0) (aR d6 (ah 3) ai) (ah 7)))))))))) (aj (d9 (bz o_gt (ah 8) (aR d6 (ah 6) ai)) (au (aG AH)) bL) (au (aG (dQ (da2 (ao (aF cG (aR d6 (ah 3) ai) (dY (vW Z) B (da2 (ah 6) (ah 8))))) (dY (tL Z) B (da3 (aR d6 (ah 3) ai) (ah 7) (ah 8)))))))))))
def j8:YO Z.pS P w base 4 c_ (cH CR CP n):=
 fY ["rules","flights","closed","paper","some","found","smaller","flight","label","strip","behind"] λz J S=>let ⟨_,_,U,I⟩:=cP Z;let ⟨_,_,Y,B⟩:=cO Z;(aj (mE J de_newL) (aj (bO (pt:=.tp [6,7]) (bX (dY (il Z) S (da1 (ah 4)))) (jn rfl (aM (i:=6) J (aM (i:=7) J cz))) (au (bO (pt:=.nm 8) (bX (yH S.units (ah 3) (ah 6) (ao (bp ba)))) (ig J) (au (bO (pt:=.nm 9) (cK Z.bR (da1 (jP Z.kR.cl Y.mt B (S.mono as) Y.bd Z.kP.cl U.mt I (S.mono as) U.bd (ah 0)))) (ig J) (aj (bV J (dY (jz Z) S (da6 (ah 0) (ah 1) (ah 2) (ah 8) (ah 7) (ah 9)))) (au (d9 (bz o_notN (ah 10) AH) (au (ds_putT (i:=5) S.units (ah 10) gd)) bL)))))))) (cg (O2:=[]) (au (aG (ah 5))))))
def oT:YO Z.C6 P w base 11 c_ (eK CR CP n):=
 fY ["rules","flights","closed","shift","paper","some"] λz I B=>(aj (EN (own:=c_) (dY (hU Z) B (da3 (ah 0) (ah 1) (ah 3)))) (aj (mE I EU) (aj (bO (pt:=.nm 5) (bX (dY (ip Z) B (da2 (aA j3 Z.ik Gg (da1 (ah 1))) (ah 3)))) (ig I) (au (d9 (bz (DH B.units) (ah 5) (dQ ba)) (au (uj (i:=4) B.units (ah 5) (ao (bp (da1 (dY (ky Z) B (da1 (ah 0)))))))) (au (uj (i:=4) B.units (ah 5) (dY (qJ Z) B (da1 (dY (j8 Z) B (da5 (ah 0) (ah 1) (ah 2) (ah 4) (ah 5)))))))))) (cg (O2:=[]) (au (aG (ah 4)))))))
def qL:YO Z.uB P w base 1 c_ (cR):=
 fY ["_law_paper","_law_cell_here","_law_late","_law_some","_law_at","_law_bent"] λz I B=>(aj (Az (i:=2) c_ ["_law_some","_law_paper"] [e_,a_ 0] I (bX (ao (aA (qg B.units) Z.gX J4 (da1 (ah 0))))) (λ_ _ _ _ _=>dq dkK) (aK rfl) (λ_ _ _ _ _=>mn (PW.pt (sC (bz o_gt (aA j3 Z.ik Gg (da1 (ah 0))) ai) (pN (bz (o_ne B.units) (aR (uY B.units) (ah 1) (ah 0)) (ao (bp ba))))))) (λ_ _ _ _ _=>(ah 0))) (aj (d9 (bz (DH B.units) (ah 2) (ao (bp ba))) (au (aG AH)) bL) (aj (bV I (aR d6 (ah 2) (aF gz (aF gz (aF ki (ah 1) ai) ai) (aA j3 Z.ik Gg (da1 (ah 2)))))) (aj (bV I (aF gz (aF mS (ah 1) ai) (aA j3 Z.ik Gg (da1 (aR (uY B.units) (ah 0) (ah 3)))))) (aj (mE I (bg c_dictC Z.Cv mK (da1 (ah 0)))) (aj (uj (i:=5) B.units (ah 3) (ao (aF cG (ao (uq x_sl (aR (uY B.units) (ah 0) (ah 3)) iX (iW (ah 4)))) (ao (uq x_sl (aR (uY B.units) (ah 0) (ah 3)) (iW (ao (aF cG (ah 4) ai))) iX))))) (cg (O2:=[]) (au (aG (ah 5))))))))))
def vX:YO Z.yK P w base 1 c_ (iP):=
 fY ["_law_cell_here","_law_many","_law_shift","_law_strips","_law_order","_law_number","_law_turn","_law_at","_law_plan_here","_law_flight"] λz B I=>(aj (bV B (ao (de_lrng1 Z.kq Z.bR (da1 (ah 1))))) (aj (bV B (aF gz (aF ki (aF gz (aF ki (ah 0) ai) ai) ai) ai)) (aj (bO (pt:=.nm 6) (cK Z.bR (da1 (aF ki ai (ah 1)))) (ig B) (aj (bV B (aF gz (ah 5) (aA (yQ rfl) Z.xG ML (da2 ai (aF nG (ah 1) ai))))) (aj (bV B (ao (aF cG (aF gz (aF ki (ah 5) ai) ai) (ah 6)))) (au (d9 (PW.pt (sC (bz o_gt (ah 1) ai) (sC (bz o_le (aA c_abs Z.z_abs boot_abs (da1 (aF nG (aF nG (aR d6 (ah 4) (ah 7)) (ah 7)) ai))) (ah 2)) (pN (bz o_le (aA c_abs Z.z_abs boot_abs (da1 (aF nG (aR d6 (ah 4) (ao (aF cG (ah 7) ai))) (ah 7)))) (ah 2)))))) (au (bV B (ao (aF cG (ao (aF cG (ao (uq x_sl (ah 4) iX (iW (ah 7)))) (ao (bp (da2 (aR d6 (ah 4) (ao (aF cG (ah 7) ai))) (aR d6 (ah 4) (ah 7))))))) (ao (uq x_sl (ah 4) (iW (ao (aF cG (ah 7) ai))) iX)))))) bL))))) (aj (mE B (bp ba)) (aj (bO (pt:=.nm 9) (bX (ah 4)) (ig B) (aj (bV B (aF gz (aF ki (ah 5) ai) ai)) (au (iV (i:=8) (dQ (da2 (ah 9) (aF gz (aF mS (ah 5) ai) (ah 3)))))))) (cg (O2:=[]) (au (aG (ah 8)))))))))
def nC:YO Z.pU P w base 5 c_ (bK CR CP n):=
 fY ["rules","flights","closed","paper","some","behind","told"] λz I B=>(aj (d9 (bz (DH B.units) (ah 4) (dQ ba)) (au (aG (sF (DH B.units) (aR (uY B.units) (ah 3) (ah 4)) (ao (bp (da1 (dY (ky Z) B (da1 (ah 0))))))))) bL) (aj (bV I (dY (j8 Z) B (da5 (ah 0) (ah 1) (ah 2) (ah 3) (ah 4)))) (aj (bV I (ao (bg (c_dictLD B.units) Z.Cv mK (da1 (ao (bP ["label"] [e_] (bX (aR (uY B.units) (ah 3) (ah 4))) (λ_ _ _ _ _=>dq dkK) (aK rfl) (λ_ _ _ _ _=>c5) (λ_ _ _ _ _=>(dQ (da2 (ah 0) gd))))))))) (aj (d9 (sD (kD (aA (Fm rfl) Z.Cw Ov (da1 (ao (bP ["label","behind"] [e_,a_ 5] (ET (ah 6)) (λ_ _ _ _ _=>dq dkK) (aK rfl) (λ_ _ _ _ _=>c5) (λ_ _ _ _ _=>(sF (o_inL B.units) (ah 0) (ah 1))))))))) (au (aG gd)) bL) (au (aG (aA (Fm rfl) Z.Cw Ov (da1 (ao (bP ["label","told"] [e_,a_ 6] (ET (ah 5)) (λ_ _ _ _ _=>dq dkK) (aK rfl) (λ_ _ _ _ _=>mn (bz (o_notInL B.units) (ah 0) (ah 1))) (λ_ _ _ _ _=>(dY (jA Z) B (da2 (ah 1) (ah 0))))))))))))))
def oU:YO Z.C7 P w base 11 c_ (iu CR CP n):=
 fY ["rules","flights","closed","shift","paper","beginnings"] λz I B=>(aj (EN (own:=c_) (dY (hU Z) B (da3 (ah 0) (ah 1) (ah 3)))) (aj (bV I (dY (ip Z) B (da2 (aA j3 Z.ik Gg (da1 (ah 1))) (ah 3)))) (aj (d9 (bz (o_ne B.units) (ao (aA (qg B.units) Z.gX J4 (da1 (ah 4)))) (ao (aA (qg B.units) Z.gX J4 (da1 (ah 5))))) (au (aG gd)) bL) (au (aG (aA (Fm rfl) Z.Cw Ov (da1 (ao (bP ["some","rules","flights","closed","paper"] [e_,a_ 0,a_ 1,a_ 2,a_ 4] (bX (ah 5)) (λ_ _ _ _ _=>dq dkK) (aK rfl) (λ_ _ _ _ _=>c5) (λ_ _ _ _ _=>(dY (nC Z) B (da5 (ah 1) (ah 2) (ah 3) (ah 4) (ah 0)))))))))))))
def vY:YO Z.yL P w base 1 c_ (gB):=
 fY ["_law_tables_here","_law_flights_here","_law_plan_here","_law_ends_here","_law_lasts","_law_spots","_law_cost","_law_flight","_law_strip","_law_kind","_law_first","_law_last","_law_due","_law_price","_law_time","_law_other","_law_there","_law_ahead"] λz B I=>(by refine ds_ens (i:=4) (j:=3) (k:=5) (t:=14) (u:=6) (pt:=.tp [7,8]) (pt2:=.tp [9,10,11,12,13]) (pt3:=.tp [15,16,17]) repD_lst ?_;refine bB ?_ ?_;exact(mQ (i:=3) B rfl (.inl rfl) (bp ba));refine bB ?_ ?_;exact(ps_comp (i:=4) ["_law_rows","_law_tables_here"] [e_,a_ 0] B (bX (ah 0)) (λ_ _ _ _ _=>dq dkK) (aK rfl) (λ_ _ _ _ _=>c5) (λ_ _ _ _ _=>(de_rep (bp (da1 (yD yk ai))) (aA j3 Z.ik Gg (da1 (aR d6 (ah 1) ai))))));refine bB ?_ ?_;exact(mQ (i:=5) B rfl (.inl rfl) (bp ba));refine bB ?_ ?_;exact(mQ (i:=6) B rfl (.inl rfl) ai);refine bB ?_ ?_;refine Dn OD rfl ?_ ?_ ?_;exact(bX (ah 2));exact(jn rfl (aM (i:=7) B (aM (i:=8) B cz)));refine bB ?_ ?_;exact(vM (aR d6 (ah 1) (ah 7)) (jn rfl (aM (i:=9) B (aM (i:=10) B (aM (i:=11) B (aM (i:=12) B (aM (i:=13) B cz)))))));refine bB ?_ ?_;exact(mQ (i:=14) B rfl (.inl rfl) (ah 10));refine bB ?_ ?_;refine Dn OD rfl ?_ ?_ ?_;exact(pi_seqD (pv 5));exact(jn rfl (aM (i:=15) B (aM (i:=16) B (aM (i:=17) B cz))));exact(jy (mQ (i:=14) B rfl (.inl rfl) (aA (yQ rfl) Z.xG ML (da2 (ah 14) (ao (aF cG (ah 17) (aR d6 (aR d6 (aR d6 (ah 0) (bg c_int Z.z_int Ng (da1 (sF (o_ne I.units) (ah 16) (ah 8))))) (ah 15)) (ah 9))))))));refine bB ?_ ?_;exact(ps_if (bz o_gt (ah 14) (ah 11)) (jy (zT (pv 3))) ye);refine bB ?_ ?_;exact(kJ (pe_bm JJ JP KO oX (pv 5) (bT (dQ (da3 (ah 9) (ah 8) (ah 14))) eG)));refine bB ?_ ?_;exact(mQ (i:=6) B rfl (.inl rfl) (ao (aF cG (ah 6) (aF ki (ah 13) (aA (yQ rfl) Z.xG ML (da2 ai (aF nG (ah 14) (ah 12))))))));refine bB ?_ ?_;exact(ps_row (i:=4) (ah 14) (ah 8) (ah 9));exact(jy (kJ (pe_bm JJ JP KO oX (pv 3) (bT (dQ (da2 (ah 6) (bg iZ Z.i7 GA (da1 (ao (bP ["_law_row"] [e_] (bX (ah 4)) (λ_ _ _ _ _=>dq dkK) (aK rfl) (λ_ _ _ _ _=>c5) (λ_ _ _ _ _=>(bg iZ Z.i7 GA (da1 (ah 0)))))))))) eG))));exact(jy (zT (pv 3))))
def ja:YO Z.pW P w base 1 c_ (aT):=
 fY ["_law_one","_law_other","_law_mine","_law_theirs"] λz B I=>(aj (d9 (bz o_gt (aR d6 (ah 0) ai) (aR d6 (ah 1) ai)) (au (aG gd)) bL) (aj (bO (pt:=.tp [2,3]) (yC Z.z_zip (aR d6 (ah 0) ai) (aR d6 (ah 1) ai)) (jn rfl (aM (i:=2) B (aM (i:=3) B cz))) (au (d9 (bz (o_ne I.units) (ao (bP ["_law_k","_law_mine","_law_theirs"] [e_,a_ 2,a_ 3] (cK Z.bR (da1 (aA j3 Z.ik Gg (da1 (ah 2))))) (λ_ _ _ _ _=>dq dkK) (aK rfl) (λ_ _ _ _ _=>mn (bz o_gt (aR d6 (ah 1) (ah 0)) (aR d6 (ah 2) (ah 0)))) (λ_ _ _ _ _=>(ah 0)))) (ao (bp ba))) (au (aG gd)) bL))) (au (aG gd))))
def lH:YO Z.mI P w base 4 c_ (bZ CR CP n):=
 fY ["_law_rules","_law_flights_here","_law_paper","_law_some","_law_labels","_law_behind","_law_flight","_law_ahead","_law_label","_law_strip","_law_k"] λz S J=>let ⟨_,_,U,I⟩:=cP Z;let ⟨_,_,Y,B⟩:=cO Z;(aj (bV S (aR (uY J.units) (ah 2) (ah 3))) (aj (d9 (bz (o_ne J.units) (ah 4) (ao (aA (xk J.units) Z.gX J4 (da1 (ah 4))))) (au (aG gd)) bL) (aj (mE S (bp ba)) (aj (bO (pt:=.nm 6) (bX (ah 3)) (ig S) (aj (bV S (bg iZ Z.i7 GA (da1 (ao (bP ["_law_other","_law_flight"] [e_,a_ 6] (bX (ah 3)) (λ_ _ _ _ _=>dq dkK) (aK rfl) (λ_ _ _ _ _=>mn (bz (o_ne J.units) (ah 0) (ah 1))) (λ_ _ _ _ _=>(ah 0))))))) (au (bO (pt:=.nm 8) (bX (yH J.units (ah 2) (ah 7) (ao (bp ba)))) (ig S) (au (bO (pt:=.nm 9) (cK Z.bR (da1 (jP Z.kR.cl Y.mt B (J.mono as) Y.bd Z.kP.cl U.mt I (J.mono as) U.bd (ah 0)))) (ig S) (au (iV (i:=5) (dY (jz Z) J (da6 (ah 0) (ah 1) (ao (bp ba)) (ah 8) (ah 6) (ah 9))))))))))) (cg (O2:=[]) (aj (bO (pt:=.nm 10) (cK Z.bR (da1 (aA j3 Z.ik Gg (da1 (ah 4))))) (ig S) (aj (d9 (bz (o_ne J.units) (ao (bP ["_law_j","_law_labels","_law_k"] [e_,a_ 4,a_ 10] (cK Z.bR (da1 (aA j3 Z.ik Gg (da1 (ah 4))))) (λ_ _ _ _ _=>dq dkK) (aK rfl) (λ_ _ _ _ _=>mn (PW.pt (sC (bz (o_ne J.units) (ah 0) (ah 2)) (pN (kD (dY (ja Z) J (da2 (aR d6 (ah 1) (ah 0)) (aR d6 (ah 1) (ah 2))))))))) (λ_ _ _ _ _=>(ah 0)))) (ao (bp ba))) (au (aG gd)) bL) (au (d9 (bz (o_notIn J.units) (aR d6 (ah 4) (ah 10)) (ah 5)) (au (aG gd)) bL)))) (au (aG gd))))))))
def lG:YO Z.mH P w base 5 c_ (eN CR CP n):=
 fY ["_law_rules","_law_tables_here","_law_flights_here","_law_paper","_law_plan_here","_law_at","_law_ends_here","_law_k","_law_some"] λz I B=>(aj (bV I (dY (vY Z) B (da3 (ah 1) (ah 2) (ah 4)))) (aj (bO (pt:=.nm 7) (cK Z.bR (da1 (aA j3 Z.ik Gg (da1 (ah 6))))) (ig I) (aj (bV I (bg iZ Z.i7 GA (da1 (ao (aA qh Z.gX J4 (da1 (ao (bP ["_law_flight","_law_strip"] [e_,e_] (bX (ao (uq x_sl (ah 4) iX (iW (ao (aF cG (ah 7) ai)))))) (λ_ _ _ _ _=>jn rfl (dm (i:=0) dkK (dm (i:=1) dkK cz))) (jE as) (λ_ _ _ _ _=>c5) (λ_ _ _ _ _=>(ah 0)))))))))) (au (d9 (bz (DH B.units) (ao (bP ["_law_label","_law_ends_here","_law_k"] [e_,a_ 6,a_ 7] (bX (aR (uY B.units) (ah 3) (ah 8))) (λ_ _ _ _ _=>dq dkK) (aK rfl) (λ_ _ _ _ _=>mn (kD (dY (ja Z) B (da2 (ah 0) (aR d6 (ah 1) (ah 2)))))) (λ_ _ _ _ _=>(ah 0)))) (ao (bp ba))) (au (aG gd)) bL)))) (au (aG (dY (lH Z) B (da4 (ah 0) (ah 2) (ah 3) (bg iZ Z.i7 GA (da1 (ao (aA qh Z.gX J4 (da1 (ao (bP ["_law_flight","_law_strip"] [e_,e_] (bX (ao (uq x_sl (ah 4) iX (iW (ah 5))))) (λ_ _ _ _ _=>jn rfl (dm (i:=0) dkK (dm (i:=1) dkK cz))) (jE as) (λ_ _ _ _ _=>c5) (λ_ _ _ _ _=>(ah 0)))))))))))))))
def on_P:∃f fd,Mth K CP "__init__" "Pair.__init__" s_nP ["self","gaps","beside"] f fd/\jk P w K mg base CX0 5 f fd ["self","gaps","beside"] (spI2 K CP (az)):=
 let ⟨_,_,Y⟩:=jB Z;let ⟨_,_,N,S⟩:=Z.n_R;let ⟨_,_,M⟩:=Z.n_P;⟨_,_,M,okn_P Y.d Y.o S N.bd (okn_R (C:=CP) Y.d Y.o N.fn Z.kP.cl (Z.iT CP am).2) Z.kR.mg Z.ik M.fn Z.kP.cl (Z.iT CP am).2 (Z.sd CP am).2⟩
def on_R:∃f fd,Mth K CR "__init__" "Rules.__init__" s_nR ["self","gaps"] f fd/\jk P w K mg base CX0 4 f fd ["self","gaps"] (spI1 K CR (az)):=
 let ⟨_,_,Y⟩:=jB Z;let ⟨_,_,N,_⟩:=Z.n_R;⟨_,_,N,okn_R Y.d Y.o N.fn Z.kR.cl (Z.iT CR am).2⟩
def ok_law:YO (let ⟨f,fd,D,_⟩:=Z.d_law;⟨f,fd,D⟩) P w base 12 c_ (m_law CR CP n):=
 fY ["_law_script","_law_kinds","_law_strips","_law_shift","_law_many","_law_tables_here","_law_rules","_law_flights_here","_law_paper","_law_k","_law_cell_here","_law_plan_here","_law_bent","_law_kept"] λz I B=>let ⟨_,_,Y,S⟩:=on_P Z;let ⟨_,_,U,J⟩:=on_R Z;(ds_fresh (gG (ds_unpB (dY (tO Z) B (da1 (dY (dA Z) B (da2 (ah 0) ai)))) (jn rfl (aM (i:=1) I (aM (i:=2) I (aM (i:=3) I (aM (i:=4) I cz)))))) (gG (bV I (dY (qK Z) B (da3 (ah 0) (ah 1) (ah 2)))) (gG (bV I (de_newR ⟨Z.kR.mks,U.mt.at_,U.mt.fn,Z.kR.kp⟩ J (B.mono as) Z.kR.mg U.bd (da1 (aR d6 (ah 5) ai)))) (gG (d9 (bz (DH B.units) (ah 2) ai) (au (bV I (de_newP ⟨Z.kP.mks,Y.mt.at_,Y.mt.fn,Z.kP.kp⟩ S (B.mono as) Z.kP.mg Y.bd (da2 (aR d6 (ah 5) ai) (aR d6 (ah 5) ai))))) bL) (gG (bV I (dY (oV Z) B (da3 (ah 0) (ah 1) (ah 4)))) (gG (bV I (dY (oT Z) B (da4 (ah 6) (ao (bg qi Z.kq GU (da1 (ah 7)))) (ao (bp ba)) (ah 3)))) (gG (bO (pt:=.nm 9) (cK Z.bR (da1 ai)) (ig I) (aj (bV I (dY (dA Z) B (da2 (ah 0) (ao (aF cG ai (ah 9)))))) (aj (bV I (dY (vX Z) B (da4 (ah 10) (ah 4) (ah 3) (ah 2)))) (au (d9 (sD (kD (dY (lG Z) B (da6 (ah 6) (ah 5) (ah 7) (ah 8) (ah 11) (ao (aF cG ai (aF gz (ah 10) (ah 4)))))))) (au (aG gd)) bL))))) (gG (d9 (bz o_notB (dY (oU Z) B (da5 (ah 6) (ao (bg qi Z.kq GU (da1 (ah 7)))) (ao (bp ba)) (ah 3) (ah 8))) gd) (au (aG gd)) bL) (gG (bV I (dY (qL Z) B (da2 (ah 8) (dY (dA Z) B (da2 (ah 0) ai))))) (gG (d9 (PW.pt (sC (bz o_notN (ah 12) AH) (pN (bz o_notB (dY (oU Z) B (da5 (ah 6) (ao (bg qi Z.kq GU (da1 (ah 7)))) (ao (bp ba)) (ah 3) (ah 12))) gd)))) (au (aG gd)) bL) (gG (d9 (bz o_gt (aF gz (dY (dA Z) B (da2 (ah 0) ai)) ai) ai) (au (aG gd)) bL) (dn_tail (bB (mQ (i:=13) I rfl (.inl rfl) (bg (c_dictL rfl B.units) Z.Cv mK (da1 (ao (bP ["_law_some","_law_labels"] [e_,e_] (di_items (ah 8)) (λ_ _ _ _ _=>jn rfl (dm (i:=0) dkK (dm (i:=1) dkK cz))) (jE as) (λ_ _ _ _ _=>c5) (λ_ _ _ _ _=>(dQ (da2 (ah 0) (ao (bg qi Z.kq GU (da1 (ah 1)))))))))))) (bB (kJ (pe_clrK (pv 8))) (jy (zT (sF (o_eqK B.units) (dY (oT Z) B (da4 (ah 6) (ao (bg qi Z.kq GU (da1 (ah 7)))) (ao (bp ba)) (ah 3))) (ah 13)))))))))))))))))))
end
noncomputable abbrev Cq:=Int×Int
variable{cs:List Cq}
noncomputable def stD(p:Cq):A':=.tup [.int p.1,.int p.2]
section
variable(CR CP:iF)
@[simp]def getI_c0(a:A')(l:List A'):iQ (a::l) 0=.ok a:=by simp[iQ,atI,ixN,p_]
@[simp] theorem getI_c1(a b:A')(l:List A'):iQ (a::b::l) 1=.ok b:=by unfold iQ atI ixN;rw[p_ ad,p_ (by simp<;>lia)];rfl
@[simp] theorem getI_c2(a b c:A')(l:List A'):iQ (a::b::c::l) 2=.ok c:=by unfold iQ atI ixN;rw[p_ ad,p_ (by simp<;>lia)];rfl
@[simp] theorem getI_c3(a b c d:A')(l:List A'):iQ (a::b::c::d::l) 3=.ok d:=by unfold iQ atI ixN;rw[p_ ad,p_ (by simp<;>lia)];rfl
@[simp] theorem getI_c4(a b c d e:A')(l:List A'):iQ (a::b::c::d::e::l) 4=.ok e:=by unfold iQ atI ixN;rw[p_ ad,p_ (by simp<;>lia)];rfl
noncomputable def fH(r:a0):A':=.lst (r.map .int)
def aL(rows:List a0):A':=.lst (rows.map fH)
def mL(k:Nat)(r:a0):Prop:=r.length=k/\∀x∈r,0<=x/\x<=1000000
def eA(k:Nat)(rows:List a0):Prop:=rows.length=k/\∀r∈rows,mL k r
def Bv{lo:Int}(h:(aB lo m)[i]?=a_ d):i<m/\d=.int (lo+i):=by unfold aB at h;rw[FL]at h;obtain⟨a,h1,B⟩:=Option.map_eq_some_iff.mp h;have hi:=(n_.mp h1).1;rw[HE]at hi;rw[Ku hi]at h1;cases h1;exact⟨hi,B.symm⟩
theorem Bw(h:(aB 0 m)[i]?=a_ d):i<m/\d=.int i:=by obtain⟨h1,B⟩:=Bv h;simp_all
def dz(lo:Int)(m:Nat):(aB lo m).length=m:=by simp[aB]
end
section
variable(CR CP:iF)
def Ep(n:Nat)(x:Int)(h0:0<=x)(h1:x<=1000000):jZ [.int x]=.ok (.bl d_):=by simp[jZ,Aq,sN,h0,h1]
theorem u7(n:Nat)(k:Nat)(r:a0)(U:k<=6)(h:mL k r):dB [fH r,.int k]=.ok (.bl d_):=by
 have J:r.length<=16777216:=by have:=h.1;lia
 have B:k<=16777216:=ad
 have e:aO (.nm 0) gp (fL (jZ) (aa (ae 0) aw)) [e_] (r.map .int)=.ok ((r.map λ_=>d_).map A'.bl):=by
  have:=dR (p:=.nm 0) (fe:=fL (jZ) (aa (ae 0) aw)) (ρ0:=[e_]) (λ_=>.bl d_) (r.map .int) (λd S=>by obtain⟨x,I,rfl⟩:=Gq.mp S;exact⟨[a_ (.int x)],am,by simp[Ep n x (h.2 x I).1 (h.2 x I).2]⟩)
  rw[this,FK,FK];rfl
 simp[dB,mX,fH,e,J,B,h.1,-FK]
theorem EX(n:Nat)(rows:List a0)(S:rows.length<=1000):fV [aL rows]=.ok (aL rows):=by
 have B:rows.length<=16777216:=ad
 have e:aO (.nm 0) gp (fL fX (aa (ae 0) aw)) [e_] (rows.map fH)=.ok (rows.map fH):=by
  have:=dR (p:=.nm 0) (fe:=fL fX (aa (ae 0) aw)) (ρ0:=[e_]) id (rows.map fH) (λd I=>by obtain⟨x,J,rfl⟩:=Gq.mp I;exact⟨[a_ (fH x)],am,by simp[fH]⟩)
  rw[this,List.map_id]
 simp[fV,lM,aL,e,B]
theorem mJ(n:Nat)(k:Nat)(rows:List a0)(h1:1<=k)(S:k<=6)(h:eA k rows):az [aL rows]=.ok (aL rows):=by
 have B:rows.length<=16777216:=by have:=h.1;lia
 have e:aO (.nm 0) gp (fL (dB) (aa (ae 0) (aa (ae 1) aw))) [e_,a_ (.int rows.length)] (rows.map fH)=.ok ((rows.map λ_=>d_).map A'.bl):=by
  have:=dR (p:=.nm 0) (fe:=fL (dB) (aa (ae 0) (aa (ae 1) aw))) (ρ0:=[e_,a_ (.int rows.length)]) (λ_=>.bl d_) (rows.map fH) (λd J=>by obtain⟨x,I,rfl⟩:=Gq.mp J;exact⟨[a_ (fH x),a_ (.int rows.length)],am,by simp[h.1,u7 n k x S (h.2 x I)]⟩)
  rw[this,FK,FK];rfl
 have Y:(1:Int)<=rows.length:=by have:=h.1;lia
 have U:(rows.length:Int)<=6:=by have:=h.1;lia
 have e3:=EX n rows ad;simp only[aL]at e3;simp[az,kB,jh,jg,aL,e,e3,B,Y,U,-FK]
def aq(rows:List a0):A'->A'
 |.non=>.ins CR [("gaps",aL rows)]|o=>.ins CP [("gaps",aL rows),("beside",o)]
def ud(rows:List a0)(o:A')(I:o=.non\/∃B,o=aL B):qX [CR,CP] "gaps" (aq CR CP rows o)=.ok (aL rows):=by
 have h1:((("gaps":Gf)==("gaps":Gf))=d_):=by decide +kernel
 rcases I with rfl|⟨B,rfl⟩
 .show(if ([CR,CP].contains CR)=d_ then(match GS ("gaps":Gf) [(("gaps":Gf),aL rows)]with|some d=>GY d|none=>stk)else stk)=_;simp
 .show(if ([CR,CP].contains CP)=d_ then(match GS ("gaps":Gf) [(("gaps":Gf),aL rows),(("beside":Gf),aL B)]with|some d=>GY d|none=>stk)else stk)=_;simp
end
structure Fli where
 kind:Int
 first:Int
 last:Int
 due:Int
 price:Int
def flD(f:Fli):A':=.tup [.int f.kind,.int f.first,.int f.last,.int f.due,.int f.price]
structure n9(k:Nat)(f:Fli):Prop where
 k0:0<=f.kind
 k1:f.kind<k
 f0:0<=f.first
 f1:f.first<=f.last
 l1:f.last<=1000000000
 d0:0<=f.due
 d1:f.due<=1000000000
 p0:0<=f.price
 p1:f.price<=1000000000
@[simp]def flatD_int(i:Int):eC (.int i)=d_:=by rfl
def qy(fl:List Fli)(i:Int):Fli:=match fl[i.toNat]? with
 |some f=>f|none=>⟨0,0,0,0,0⟩
theorem getFl{fl:List Fli}{i:Int}(h0:0<=i)(h1:i<fl.length):iQ (fl.map flD) i=.ok (flD (qy fl i))/\qy fl i∈fl:=by
 have B:i.toNat<fl.length:=ad
 have e:qy fl i=fl[i.toNat]:=by unfold qy;rw[v_ B]
 refine⟨?_,aW⟩
 have:=eZ (ds:=fl.map flD) (k:=i.toNat) aW;grind
def gS(_:List Cq)(t u:Int):Prop:=t<=u/\u<=t
theorem gS.uniq{t v:Int}(h:gS cs t u)(k:gS cs t v):u=v:=by have:=h.1;have:=h.2;have:=k.1;have:=k.2;lia
noncomputable def tAt(ts:a0)(i:Nat):Int:=ts.getD i 0
noncomputable def rwAt(rows:List a0)(i:Int):a0:=rows.getD i.toNat []
def at2(rows:List a0)(i j:Int):Int:=(rwAt rows i).getD j.toNat 0
def apS(rows B:List a0)(a b:Cq):Int:=if a.2=b.2 then at2 rows a.1 b.1 else at2 B a.1 b.1
theorem getT(h:i<ts.length):iQ (ts.map .int) (i:Int)=.ok (.int (tAt ts i)):=by simp_all[eZ,tAt]
theorem uW(g:eA k rows){i:Int}(h0:0<=i)(h1:i<k):iQ (rows.map fH) i=.ok (fH (rwAt rows i))/\mL k (rwAt rows i):=by
 have I:=g.1;have B:i.toNat<rows.length:=ad
 have e:rwAt rows i=rows[i.toNat]:=by simp[rwAt,B]
 refine⟨?_,by rw[e];exact g.2 _ (FX B)⟩
 have:=eZ (ds:=rows.map fH) (k:=i.toNat) (by simpa using B);rw[show((i.toNat:Nat):Int)=i by lia]at this;rw[this,e];simp
theorem getA(g:eA k rows){i j:Int}(h0:0<=i)(h1:i<k)(U:0<=j)(S:j<k):iQ ((rwAt rows i).map .int) j=.ok (.int (at2 rows i j))/\0<=at2 rows i j:=by
 have I:=(uW g h0 h1).2;have J:=I.1;have B:j.toNat<(rwAt rows i).length:=ad
 have e:at2 rows i j=(rwAt rows i)[j.toNat]:=by simp[at2,B]
 refine⟨?_,by rw[e];exact(I.2 _ (FX B)).1⟩
 simp_all[getI_int]
def lookA1(d:A'):GS ("apart":Gf) [(("gaps":Gf),d)]=e_:=by rfl
def lookA2(d e:A'):GS ("apart":Gf) [(("gaps":Gf),d),(("beside":Gf),e)]=e_:=by rfl
section
variable(CR CP:iF)
def Fp(rows B:List a0):qX [CP] "beside" (aq CR CP rows (aL B))=.ok (aL B):=by
 have h1:((("beside":Gf)==("gaps":Gf))=c_):=by decide +kernel
 have I:((("beside":Gf)==("beside":Gf))=d_):=by decide +kernel
 show(if ([CP].contains CP)=d_ then(match GS ("beside":Gf) [(("gaps":Gf),aL rows),(("beside":Gf),aL B)]with|some d=>GY d|none=>stk)else stk)=_;rw[p_ am,Ht,h1];show(match GS ("beside":Gf) [(("beside":Gf),aL B)]with|some d=>GY d|none=>stk)=_;rw[Ht,I]
end
theorem xi{p:Pat}{ft:ag->M Bool}{fe:ag->M A'}{ρ0:ag}(b:Nat->Bool)(f:Nat->A')(m:Nat)(h:∀j,j<m->∃ρ,cA p (.int j) ρ0=.ok ρ/\ft ρ=.ok (b j)/\(b j=d_->fe ρ=.ok (f j))):aO p ft fe ρ0 (aB 0 m)=.ok (((x_ m).filter b).map f):=by
 have key:∀ks:a5,(∀j∈ks,j<m)->aO p ft fe ρ0 (ks.map λj:Nat=>A'.int (j:Int))=.ok ((ks.filter b).map f):=by
  intro ks
  induction ks with
  |nil=>intro _;rfl|cons j ks I=>
   intro J;obtain⟨ρ,e1,e2,e3⟩:=h j (J j am);have I:=I λx S=>J x (by simp[S]);rw[pk,aO,e1,af,e2,af];by_cases B:b j=d_
   .rw[p_ B,e3 B,af,I,af,N8 B];rfl
   .rw[q_ B,I,N9 B]
 simp_all[aB]
section
variable(CR CP:iF)
def DO(n:Nat)(cs:List Cq)(t:Int)(B:cs=[])(I:∀p∈cs,p.1<p.2):∃u,gA [.lst (cs.map stD),.int t]=.ok (.int u)/\gS cs t u:=by
 subst B;have e:eY [.lst []]=.ok (.lst []):=rfl;refine⟨t,?_,Je _,Je _⟩
 rfl
end
def Ed(f:Fli)(t:Int):Int:=f.price*fN 0 (t-f.due)
section
variable(CR CP:iF)
theorem late_ok(n:Nat)(f:Fli)(t:Int)(h0:0<=f.price)(h1:f.price<=1000000000):iO [flD f,.int t]=.ok (.int (Ed f t)):=by
 have I: -18446744073709551616<f.price:=ad
 have B:f.price<18446744073709551616:=ad
 simp[iO,pG,flD,I,B,Ed]
end
theorem tP(n:Nat):∀ts:a0,iG (ts.map .int) (n+1)=d_
 |[]=>by rfl|p::cs=>by simp[iG,E']
structure Gp where
 k:Nat
 rows:List a0
 two:Bool
 r2:List a0
variable{g:Gp}
structure Gp.Good(g:Gp):Prop where
 k1:1<=g.k
 k3:g.k<=2
 rows:eA g.k g.rows
 r2:eA g.k g.r2
def Gp.o(g:Gp):A':=if g.two=d_ then aL g.r2 else .non
noncomputable def Gp.s(g:Gp):Nat:=if g.two=d_ then 2 else 1
def Gp.D(g:Gp):A':=.lst (if g.two=d_ then [aL g.rows,aL g.r2]else [aL g.rows])
noncomputable def tupI(r:a0):A':=.tup (r.map .int)
def iw(L:List a0):A':=.tup (L.map tupI)
def aY(c:Int)(L:List a0):A':=.tup [.int c,iw L]
def kW(s k:Nat)(L:List a0):Prop:=L.length=s/\∀r∈L,r.length=k
noncomputable def rn(B:Nat->Int):Nat->a0->a0
 |_,[]=>[]|j,x::xs=>if x= -1 then rn B (j+1) xs else(x+B j)::rn B (j+1) xs
def uQ(B:Nat->Nat->Int):Nat->List a0->a0
 |_,[]=>[]|i,r::L=>rn (B i) 0 r++uQ B (i+1) L
theorem tH(B:Nat->Int):∀(j:Nat) (xs:a0),(rn B j xs).length<=xs.length
 |_,[]=>by simp[rn]|j,x::xs=>by have:=tH B (j+1) xs;grind[rn]
theorem AW(B:Nat->Nat->Int)(k:Nat):∀(i:Nat) (L:List a0),(∀r∈L,r.length=k)->(uQ B i L).length<=k*L.length
 |i,[],_=>by simp[uQ]|i,y::L,h=>by have h1:=AW B k (i+1) L λr I=>h r (by simp[I]);have J:=tH (B i) 0 y;grind[uQ,FJ,B_,LG]
section
variable(CR CP:iF)
def gmeth(n:Nat)(d:CR≠CP)(S:g.Good){s b t:Int}(Y:0<=a)(U:a<g.k)(o:0<=b)(m:b<g.k)(c:g.two=c_->s=t)(fo f1 f2:ag->M A')(ρ:ag)(h0:fo ρ=.ok (aq CR CP g.rows g.o))(h1:f1 ρ=.ok (.tup [.int a,.int s]))(i:f2 ρ=.ok (.tup [.int b,.int t])):
  dE CR CP "apart" (dM CR CP n) (dC CR CP n) fo (aa f1 (aa f2 aw)) ρ=.ok (.int (apS g.rows g.r2 (a,s) (b,t))):=by
 obtain⟨k,_⟩:=uW S.rows Y U;obtain⟨j,_⟩:=getA S.rows Y U o m;unfold dE;rw[h0,af];cases h:g.two with
 |false=>
  have I:g.o=.non:=by simp[Gp.o,h]
  have J:=c h;have f:isC CR "apart" (aq CR CP g.rows g.o)=d_:=by rw[I];show((CR==CR)&&(GS ("apart":Gf) [(("gaps":Gf),aL g.rows)]).isNone)=d_;rw[lookA1];simp
  have B:=ud CR CP g.rows g.o (.inl I);rw[p_ f];simp[h1,i,dM,lP,B,aL,k,fH,j,apS,J]
 |true=>
  have I:g.o=aL g.r2:=by simp[Gp.o,h]
  have f:isC CR "apart" (aq CR CP g.rows g.o)=c_:=by
   rw[I];show((CP==CR)&&(GS ("apart":Gf) [(("gaps":Gf),aL g.rows),(("beside":Gf),aL g.r2)]).isNone)=c_;have:(CP==CR)=c_:=by simp;exact λz=>d z.symm
   rw[this];rfl
  have e:isC CP "apart" (aq CR CP g.rows g.o)=d_:=by rw[I];show((CP==CP)&&(GS ("apart":Gf) [(("gaps":Gf),aL g.rows),(("beside":Gf),aL g.r2)]).isNone)=d_;rw[lookA2];simp
  have B:=ud CR CP g.rows g.o (.inr ⟨_,I⟩);have l:qX [CP] "beside" (aq CR CP g.rows g.o)=.ok (aL g.r2):=by rw[I];exact Fp CR CP g.rows g.r2
  obtain⟨q,_⟩:=uW S.r2 Y U;obtain⟨p,_⟩:=getA S.r2 Y U o m;rw[q_ (by rw[f];simp),p_ e];by_cases J:s=t
  .simp[h1,i,dC,jK,B,l,aL,k,fH,j,apS,J]
  .simp[h1,i,dC,jK,B,l,aL,q,fH,p,apS,J]
theorem E6(n:Nat)(U:CR≠CP){g:Gp}(m:g.Good)(b t:Int)(p:0<=b)(o:b<g.k)(B J:Option A')(i:Nat)(S:g.two=c_->(i:Int)=t):∀(I:a0) (j:Nat) (ts:a0) (c Y:Option A'),j+I.length<=g.k->ts.length+I.length<=1000 ->
  ∃e d,bM (.tp [6,7]) (bQ CR CP n) (eO j (I.map .int)) [a_ (aq CR CP g.rows g.o),B,a_ (.tup [.int b,.int t]),a_ (.lst (ts.map .int)),a_ (.int i),J,c,Y]=.ok (.nx [a_ (aq CR CP g.rows g.o),B,a_ (.tup [.int b,.int t]),a_ (.lst ((ts++rn (λj=>apS g.rows g.r2 (j,i) (b,t)) j I).map .int)),a_ (.int i),J,e,d])
 |[],j,ts,c,Y,_,_=>⟨c,Y,by simp[eO,bM,rn]⟩|x::I,j,ts,c,Y,u,r=>by
  simp only[B_]at u r;by_cases h:x= -1
  .obtain⟨e,d,f⟩:=E6 n U m b t p o B J i S I (j+1) ts (a_ (.int j)) (a_ (.int x)) ad ad;refine⟨e,d,?_⟩
   rw[pk,eO,bM];simp only[rn,p_ h];rw[<- f];simp[bQ,dS,h]
  .obtain⟨e,d,f⟩:=E6 n U m b t p o B J i S I (j+1) (ts++[x+apS g.rows g.r2 (j,i) (b,t)]) (a_ (.int j)) (a_ (.int x)) ad (by simp;lia);refine⟨e,d,?_⟩
   have w:=gmeth CR CP n U m (a:=j) (s:=i) (b:=b) (t:=t) ad ad p o S (ae 0) (fL cq (aa (ae 6) (aa (ae 4) aw))) (ae 2) (erase [3] [a_ (aq CR CP g.rows g.o),B,a_ (.tup [.int b,.int t]),a_ (.lst (ts.map .int)),a_ (.int i),J,a_ (.int j),a_ (.int x)]) (by rfl) (by rfl) (by rfl);have k:ts.length<16777216:=ad
   rw[pk,eO,bM];simp only[rn,q_ h];rw[FQ,List.singleton_append]at f;rw[<- f];have v:cA (.tp [6,7]) (.tup [.int j,.int x]) [a_ (aq CR CP g.rows g.o),B,a_ (.tup [.int b,.int t]),a_ (.lst (ts.map .int)),a_ (.int i),J,c,Y]=.ok [a_ (aq CR CP g.rows g.o),B,a_ (.tup [.int b,.int t]),a_ (.lst (ts.map .int)),a_ (.int i),J,a_ (.int j),a_ (.int x)]:=by simp
   have l:bQ CR CP n [a_ (aq CR CP g.rows g.o),B,a_ (.tup [.int b,.int t]),a_ (.lst (ts.map .int)),a_ (.int i),J,a_ (.int j),a_ (.int x)]=.ok (.nx [a_ (aq CR CP g.rows g.o),B,a_ (.tup [.int b,.int t]),a_ (.lst ((ts++[x+apS g.rows g.r2 (j,i) (b,t)]).map .int)),a_ (.int i),J,a_ (.int j),a_ (.int x)]):=by
    have q:ae 7 (erase [3] [a_ (aq CR CP g.rows g.o),B,a_ (.tup [.int b,.int t]),a_ (.lst (ts.map .int)),a_ (.int i),J,a_ (.int j),a_ (.int x)])=.ok (.int x):=by simp[erase]
    have es:jx [3] 3 (f2 eW (ae 7) (dE CR CP "apart" (dM CR CP n) (dC CR CP n) (ae 0) (aa (fL cq (aa (ae 6) (aa (ae 4) aw))) (aa (ae 2) aw)))) [a_ (aq CR CP g.rows g.o),B,a_ (.tup [.int b,.int t]),a_ (.lst (ts.map .int)),a_ (.int i),J,a_ (.int j),a_ (.int x)]=.ok (.nx [a_ (aq CR CP g.rows g.o),B,a_ (.tup [.int b,.int t]),a_ (.lst ((ts++[x+apS g.rows g.r2 (j,i) (b,t)]).map .int)),a_ (.int i),J,a_ (.int j),a_ (.int x)]):=by unfold jx f2;rw[w,q];simp[jD,put,k,IS]
    simp[bQ,dS,h,-e_appB,es]
   rw[v,af,l];rfl
end
section
variable(CR CP:iF)
theorem lg_all(n:Nat)(S:CR≠CP){g:Gp}(l:g.Good)(b t:Int)(o:0<=b)(m:b<g.k)(u:0<=t/\t<g.s)(B:Option A'):∀(L:List a0) (i:Nat) (ts:a0) (Y U J I:Option A'),i+L.length<=g.s->(∀r∈L,r.length=g.k)->ts.length+g.k*L.length<=1000 ->
  ∃q p c a,bM (.tp [4,5]) (cD CR CP n) (eO i (L.map tupI)) [a_ (aq CR CP g.rows g.o),B,a_ (.tup [.int b,.int t]),a_ (.lst (ts.map .int)),Y,U,J,I]=.ok (.nx [a_ (aq CR CP g.rows g.o),B,a_ (.tup [.int b,.int t]),a_ (.lst ((ts++uQ (λi j=>apS g.rows g.r2 (j,i) (b,t)) i L).map .int)),q,p,c,a])
 |[],i,ts,Y,U,J,I,_,_,_=>⟨Y,U,J,I,by simp[eO,bM,uQ]⟩|r::L,i,ts,Y,U,J,I,hi,e,k=>by
  have v:=e r am;simp only[B_]at hi k;rw[LG]at k;have d:g.two=c_->(i:Int)=t:=λh=>by
   have D:g.s=1:=by simp[Gp.s,h]
   lia
  obtain⟨c,a,e1⟩:=E6 CR CP n S l b t o m B (a_ (tupI r)) i d r 0 ts J I ad ad;have f:=tH (λj=>apS g.rows g.r2 (j,i) (b,t)) 0 r;obtain⟨A,z,y,w,C⟩:=lg_all n S l b t o m u B L (i+1) (ts++rn (λj=>apS g.rows g.r2 (j,i) (b,t)) 0 r) (a_ (.int i)) (a_ (tupI r)) c a ad (λx s=>e x (by simp[s])) aV;simp_all[uQ,FQ,pk,eO,bM,cD,tupI,af];exact⟨_,_,_,_,rfl⟩
theorem lg_ok(n:Nat)(B:CR≠CP)(I:g.Good)(b t:Int)(a:0<=b)(Y:b<g.k)(U:0<=t/\t<g.s)(J:kW g.s g.k L):du CR CP n [aq CR CP g.rows g.o,iw L,.tup [.int b,.int t]]=.ok (.lst ((uQ (λi j=>apS g.rows g.r2 (j,i) (b,t)) 0 L).map .int)):=by
 have S:=I.k3;have k:g.s<=2:=by unfold Gp.s;split<;>lia
 have l:=J.1;have m:g.k*L.length<=3*2:=KS (C_ S as) ad;obtain⟨h,f,d,c,e⟩:=lg_all CR CP n B I b t a Y U (a_ (iw L)) L 0 [] e_ e_ e_ e_ ad J.2 (by simp;lia);rw[IH,GL]at e;simp only[iw]at e ⊢;simp[du,jd,e,-FK]
end
noncomputable def kY(L:List a0)(i:Nat):a0:=L.getD i []
theorem i3{s:Nat}(h:kW s k L)(hi:i<s):kY L i∈L/\(kY L i).length=k/\iQ (L.map tupI) (i:Int)=.ok (tupI (kY L i))/\L.take (i+1)=L.take i++[kY L i]:=by
 have B:i<L.length:=by rw[h.1];exact hi
 have e:kY L i=L[i]:=by simp[kY,B]
 have m:kY L i∈L:=by rw[e];exact FX B
 refine⟨m,h.2 _ m,?_,?_⟩
 .simp_all[eZ]
 simp_all
theorem lQ:∀(xs:a0) (x:Int),xs.foldl fN x=x\/xs.foldl fN x∈xs
 |[],x=>.inl rfl|y::xs,x=>by
  rw[FH];have B:fN x y=x\/fN x y=y:=by unfold fN;split<;>lia
  rcases lQ xs (fN x y)with h|h
  .rcases B with z|z
   .exact .inl (h.trans z)
   .exact .inr (by rw[h,z];simp)
  simp_all
def C8(L:List a0)(J:∀r∈L,r.length<=1000):aO (.nm 0) gp (fL fX (aa (ae 0) aw)) [e_] (L.map tupI)=.ok (L.map fH):=by
 have h:=dR (p:=.nm 0) (fe:=fL fX (aa (ae 0) aw)) (ρ0:=[e_]) (λd=>match d with|.tup ds=>.lst ds|d=>d) (L.map tupI) (λd B=>by obtain⟨r,I,rfl⟩:=Gq.mp B;simp[tupI])
 rw[h,FK];rfl
def xf(L:List a0)(J:∀r∈L,r.length<=1000):aO (.nm 0) gp (fL fj (aa (ae 0) aw)) [e_] (L.map fH)=.ok (L.map tupI):=by
 have h:=dR (p:=.nm 0) (fe:=fL fj (aa (ae 0) aw)) (ρ0:=[e_]) (λd=>match d with|.lst ds=>.tup ds|d=>d) (L.map fH) (λd B=>by obtain⟨r,I,rfl⟩:=Gq.mp B;simp[fH])
 rw[h,FK];rfl
def putL(L:List a0)(i j:Nat)(x:Int):List a0:=L.set i ((kY L i).set j x)
def oP{s:Nat}(h:kW s k L)(hi:i<s)(x:Int):kW s k (putL L i j x):=by
 refine⟨by unfold putL;rw[FZ];exact h.1,λr B=>?_⟩
 unfold putL at B;rcases KV B with z|z
 .exact h.2 r z
 .rw[z,FZ];exact(i3 h hi).2.1
theorem Ek(h:i<n):ixN n (i:Int)=a_ i:=by simp_all[ixN,p_]
theorem jV{s:Nat}(B:kW s k L)(hi:i<s)(S:j<k)(x:Int):rowAt (L.map fH) (i:Int)=.ok (i,(kY L i).map .int)/\jv (L.map fH) (i,(kY L i).map .int) (j:Int) (.int x)=.ok ((putL L i j x).map fH):=by
 have I:i<L.length:=by rw[B.1];exact hi
 have e:kY L i=L[i]:=by simp[kY,I]
 have J:=(i3 B hi).2.1;simp_all[rowAt,oe,Ek,fH,jv,putL,List.map_set]
def Bh(g:Gp)(L:List a0)(f:Fli)(s:Nat):Int:=(uQ (λi j=>apS g.rows g.r2 (j,i) (f.kind,s)) 0 L).foldl fN f.first
def after(g:Gp)(c:Int)(L:List a0)(f:Fli)(s:Nat)(u:Int):A':=if f.last<u then .non else aY (c+Ed f u) (putL L s f.kind.toNat u)
def kW.short{s:Nat}(h:kW s k L)(I:k<=1000):∀r∈L,r.length<=1000:=λr B=>by rw[h.2 r B];exact I
section
variable(CR CP:iF)
theorem lasts_ok(n:Nat){s:Nat}(B:kW s k L)(a:s<=10)(b:k<=10)(hi:i<s)(U:j<k)(x:Int):hZ [iw L,.tup [.int j,.int i],.int x]=.ok (iw (putL L i j x)):=by
 have h1:=C8 L (B.short ad);have I:=oP (j:=j) B hi x;have Y:=xf (putL L i j x) (I.short ad);obtain⟨e1,e2⟩:=jV B hi U x;have S:L.length<=16777216:=by have:=B.1;lia
 have J:(putL L i j x).length<=16777216:=by have:=I.1;lia
 simp only[iw];simp[hZ,mW,xV,Dc,qD,vF,lstOf,asI,h1,S,e1,e2,Y,J]
theorem Fs(n:Nat)(a:CR≠CP)(m:g.Good)(H:cs=[])(e:∀p∈cs,p.1<p.2){fl:List Fli}(d:∀f∈fl,n9 g.k f)(c:Int)(U:kW g.s g.k L){q s:Nat}(K:q<fl.length)(E:s<g.s)(C:gS cs (Bh g L (qy fl q) s) u):
  bU CR CP n [aq CR CP g.rows g.o,.lst (fl.map flD),.lst (cs.map stD),aY c L,.int q,.int s]=.ok (after g c L (qy fl q) s u):=by
 obtain⟨l,F⟩:=getFl (fl:=fl) (i:=q) ad ad;have I:=d _ F;have y:=m.k3;have D:g.s<=2:=by unfold Gp.s;split<;>lia
 have k:=lg_ok CR CP n a m (qy fl q).kind s I.k0 I.k1 ⟨ad,ad⟩ U;have h:=AW (λi j=>apS g.rows g.r2 (j,i) ((qy fl q).kind,s)) g.k 0 L U.2;have G:g.k*L.length<=3*2:=KS (C_ y as) (by have:=U.1;lia);obtain⟨v,ev,z⟩:=DO n cs (Bh g L (qy fl q) s) ad e;have Y:=z.uniq C;subst Y;have w:=late_ok n (qy fl q) v I.p0 I.p1;obtain⟨S,J⟩:∃S:Nat,(qy fl q).kind=S:=⟨(qy fl q).kind.toNat,by have:=I.k0;lia⟩
 have t:=lasts_ok n U ad ad E (j:=S) (by have:=I.k1;lia) v;rw[<- J]at t;have b:(qy fl q).kind.toNat=S:=ad
 unfold Bh at ev;generalize o:uQ (λi j=>apS g.rows g.r2 (j,i) ((qy fl q).kind,s)) 0 L=A at k h ev;have x:maxD [.lst (.int (qy fl q).first::A.map .int)]=.ok (.int (A.foldl fN (qy fl q).first)):=by show(cF (((qy fl q).first::A).map .int)).bind maxL=_;rw[fw,af,maxL]
 have r:1+A.length<=16777216:=ad
 unfold after;simp only[flD]at l w;by_cases B:(qy fl q).last<v
 .rw[p_ B];simp[bU,ie,fJ,l,aY,k,eW,r,x,ev,B,-e_maxL]
 .rw[q_ B,b];simp[bU,ie,fJ,l,aY,k,eW,r,x,ev,B,w,t,-e_maxL]
end
def labP(p:Int×List a0):A':=aY p.1 p.2
noncomputable def leR:a0->a0->Bool
 |x::xs,y::ys=>xF (x<=y)&&leR xs ys|_,_=>d_
def leL:List a0->List a0->Bool
 |r::L,t::M=>leR r t&&leL L M|_,_=>d_
def geR(r:a0):Prop:=∀x∈r,-1<=x
def geL(L:List a0):Prop:=∀r∈L,geR r
def nw(p q:Int×List a0):Bool:=xF (p.1<=q.1)&&leL p.2 q.2
structure Lab(g:Gp)(p:Int×List a0):Prop where
 good:kW g.s g.k p.2
 ge:geL p.2
theorem Af:∀r:a0,leR r r=d_
 |[]=>rfl|x::r=>by simp[leR,Af r]
theorem Ag:∀L:List a0,leL L L=d_
 |[]=>rfl|r::L=>by simp[leL,Af r,Ag L]
def tR(p:Int×List a0):nw p p=d_:=by simp[nw,Ag]
theorem wq:∀{a b c:a0},a.length=b.length->b.length=c.length->leR a b=d_->leR b c=d_->leR a c=d_
 |[],_,_,_,_,_,_=>by rfl|x::a,[],_,h,_,_,_=>by simp at h|x::a,y::b,[],_,h,_,_=>by rfl|x::a,y::b,z::c,h1,J,I,B=>by simp[leR]at I B ⊢;exact⟨ad,wq (by simpa using h1) (by simpa using J) I.2 B.2⟩
theorem wt{k:Nat}:∀{a b c:List a0},a.length=b.length->b.length=c.length->(∀r∈a,r.length=k)->(∀r∈b,r.length=k)->(∀r∈c,r.length=k)->leL a b=d_->leL b c=d_->leL a c=d_
 |[],_,_,_,_,_,_,_,_,_=>by rfl|x::a,[],_,h,_,_,_,_,_,_=>by simp at h|x::a,y::b,[],_,h,_,_,_,_,_=>by rfl|x::a,y::b,z::c,h1,Y,U,k2,S,J,I=>by simp[leL]at J I ⊢;have e1:=U x am;have e2:=k2 y am;have e3:=S z am;exact⟨wq ad ad J.1 I.1,wt (by simpa using h1) (by simpa using Y) (λr B=>U r (by simp[B])) (λr B=>k2 r (by simp[B])) (λr B=>S r (by simp[B])) J.2 I.2⟩
theorem wg{b d:Int}(h1:a<=b)(B:c<=d):fN a c<=fN b d:=by grind[fN]
theorem zI(Y:Nat->Int):∀(a b:a0) (j:Nat) (x y:Int),a.length=b.length->geR a->leR a b=d_->x<=y->(rn Y j a).foldl fN x<=(rn Y j b).foldl fN y
 |[],[],j,x,y,_,_,_,h=>by simp_all[rn]|[],_::_,_,_,_,h,_,_,_=>by simp at h|_::_,[],_,_,_,h,_,_,_=>by simp at h|u::a,v::b,j,x,y,d,c,B,h=>by
  simp[leR]at B;have e:=c u am;have U:=zI Y a b (j+1);have I:a.length=b.length:=by simpa using d
  have J:geR a:=λz hz=>c z (by simp[hz]);unfold rn;by_cases h1:u= -1
  .rw[p_ h1];by_cases S:v= -1
   .rw[p_ S];exact U x y I J B.2 h
   .rw[q_ S,FH];refine U x _ I J B.2 (Ho h ?_);unfold fN;split<;>lia
  .have S:¬v= -1:=ad
   rw[q_ h1,q_ S,FH,FH];exact U _ _ I J B.2 (wg h ad)
theorem AU(J:Nat->Nat->Int){k:Nat}:∀(a b:List a0) (i:Nat) (x y:Int),a.length=b.length->(∀r∈a,r.length=k)->(∀r∈b,r.length=k)->geL a->leL a b=d_->x<=y->(uQ J i a).foldl fN x<=(uQ J i b).foldl fN y
 |[],[],i,x,y,_,_,_,_,_,h=>by simp_all[uQ]|[],_::_,_,_,_,h,_,_,_,_,_=>by simp at h|_::_,[],_,_,_,h,_,_,_,_,_=>by simp at h|u::a,v::b,i,x,y,Y,S,k2,U,B,h=>by simp[leL]at B;rw[uQ,uQ,K2,K2];exact AU J a b (i+1) _ _ (by simpa using Y) (λr I=>S r (by simp[I])) (λr I=>k2 r (by simp[I])) (λr I=>U r (by simp[I])) B.2 (zI (J i) u v 0 x y (by rw[S u am,k2 v am]) (U u am) B.1 h)
theorem gS.mono{b v:Int}(h:a<=b)(I:gS cs a u)(B:gS cs b v):u<=v:=by have:=I.2;have:=B.1;lia
theorem E8:∀(a b:a0) (j:Nat) (x y:Int),a.length=b.length->leR a b=d_->x<=y->leR (a.set j x) (b.set j y)=d_
 |[],[],_,_,_,_,_,_=>rfl|[],_::_,_,_,_,h,_,_=>by rfl|_::_,[],_,_,_,h,_,_=>by simp at h|u::a,v::b,0,x,y,_,h,B=>by simp[leR]at h ⊢;exact⟨B,h.2⟩|u::a,v::b,j+1,x,y,I,h,B=>by simp[leR]at h ⊢;exact⟨h.1,E8 a b j x y (by simpa using I) h.2 B⟩
theorem Ea:∀(a b:List a0) (i:Nat) (r t:a0),a.length=b.length->leL a b=d_->leR r t=d_->leL (a.set i r) (b.set i t)=d_
 |[],[],_,_,_,_,_,_=>rfl|[],_::_,_,_,_,h,_,_=>by rfl|_::_,[],_,_,_,h,_,_=>by simp at h|u::a,v::b,0,x,y,_,h,B=>by simp_all[leL]|u::a,v::b,j+1,x,y,I,h,B=>by simp[leL]at h ⊢;exact⟨h.1,Ea a b j x y (by simpa using I) h.2 B⟩
theorem Eb:∀(a b:List a0) (i:Nat),a.length=b.length->leL a b=d_->leR (kY a i) (kY b i)=d_
 |[],[],_,_,_=>by rfl|[],_::_,_,h,_=>by rfl|_::_,[],_,h,_=>by simp at h|u::a,v::b,0,_,h=>by simp[leL]at h;simpa[kY] using h.1|u::a,v::b,i+1,B,h=>by simp[leL]at h;have:=Eb a b i (by simpa using B) h.2;simpa[kY] using this
theorem Ec(f:Fli){t:Int}(h:t<=u)(B:0<=f.price):Ed f t<=Ed f u:=by unfold Ed;exact Int.mul_le_mul_of_nonneg_left (wg (Je _) ad) B
theorem Cf{p:Int×List a0}(J:Lab g p)(S:Lab g q)(h:nw p q=d_)(f:Fli)(b:n9 g.k f){s:Nat}(U:s<g.s){v:Int}(a:gS cs (Bh g p.2 f s) u)(Y:gS cs (Bh g q.2 f s) v)(c:¬f.last<v):
  ¬f.last<u/\nw (p.1+Ed f u,putL p.2 s f.kind.toNat u) (q.1+Ed f v,putL q.2 s f.kind.toNat v)=d_:=by
 simp[nw]at h;have B:p.2.length=q.2.length:=by rw[J.good.1,S.good.1]
 have I:u<=v:=a.mono (AU _ p.2 q.2 0 f.first f.first B J.good.2 S.good.2 J.ge h.2 (Je _)) Y;have d:=Ec f I b.p0;refine⟨ad,?_⟩
 simp only[nw,m_,FG];refine⟨ad,?_⟩
 unfold putL;refine Ea _ _ _ _ _ B h.2 (E8 _ _ _ _ _ ?_ (Eb _ _ _ B h.2) I);rw[(i3 J.good U).2.1,(i3 S.good U).2.1]
section
variable(CR CP:iF)
theorem nw_row(n:Nat)(b a Y U:Option A'):∀(r t:a0) (I B:Option A'),∃S J,bM (.tp [4,5]) (dW) (qu (r.map .int) (t.map .int)) [b,a,Y,U,I,B]=if leR r t=d_ then .ok (.nx [b,a,Y,U,S,J])else .ok (.rt (.bl c_))
 |[],t,I,B=>⟨I,B,by rfl⟩|x::r,[],I,B=>⟨I,B,by rfl⟩|x::r,y::t,I,B=>by
  obtain⟨S,J,c⟩:=nw_row n b a Y U r t (a_ (.int x)) (a_ (.int y));refine⟨S,J,?_⟩
  rw[pk,pk,qu,bM];by_cases h:x<=y
  .have h':¬y<x:=ad
   simp only[leR,h,decide_true,K9];rw[<- c];simp[dW,gI,h']
  .have h':y<x:=ad
   simp[leR,h,dW,gI,h']
theorem DJ(n:Nat)(S J:Option A'):∀(L M:List a0) (Y U I B:Option A'),∃d c b a,bM (.tp [2,3]) (dU) (qu (L.map tupI) (M.map tupI)) [S,J,Y,U,I,B]=if leL L M=d_ then .ok (.nx [S,J,d,c,b,a])else .ok (.rt (.bl c_))
 |[],t,Y,U,I,B=>⟨Y,U,I,B,by rfl⟩|x::r,[],Y,U,I,B=>⟨Y,U,I,B,by rfl⟩|r::L,t::M,Y,U,I,B=>by
  obtain⟨f,e,k⟩:=nw_row n S J (a_ (tupI r)) (a_ (tupI t)) r t I B;obtain⟨d,c,b,a,g⟩:=DJ n S J L M (a_ (tupI r)) (a_ (tupI t)) f e;refine⟨d,c,b,a,?_⟩
  rw[pk,pk,qu,bM];have j:cA (.tp [2,3]) (.tup [tupI r,tupI t]) [S,J,Y,U,I,B]=.ok [S,J,a_ (tupI r),a_ (tupI t),I,B]:=by simp
  have i:dU [S,J,a_ (tupI r),a_ (tupI t),I,B]=if leR r t=d_ then .ok (.nx [S,J,a_ (tupI r),a_ (tupI t),f,e])else .ok (.rt (.bl c_)):=by rw[<- k];simp[dU,tupI]
  rw[j,af,i];by_cases h:leR r t=d_
  .simp only[leL,h,Jw,K9];exact g
  simp_all[leL,L7]
theorem nw_ok(n:Nat)(p q:Int×List a0):cb [labP p,labP q]=.ok (.bl (nw p q)):=by
 obtain⟨U,S,J,I,e⟩:=DJ n (a_ (labP p)) (a_ (labP q)) p.2 q.2 e_ e_ e_ e_;simp only[labP,aY,iw]at e ⊢;by_cases h:p.1<=q.1
 .have h':¬q.1<p.1:=ad
  by_cases B:leL p.2 q.2=d_
  .rw[p_ B]at e;simp[cb,fZ,dT,h',e,nw,h,B]
  .rw[q_ B]at e;simp[cb,fZ,dT,h',e,nw,h,B]
 .have h':q.1<p.1:=ad
  simp[cb,fZ,dT,h',nw,h]
end
theorem E9:∀{a b:a0},a.length=b.length->(leR a b=d_↔∀j,j<a.length->tAt a j<=tAt b j)
 |[],[],_=>by simp[leR]|[],_::_,h=>by simp at h|_::_,[],h=>by simp at h|u::a,v::b,h=>by
  have J:=E9 (a:=a) (b:=b) (by simpa using h);simp only[leR,m_,FG,J];constructor
  .rintro⟨h1,B⟩ j I;cases j with
   |zero=>simpa[tAt] using h1|succ j=>simpa[tAt] using B j (by simpa using I)
  .intro B;refine⟨by simpa[tAt] using B 0 am,λj I=>?_⟩
   simpa[tAt] using B (j+1) (by simpa using I)
def lookM1(d:A'):GS ("many_strips":Gf) [(("gaps":Gf),d)]=e_:=by rfl
def lookM2(d e:A'):GS ("many_strips":Gf) [(("gaps":Gf),d),(("beside":Gf),e)]=e_:=by rfl
section
variable(CR CP:iF)
def ua(n:Nat)(I:CR≠CP)(fo:ag->M A')(ρ:ag)(h0:fo ρ=.ok (aq CR CP g.rows g.o)):dE CR CP "many_strips" (aU) (b9) fo aw ρ=.ok (.int g.s):=by
 unfold dE;rw[h0,af];cases h:g.two with
 |false=>
  have B:g.o=.non:=by simp[Gp.o,h]
  have S:isC CR "many_strips" (aq CR CP g.rows g.o)=d_:=by rw[B];show((CR==CR)&&(GS ("many_strips":Gf) [(("gaps":Gf),aL g.rows)]).isNone)=d_;rw[lookM1];simp
  rw[p_ S];simp[aU,gE,Gp.s,h]
 |true=>
  have B:g.o=aL g.r2:=by simp[Gp.o,h]
  have S:isC CR "many_strips" (aq CR CP g.rows g.o)=c_:=by
   rw[B];show((CP==CR)&&(GS ("many_strips":Gf) [(("gaps":Gf),aL g.rows),(("beside":Gf),aL g.r2)]).isNone)=c_;have:(CP==CR)=c_:=by simp;exact λz=>I z.symm
   rw[this];rfl
  have J:isC CP "many_strips" (aq CR CP g.rows g.o)=d_:=by rw[B];show((CP==CP)&&(GS ("many_strips":Gf) [(("gaps":Gf),aL g.rows),(("beside":Gf),aL g.r2)]).isNone)=d_;rw[lookM2];simp
  rw[q_ (by rw[S];simp),p_ J];simp[b9,i5,Gp.s,h]
end
def lookK1(d:A'):GS ("many_kinds":Gf) [(("gaps":Gf),d)]=e_:=by rfl
def lookK2(d e:A'):GS ("many_kinds":Gf) [(("gaps":Gf),d),(("beside":Gf),e)]=e_:=by rfl
section
variable(CR CP:iF)
def gkinds(n:Nat)(S:CR≠CP)(a:g.Good)(fo:ag->M A')(ρ:ag)(h0:fo ρ=.ok (aq CR CP g.rows g.o)):dE CR CP "many_kinds" (aZ CR CP n) (aZ CR CP n) fo aw ρ=.ok (.int g.k):=by
 have J:=a.rows.1;unfold dE;rw[h0,af];cases h:g.two with
 |false=>
  have I:g.o=.non:=by simp[Gp.o,h]
  have Y:isC CR "many_kinds" (aq CR CP g.rows g.o)=d_:=by rw[I];show((CR==CR)&&(GS ("many_kinds":Gf) [(("gaps":Gf),aL g.rows)]).isNone)=d_;rw[lookK1];simp
  have B:=ud CR CP g.rows g.o (.inl I);rw[p_ Y];simp[aZ,dP,B,aL,J]
 |true=>
  have I:g.o=aL g.r2:=by simp[Gp.o,h]
  have Y:isC CR "many_kinds" (aq CR CP g.rows g.o)=c_:=by
   rw[I];show((CP==CR)&&(GS ("many_kinds":Gf) [(("gaps":Gf),aL g.rows),(("beside":Gf),aL g.r2)]).isNone)=c_;have:(CP==CR)=c_:=by simp;exact λz=>S z.symm
   rw[this];rfl
  have U:isC CP "many_kinds" (aq CR CP g.rows g.o)=d_:=by rw[I];show((CP==CP)&&(GS ("many_kinds":Gf) [(("gaps":Gf),aL g.rows),(("beside":Gf),aL g.r2)]).isNone)=d_;rw[lookK2];simp
  have B:=ud CR CP g.rows g.o (.inr ⟨_,I⟩);rw[q_ (by rw[Y];simp),p_ U];simp[aZ,dP,B,aL,J]
def L0(g:Gp):List a0:=D_ g.s (D_ g.k (-1))
def FE(g:Gp):kW g.s g.k (L0 g):=⟨by simp[L0],λr B=>by rw[K7 B];simp⟩
theorem wK(n:Nat)(J:CR≠CP)(U:g.Good):fU CR CP n [aq CR CP g.rows g.o]=.ok (aY 0 (L0 g)):=by
 have q:=U.k3;have j:g.s<=2:=by unfold Gp.s;split<;>lia
 have ek:=gkinds CR CP n J U (ae 0) [a_ (aq CR CP g.rows g.o),e_] am;have es:=ua CR CP n J (g:=g) (ae 0) [a_ (aq CR CP g.rows g.o),a_ (tupI (D_ g.k (-1)))] am;have f: -4611686018427387904<=(g.k:Int):=ad
 have k2:(g.k:Int)<4611686018427387904:=ad
 have i: -4611686018427387904<=(g.s:Int):=ad
 have h:(g.s:Int)<4611686018427387904:=ad
 have Y:aO (.nm 0) gp (f1 BI (fC (.int 1))) [e_] (aB 0 g.k)=.ok ((D_ g.k (-1)).map A'.int):=by have:=dR (p:=.nm 0) (fe:=f1 BI (fC (.int 1))) (ρ0:=[e_]) (λ_=>.int (-1)) (aB 0 g.k) (λd _=>⟨[a_ d],am,am⟩);rw[this,Nn,dz,Mz]
 have m:∀d:A',aO (.nm 0) gp (ae 1) [e_,a_ d] (aB 0 g.s)=.ok (D_ g.s d):=λd=>by have:=dR (p:=.nm 0) (fe:=ae 1) (ρ0:=[e_,a_ d]) (λ_=>d) (aB 0 g.s) (λe _=>⟨[a_ e,a_ d],am,am⟩);rw[this,Nn,dz]
 have c:(aB 0 g.k).length<=16777216:=by rw[dz];lia
 have b:(aB 0 g.s).length<=16777216:=by rw[dz];lia
 have o:g.k<=16777216:=ad
 have a:g.s<=16777216:=ad
 have e1:bJ 2 1 (iR CR CP n) [aq CR CP g.rows g.o]=.ok (aY 0 (L0 g)):=by
  have B:=m (tupI (D_ g.k (-1)));simp only[tupI]at B es;have l:iw (L0 g)=.tup (D_ g.s (.tup ((D_ g.k (-1)).map A'.int))):=by simp[iw,L0,tupI]
  rw[aY,l];generalize k:(D_ g.k (-1)).map A'.int=S at Y B es ⊢;have I:S.length<=16777216:=by rw[<- k];simp;lia
  simp[iR,ek,f,k2,c,Y,I,es,i,h,b,B,a,-Mz]
 exact e1
end
theorem yo(a b:Int):a<=fN a b/\b<=fN a b/\(fN a b=a\/fN a b=b):=by unfold fN;split<;>lia
def nx(cs:List Cq)(t:Int):Int:=open Classical in if h:∃u,gS cs t u then h.choose else 0
def nx_eq{t:Int}(h:gS cs t u):nx cs t=u:=by
 have B:∃u,gS cs t u:=⟨u,h⟩
 unfold nx;rw[dif_pos B];exact B.choose_spec.uniq h
structure V where
 g:Gp
 fl:List Fli
 cs:List Cq
structure V.Good(v:V):Prop where
 g:v.g.Good
 fl:∀f∈v.fl,n9 v.g.k f
 many:v.fl.length<=40
 cs:v.cs=[]
 st:∀p∈v.cs,p.1<p.2
def V.f(v:V)(i:Nat):Fli:=qy v.fl i
theorem V.Good.fAt(B:v.Good)(h:i<v.fl.length):iQ (v.fl.map flD) (i:Int)=.ok (flD (v.f i))/\n9 v.g.k (v.f i):=by obtain⟨h1,I⟩:=getFl (fl:=v.fl) (i:=(i:Int)) ad ad;exact⟨h1,B.fl _ I⟩
def V.bt(v:V)(l:LK)(q s:Nat):Int:=nx v.cs (Bh v.g l.2 (v.f q) s)
def V.beh(v:V)(l:LK)(q s:Nat):Option LK:=if (v.f q).last<v.bt l q s then e_ else a_ (l.1+Ed (v.f q) (v.bt l q s),putL l.2 s (v.f q).kind.toNat (v.bt l q s))
def kQ:Option LK->A'
 |none=>.non|some l=>Lake.aY l
def labD_eq(l:LK):Lake.aY l=aY l.1 l.2:=rfl
section
variable(CR CP:iF)
def nextV(n:Nat)(B:v.Good)(t:Int):gA [.lst (v.cs.map stD),.int t]=.ok (.int (nx v.cs t))/\gS v.cs t (nx v.cs t):=by obtain⟨u,e,h⟩:=DO n v.cs t B.cs B.st;rw[nx_eq h];exact⟨e,h⟩
end
def V.Good.nxt(B:v.Good)(t:Int):gS v.cs t (nx v.cs t):=(nextV 0 B t).2
section
variable(CR CP:iF)
def behV(n:Nat)(I:CR≠CP)(B:v.Good){l:LK}(U:Lab v.g l){q s:Nat}(S:q<v.fl.length)(J:s<v.g.s):
  bU CR CP n [aq CR CP v.g.rows v.g.o,.lst (v.fl.map flD),.lst (v.cs.map stD),Lake.aY l,.int q,.int s]=.ok (kQ (v.beh l q s)):=by
 have e:=Fs CR CP n I B.g B.cs B.st B.fl l.1 U.good S J (B.nxt (Bh v.g l.2 (qy v.fl q) s));rw[labD_eq,e];unfold after V.beh V.bt V.f;by_cases c:(qy v.fl q).last<nx v.cs (Bh v.g l.2 (qy v.fl q) s)
 .rw[p_ c,p_ c];rfl
 .rw[q_ c,q_ c];rfl
end
theorem V.Good.bt_ge(B:v.Good)(l:LK){q:Nat}(s:Nat)(I:q<v.fl.length):0<=v.bt l q s:=by have h1:=(B.nxt (Bh v.g l.2 (v.f q) s)).1;have S:(v.f q).first<=Bh v.g l.2 (v.f q) s:=(Lake.fold_max _ _).2.1;have J:=(B.fAt I).2.f0;unfold V.bt;lia
def mem_setI{r:a0}{x y:Int}(h:y∈r.set j x):y∈r\/y=x:=KV h
theorem V.Good.uI(a:v.Good){l U:LK}(B:Lab v.g l){q s:Nat}(c:q<v.fl.length)(Y:s<v.g.s)(h:v.beh l q s=a_ U):Lab v.g U:=by
 unfold V.beh at h;split at h
 .cases h
 .cases h;refine⟨oP B.good Y _,λr b x I=>?_⟩
  have d:=a.bt_ge l s c;have J:r∈l.2.set s ((kY l.2 s).set (v.f q).kind.toNat (v.bt l q s)):=b;rcases KV J with z|z
  .exact B.ge r z x I
  .rw[z]at I;rcases mem_setI I with S|S
   .exact B.ge _ (i3 B.good Y).1 x S
   .lia
def V.Good.beh_mono(B:v.Good){p q p':LK}(Y:Lab v.g p)(U:Lab v.g q)(h:nw q p=d_){s:Nat}(hi:i<v.fl.length)(S:s<v.g.s)(e:v.beh p i s=a_ p'):∃J,v.beh q i s=a_ J/\nw J p'=d_:=by
 unfold V.beh at e;split at e
 .cases e
 .rename_i c;cases e;obtain⟨h1,a⟩:=Cf U Y h (v.f i) (B.fAt hi).2 S (B.nxt _) (B.nxt _) c;refine⟨_,?_,a⟩
  have I:¬(v.f i).last<v.bt q i s:=h1;unfold V.beh;rw[q_ I];rfl
def V.l0(v:V):LK:=(0,L0 v.g)
def V.Ei(v:V):Lab v.g v.l0:=⟨FE v.g,λr I x B=>by have h1:r∈D_ v.g.s (D_ v.g.k (-1)):=I;rw[K7 h1]at B;rw[K7 B];exact Je _⟩
def V.along(v:V):LK->List (Nat×Nat)->Option LK
 |l,[]=>a_ l|l,p::ps=>(v.beh l p.1 p.2).bind λB=>v.along B ps
theorem V.qo(v:V):∀(ps B:List (Nat×Nat)) (l:LK),v.along l (ps++B)=(v.along l ps).bind λI=>v.along I B
 |[],B,l=>rfl|p::ps,B,l=>by
  rw[PY,V.along,V.along];cases v.beh l p.1 p.2 with
  |none=>rfl|some I=>exact v.qo ps B I
def V.Pl(v:V)(ps:List (Nat×Nat)):Prop:=∀p∈ps,p.1<v.fl.length/\p.2<v.g.s
theorem V.Good.qm{v:V}(S:v.Good):∀(ps:List (Nat×Nat)) {l B:LK},Lab v.g l->v.Pl ps->v.along l ps=a_ B->Lab v.g B
 |[],l,B,J,_,h=>by cases h;exact J|p::ps,l,B,J,I,h=>by
  rw[V.along]at h;cases e:v.beh l p.1 p.2 with
  |none=>simp_all|some m=>rw[e]at h;exact S.qm ps (S.uI J (I p am).1 (I p am).2 e) (λq U=>I q (by simp[U])) h
abbrev Pap:=List (a0×a9)
variable{P Q:Pap}
noncomputable def look(P:Pap)(b:a0):a9:=((P.find? λp=>xF (p.1=b)).map (·.2)).getD []
def cC(ls:a9):A':=.lst (ls.map Lake.aY)
def bx(P:Pap):List (a0×A'):=P.map λp=>(p.1,cC p.2)
theorem uc(b:a0):∀P:Pap,(qv (bx P) b).getD (.lst [])=cC (look P b)
 |[]=>rfl|p::P=>by
  have B:=uc b P;unfold qv look bx at *;rw[pk,HJ,HJ];by_cases c:p.1=b
  .simp[c]
  .simp only[c,OH];exact B
theorem Ap(b:a0)(P:Pap):(qv (bx P) b).isSome=xF (b∈P.map (·.1)):=by grind[qv,bx,pk,HJ,decide_false]
theorem put_dicP(b:a0)(P:Pap)(ls:a9)(h:b∉P.map (·.1)):gU (bx P) b (cC ls)=bx (P++[(b,ls)]):=by unfold gU;rw[Ap,q_ ad];simp[bx]
def Aa(P Q:Pap)(b:a0):look (P++Q) b=if b∈P.map (·.1)then look P b else look Q b:=by
 unfold look;rw[List.find?_append]
 induction P with
 |nil=>simp|cons p P B=>
  rw[HJ];by_cases c:p.1=b
  .simp[c]
  .have:¬b=p.1:=λz=>c z.symm;simp only[c,OH,pk,t_,this,false_or];exact B
def lJ(h:b∉P.map (·.1)):look P b=[]:=by
 unfold look;rw[Pp.mpr]
 .rfl
 .intro x B;simp only[FG];exact λz=>h (Gq.mpr ⟨x,B,z⟩)
def V.add(v:V)(l:LK)(q:Nat)(ks:a9)(s:Nat):a9:=match v.beh l q s with
 |none=>ks|some B=>Lake.putL ks B
def V.FC(v:V)(q:Nat)(ks:a9)(l:LK):a9:=(x_ v.g.s).foldl (v.add l q) ks
def V.xw(v:V)(P:Pap)(ks:a9)(x:a0×Nat):a9:=(look P x.1).foldl (v.FC x.2) ks
noncomputable def smL(b:a0):List (a0×Nat):=(x_ b.length).map λi=>(b.eraseIdx i,(b.getD i 0).toNat)
def V.iH(v:V)(P:Pap)(b:a0):a9:=(smL b).foldl (v.xw P) []
def zR{k:LK}:x∈Lake.putL ks k↔x∈ks\/x=k:=by
 unfold Lake.putL;split
 .rename_i h;constructor
  .exact .inl
  .rintro(z|z)
   .exact z
   .rw[z];simpa using h
 .simp
theorem V.FA(v:V){l x:LK}{q:Nat}:∀(I:a5) (ks:a9),x∈I.foldl (v.add l q) ks↔x∈ks\/∃s∈I,v.beh l q s=a_ x
 |[],ks=>by simp|s::I,ks=>by
  rw[FH,v.FA I];unfold V.add;cases e:v.beh l q s with
  |none=>
   constructor
   .rintro(h|⟨s',h1,B⟩)
    .exact .inl h
    .exact .inr ⟨s',by simp[h1],B⟩
   .rintro(h|⟨s',h1,B⟩)
    .exact .inl h
    .rcases t_.mp h1 with z|z
     .rw[z,e]at B;cases B
     .exact .inr ⟨s',z,B⟩
  |some J=>
   simp only[zR];constructor
   .rintro((h|h)|⟨s',h1,B⟩)
    .exact .inl h
    .exact .inr ⟨s,am,by rw[e,h]⟩
    .exact .inr ⟨s',by simp[h1],B⟩
   .rintro(h|⟨s',h1,B⟩)
    .exact .inl (.inl h)
    .rcases t_.mp h1 with z|z
     .rw[z,e]at B;cases B;exact .inl (.inr rfl)
     .exact .inr ⟨s',z,B⟩
theorem V.AZ(v:V){x:LK}{q:Nat}:∀(ls ks:a9),x∈ls.foldl (v.FC q) ks↔x∈ks\/∃l∈ls,∃s,s<v.g.s/\v.beh l q s=a_ x
 |[],ks=>by simp|l::ls,ks=>by
  rw[FH,v.AZ ls];unfold V.FC;rw[v.FA];constructor
  .rintro((h|⟨s,h1,B⟩)|⟨I,h1,B⟩)
   .exact .inl h
   .exact .inr ⟨l,am,s,Gv.mp h1,B⟩
   .exact .inr ⟨I,by simp[h1],B⟩
  .rintro(h|⟨I,h1,s,B,J⟩)
   .exact .inl (.inl h)
   .rcases t_.mp h1 with z|z
    .exact .inl (.inr ⟨s,Gv.mpr B,by rw[<- z];exact J⟩)
    .exact .inr ⟨I,z,s,B,J⟩
theorem V.AY(v:V){P:Pap}{x:LK}:∀(xs:List (a0×Nat)) (ks:a9),x∈xs.foldl (v.xw P) ks↔x∈ks\/∃p∈xs,∃l∈look P p.1,∃s,s<v.g.s/\v.beh l p.2 s=a_ x
 |[],ks=>by simp|p::xs,ks=>by
  rw[FH,v.AY xs];unfold V.xw;rw[v.AZ];constructor
  .rintro((h|h)|⟨p',h1,B⟩)
   .exact .inl h
   .exact .inr ⟨p,am,h⟩
   .exact .inr ⟨p',by simp[h1],B⟩
  .rintro(h|⟨p',h1,B⟩)
   .exact .inl (.inl h)
   .rcases t_.mp h1 with z|z
    .exact .inl (.inr (by rw[<- z];exact B))
    .exact .inr ⟨p',z,B⟩
def V.uH(v:V):x∈v.iH P b↔∃i,i<b.length/\∃l∈look P (b.eraseIdx i),∃s,s<v.g.s/\v.beh l (b.getD i 0).toNat s=a_ x:=by
 unfold V.iH;rw[v.AY];constructor
 .rintro(h|⟨p,h1,B⟩)
  .cases h
  .obtain⟨i,hi,rfl⟩:=Gq.mp h1;exact⟨i,Gv.mp hi,B⟩
 .rintro⟨i,hi,h⟩;exact .inr ⟨_,Gq.mpr ⟨i,Gv.mpr hi,rfl⟩,h⟩
def zS(ks:a9)(k:LK):(Lake.putL ks k).length<=ks.length+1:=by unfold Lake.putL;split<;>simp
theorem V.uR(v:V)(l:LK)(q:Nat):∀(B:a5) (ks:a9),(B.foldl (v.add l q) ks).length<=ks.length+B.length
 |[],ks=>by simp|s::B,ks=>by
  rw[FH];have h1:=v.uR l q B (v.add l q ks s);have I:(v.add l q ks s).length<=ks.length+1:=by
   unfold V.add;split
   .lia
   .exact zS _ _
  simp only[B_];lia
theorem V.oo(v:V)(q:Nat):∀(ls ks:a9),(ls.foldl (v.FC q) ks).length<=ks.length+v.g.s*ls.length
 |[],ks=>by simp|l::ls,ks=>by
  rw[FH];have h1:=v.oo q ls (v.FC q ks l);have B:(v.FC q ks l).length<=ks.length+v.g.s:=by have:=v.uR l q (x_ v.g.s) ks;rw[HE]at this;exact this
  rw[B_,Nl];lia
theorem V.uS(v:V)(P:Pap)(N:Nat):∀(xs:List (a0×Nat)) (ks:a9),(∀p∈xs,(look P p.1).length<=N)->(xs.foldl (v.xw P) ks).length<=ks.length+v.g.s*N*xs.length
 |[],ks,_=>by simp|p::xs,ks,h=>by
  rw[FH];have h1:=v.uS P N xs (v.xw P ks p) λq B=>h q (by simp[B]);have S:(v.xw P ks p).length<=ks.length+v.g.s*N:=by have J:=v.oo p.2 (look P p.1) ks;have I:=Kx v.g.s (h p am);unfold V.xw;lia
  rw[B_,Nl];lia
theorem Gp.s2(g:Gp):1<=g.s/\g.s<=2:=by unfold Gp.s;split<;>lia
def gV(B:a9)(l:LK):a9:=if B.any (λx=>nw x l)=d_ then B else B++[l]
def m7(ks:a9):a9:=(cx ltL ks).foldl gV []
theorem u4:∀(ls B:a9) (x:LK),x∈B->x∈ls.foldl gV B
 |[],B,x,h=>h|l::ls,B,x,h=>u4 ls _ x (by
   unfold gV;split
   .exact h
   .simp[h])
theorem Ai:∀(ls B:a9) (x:LK),x∈ls.foldl gV B->x∈B\/x∈ls
 |[],B,x,h=>.inl h|l::ls,B,x,h=>by
  rcases Ai ls _ x h with z|z
  .unfold gV at z;split at z
   .exact .inl z
   .rcases FW.mp z with y|y
    .exact .inl y
    .exact .inr (by simp at y;simp[y])
  simp_all
theorem Ak:∀(ls B:a9) (x:LK),x∈ls->∃y∈ls.foldl gV B,nw y x=d_
 |l::ls,B,x,h=>by
  rcases t_.mp h with z|z
  .subst z;rw[FH];by_cases c:B.any (λy=>nw y x)=d_
   .obtain⟨y,I,e⟩:=J_.mp c;exact⟨y,u4 ls _ y (by unfold gV;rw[p_ c];exact I),e⟩
   .exact⟨x,u4 ls _ x (by unfold gV;rw[q_ c];simp),tR x⟩
  .exact Ak ls _ x z
theorem Aj:∀(ls B:a9),(ls.foldl gV B).length<=B.length+ls.length
 |[],B=>by simp|l::ls,B=>by
  rw[FH];have h1:=Aj ls (gV B l);have I:(gV B l).length<=B.length+1:=by unfold gV;split<;>simp
  rw[B_];lia
theorem oi(h:x∈m7 ks):x∈ks:=by
 rcases Ai _ _ _ h with z|z
 .grind
 .exact(bC ks).mem_iff.mp z
def AQ(h:x∈ks):∃y∈m7 ks,nw y x=d_:=Ak _ _ _ ((bC ks).mem_iff.mpr h)
theorem best_len(ks:a9):(m7 ks).length<=ks.length:=by have h:=Aj (cx ltL ks) [];rw[(bC ks).length_eq]at h;simp_all[m7]
section
variable(CR CP:iF)
theorem u9(n:Nat)(B:Option A')(l:LK):∀(ls:a9) (I:Option A'),(ls.any (λx=>nw x l)=d_/\bM (.nm 2) (bE) (ls.map Lake.aY) [B,a_ (Lake.aY l),I]=.ok (.rt (.bl d_)))\/(ls.any (λx=>nw x l)=c_/\∃U,bM (.nm 2) (bE) (ls.map Lake.aY) [B,a_ (Lake.aY l),I]=.ok (.nx [B,a_ (Lake.aY l),U]))
 |[],I=>.inr ⟨rfl,I,rfl⟩|x::ls,I=>by
  have e:cb [Lake.aY x,Lake.aY l]=.ok (.bl (nw x l)):=nw_ok n x l;rw[pk,bM,iC,af];simp only[xM,u_,List.any_cons];by_cases c:nw x l=d_
  .left;rw[c]at e;refine⟨by simp[c],?_⟩
   have J:bE [B,a_ (Lake.aY l),a_ (Lake.aY x)]=.ok (.rt (.bl d_)):=by simp[bE,fK,e]
   rw[J];rfl
  .have S:nw x l=c_:=by simpa using c
   rw[S]at e;have J:bE [B,a_ (Lake.aY l),a_ (Lake.aY x)]=.ok (.nx [B,a_ (Lake.aY l),a_ (Lake.aY x)]):=by simp[bE,fK,e]
   rw[J,af,S,Bool.false_or];exact u9 n B l ls (a_ (Lake.aY x))
def has_ok(n:Nat)(ls:a9)(l:LK):bq [cC ls,Lake.aY l]=.ok (.bl (ls.any λx=>nw x l)):=by
 unfold cC;rcases u9 n (a_ (.lst (ls.map Lake.aY))) l ls e_ with⟨h1,B⟩|⟨h1,I,B⟩
 .simp[bq,di,h1,B]
 .simp[bq,di,h1,B]
theorem xu(n:Nat)(I:Option A'):∀(ls B:a9) (J:Option A'),B.length+ls.length<16777216->∃S,bM (.nm 2) (c7) (ls.map Lake.aY) [I,a_ (cC B),J]=.ok (.nx [I,a_ (cC (ls.foldl gV B)),S])
 |[],B,J,_=>⟨J,rfl⟩|l::ls,B,J,h=>by
  rw[B_]at h;have e:=has_ok n B l;have a:B.length<16777216:=ad
  have b:(gV B l).length<=B.length+1:=by unfold gV;split<;>simp
  obtain⟨S,U⟩:=xu n I ls (gV B l) (a_ (Lake.aY l)) ad;refine⟨S,?_⟩
  rw[pk,bM,iC,af,FH,<- U];simp only[xM,u_];by_cases c:B.any (λx=>nw x l)=d_
  .rw[c]at e;have Y:c7 [I,a_ (cC B),a_ (Lake.aY l)]=.ok (.nx [I,a_ (cC (gV B l)),a_ (Lake.aY l)]):=by
    unfold gV;rw[p_ c];unfold cC at *;simp[c7,gJ,e]
   rw[Y,af]
  simp_all[gV,q_,cC,c7,gJ,af]
theorem best_ok(n:Nat)(ks:a9)(h:ks.length<16777216):fW [.dil ks]=.ok (cC (m7 ks)):=by obtain⟨I,e⟩:=xu n (a_ (.dil ks)) (cx ltL ks) [] e_ (by rw[(bC ks).length_eq];simp;lia);have B:cC []=.lst []:=rfl;rw[B]at e;have es:oC [.dil ks]=.ok (.lst ((cx ltL ks).map Lake.aY)):=rfl;simp[fW,lN,es,e,m7]
end
theorem iY{α:Type}{p:Pat}{fe:ag->M A'}{ρ0:ag}(g f:α->A'):∀(L:List α),(∀x∈L,∃ρ,cA p (g x) ρ0=.ok ρ/\fe ρ=.ok (f x))->aO p gp fe ρ0 (L.map g)=.ok (L.map f)
 |[],_=>rfl|d::ds,h=>by obtain⟨ρ,e1,e2⟩:=h d am;rw[pk,aO,e1];simp only[af,gp,e2,iY g f ds λx B=>h x (by simp[B])];simp
theorem mD:∀(b:a0) (j:Nat),eO j (b.map .int)=(x_ b.length).map λi=>A'.tup [.int ((j+i:Nat):Int),.int (b.getD i 0)]
 |[],_=>rfl|x::b,j=>by
  rw[pk,eO,mD b (j+1),B_,Ik,pk,FK]
  congr 1
  refine Ib λi _=>?_;simp only[LY];have:j+1+i=j+(i+1):=ad
  rw[this];rfl
section
variable(CR CP:iF)
theorem Bj(n:Nat)(b:a0)(c:b.length<=100):cv [aP b]=.ok (.lst ((x_ b.length).map λi=>A'.tup [aP (b.eraseIdx i),.int (b.getD i 0)])):=by
 have S:aO (.tp [0,1]) gp (fL cq (aa (f2 eW (fSl cB (ae 2) kh (iN (ae 0))) (fSl cB (ae 2) (iN (f2 eW (ae 0) (fC (.int 1)))) kh)) (aa (ae 1) aw))) [e_,e_,a_ (aP b)] (eO 0 (b.map .int))=.ok ((x_ b.length).map λi=>A'.tup [aP (b.eraseIdx i),.int (b.getD i 0)]):=by
  rw[mD];refine iY _ _ _ λi hi=>?_;have hi:=Gv.mp hi;refine⟨[a_ (.int ((0+i:Nat):Int)),a_ (.int (b.getD i 0)),a_ (aP b)],am,?_⟩
  have a:cX (b.map A'.int).length 0 e_=0:=rfl;have Y:cX (b.map A'.int).length (b.map A'.int).length (a_ ((0+i:Nat):Int))=i:=by simp only[cX];rw[q_ ad,oe];lia
  have U:cX (b.map A'.int).length 0 (a_ (((0+i:Nat):Int)+1))=i+1:=by simp only[cX];rw[q_ ad,oe];lia
  have s1:cB (aP b) e_ (a_ ((0+i:Nat):Int))=.ok (.tup ((b.take i).map .int)):=by unfold aP cB;simp only[];rw[a,Y,q_ (by simp;lia)];rw[cut_take _ ad];simp
  have s2:cB (aP b) (a_ (((0+i:Nat):Int)+1)) e_=.ok (.tup ((b.drop (i+1)).map .int)):=by
   unfold aP cB;simp only[];rw[U,q_ am];rw[uC _ ad];have:(((0+i:Nat):Int)+1).toNat=i+1:=ad
   rw[this];simp
  have J:((b.take i).map A'.int).length+((b.drop (i+1)).map A'.int).length<=16777216:=by simp;lia
  simp only[e_L,e_cons,e_2,e_slF,e_varS,e_var0,e_pNone,e_pSome,e_c,af,e_asI,s1,eW,s2,IS,J,Jw,e_nil];simp[cq,aP,M9,IS]
 have B:(eO 0 (b.map A'.int)).length<=16777216:=by rw[mD];simp;lia
 have I:jG (aP b)=.ok (b.map .int):=rfl;simp[cv,jc,I,B,S]
end
theorem bS(lo:Int)(m:Nat):aB lo (m+1)=.int lo::aB (lo+1) m:=by
 unfold aB;rw[Ik,pk,FK]
 congr 1
 .simp
 .refine Ib λk _=>?_;simp only[LY]
  congr 1
  lia
def kA(b:a0):kZ (aP b)=.ok b:=by simp[aP,kZ,fw]
def Cr(v:V)(P:Pap):Prop:=∀b,∀l∈look P b,Lab v.g l
def notN_lab(l:LK):w9 (Lake.aY l) .non=.ok (.bl d_):=rfl
def notN_non:w9 .non .non=.ok (.bl c_):=rfl
section
variable(CR CP:iF)
@[reducible] def evB(v:V)(P:Pap)(Y:Option A')(ks:a9)(U S J I B:Option A'):ag:=[a_ (aq CR CP v.g.rows v.g.o),a_ (.lst (v.fl.map flD)),a_ (.lst (v.cs.map stD)),a_ (.dic (bx P)),Y,a_ (.dil ks),U,S,J,I,B]
theorem rg(n:Nat)(S:CR≠CP){v:V}(d:v.Good)(P:Pap)(U J:Option A'){l:LK}(g:Lab v.g l){q:Nat}(f:q<v.fl.length):∀(r j:Nat) (ks:a9) (Y B:Option A'),j+r=v.g.s->ks.length+r<16777216->∃a I,
  bM (.nm 9) (c6 CR CP n) (aB (j:Int) r) (evB CR CP v P U ks J (a_ (.int q)) (a_ (Lake.aY l)) Y B)=.ok (.nx (evB CR CP v P U ((GZ j r).foldl (v.add l q) ks) J (a_ (.int q)) (a_ (Lake.aY l)) a I))
 |0,j,ks,Y,B,_,_=>⟨Y,B,rfl⟩|r+1,j,ks,Y,B,h,p=>by
  have e:=behV CR CP n S d g f (s:=j) ad;have m:(v.add l q ks j).length<=ks.length+1:=v.uR l q [j] ks;obtain⟨a,I,o⟩:=rg n S d P U J g f r (j+1) (v.add l q ks j) (a_ (.int j)) (a_ (kQ (v.beh l q j))) ad ad;refine⟨a,I,?_⟩
  have c:ks.length<16777216:=ad
  have t:c6 CR CP n (evB CR CP v P U ks J (a_ (.int q)) (a_ (Lake.aY l)) (a_ (.int j)) B)=.ok (.nx (evB CR CP v P U (v.add l q ks j) J (a_ (.int q)) (a_ (Lake.aY l)) (a_ (.int j)) (a_ (kQ (v.beh l q j))))):=by
   unfold V.add;cases i:v.beh l q j with
   |none=>rw[i]at e;simp only[kQ]at e ⊢;simp[c6,eS,e,notN_non]|some k=>rw[i]at e;simp only[kQ]at e ⊢;have b:=k9 k;simp[c6,eS,e,notN_lab,oJ,wQ,b,isTr,c,-e_notN]
  rw[bS,bM,iC,af,IV,FH];simp_all
theorem rN(n:Nat)(U:CR≠CP){v:V}(j:v.Good)(P:Pap)(Y S:Option A'){q:Nat}(k:q<v.fl.length):∀(ls:a9) (ks:a9) (b I B:Option A'),(∀l∈ls,Lab v.g l)->ks.length+v.g.s*ls.length<16777216->∃d c J,
  bM (.nm 8) (cY CR CP n) (ls.map Lake.aY) (evB CR CP v P Y ks S (a_ (.int q)) b I B)=.ok (.nx (evB CR CP v P Y (ls.foldl (v.FC q) ks) S (a_ (.int q)) d c J))
 |[],ks,b,I,B,_,_=>⟨b,I,B,rfl⟩|l::ls,ks,b,I,B,h,s=>by
  rw[B_,Nl]at s;obtain⟨s1,s2⟩:=v.g.s2;have r:(v.FC q ks l).length<=ks.length+v.g.s:=by have:=v.uR l q (x_ v.g.s) ks;rw[HE]at this;exact this
  obtain⟨i,a,e⟩:=rg CR CP n U j P Y S (h l am) k v.g.s 0 ks I B ad ad;obtain⟨d,c,J,w⟩:=rN n U j P Y S k ls (v.FC q ks l) (a_ (Lake.aY l)) i a (λm p=>h m (by simp[p])) ad;refine⟨d,c,J,?_⟩
  have f:=ua CR CP n U (g:=v.g) (ae 0) [a_ (aq CR CP v.g.rows v.g.o),a_ (.lst (v.fl.map flD)),a_ (.lst (v.cs.map stD)),a_ (.dic (bx P)),Y,e_,S,a_ (.int q),a_ (Lake.aY l),I,B] am;have o:(-4611686018427387904:Int)<=(v.g.s:Int):=ad
  have k2:(v.g.s:Int)<4611686018427387904:=ad
  have u:((0:Nat):Int)=0:=rfl;have t:GZ 0 v.g.s=x_ v.g.s:=by rw[Kj]
  rw[u,t]at e;have x:cY CR CP n (evB CR CP v P Y ks S (a_ (.int q)) (a_ (Lake.aY l)) I B)=.ok (.nx (evB CR CP v P Y (v.FC q ks l) S (a_ (.int q)) (a_ (Lake.aY l)) i a)):=by unfold V.FC;simp only[evB]at e ⊢;simp[cY,f,o,k2,e]
  simp_all[pk,bM,iC,af,FH,evB,xM,u_]
def smD(x:a0×Nat):A':=.tup [aP x.1,.int x.2]
theorem rj(n:Nat)(d:CR≠CP){v:V}(m:v.Good)(P:Pap)(o:Cr v P)(N:Nat)(S:Option A'):∀(xs:List (a0×Nat)) (ks:a9) (b a J I B:Option A'),(∀x∈xs,x.2<v.fl.length/\(look P x.1).length<=N)->ks.length+v.g.s*N*xs.length<16777216->∃j i g f U,
  bM (.tp [6,7]) (cW CR CP n) (xs.map smD) (evB CR CP v P S ks b a J I B)=.ok (.nx (evB CR CP v P S (xs.foldl (v.xw P) ks) j i g f U))
 |[],ks,b,a,J,I,B,_,_=>⟨b,a,J,I,B,rfl⟩|x::xs,ks,b,a,J,I,B,h,s=>by
  rw[B_,Nl]at s;obtain⟨h1,w⟩:=h x am;have z:=Kx v.g.s w;have r:(v.xw P ks x).length<=ks.length+v.g.s*N:=by have A:=v.oo x.2 (look P x.1) ks;unfold V.xw;lia
  obtain⟨l,k,c,e⟩:=rN CR CP n d m P S (a_ (aP x.1)) h1 (look P x.1) ks J I B (o x.1) ad;obtain⟨j,i,g,f,U,p⟩:=rj n d m P o N S xs (v.xw P ks x) (a_ (aP x.1)) (a_ (.int x.2)) l k c (λy q=>h y (by simp[q])) ad;refine⟨j,i,g,f,U,?_⟩
  have t:=uc x.1 P;have u:cW CR CP n (evB CR CP v P S ks (a_ (aP x.1)) (a_ (.int x.2)) J I B)=.ok (.nx (evB CR CP v P S (v.xw P ks x) (a_ (aP x.1)) (a_ (.int x.2)) l k c)):=by unfold V.xw;simp only[evB]at e ⊢;simp[cW,Et,kA,t,cC,e]
  rw[pk,bM,FH];have Y:cA (.tp [6,7]) (smD x) (evB CR CP v P S ks b a J I B)=.ok (evB CR CP v P S ks (a_ (aP x.1)) (a_ (.int x.2)) J I B):=rfl;rw[Y,af,u,af];exact p
theorem smL_smD(h:∀x∈b,0<=x):((x_ b.length).map λi=>A'.tup [aP (b.eraseIdx i),.int (b.getD i 0)])=(smL b).map smD:=by
 unfold smL;rw[FK];refine Ib λi hi=>?_;have hi:=Gv.mp hi;have h0:0<=b.getD i 0:=by rw[z_,v_ hi];exact h _ (FX hi)
 show _=A'.tup [aP (b.eraseIdx i),.int ((b.getD i 0).toNat:Int)];grind
theorem Fq(n:Nat)(I:CR≠CP)(U:v.Good)(P:Pap)(d:Cr v P)(N:Nat)(b:a0)(c:∀x∈b,0<=x/\x<v.fl.length)(a:b.length<=40)(l:∀i,i<b.length->(look P (b.eraseIdx i)).length<=N)(k:v.g.s*N*b.length<16777216):
  cH CR CP n [aq CR CP v.g.rows v.g.o,.lst (v.fl.map flD),.lst (v.cs.map stD),.dic (bx P),aP b]=.ok (.dil (v.iH P b)):=by
 have J:=Bj n b ad;rw[smL_smD (λx B=>(c x B).1)]at J;have Y:(smL b).length=b.length:=by simp[smL]
 obtain⟨j,h,g,f,S,e⟩:=rj CR CP n I U P d N (a_ (aP b)) (smL b) [] e_ e_ e_ e_ e_ (λx B=>by obtain⟨i,hi,rfl⟩:=Gq.mp B;simp_all) aW
 simp only[evB]at e;simp[cH,jI,J,e,V.iH]
end
def BE(r:a0):gv (r.map .int)=d_:=by
 induction r with
 |nil=>rfl|cons x r B=>simp[gv,dI,B]
theorem BC(L:List a0):gv (L.map aP)=d_:=by
 induction L with
 |nil=>rfl|cons x r B=>simp_all[gv,dI,aP,BE]
def BD(ls:a9):gv (ls.map Lake.aY)=d_:=by
 induction ls with
 |nil=>rfl|cons x r B=>simp[gv,dI,Lake.aY,BC,B]
def vO(ls:a9):dI (cC ls)=d_:=by simp[cC,dI,BD]
def ne_tup(b:a0):eqM (aP b) (.tup [])=.ok (.bl b.isEmpty)/\neM (aP b) (.tup [])=.ok (.bl !b.isEmpty):=by simp[aP,E',tP,eqM,iG,eqD,ug,neM]
def V.ent(v:V)(P:Pap)(b:a0):a9:=if b=[]then [v.l0]else m7 (v.iH P b)
def V.pap(v:V)(P:Pap):List a0->Pap
 |[]=>P|b::B=>v.pap (P++[(b,v.ent P b)]) B
theorem lS(h:i<b.length):(b.eraseIdx i).length+1=b.length:=aV
theorem getD_in(h:i<b.length):b.getD i 0∈b:=by simp_all
section
variable(CR CP:iF)
theorem rB(n:Nat)(J:CR≠CP){v:V}(I B:Option A'):∀(r:Nat) (j:Int) (c:Int) (U:Option A'),∃Y,
  bM (.nm 4) (f7 CR CP n) (aB j r) [a_ (aq CR CP v.g.rows v.g.o),I,B,a_ (.int c),U]=.ok (.nx [a_ (aq CR CP v.g.rows v.g.o),I,B,a_ (.int (c*v.g.s^r)),Y])
 |0,j,c,U=>⟨U,by simp[aB,bM]⟩|r+1,j,c,U=>by
  obtain⟨s1,s2⟩:=v.g.s2;obtain⟨Y,e⟩:=rB n J I B r (j+1) (c*v.g.s) (a_ (.int j));refine⟨Y,?_⟩
  have a:=ua CR CP n J (g:=v.g) (ae 0) [a_ (aq CR CP v.g.rows v.g.o),I,B,a_ (.int c),a_ (.int j)] am;have S:nV (.int c) (.int v.g.s)=.ok (.int (c*v.g.s)):=EJ (by simp only[vp,m_,FG];lia);have b:f7 CR CP n [a_ (aq CR CP v.g.rows v.g.o),I,B,a_ (.int c),a_ (.int j)]=.ok (.nx [a_ (aq CR CP v.g.rows v.g.o),I,B,a_ (.int (c*v.g.s)),a_ (.int j)]):=by simp[f7,a,S,-EJ,-EK]
  have ep:c*(v.g.s:Int)^(r+1)=c*v.g.s*v.g.s^r:=by rw[Int.pow_succ,Int.mul_comm ((v.g.s:Int)^r),Int.mul_assoc]
  rw[bS,bM,iC,af,ep];simp only[xM,u_];rw[b,af];exact e
theorem plans_ok(n:Nat)(B:CR≠CP){s:Nat}(U:m<=64)(J:aD [.int m,.int s]=.ok (.int c)):hV CR CP n [aq CR CP v.g.rows v.g.o,.int m,.int s]=.ok (.int (c*v.g.s^m)):=by
 obtain⟨S,e⟩:=rB CR CP n B (v:=v) (a_ (.int m)) (a_ (.int s)) m 0 c e_;have I:(-4611686018427387904:Int)<=(m:Int):=ad
 have k2:(m:Int)<4611686018427387904:=ad
 simp[hV,mV,J,I,k2,e]
theorem vG(n:Nat)(I:CR≠CP){s:Nat}(S:m<=64)(U:v.fl.length=m)(J:aD [.int m,.int s]=.ok (.int c))(Y:c*v.g.s^m<=5000):bY CR CP n [aq CR CP v.g.rows v.g.o,.lst (v.fl.map flD),.int s]=.ok .non:=by
 have ep:=plans_ok CR CP n I (v:=v) S J;have B:¬5000<c*(v.g.s:Int)^m:=ad
 simp[bY,iy,gH,U,ep,B]
end
section
variable(CR CP:iF)
def gQ(l:a0):Prop:=l.Pairwise (·<·)
noncomputable def iv(a:Int):Nat->a0
 |0=>[]|m+1=>a::iv (a+1) m
theorem mU:∀(m:Nat) (a x:Int),x∈iv a m↔a<=x/\x<a+m
 |0,a,x=>by simp[iv]|m+1,a,x=>by rw[iv,t_,mU m (a+1) x];lia
theorem jb:∀(m:Nat) (a:Int),(iv a m).length=m
 |0,_=>rfl|m+1,a=>by rw[iv,B_,jb m (a+1)]
theorem jF:∀(m:Nat) (a:Int),gQ (iv a m)
 |0,_=>Io|m+1,a=>by rw[iv];refine Q9 (λx B=>?_) (jF m (a+1));have:=(mU m (a+1) x).mp B;lia
noncomputable def chs:Nat->a0->List a0
 |0,_=>[[]]|_+1,[]=>[]|k+1,a::B=>(chs k B).map (a::·)++chs (k+1) B
def lY(B:a0):chs 0 B=[[]]:=by cases B<;>rfl
theorem jQ:∀(B:a0) (k:Nat) (t:a0),t∈chs k B↔t.length=k/\t.Sublist B
 |B,0,t=>by simp_all[lY,Gi]|[],k+1,t=>by simp only[chs,GH,false_iff];rintro⟨h,I⟩;have:=List.sublist_nil.mp I;rw[this]at h;simp at h
 |a::B,k+1,t=>by
  rw[chs,FW,jQ B (k+1) t];simp only[Gq];constructor
  .rintro(⟨u,J,rfl⟩|⟨h1,I⟩)
   .obtain⟨h1,I⟩:=(jQ B k u).mp J;exact⟨by simp[h1],I.cons₂ a⟩
   .exact⟨h1,I.cons a⟩
  .rintro⟨h1,I⟩;cases I with
   |cons _ h=>exact .inr ⟨h1,h⟩|cons_cons _ h=>rename_i u;exact .inl ⟨u,(jQ B k u).mpr ⟨by simpa using h1,h⟩,rfl⟩
theorem qe:∀(B:a0) (k:Nat),(chs k B).length<=2^B.length
 |B,0=>by rw[lY];exact Nat.one_le_two_pow|[],k+1=>by simp[chs]|a::B,k+1=>by rw[chs,FJ,oe,B_,Nat.pow_succ];have:=qe B k;have:=qe B (k+1);lia
theorem sub_iv:∀(m:Nat) (a:Int) (t:a0),t.Sublist (iv a m)↔gQ t/\∀x∈t,a<=x/\x<a+m
 |m,a,t=>by
  constructor
  .intro h;exact⟨Nd h (jF m a),λx B=>(mU m a x).mp (h.subset B)⟩
  .intro h
   induction m generalizing a t with
   |zero=>
    cases t with
    |nil=>simp|cons x t=>have:=h.2 x am;lia
   |succ m J=>
    cases t with
    |nil=>simp|cons x t=>obtain⟨h1,I⟩:=h;have B:=I x am;grind[iv,gQ,GP]
theorem tI:∀(m:Nat) (a:Int) (b:a0),gQ b->(∀x∈b,a<=x)->(∀i,a<=i->i<a+m->i∈b)->∃t,b=iv a m++t/\gQ t/\∀x∈t,a+m<=x
 |0,a,b,h1,S,_=>⟨b,rfl,h1,λx U=>by simp_all⟩|m+1,a,b,h1,S,f=>by
  have d:=f a ad ad;cases b with
  |nil=>simp_all|cons x b=>
   unfold gQ at h1;rw[GP]at h1;have U:=S x am;have e:x=a:=by
    rcases t_.mp d with z|z
    .exact z.symm
    .have:=h1.1 a z;lia
   subst e;obtain⟨t,rfl,J,I⟩:=tI m (x+1) b h1.2 (λy B=>by have:=h1.1 y B;lia) (λi c Y=>by grind)
   exact⟨t,rfl,J,λy B=>by have:=I y B;lia⟩
structure Beg(many shift size:Nat)(b:a0):Prop where
 rise:gQ b
 len:b.length=size
 sure:∀i:Int,0<=i->i<(size:Int)-shift->i∈b
 bnd:∀x∈b,0<=x/\x<many/\x<(size:Int)+shift
def qW(J B I:Nat):List a0:=(chs (I-(I-B)) (iv ((I-B:Nat):Int) (N6 J (I+B)-(I-B)))).map (iv 0 (I-B)++·)
theorem uJ{J B I:Nat}(j:I<=J)(b:a0):b∈qW J B I↔Beg J B I b:=by
 unfold qW;rw[Gq];constructor
 .rintro⟨t,h,rfl⟩;obtain⟨h1,f⟩:=(jQ _ _ _).mp h;obtain⟨e,Y⟩:=(sub_iv _ _ _).mp f;refine⟨?_,?_,λi U d=>?_,λx S=>?_⟩
  .unfold gQ;rw[GK];refine⟨jF _ _,e,λx S y g=>?_⟩
   have:=(mU _ _ _).mp S;have:=Y y g;lia
  .simp_all[FJ,jb]
  .exact Ha _ ((mU _ _ _).mpr ⟨ad,ad⟩)
  .rcases FW.mp S with z|z
   .have:=(mU _ _ _).mp z;lia
   .have:=Y x z;lia
 .rintro⟨h1,f,e,Y⟩;obtain⟨t,rfl,c,a⟩:=tI (I-B) 0 b h1 (λx S=>(Y x S).1) (λi U d=>e i U ad);refine⟨t,(jQ _ _ _).mpr ⟨?_,(sub_iv _ _ _).mpr ⟨c,λx S=>?_⟩⟩,rfl⟩
  .rw[FJ,jb]at f;lia
  .have:=a x S;have:=Y x (FP _ S);lia
theorem mO(h:gQ l):l.Nodup:=Q8 (λh e=>by lia) h
theorem lA:∀(m:Nat) (a:Int),aB a m=(iv a m).map .int
 |0,a=>rfl|m+1,a=>by
  have B:=lA m (a+1);unfold aB at B ⊢;rw[Ik,pk,FK,iv,pk,<- B]
  congr 1
  .simp
  .refine Ib λk _=>?_;simp;lia
theorem AK(n:Nat)(R:List A'->M A')(U S J:Option A')(I:Int):∀(rs B:List a0) (Y:Option A'),B.length+rs.length<=1000->(∀r∈rs,r.length<=100)->∃a,bM (.nm 5) (fg R) (rs.map aP) [U,S,a_ (.lst (B.map aP)),J,a_ (.int I),Y]=.ok (.nx [U,S,a_ (.lst ((B++rs.map (I::·)).map aP)),J,a_ (.int I),a])
 |[],B,Y,_,_=>⟨Y,by simp[bM]⟩|r::rs,B,Y,h,d=>by
  simp only[B_]at h;obtain⟨a,e⟩:=AK n R U S J I rs (B++[I::r]) (a_ (aP r)) (by simp;lia) λx f=>d x (by simp[f]);refine⟨a,?_⟩
  have i:B.length<16777216:=ad
  have g:=d r am;have c:r.length+1<=16777216:=ad
  have b:1+r.length<=16777216:=ad
  have j:fg R [U,S,a_ (.lst (B.map aP)),J,a_ (.int I),a_ (aP r)]=.ok (.nx [U,S,a_ (.lst ((B++[I::r]).map aP)),J,a_ (.int I),a_ (aP r)]):=by simp[fg,aP,eW,i,c,b]
  rw[pk,bM];simp only[iC,xM,u_,af,j];rw[e];simp
theorem AJ(n:Nat)(R:List A'->M A')(B:a0)(k:Nat)(o:B.length<=8)(e:∀j,R [.lst ((B.drop j).map .int),.int k]=.ok (.lst ((chs k (B.drop j)).map aP))):
  ∀(I:a0) (j:Nat) (J:List a0) (b Y S:Option A'),B.drop j=I->J.length+(chs (k+1) I).length<=1000->∃g f c,bM (.tp [3,4]) (f9 R) (eO j (I.map .int)) [a_ (.lst (B.map .int)),a_ (.int ((k:Int)+1)),a_ (.lst (J.map aP)),b,Y,S]=.ok (.nx [a_ (.lst (B.map .int)),a_ (.int ((k:Int)+1)),a_ (.lst ((J++chs (k+1) I).map aP)),g,f,c])
 |[],j,J,b,Y,S,_,_=>⟨b,Y,S,by simp[eO,bM,chs]⟩|a::I,j,J,b,Y,S,m,p=>by
  have U:B.drop (j+1)=I:=by rw[<- JV,m];rfl
  rw[chs,FJ,oe]at p;obtain⟨c,e1⟩:=AK n R (a_ (.lst (B.map .int))) (a_ (.int ((k:Int)+1))) (a_ (.int (j:Int))) a (chs k I) J S ad (λr d=>by have:=((jQ _ _ _).mp d).2.length_le;grind)
  obtain⟨l,i,h,e2⟩:=AJ n R B k o e I (j+1) (J++(chs k I).map (a::·)) (a_ (.int (j:Int))) (a_ (.int a)) c U (by simp;lia);refine⟨l,i,h,?_⟩
  have d:=e (j+1);rw[U]at d;have z:((j:Int)+1).toNat=j+1:=ad
  have q:(0:Int)<=(j:Int)+1:=ad
  simp_all[uC,Mu,f9,pk,eO,bM,af,chs]
theorem sJ(n:Nat):∀(d k:Nat) (B:a0),k<d->B.length<=8->bJ 6 2 (bG d) [.lst (B.map .int),.int k]=.ok (.lst ((chs k B).map aP))
 |0,k,B,h,_=>by lia|d+1,0,B,h,I=>by simp[lY,bG,fy,ij,aP]|d+1,k+1,B,h,I=>by
  have J:=qe B (k+1);have b:2^B.length<=2^8:=Ko as I;obtain⟨a,Y,U,e⟩:=AJ n (bJ 6 2 (bG d)) B k I (λj=>sJ n d k (B.drop j) ad (by rw[Hu];lia)) B 0 [] e_ e_ e_ rfl (by simp;lia);have S:¬((k:Int)+1=0):=ad
  rw[IH,GL]at e;simp[bG,fy,ij,S,e,-e_run];simp only[e_run,B_,JO,pk,GL,PY,IH,D_];simp[S,e]
theorem begin_ok(n J B I:Nat)(w:J<=41)(r:B<=3)(v:I<=J):cI [.int J,.int B,.int I]=.ok (.lst ((qW J B I).map aP)):=by
 have e1:fN 0 ((I:Int)-B)=((I-B:Nat):Int):=by unfold fN;split<;>lia
 have e2:wd (J:Int) ((I:Int)+B)=((N6 J (I+B):Nat):Int):=by unfold wd;split<;>lia
 have p: -4611686018427387904<=((I-B:Nat):Int):=ad
 have k2:((I-B:Nat):Int)<4611686018427387904:=ad
 have o: -4611686018427387904<=((N6 J (I+B):Nat):Int):=ad
 have m:((N6 J (I+B):Nat):Int)<4611686018427387904:=ad
 have l:(((N6 J (I+B):Nat):Int)-((I-B:Nat):Int)).toNat=N6 J (I+B)-(I-B):=ad
 have k:(I:Int)-((I-B:Nat):Int)=((I-(I-B):Nat):Int):=ad
 have j:I-B<=16777216:=ad
 have i:N6 J (I+B)-(I-B)<=16777216:=ad
 have u:=sJ n 6 (I-(I-B)) (iv ((I-B:Nat):Int) (N6 J (I+B)-(I-B))) ad (by rw[jb];lia);have g:jC [.lst ((iv ((I-B:Nat):Int) (N6 J (I+B)-(I-B))).map .int),.int ((I-(I-B):Nat):Int)]=.ok (.lst ((chs (I-(I-B)) (iv ((I-B:Nat):Int) (N6 J (I+B)-(I-B)))).map aP)):=u;have S:=qe (iv ((I-B:Nat):Int) (N6 J (I+B)-(I-B))) (I-(I-B));rw[jb]at S;have y:2^(N6 J (I+B)-(I-B))<=2^8:=Ko as ad;have U:∀t∈chs (I-(I-B)) (iv ((I-B:Nat):Int) (N6 J (I+B)-(I-B))),t.length<=41:=λt f=>by have:=((jQ _ _ _).mp f).1;lia
 generalize s:chs (I-(I-B)) (iv ((I-B:Nat):Int) (N6 J (I+B)-(I-B)))=C at g S U;have Y:∀C:List a0,(∀t∈C,t.length<=41)->aO (.nm 0) gp (f2 eW (ae 1) (ae 0)) [e_,a_ (aP (iv 0 (I-B)))] (C.map aP)=.ok ((C.map (iv 0 (I-B)++·)).map aP):=by
  intro C
  induction C with
  |nil=>intro _;rfl|cons t C c=>
   intro h;have f:=h t am;have d:I-B+t.length<=16777216:=ad
   rw[pk,aO];have c:=c λx q=>h x (by simp[q]);simp only[iC,u_,af,e_yes,Jw,e_2,e_varS,e_var0,c];simp[aP,eW,jb,d]
 have a:=Y C U;have e:C.length<=16777216:=ad
 have eb:qW J B I=C.map (iv 0 (I-B)++·):=by unfold qW;rw[s]
 rw[eb];have b:aP (iv 0 (I-B))=.tup ((iv 0 (I-B)).map .int):=rfl;rw[b]at a;simp[cI,jJ,e1,e2,p,k2,o,m,l,lA,jb,j,i,k,g,e,a,-FK]
theorem AR(J B I:Nat)(h:B<=3)(U:I<=J):(qW J B I).length<=256:=by unfold qW;rw[oe];have S:=qe (iv ((I-B:Nat):Int) (N6 J (I+B)-(I-B))) (I-(I-B));rw[jb]at S;have Y:2^(N6 J (I+B)-(I-B))<=2^8:=Ko as ad;lia
def Ft(I B:Nat):qW I B 0=[[]]:=by simp[qW,lY,iv]
theorem q9:∀(k:Nat) (B:a0),B.Nodup->(chs k B).Nodup
 |0,B,_=>by simp[lY]|k+1,[],_=>by simp[chs]|k+1,a::B,h=>by
  rw[Jj]at h;rw[chs,Js];refine⟨?_,q9 (k+1) B h.2,λx S y J e=>?_⟩
  .refine MZ.mpr ((q9 k B h.2).imp λ{x y} I e=>I (by simpa using e))
  .obtain⟨t,_,rfl⟩:=Gq.mp S;subst e;exact h.1 (((jQ _ _ _).mp J).2.subset am)
def sR(J B I:Nat):(qW J B I).Nodup:=by unfold qW;exact MZ.mpr ((q9 _ _ (mO (jF _ _))).imp λ{x y} S e=>S (List.append_cancel_left e))
end
section
variable(CR CP:iF)(n:Nat)
def run_12_1:aD [.int 12,.int 1]=.ok (.int 233):=by kernel_rfl
def run_7_2:aD [.int 7,.int 2]=.ok (.int 172):=by kernel_rfl
def run_6_3:aD [.int 6,.int 3]=.ok (.int 230):=by kernel_rfl
def run_18_1:aD [.int 18,.int 1]=.ok (.int 4181):=by kernel_rfl
def run_10_2:aD [.int 10,.int 2]=.ok (.int 2177):=by kernel_rfl
def run_8_3:aD [.int 8,.int 3]=.ok (.int 2069):=by kernel_rfl
def D7:aD [.int 8,.int 0]=.ok (.int 1):=by rfl
def run_5_1:aD [.int 5,.int 1]=.ok (.int 8):=by rfl
def run_4_2:aD [.int 4,.int 2]=.ok (.int 14):=by rfl
def D8:aD [.int 4,.int 3]=.ok (.int 24):=by rfl
def run_6_1:aD [.int 6,.int 1]=.ok (.int 13):=by rfl
def run_5_2:aD [.int 5,.int 2]=.ok (.int 31):=by rfl
end
theorem El:∀(m:Nat) (a:Int) (i:Nat),i<m->(iv a m)[i]?=a_ (a+i)
 |m+1,a,0,_=>by simp[iv]|m+1,a,i+1,h=>by
  rw[iv,GV,El m (a+1) i ad]
  congr 1
  lia
theorem zm(B sh:Nat):∀(n:Nat) (f:Nat->Nat),(∀i,i<n->f i<=B)->(∀i,i+sh+1<n->f i=0)->((x_ n).map f).sum<=(sh+1)*B/\((x_ n).map f).sum<=n*B
 |0,f,_,_=>by simp|n+1,f,h1,I=>by
  obtain⟨a,b⟩:=zm B sh n (λi=>f (i+1)) (λi hi=>h1 _ ad) λi hi=>I _ ad;have h0:=h1 0 ad;rw[Ik,pk,QI,FK];have e:(f∘Nat.succ)=λi=>f (i+1):=rfl;rw[e];have c:f 0+((x_ n).map λi=>f (i+1)).sum<=(n+1)*B:=by rw[Nat.succ_mul];lia
  refine⟨?_,c⟩
  by_cases z:sh+1<n+1
  .simp_all
  .exact C_ c (OZ _ ad)
theorem V.AX(v:V)(P:Pap):∀(xs:List (a0×Nat)) (ks:a9),(xs.foldl (v.xw P) ks).length<=ks.length+(xs.map λp=>v.g.s*(look P p.1).length).sum
 |[],ks=>by simp|p::xs,ks=>by rw[FH];have h1:=v.AX P xs (v.xw P ks p);have B:=v.oo p.2 (look P p.1) ks;rw[pk,QI];unfold V.xw at h1 ⊢;lia
structure V.Few(v:V)(sh:Nat)(P:Pap):Prop where
 lab:Cr v P
 key:∀b∈P.map (·.1),b.length<=v.fl.length/\Beg v.fl.length sh b.length b
 few:∀b,(look P b).length<=(v.g.s*(sh+1))^b.length
def V.Few.nil(v:V)(sh:Nat):v.Few sh []:=⟨λb l h=>(by cases h),λb h=>(by cases h),λb=>(by simp[look])⟩
section
variable{c:List Int}
theorem V.Few.many(h:v.Few sh P)(I:(v.g.s*(sh+1))^v.fl.length<=262144)(b:a0):(look P b).length<=262144:=by
 by_cases B:b∈P.map (·.1)
 .have h1:=h.few b;have J:(v.g.s*(sh+1))^b.length<=(v.g.s*(sh+1))^v.fl.length:=Ko (by have:=v.g.s2;exact Nat.mul_pos ad ad) (h.key b B).1;lia
 .rw[lJ B];simp
theorem V.Few.behs_len(h:v.Few sh P)(S:c.length=k+1)(I:Beg v.fl.length sh (k+1) c):(v.iH P c).length<=(v.g.s*(sh+1))^(k+1):=by
 have h1:=v.AX P (smL c) [];have m:((smL c).map λp=>v.g.s*(look P p.1).length)=(x_ (k+1)).map λi=>v.g.s*(look P (c.eraseIdx i)).length:=by rw[smL,FK,S];rfl
 have l:=(zm (v.g.s*(v.g.s*(sh+1))^k) sh (k+1) (λi=>v.g.s*(look P (c.eraseIdx i)).length) (λi hi=>by
  have:=h.few (c.eraseIdx i);rw[Kk,S,p_ hi]at this;exact Kx _ this) λi hi=>by
   have:c.eraseIdx i∉P.map (·.1):=λz=>by
    have a:=(h.key _ z).2;rw[Kk,S,p_ ad]at a;have d:=a.sure (i:Int) ad ad
    obtain⟨t,e,_⟩:=tI (k+1-sh) 0 c I.rise (λx b=>(I.bnd x b).1) λx h0 h1=>I.sure x h0 ad;have g:c[i]?=a_ (i:Int):=by rw[e,Gw (by rw[jb];lia),El _ _ _ ad];simp
    obtain⟨j,Y,J,n⟩:=HU.mp d;obtain⟨B,f⟩:=n_.mp g;have U:=G2.mp I.rise;rcases MN J with z|z
    .have:=U j i Y B z;lia
    .have:=U i j B Y z;lia
   rw[lJ this];simp).1
 unfold V.iH;grind
theorem V.Few.ents(U:v.Good)(h:v.Few sh P)(I:Beg v.fl.length sh c.length c):(∀l∈v.ent P c,Lab v.g l)/\(v.ent P c).length<=(v.g.s*(sh+1))^c.length:=by
 refine⟨λl B=>?_,?_⟩
 .unfold V.ent at B;split at B
  .rw[Gi.mp B];exact v.Ei
  .obtain⟨i,hi,S,e1,s,e2,e3⟩:=v.uH.mp (oi B);have:=I.bnd _ (getD_in hi);exact U.uI (h.lab _ S e1) ad e2 e3
 .unfold V.ent;split
  .simp_all
  .rename_i e;obtain⟨k,J⟩:∃k,c.length=k+1:=⟨c.length-1,by have:=Mi.mpr e;lia⟩
   rw[J]at I ⊢;have h1:=h.behs_len J I;exact C_ (best_len _) h1
def tX(B:c∉P.map (·.1)):look (P++[(c,ls)]) c=ls:=by rw[Aa,q_ B];simp[look]
def nZ(B:b≠c):look (P++[(c,ls)]) b=look P b:=by
 rw[Aa];split
 .rfl
 .rename_i I;rw[lJ I,lJ];simpa using B
def V.Few.next(U:v.Good)(h:v.Few sh P)(J:c∉P.map (·.1))(B:c.length<=v.fl.length)(S:Beg v.fl.length sh c.length c):v.Few sh (P++[(c,v.ent P c)]):=by
 obtain⟨e1,e2⟩:=h.ents U S;refine⟨λb l B=>?_,λb I=>?_,λb=>?_⟩
 .by_cases e:b=c
  .rw[e,tX J]at B;exact e1 l B
  .rw[nZ e]at B;exact h.lab b l B
 .rw[Hc,FW]at I;rcases I with z|z
  .exact h.key b z
  .have:b=c:=by simpa using z
   rw[this];exact⟨B,S⟩
 .by_cases e:b=c
  .rw[e,tX J];exact e2
  .rw[nZ e];exact h.few b
theorem V.Few.room(h:v.Few sh P)(J:(v.g.s*(sh+1))^v.fl.length<=262144)(B:c.length<=18):v.g.s*262144*c.length<16777216/\(v.iH P c).length<16777216:=by
 obtain⟨s1,s2⟩:=v.g.s2;have h1:v.g.s*262144*c.length<=2*262144*18:=KS ad B;have I:=v.uS P 262144 (smL c) [] λp _=>h.many J p.1;have S:(smL c).length=c.length:=by simp[smL]
 rw[S]at I;unfold V.iH;simp at I;lia
end
section
variable(CR CP:iF)
theorem rD(n:Nat)(S:CR≠CP){v:V}(k:v.Good){sh:Nat}(u:v.fl.length<=18)(t:(v.g.s*(sh+1))^v.fl.length<=262144)(g:Option A'):∀(B:List a0) (P:Pap) (j:Option A'),v.Few sh P->(P.map (·.1)++B).Nodup->(∀b∈B,b.length<=v.fl.length/\Beg v.fl.length sh b.length b)->(P.map (·.1)++B).length<16777216->v.Few sh (v.pap P B)/\∃l,
  bM (.nm 5) (fG CR CP n) (B.map aP) [a_ (aq CR CP v.g.rows v.g.o),a_ (.lst (v.fl.map flD)),a_ (.lst (v.cs.map stD)),g,a_ (.dic (bx P)),j]=.ok (.nx [a_ (aq CR CP v.g.rows v.g.o),a_ (.lst (v.fl.map flD)),a_ (.lst (v.cs.map stD)),g,a_ (.dic (bx (v.pap P B))),l])
 |[],P,j,h,_,_,_=>⟨h,j,rfl⟩|b::B,P,j,h,D,E,A=>by
  have a:b∉P.map (·.1):=λz=>(Js.mp D).2.2 b z b am rfl;obtain⟨f,U⟩:=E b am;have r:∀x∈b,0<=x/\x<v.fl.length:=λx w=>⟨(U.bnd x w).1,(U.bnd x w).2.1⟩
  have K:=h.next k a f U
  have C:(P++[(b,v.ent P b)]).map (·.1)++B=P.map (·.1)++b::B:=by simp
  obtain⟨L,l,H⟩:=rD n S k u t g B (P++[(b,v.ent P b)]) (a_ (aP b)) K (by rw[C];exact D) (λc O=>E c (by simp[O])) (by rw[C];exact A);refine⟨L,l,?_⟩
  have m:=vO (v.ent P b);have Y:(bx P).length<16777216:=by simp only[FJ,oe]at A;simp only[bx,oe];lia
  have I:=put_dicP b P (v.ent P b) a;have y:=(ne_tup b).1;have s:fG CR CP n [a_ (aq CR CP v.g.rows v.g.o),a_ (.lst (v.fl.map flD)),a_ (.lst (v.cs.map stD)),g,a_ (.dic (bx P)),a_ (aP b)]=.ok (.nx [a_ (aq CR CP v.g.rows v.g.o),a_ (.lst (v.fl.map flD)),a_ (.lst (v.cs.map stD)),g,a_ (.dic (bx (P++[(b,v.ent P b)]))),a_ (aP b)]):=by
   by_cases e:b=[]
   .have o:=wK CR CP n S k.g;have p:v.ent P b=[v.l0]:=by unfold V.ent;rw[p_ e]
    have N:cC (v.ent P b)=.lst [aY 0 (L0 v.g)]:=by rw[p];rfl
    rw[N]at m I;have J:eqM (aP b) (.tup [])=.ok (.bl d_):=by rw[y,e];rfl
    rw[<- I];simp[fG,jS,J,o,kA,m,Y,lU]
   .have p:v.ent P b=m7 (v.iH P b):=by unfold V.ent;rw[q_ e]
    have J:eqM (aP b) (.tup [])=.ok (.bl c_):=by
     rw[y];cases b with
     |nil=>exact FR rfl e|cons x b=>rfl
    obtain⟨G,F⟩:=h.room t (c:=b) ad;have q:=Fq CR CP n S k P h.lab 262144 b r ad (λi _=>h.many t _) G;have d:=best_ok n (v.iH P b) F;rw[<- p]at d;rw[<- I];simp[fG,jS,J,q,d,kA,m,Y,lU]
  rw[pk,bM,iC,af];simp only[xM,u_];rw[s,af];exact H
end
theorem foldl_congr{α β:Type}{f g:β->α->β}:∀(l:List α) (b:β),(∀x∈l,∀b,f b x=g b x)->l.foldl f b=l.foldl g b
 |[],_,_=>rfl|x::l,b,h=>by rw[FH,FH,h x am];exact foldl_congr l _ λy B=>h y (by simp[B])
theorem V.sQ(v:V)(h:∀c:a0,c.length<b.length->look P c=look Q c):v.iH P b=v.iH Q b:=by unfold V.iH;refine foldl_congr _ _ λx B ks=>?_;obtain⟨i,hi,rfl⟩:=Gq.mp B;have hi:=Gv.mp hi;unfold V.xw;rw[h (b.eraseIdx i) (by have:=lS hi;lia)]
def V.EE(v:V)(h:∀c:a0,c.length<b.length->look P c=look Q c):v.ent P b=v.ent Q b:=by unfold V.ent;rw[v.sQ h]
def V.nS(v:V)(P:Pap)(b:a0)(B:List a0):v.pap P (b::B)=v.pap (P++[(b,v.ent P b)]) B:=rfl
theorem V.zX(v:V):∀(B:List a0) (P:Pap),(v.pap P B).map (·.1)=P.map (·.1)++B
 |[],P=>by simp[V.pap]|b::B,P=>by rw[v.nS,v.zX B];simp
theorem V.tW(v:V){c:a0}:∀(B:List a0) (P:Pap),c∉B->look (v.pap P B) c=look P c
 |[],P,_=>rfl|b::B,P,h=>by simp only[t_,not_or]at h;rw[v.nS,v.tW B _ h.2,nZ h.1]
theorem V.zW(v:V):∀(B:List a0) (P:Pap),(P.map (·.1)++B).Nodup->B.Pairwise (λa b=>a.length<=b.length)->∀b∈B,look (v.pap P B) b=v.ent (v.pap P B) b
 |b::B,P,J,I,c,g=>by
  rw[GP]at I;have f:(P++[(b,v.ent P b)]).map (·.1)++B=P.map (·.1)++b::B:=by simp
  have Y:b∉B:=by have:=(Js.mp J).2.1;rw[Jj]at this;exact this.1
  have U:b∉P.map (·.1):=λz=>(Js.mp J).2.2 b z b am rfl;rcases t_.mp g with e|e
  .subst e;rw[v.nS,v.tW B _ Y,tX U];refine v.EE λd h=>?_;have S:d∉B:=λz=>by have:=I.1 d z;lia
   rw[v.tW B _ S,nZ (λz=>by simp_all)]
  .rw[v.nS];exact v.zW B _ (by rw[f];exact J) I.2 c e
def BL(m s:Nat):List a0:=(x_ (m+1)).flatMap (qW m s)
theorem ng{s:Nat}:b∈BL m s↔∃k,k<=m/\Beg m s k b:=by
 unfold BL;rw[Nc];constructor
 .rintro⟨k,B,I⟩;have B:=Gv.mp B;exact⟨k,ad,(uJ ad b).mp I⟩
 .rintro⟨k,B,I⟩;exact⟨k,Gv.mpr ad,(uJ B b).mpr I⟩
theorem se{m s:Nat}:∀(j r:Nat),j+r<=m+1->((GZ j r).flatMap (qW m s)).Nodup/\((GZ j r).flatMap (qW m s)).Pairwise (λa b=>a.length<=b.length)/\∀b∈(GZ j r).flatMap (qW m s),j<=b.length
 |j,0,_=>⟨am,am,am⟩|j,r+1,h=>by
  obtain⟨h1,U,S⟩:=se (m:=m) (s:=s) (j+1) r ad;have J:∀b∈qW m s j,b.length=j:=λb B=>((uJ ad b).mp B).len;rw[IV,Jt];refine⟨?_,?_,λb B=>?_⟩
  .rw[Js];refine⟨sR m s j,h1,λa I b B e=>?_⟩
   have Y:=J a I;have g2:=S b B;rw[e]at Y;lia
  .rw[GK];refine⟨?_,U,λa I b B=>?_⟩
   .exact MO (λ{a b} I B _=>by simp_all) (sR m s j)
   .have:=J a I;have:=S b B;lia
  .rcases FW.mp B with z|z
   .rw[J b z];exact i_ _
   .have:=S b z;lia
theorem BL_ok(m s:Nat):(BL m s).Nodup/\(BL m s).Pairwise (λa b=>a.length<=b.length):=by have:=se (m:=m) (s:=s) 0 (m+1) ad;unfold BL;rw[Kj];exact⟨this.1,this.2.1⟩
def yX(m s:Nat):(BL m s).head? =a_ []:=by simp[BL,Ik,Jt,Ft]
theorem Au{m s:Nat}(B:s<=3):∀l:a5,(∀k∈l,k<=m)->(l.flatMap (qW m s)).length<=256*l.length
 |[],_=>by simp|k::l,h=>by have h1:=AR m s k B (h k am);have J:=Au B l λj I=>h j (by simp[I]);grind
theorem B9{s:Nat}(J:m<=41)(B:s<=3):(BL m s).length<=11000:=by
 have:=Au (m:=m) (s:=s) B (x_ (m+1)) λk I=>by have:=Gv.mp I;lia
 rw[HE]at this;unfold BL;lia
section
variable(CR CP:iF)
theorem AV(n:Nat){m s:Nat}(U:m<=41)(S:s<=3):∀(r j:Nat) (B:List a0) (I:Option A'),j+r<=m+1->B.length+256*r<=100000->∃J,
  bM (.nm 3) (cE) ((iv j r).map .int) [a_ (.int m),a_ (.int s),a_ (.lst (B.map aP)),I]=.ok (.nx [a_ (.int m),a_ (.int s),a_ (.lst ((B++(GZ j r).flatMap (qW m s)).map aP)),J])
 |0,j,B,I,_,_=>⟨I,by simp[bM,iv]⟩|r+1,j,B,I,h1,d=>by
  have c:=AR m s j S ad;obtain⟨J,e⟩:=AV n U S r (j+1) (B++qW m s j) (a_ (.int j)) ad (by simp;lia);refine⟨J,?_⟩
  have b:=begin_ok n m s j U S ad;have Y:(B.map aP).length+((qW m s j).map aP).length<=16777216:=by simp;lia
  have a:cE [a_ (.int m),a_ (.int s),a_ (.lst (B.map aP)),a_ (.int j)]=.ok (.nx [a_ (.int m),a_ (.int s),a_ (.lst ((B++qW m s j).map aP)),a_ (.int j)]):=by simp only[oe]at Y;simp[cE,b,Y]
  rw[iv,pk,bM,iC,af];simp_all[xM,u_,af,IV,Jt,FQ]
theorem AS(n:Nat){s:Nat}(I:m<=41)(B:s<=3):cw [.int m,.int s]=.ok (.lst ((BL m s).map aP)):=by
 obtain⟨J,e⟩:=AV n I B (m+1) 0 [] e_ ad (by simp;lia);have S:(-4611686018427387904:Int)<=(m:Int)+1:=ad
 have k2:(m:Int)+1<4611686018427387904:=ad
 simp_all[Kj,IH,GL,BL,cw,jf,lA]
theorem paper_ok(n:Nat)(B:CR≠CP)(J:v.Good){s:Nat}(I:v.fl.length<=18)(f:(v.g.s*(s+1))^v.fl.length<=262144)(S:s<=3)(Y:aD [.int v.fl.length,.int s]=.ok (.int c))(a:c*v.g.s^v.fl.length<=5000):v.Few s (v.pap [] (BL v.fl.length s))/\eK CR CP n [aq CR CP v.g.rows v.g.o,.lst (v.fl.map flD),.lst (v.cs.map stD),.int s]=.ok (.dic (bx (v.pap [] (BL v.fl.length s)))):=by
 have l:=J.many;have q:=(BL_ok v.fl.length s).1;have p:=B9 (m:=v.fl.length) (s:=s) ad S;obtain⟨U,j,e⟩:=rD CR CP n B J I f (a_ (.int s)) (BL v.fl.length s) [] e_ (V.Few.nil v s) aW (λb d=>by obtain⟨k,o,g⟩:=ng.mp d;exact⟨by rw[g.len];lia,by rw[g.len];exact g⟩) (by simp;lia)
 refine⟨U,?_⟩
 have h1:=vG CR CP n B (v:=v) (m:=v.fl.length) ad rfl Y a;have i:=AS n (m:=v.fl.length) ad S;have h:bx []=[]:=rfl;rw[h]at e;simp[eK,rV,h1,i,e]
end
theorem iq(n:Nat):∀L:List a0,iG (L.map aP) (n+2)=d_
 |[]=>rfl|r::L=>by simp[iG,E',aP,tP,iq n L]
def ne_tups(L:List a0):neM (.lst (L.map aP)) (.lst (L.map aP))=.ok (.bl c_):=by
 have h:E' (.lst (L.map aP)) 40=d_:=by rw[E'];exact iq _ L
 unfold neM;rw[h];simp[iU h]
theorem wB(b:a0):∀P:Pap,b∈P.map (·.1)->qv (bx P) b=a_ (cC (look P b))
 |[],h=>by cases h|p::P,h=>by
  unfold qv bx look;rw[pk,HJ,HJ];by_cases e:p.1=b
  .simp[e]
  .have B:b∈P.map (·.1):=by
    rcases t_.mp h with z|z
    .exact FR z.symm e
    .exact z
   have:=wB b P B;grind[qv,bx,look]
theorem rF:∀ls:a9,j7 (ls.map λl=>A'.tup [Lake.aY l,.bl d_])=.ok ls
 |[]=>rfl|l::ls=>by rw[pk];show(o7 (Lake.aY l)).bind _=_;rw[k9,af,rF ls];rfl
theorem o9(x:LK):∀(ls B:a9),x∈ls.foldl Lake.putL B↔x∈B\/x∈ls
 |[],B=>by simp|l::ls,B=>by rw[FH,o9 x ls,zR,t_];exact or_assoc
theorem xm{α:Type}(t:α->Bool):∀l:List α,fF (l.map λx=>A'.bl (t x))=.ok (l.map t)
 |[]=>rfl|a::l=>by rw[pk,fF,xm t l];rfl
theorem all_map{α:Type}(t:α->Bool)(l:List α):allD [.lst (l.map λx=>A'.bl (t x))]=.ok (.bl (l.all t)):=by simp[e_all,xm,af,List.all_map]
theorem lX{α:Type}{p:Pat}{ft:ag->M Bool}{fe:ag->M A'}{ρ0:ag}(g f:α->A')(t:α->Bool):∀(L:List α),(∀x∈L,∃ρ,cA p (g x) ρ0=.ok ρ/\ft ρ=.ok (t x)/\(t x=d_->fe ρ=.ok (f x)))->aO p ft fe ρ0 (L.map g)=.ok ((L.filter t).map f)
 |[],_=>rfl|x::L,h=>by
  obtain⟨ρ,h1,S,J⟩:=h x am;have B:=lX g f t L λy I=>h y (by simp[I]);rw[pk,aO,h1,af,S,af];by_cases c:t x=d_
  .simp[c,J c,B]
  .simp[c,B]
section
variable(CR CP:iF)
def has_dil(n:Nat)(ls:a9)(l:LK):bq [.dil ls,Lake.aY l]=.ok (.bl (ls.any λx=>nw x l)):=by
 rcases u9 n (a_ (.dil ls)) l ls e_ with⟨h1,B⟩|⟨h1,I,B⟩
 .simp[bq,di,h1,B]
 .simp[bq,di,h1,B]
def V.hG(v:V)(Q:Pap)(b:a0):Bool:=if b=[]then d_ else
 (((look Q b).foldl Lake.putL []).all λx=>xF (x∈v.iH Q b))&&(((v.iH Q b).filter λx=> !decide (x∈(look Q b).foldl Lake.putL [])).all λx=>((look Q b).foldl Lake.putL []).any λy=>nw y x)
theorem De(n:Nat)(Y:CR≠CP)(r:v.Good)(a:Cr v P)(B:∀b,(look P b).length<=262144)(F:b∈P.map (·.1))(first:b=[]->look P b=[v.l0])(o:∀x∈b,0<=x/\x<v.fl.length)(f:b.length<=18):bK CR CP n [aq CR CP v.g.rows v.g.o,.lst (v.fl.map flD),.lst (v.cs.map stD),.dic (bx P),aP b]=.ok (.bl (v.hG P b)):=by
 have S:xD (.dic (bx P)) (aP b)=.ok (cC (look P b)):=by rw[jO,kA,af,wB b P F]
 have s:=(ne_tup b).1;by_cases e:b=[]
 .have m:=wK CR CP n Y r.g;have G:=first e;have J:eqM (aP b) (.tup [])=.ok (.bl d_):=by rw[s,e];rfl
  have D:eqM (cC [v.l0]) (.lst [aY 0 (L0 v.g)])=.ok (.bl d_):=by
    have h:E' (.lst [Lake.aY v.l0]) 40=d_:=by simp[Lake.aY,E',iG,iq]
    show eqM (.lst [Lake.aY v.l0]) (.lst [Lake.aY v.l0])=_;unfold eqM;rw[h];simp[iU h]
  rw[G]at S;have:v.hG P b=d_:=by unfold V.hG;rw[p_ e]
  rw[this];simp[bK,dN,cU,J,S,m,D,-jO]
 .have J:eqM (aP b) (.tup [])=.ok (.bl c_):=by
   rw[s];cases b with
   |nil=>exact FR rfl e|cons x b=>rfl
  obtain⟨s1,s2⟩:=v.g.s2;have A:v.g.s*262144*b.length<16777216:=JQ (KS (show v.g.s*262144<=2*262144 by lia) f) as;have q:=v.uS P 262144 (smL b) [] λp _=>B p.1;have d:=Fq CR CP n Y r P a 262144 b o ad (λi _=>B _) A;have j:(v.iH P b).length<=16777216:=by
   unfold V.iH;have:(smL b).length=b.length:=by simp[smL]
   rw[this]at q;simp only[JO,KA]at q;lia
  have H:v.hG P b=((((look P b).foldl Lake.putL []).all λx=>xF (x∈v.iH P b))&&(((v.iH P b).filter λx=> !decide (x∈(look P b).foldl Lake.putL [])).all λx=>((look P b).foldl Lake.putL []).any λy=>nw y x)):=by unfold V.hG;rw[q_ e]
  have c:(look P b).length<=16777216:=by have:=B b;lia
  have g:((look P b).foldl Lake.putL []).length<=16777216:=by
   have:∀ls I:a9,(ls.foldl Lake.putL I).length<=I.length+ls.length:=λls=>by
    induction ls with
    |nil=>intro I;simp|cons l ls C=>intro I;have h1:=C (Lake.putL I l);have N:=zS I l;grind
   have h1:=this (look P b) [];simp only[JO,KA]at h1;lia
  have t:AE [.lst ((look P b).map λl=>A'.tup [Lake.aY l,.bl d_])]=.ok (.dil ((look P b).foldl Lake.putL [])):=by rw[uh,rF,af]
  rw[H];generalize (look P b).foldl Lake.putL []=T at *;have w:aO (.nm 0) gp (fL cq (aa (ae 0) (aa (fC (.bl d_)) aw))) [e_] ((look P b).map Lake.aY)=.ok ((look P b).map λl=>A'.tup [Lake.aY l,.bl d_]):=
   iY Lake.aY _ _ λl _=>⟨[a_ (Lake.aY l)],am,am⟩
  have k:∀x,inLD (Lake.aY x) (.dil (v.iH P b))=.ok (.bl (xF (x∈v.iH P b))):=λx=>by show(o7 (Lake.aY x)).bind _=_;rw[k9,af]
  have u:aO (.nm 0) gp (f2 inLD (ae 0) (ae 1)) [e_,a_ (.dil (v.iH P b))] (T.map Lake.aY)=.ok (T.map λx=>A'.bl (xF (x∈v.iH P b))):=
   iY Lake.aY _ _ λl E=>⟨[a_ (Lake.aY l),a_ (.dil (v.iH P b))],am,by simp[k l]⟩
  have U:∀x,tU (Lake.aY x) (.dil T)=.ok (.bl !decide (x∈T)):=λx=>by show(o7 (Lake.aY x)).bind _=_;rw[k9,af]
  have K:aO (.nm 0) (fB (f2 tU (ae 0) (ae 1))) (fL (bq) (aa (ae 1) (aa (ae 0) aw))) [e_,a_ (.dil T)] ((v.iH P b).map Lake.aY)=.ok (((v.iH P b).filter λx=> !decide (x∈T)).map λx=>A'.bl (T.any λy=>nw y x)):=
   lX Lake.aY _ _ _ λl E=>⟨[a_ (Lake.aY l),a_ (.dil T)],am,by simp[U l],λ_=>by simp[has_dil n]⟩
  have z:=all_map (λx=>xF (x∈v.iH P b)) T;have L:=all_map (λx=>T.any λy=>nw y x) ((v.iH P b).filter λx=> !decide (x∈T));generalize (T.all λx=>xF (x∈v.iH P b))=p1 at *;generalize (((v.iH P b).filter λx=> !decide (x∈T)).all λx=>T.any λy=>nw y x)=p2 at *;cases p1 with
  |false=>simp[bK,dN,cU,eU,J,S,d,w,t,u,z,c,g,cC,-jO,-uh,-e_all]|true=>simp[bK,dN,cU,eU,J,S,d,w,t,u,K,z,L,c,g,j,cC,-jO,-uh,-e_all]
theorem pB(n:Nat)(S:CR≠CP)(d:v.Good)(q:v.fl.length<=18){s:Nat}(a:s<=3)(h:aD [.int v.fl.length,.int s]=.ok (.int c))(l:c*v.g.s^v.fl.length<=5000)(U:Cr v P)(B:∀b,(look P b).length<=262144)(I:P.map (·.1)=BL v.fl.length s)(first:look P []=[v.l0]):iu CR CP n [aq CR CP v.g.rows v.g.o,.lst (v.fl.map flD),.lst (v.cs.map stD),.int s,.dic (bx P)]=.ok (.bl ((BL v.fl.length s).all (v.hG P))):=by
 have w:=B9 (m:=v.fl.length) (s:=s) ad a;have f:=vG CR CP n S (v:=v) (m:=v.fl.length) ad rfl h l;have p:=AS n (m:=v.fl.length) ad a;have j:(bx P).map (·.1)=BL v.fl.length s:=by rw[<- I];unfold bx;rw[FK];rfl
 have s1:i9 [.dic (bx P)]=.ok (.lst ((cx tY (BL v.fl.length s)).map aP)):=by rw[kf,j,p_ (yX _ _)]
 have s2:i9 [.lst ((BL v.fl.length s).map aP)]=.ok (.lst ((cx tY (BL v.fl.length s)).map aP)):=by rw[sv,m8,af,p_ (yX _ _)]
 have J:=ne_tups (cx tY (BL v.fl.length s));have r:aO (.nm 0) gp (fL (bK CR CP n) (aa (ae 1) (aa (ae 2) (aa (ae 3) (aa (ae 4) (aa (ae 0) aw)))))) [e_,a_ (aq CR CP v.g.rows v.g.o),a_ (.lst (v.fl.map flD)),a_ (.lst (v.cs.map stD)),a_ (.dic (bx P))] ((BL v.fl.length s).map aP)=.ok ((BL v.fl.length s).map λb=>A'.bl (v.hG P b)):=
  iY aP _ _ λb o=>⟨[a_ (aP b),a_ (aq CR CP v.g.rows v.g.o),a_ (.lst (v.fl.map flD)),a_ (.lst (v.cs.map stD)),a_ (.dic (bx P))],am,by obtain⟨k,u,g⟩:=ng.mp o;have:=De CR CP n S d U B aW (λe=>by rw[e];exact first) (λx Y=>⟨(g.bnd x Y).1,(g.bnd x Y).2.1⟩) (by rw[g.len];lia);simp[this]⟩
 have i:(BL v.fl.length s).length<=16777216:=ad
 have t:=all_map (v.hG P) (BL v.fl.length s);simp[iu,rW,mZ,f,p,s1,s2,J,r,i,t,-kf,-sv,-e_all]
end
theorem lex_le:∀{a b:a0},a.length=b.length->leR a b=d_->p9 (λx y=>xF (x<y)) a b=c_->a=b
 |[],[],_,_,_=>rfl|[],_::_,h,_,_=>by simp at h|_::_,[],h,_,_=>by simp at h|x::a,y::b,h,h1,B=>by
  simp only[leR,m_,FG]at h1;simp only[p9]at B;by_cases e:x=y
  .rw[p_ e]at B;rw[e,lex_le (by simpa using h) h1.2 B]
  .rw[q_ e,Jy]at B;lia
theorem E7{k:Nat}:∀{a b:List a0},a.length=b.length->(∀r∈a,r.length=k)->(∀r∈b,r.length=k)->leL a b=d_->ltR a b=c_->a=b
 |[],[],_,_,_,_,_=>rfl|[],_::_,h,_,_,_,_=>by simp at h|_::_,[],h,_,_,_,_=>by simp at h|x::a,y::b,h,S,J,h1,B=>by
  simp only[leL,m_]at h1;simp only[ltR,p9]at B;have U:=(S x am).trans (J y am).symm;by_cases e:x=y
  .rw[p_ e]at B;rw[e,E7 (by simpa using h) (λr I=>S r (by simp[I])) (λr I=>J r (by simp[I])) h1.2 B]
  .rw[q_ e]at B;exact FR (lex_le U h1.1 B) e
theorem nw_eq(J:Lab g x)(I:Lab g y)(h:nw y x=d_)(B:ltL y x=c_):y=x:=by
 simp only[nw,m_,FG]at h;unfold ltL at B;by_cases e:y.1=x.1
 .rw[p_ e]at B;exact NH e (E7 (I.good.1.trans J.good.1.symm) I.good.2 J.good.2 h.2 B)
 .rw[q_ e,Jy]at B;lia
theorem pq:∀(ls B:a9),B.Pairwise (λx y=>ltL y x=c_/\nw x y=c_)->(∀x∈B,∀y∈ls,ltL y x=c_)->ls.Pairwise (λx y=>ltL y x=c_)->(ls.foldl gV B).Pairwise (λx y=>ltL y x=c_/\nw x y=c_)
 |[],_,h,_,_=>h|l::ls,B,h,U,S=>by
  rw[GP]at S;rw[FH];unfold gV;split
  .exact pq ls B h (λx J y I=>U x J y (by simp[I])) S.2
  .rename_i Y;refine pq ls (B++[l]) (GK.mpr ⟨h,am,λx J y I=>?_⟩) (λx J y I=>?_) S.2
   .rw[Gi.mp I];refine⟨U x J l am,?_⟩
    cases e:nw x l with
    |false=>rfl|true=>exact FR (J_.mpr ⟨x,J,e⟩) Y
   .rcases FW.mp J with z|z
    .exact U x z y (by simp[I])
    .rw[Gi.mp z];exact S.1 y I
def Fo(ks:a9):(m7 ks).Pairwise (λx y=>ltL y x=c_/\nw x y=c_):=pq _ [] .nil (λx B=>nomatch B) (fq ordL ks)
def D0{l:a9}(h:l.Pairwise (λx y=>ltL y x=c_)):cx ltL l=l:=kL ordL (bC l) (fq ordL l) h
theorem rH{l:a9}(U:∀x∈l,Lab g x)(h:l.Pairwise (λx y=>ltL y x=c_/\nw x y=c_))(hi:l[i]?=a_ x)(Y:l[j]?=a_ y)(S:nw x y=d_):i=j:=by
 obtain⟨I,b⟩:=n_.mp hi;obtain⟨B,a⟩:=n_.mp Y;have J:=G2.mp h;rcases K6 i j with z|z|z
 .have:=(J i j I B z).2;rw[b,a,S]at this;cases this
 .exact z
 .obtain⟨h1,c⟩:=J j i B I z;rw[b,a]at h1 c;have:=nw_eq (U y (Gn Y)) (U x (Gn hi)) S h1;simp_all[tR]
def V.Aw(v:V)(P:Pap)(b:a0):(v.ent P b).Pairwise (λx y=>ltL y x=c_/\nw x y=c_):=by
 unfold V.ent;split
 .simp
 .exact Fo _
def V.Bu(I:look P b=v.ent P b):v.hG P b=d_:=by
 unfold V.hG;split
 .rfl
 .rename_i e;have U:look P b=m7 (v.iH P b):=by rw[I];unfold V.ent;rw[q_ e]
  have B:∀x,x∈(look P b).foldl Lake.putL []↔x∈m7 (v.iH P b):=λx=>by rw[o9,<- U];simp
  simp only[m_,Hd,FG,J_];refine⟨λx J=>oi ((B x).mp J),λx J=>?_⟩
  obtain⟨y,S,hw⟩:=AQ (GI.mp J).1;exact⟨y,(B y).mpr S,hw⟩
def V.xX(J:Cr v P)(e:b≠[])(B:look P b=v.ent P b)(k:∀c:a0,c.length<b.length->look Q c=look P c)(hi:i<(look P b).length)(n:look Q b=(look P b).eraseIdx i):v.hG Q b=c_:=by
 have h:look P b=m7 (v.iH P b):=by rw[B];unfold V.ent;rw[q_ e]
 have a:v.iH Q b=v.iH P b:=v.sQ k;have I:(look P b).Pairwise (λx y=>ltL y x=c_/\nw x y=c_):=by rw[B];exact v.Aw P b
 have m:(look P b)[i]?=a_ (look P b)[i]:=v_ hi;have d:∀y∈(look P b).eraseIdx i,nw y (look P b)[i]=d_->False:=λy S Y=>by obtain⟨j,g,U,l⟩:=HU.mp S;exact U (rH (J b) I (by rw[v_ g,l]) m Y)
 unfold V.hG;rw[q_ e,n,a,OC];refine .inr ?_;rw[PM];refine⟨(look P b)[i],GI.mpr ⟨?_,?_⟩,?_⟩
 .have:∀x∈look P b,x∈v.iH P b:=λx f=>oi (by rw[<- h];exact f);exact this _ (FX hi)
 .simp only[K3,Jy,o9];rintro(z|z)
  .cases z
  .exact d _ z (tR _)
 .rw[J_];rintro⟨y,S,Y⟩;rw[o9]at S;rcases S with z|z
  .cases z
  .exact d y z Y
theorem rh{α:Type}{R:α->α->Prop}(U:∀a,¬R a a)(S:∀a b,R a b->R b a->False):∀{l m:List α},l.Pairwise R->m.Pairwise R->(∀x,x∈l↔x∈m)->l=m
 |[],[],_,_,_=>rfl|[],b::m,_,_,h=>by have:=(h b).mpr am;simp_all|a::l,[],_,_,h=>by have:=(h a).mp am;simp_all|a::l,b::m,c,Y,h=>by
  have I:=GP.mp c;have B:=GP.mp Y;have e:a=b:=by
   rcases t_.mp ((h a).mp am)with z|z
   .exact z
   .rcases t_.mp ((h b).mpr am)with y|y
    .exact y.symm
    .exact(S a b (I.1 b y) (B.1 a z)).elim
  subst e
  congr 1
  refine rh U S I.2 B.2 λx=>⟨λJ=>?_,λJ=>?_⟩
  .rcases t_.mp ((h x).mp (by simp[J]))with z|z
   .subst z;exact(U x (I.1 x J)).elim
   .exact z
  .rcases t_.mp ((h x).mpr (by simp[J]))with z|z
   .subst z;exact(U x (B.1 x J)).elim
   .exact z
theorem zM{a:a0}(I:gQ a)(B:gQ b)(h:∀x,x∈a↔x∈b):a=b:=rh (R:=(·<·)) (λa=>by lia) (λa b=>by lia) I B h
theorem r6(h:i<p.length):p.take (i+1)=p.take i++[p.getD i (0,0)]:=by simp_all
noncomputable def qN(p:List (Nat×Nat))(i:Nat):Nat×Nat:=p.getD i (0,0)
def V.pf(v:V)(p:List (Nat×Nat))(i:Nat):Fli:=v.f (qN p i).1
def V.ap(v:V)(p:List (Nat×Nat))(j i:Nat):Int:=apS v.g.rows v.g.r2 ((v.pf p j).kind,((qN p j).2:Int)) ((v.pf p i).kind,((qN p i).2:Int))
def V.low(v:V)(p:List (Nat×Nat))(ts:a0)(i j:Nat):Int:=(x_ j).foldl (λt l=>fN t (tAt ts l+v.ap p l i)) (v.pf p i).first
def V.nY(v:V)(p:List (Nat×Nat))(ts:a0)(i j:Nat):v.low p ts i (j+1)=fN (v.low p ts i j) (tAt ts j+v.ap p j i):=by simp[V.low,Qk,K2]
theorem V.p6(v:V)(p:List (Nat×Nat))(ts:a0)(i:Nat):∀j,(v.pf p i).first<=v.low p ts i j
 |0=>Je _|j+1=>by have h1:=v.p6 p ts i j;have B:=yo (v.low p ts i j) (tAt ts j+v.ap p j i);rw[v.nY];lia
theorem V.yp(v:V)(p:List (Nat×Nat))(ts:a0)(i:Nat):∀j l,l<j->tAt ts l+v.ap p l i<=v.low p ts i j
 |0,l,h=>FR h (NA _)|j+1,l,h=>by
  have B:=yo (v.low p ts i j) (tAt ts j+v.ap p j i);rw[v.nY];by_cases e:l=j
  .simp_all
  .have:=v.yp p ts i j l ad;lia
theorem V.low_le(v:V)(p:List (Nat×Nat))(ts:a0)(i:Nat)(t:Int)(h0:(v.pf p i).first<=t):∀j,(∀l,l<j->tAt ts l+v.ap p l i<=t)->v.low p ts i j<=t
 |0,_=>h0|j+1,h=>by have h1:=v.low_le p ts i t h0 j λl B=>h l ad;have I:=h j ad;rw[v.nY];rcases(yo (v.low p ts i j) (tAt ts j+v.ap p j i)).2.2 with e|e<;>lia
def tAt_app{us:a0}(h:i<ts.length):tAt (ts++us) i=tAt ts i:=by unfold tAt;rw[z_,z_,Gw h]
def tAt_new(ts us:a0)(t:Int):tAt (ts++t::us) ts.length=t:=by simp[tAt]
def V.tms(v:V)(p:List (Nat×Nat)):Nat->a0
 |0=>[]|i+1=>v.tms p i++[nx v.cs (v.low p (v.tms p i) i i)]
def V.t(v:V)(p:List (Nat×Nat))(i:Nat):Int:=nx v.cs (v.low p (v.tms p i) i i)
theorem V.xN(v:V)(p:List (Nat×Nat)):∀i,(v.tms p i).length=i
 |0=>rfl|i+1=>by rw[V.tms,FJ,v.xN p i];rfl
theorem V.ve(v:V)(p:List (Nat×Nat)):∀(m i:Nat),i<m->tAt (v.tms p m) i=v.t p i
 |0,i,h=>FR h (NA _)|m+1,i,h=>by
  rw[V.tms];by_cases e:i=m
  .subst e;have:=tAt_new (v.tms p i) [] (nx v.cs (v.low p (v.tms p i) i i));rw[v.xN]at this;exact this
  .rw[tAt_app (by rw[v.xN];lia)];exact v.ve p m i ad
def V.okT(v:V)(p:List (Nat×Nat))(i:Nat):Prop:=v.t p i<=(v.pf p i).last
theorem mP(h:i<p.length):qN p i∈p:=by simp_all[qN,z_,v_]
def V.Good.pfAt(B:v.Good)(I:v.Pl p)(h:i<p.length):iQ (v.fl.map flD) ((qN p i).1:Int)=.ok (flD (v.pf p i))/\n9 v.g.k (v.pf p i):=B.fAt (I _ (mP h)).1
def Gp.Good.apS0(B:g.Good){a b:Cq}(U:0<=a.1)(S:a.1<g.k)(J:0<=b.1)(I:b.1<g.k):0<=apS g.rows g.r2 a b:=by
 unfold apS;split
 .exact(getA B.rows U S J I).2
 .exact(getA B.r2 U S J I).2
def V.Good.ap0(B:v.Good)(I:v.Pl p)(S:j<p.length)(hi:i<p.length):0<=v.ap p j i:=by have J:=(B.pfAt I S).2;have g2:=(B.pfAt I hi).2;exact B.g.apS0 J.k0 J.k1 g2.k0 g2.k1
def V.Good.t_low(B:v.Good)(p:List (Nat×Nat))(i:Nat):v.low p (v.tms p i) i i<=v.t p i:=(B.nxt _).1
theorem V.Good.t0(B:v.Good)(I:v.Pl p)(h:i<p.length):0<=v.t p i:=by have h1:=B.t_low p i;have S:=v.p6 p (v.tms p i) i i;have J:=(B.pfAt I h).2.f0;lia
theorem V.Good.t_gap(B:v.Good)(p:List (Nat×Nat)){l:Nat}(h:l<i):v.t p l+v.ap p l i<=v.t p i:=by have h1:=B.t_low p i;have I:=v.yp p (v.tms p i) i i l h;rw[v.ve p i l h]at I;lia
def V.tab(v:V)(p:List (Nat×Nat)):Nat->List a0
 |0=>L0 v.g|i+1=>putL (v.tab p i) (qN p i).2 (v.pf p i).kind.toNat (v.t p i)
def V.cst(v:V)(p:List (Nat×Nat)):Nat->Int
 |0=>0|i+1=>v.cst p i+Ed (v.pf p i) (v.t p i)
def V.lab(v:V)(p:List (Nat×Nat))(i:Nat):LK:=(v.cst p i,v.tab p i)
theorem V.l9(v:V){p:List (Nat×Nat)}(B:v.Pl p):∀i,i<=p.length->kW v.g.s v.g.k (v.tab p i)
 |0,_=>FE v.g|i+1,h=>oP (v.l9 B i ad) (B _ (mP ad)).2 _
def lAt(L:List a0)(r a:Nat):Int:=tAt (kY L r) a
theorem lAt_put{s:Nat}(B:kW s k L){r a:Nat}(hi:i<s)(U:j<k)(J:r<s)(x:Int):lAt (putL L i j x) r a=if r=i/\a=j then x else lAt L r a:=by
 have S:=B.1;unfold lAt putL;by_cases c:r=i
 .subst c;have e1:kY (L.set r ((kY L r).set j x)) r=(kY L r).set j x:=by
   unfold kY;rw[z_,E_ ad];rfl
  rw[e1];have I:=(i3 B J).2.1;by_cases d:a=j
  .simp_all[p_,tAt,z_,E_]
  .rw[q_ (λz=>d z.2)];unfold tAt;rw[z_,z_,tF (λz=>d z.symm)]
 .rw[q_ (λz=>c z.1)];have e1:kY (L.set i ((kY L i).set j x)) r=kY L r:=by
   show(L.set i ((kY L i).set j x)).getD r []=L.getD r [];generalize (kY L i).set j x=w;rw[z_,tF (λz=>c z.symm),z_]
  rw[e1]
def V.LasAt(v:V)(p:List (Nat×Nat))(i r a:Nat)(x:Int):Prop:=(x= -1/\∀j,j<i->¬((qN p j).2=r/\(v.pf p j).kind=a))\/∃j,j<i/\(qN p j).2=r/\(v.pf p j).kind=a/\x=v.t p j/\∀l,l<i->(qN p l).2=r->(v.pf p l).kind=a->v.t p l<=v.t p j
theorem V.Good.Ef{v:V}(S:v.Good){p:List (Nat×Nat)}(J:v.Pl p):∀i,i<=p.length->∀r a,r<v.g.s->a<v.g.k->v.LasAt p i r a (lAt (v.tab p i) r a)
 |0,_,r,a,Y,f=>.inl ⟨by simp_all[V.tab,L0,lAt,kY,tAt],λj h=>by lia⟩|i+1,hi,r,a,Y,f=>by
  have o:=S.Ef J i ad r a Y f;have g:=(S.pfAt J (i:=i) ad).2;have s:=g.k0;have q:=g.k1;have b:=(J _ (mP (p:=p) (i:=i) ad)).2;have I:=lAt_put (v.l9 J i ad) b (j:=(v.pf p i).kind.toNat) ad (a:=a) Y (v.t p i);have B:v.tab p (i+1)=putL (v.tab p i) (qN p i).2 (v.pf p i).kind.toNat (v.t p i):=rfl;rw[B,I];by_cases e:(qN p i).2=r/\(v.pf p i).kind=a
  .rw[p_ ⟨e.1.symm,ad⟩];refine .inr ⟨i,ad,e.1,e.2,rfl,λl h1 U n=>?_⟩;by_cases z:l=i
   .simp_all
   .have m:=S.t_gap p (l:=l) (i:=i) ad;have k:=S.ap0 J (j:=l) (i:=i) ad ad;lia
  .rw[q_ (λz=>e ⟨z.1.symm,ad⟩)];rcases o with⟨h1,U⟩|⟨j,h1,U,n,m,k⟩
   .refine .inl ⟨h1,λj t=>?_⟩;by_cases z:j=i
    .rw[z];exact e
    .exact U j ad
   .refine .inr ⟨j,ad,U,n,m,λl u d c=>?_⟩;by_cases z:l=i
    .rw[z]at d c;exact FR ⟨d,c⟩ e
    .exact k l ad d c
theorem zJ(J:Nat->Int):∀(xs:a0) (j:Nat) (y:Int),y∈rn J j xs↔∃a,a<xs.length/\tAt xs a≠ -1/\y=tAt xs a+J (j+a)
 |[],j,y=>by simp[rn]|x::xs,j,y=>by
  have S:=zJ J xs (j+1) y;have sh:(∃a,a<xs.length/\tAt xs a≠ -1/\y=tAt xs a+J (j+1+a))↔∃a,0<a/\a<(x::xs).length/\tAt (x::xs) a≠ -1/\y=tAt (x::xs) a+J (j+a):=by
   constructor
   .rintro⟨a,h1,I,B⟩;refine⟨a+1,ad,aW,I,?_⟩
    rw[B];have:j+1+a=j+(a+1):=ad
    rw[this];rfl
   .rintro⟨a,h0,h1,I,B⟩;obtain⟨b,rfl⟩:∃b,a=b+1:=⟨a-1,ad⟩
    refine⟨b,aW,I,?_⟩
    rw[B];have:j+1+b=j+(b+1):=ad
    rw[this];rfl
  by_cases e:x= -1
  .rw[rn,p_ e,S,sh];constructor
   .rintro⟨a,_,h⟩;exact⟨a,h⟩
   .rintro⟨a,h1,I,B⟩;cases a with
    |zero=>exact FR e (by simpa[tAt] using I)|succ a=>exact⟨a+1,ad,h1,I,B⟩
  .rw[rn,q_ e,t_,S,sh];constructor
   .rintro(h|⟨a,_,h⟩)
    .exact⟨0,am,by simp_all[tAt],by simp_all[tAt]⟩
    .exact⟨a,h⟩
   .rintro⟨a,h1,I,B⟩;cases a with
    |zero=>exact .inl (by simpa[tAt] using B)|succ a=>exact .inr ⟨a+1,ad,h1,I,B⟩
theorem uP(S:Nat->Nat->Int):∀(L:List a0) (i:Nat) (y:Int),y∈uQ S i L↔∃r a,r<L.length/\a<(kY L r).length/\lAt L r a≠ -1/\y=lAt L r a+S (i+r) a
 |[],i,y=>by simp[uQ]|U::L,i,y=>by
  rw[uQ,FW,zJ,uP S L (i+1) y];constructor
  .rintro(⟨a,h1,I,B⟩|⟨r,a,h1,I,B,J⟩)
   .exact⟨0,a,am,h1,I,by rw[B,KA];rfl⟩
   .refine⟨r+1,a,aW,I,B,?_⟩
    rw[J];have:i+1+r=i+(r+1):=ad
    rw[this];rfl
  .rintro⟨r,a,h1,I,B,J⟩;cases r with
   |zero=>exact .inl ⟨a,I,B,by rw[J,KA];rfl⟩|succ r=>
    refine .inr ⟨r,a,aW,I,B,?_⟩;rw[J];have:i+1+r=i+(r+1):=ad
    rw[this];rfl
def foldl_max(xs:a0)(x:Int):(xs.foldl fN x=x\/xs.foldl fN x∈xs)/\x<=xs.foldl fN x/\∀y∈xs,y<=xs.foldl fN x:=⟨lQ xs x,(Lake.fold_max xs x).2⟩
theorem V.Good.las_low(U:v.Good)(S:v.Pl p)(hi:i<p.length):Bh v.g (v.tab p i) (v.pf p i) (qN p i).2=v.low p (v.tms p i) i i:=by
 unfold Bh;obtain⟨k,h,f⟩:=foldl_max (uQ (λr a=>apS v.g.rows v.g.r2 ((a:Int),(r:Int)) ((v.pf p i).kind,((qN p i).2:Int))) 0 (v.tab p i)) (v.pf p i).first;have Y:=v.l9 S i ad;refine Qw ?_ ?_
 .rcases k with e|e
  .rw[e];exact v.p6 p _ _ _
  .obtain⟨r,a,h1,s,q,d⟩:=(uP _ _ _ _).mp e;rw[d];have J:r<v.g.s:=by rw[<- Y.1];exact h1
   have m:a<v.g.k:=by rw[<- (i3 Y J).2.1];exact s
   rcases U.Ef S i ad r a J m with⟨z,_⟩|⟨j,b,o,n,c,_⟩
   .exact FR z q
   .have:=v.yp p (v.tms p i) i i j b;rw[v.ve p i j b]at this;simp_all[V.ap]
 .refine v.low_le p _ _ _ h _ λl B=>?_;rw[v.ve p i l B];have g:=(U.pfAt S (i:=l) ad).2;have w:=g.k0;have u:=g.k1;have J:=(S _ (mP (p:=p) (i:=l) ad)).2;have I:((v.pf p l).kind.toNat:Int)=(v.pf p l).kind:=ad
  have h0:=U.t0 S (i:=l) ad;rcases U.Ef S i ad (qN p l).2 (v.pf p l).kind.toNat J ad with⟨_,z⟩|⟨j,d,b,o,n,c⟩
  .exact FR ⟨rfl,I.symm⟩ (z l B)
  .have x:=c l B rfl I.symm;have t:=f (lAt (v.tab p i) (qN p l).2 (v.pf p l).kind.toNat+apS v.g.rows v.g.r2 ((v.pf p l).kind,((qN p l).2:Int)) ((v.pf p i).kind,((qN p i).2:Int))) ((uP _ _ _ _).mpr ⟨(qN p l).2,(v.pf p l).kind.toNat,by rw[Y.1];exact J,by rw[(i3 Y J).2.1];lia,ad,by rw[KA,I]⟩);unfold V.ap;lia
open Classical in
theorem V.Good.n5{v:V}(hv:v.Good){p:List (Nat×Nat)}(hp:v.Pl p):∀i,i<=p.length->v.along v.l0 (p.take i)=if ∀j,j<i->v.okT p j then some (v.lab p i)else none
 |0,_=>by rfl|i+1,h=>by
  have hi:i<p.length:=ad
  rw[r6 hi,v.qo,hv.n5 hp i ad];by_cases c:∀j,j<i->v.okT p j
  .rw[if_pos c];show(v.beh (v.lab p i) (qN p i).1 (qN p i).2).bind (λl'=>v.along l' [])=_;have ebt:v.bt (v.lab p i) (qN p i).1 (qN p i).2=v.t p i:=by
    unfold V.bt V.t;have:=hv.las_low hp hi;unfold V.pf at this;show nx v.cs (Bh v.g (v.tab p i) (v.f (qN p i).1) (qN p i).2)=_;rw[this]
   unfold V.beh;rw[ebt];by_cases c2:(v.f (qN p i).1).last<v.t p i
   .rw[if_pos c2,if_neg (λz=>by have:=z i ad;unfold V.okT V.pf at this;lia)];rfl
   .have hall:∀j,j<i+1->v.okT p j:=λj hj=>by
     by_cases z:j=i
     .rw[z];unfold V.okT V.pf;lia
     .exact c j ad
    rw[if_neg c2,if_pos hall];rfl
  .rw[if_neg c,if_neg (λz=>c λj hj=>z j ad)];rfl
structure qz(m sh:Nat)(o:a0):Prop where
 per:o.Perm (iv 0 m)
 near:∀(i:Nat) (x:Int),o[i]?=a_ x->(i:Int)-sh<=x/\x<=i+sh
def lh(l:a0):a0:=cx ltZ l
def md{x:Int}:x∈lh l↔x∈l:=(bC l).mem_iff
theorem sZ(h:l.Nodup):gQ (lh l):=by
 have h1:=fq ordZ l;have B:(cx ltZ l).Nodup:=(bC l).nodup_iff.mpr h;refine(h1.and B).imp λ{a b} ⟨z,n⟩=>?_;have:¬b<a:=by simpa[ltZ] using z
 have:a≠b:=n;lia
section
variable{o:List Int}
def qz.len(h:qz m sh o):o.length=m:=by rw[h.per.length_eq,jb]
def qz.nodup(h:qz m sh o):o.Nodup:=h.per.nodup_iff.mpr (mO (jF m 0))
theorem qz.bnd(h:qz m sh o){x:Int}(B:x∈o):0<=x/\x<m:=by have:=(mU m 0 x).mp (h.per.mem_iff.mp B);lia
theorem qz.beg(h:qz m sh o)(S:k<=m):Beg m sh k (lh (o.take k)) where
 rise:=sZ ((HW k o).nodup h.nodup)
 len:=by have:(lh (o.take k)).length=(o.take k).length:=(bC _).length_eq;rw[this,GC,h.len];lia
 sure:=λi h0 h1=>by have hi:i∈o:=h.per.mem_iff.mpr ((mU m 0 i).mpr ad);obtain⟨p,B⟩:=Jq.mp hi;have:=h.near p i B;refine md.mpr (Jq.mpr ⟨p,?_⟩);grind
 bnd:=λx J=>by
  obtain⟨p,B⟩:=Jq.mp (md.mp J);have I:p<k:=by have:=(n_.mp B).1;rw[GC]at this;lia
  rw[Pm,p_ I]at B;have:=h.near p x B;have:=h.bnd (Gn B);lia
theorem qz.step(h:qz m sh o){x:Int}(c:o[i]?=a_ x):∃j,j<(lh (o.take (i+1))).length/\(lh (o.take (i+1))).eraseIdx j=lh (o.take i)/\(lh (o.take (i+1))).getD j 0=x:=by
 have n:=(n_.mp c).1;have p:o.take (i+1)=o.take i++[x]:=by rw[NI,c];rfl
 have Y:x∈lh (o.take (i+1)):=md.mpr aW;obtain⟨j,I,e⟩:=IU Y;have g:(o.take i++[x]).Nodup:=by rw[<- p];exact(HW _ o).nodup h.nodup
 have d:gQ (lh (o.take (i+1))):=sZ ((HW _ o).nodup h.nodup);refine⟨j,I,?_,by rw[z_,v_ I,e];rfl⟩
 refine zM (d.sublist (OB _ _)) (sZ ((HW _ o).nodup h.nodup)) λy=>?_;have b:=G2.mp d;have f:x∉o.take i:=λz=>(Js.mp g).2.2 x z x am rfl;rw[md];constructor
 .intro U;obtain⟨l,B,a,J⟩:=HU.mp U;have k:y≠x:=λz=>by
   rcases MN a with w|w
   .have:=b l j B I w;lia
   .have:=b j l I B w;lia
  have:y∈lh (o.take (i+1)):=by rw[<- J];exact FX B
  simp_all[md,FW]
 .intro U;have S:y∈lh (o.take (i+1)):=md.mpr aW;obtain⟨l,B,J⟩:=IU S;exact HU.mpr ⟨l,B,λz=>f (by subst z;rw[<- e,J];exact U),J⟩
theorem qz.swap(h:qz m sh o){a:Nat}{x y:Int}(J:o[a]?=a_ x)(B:o[a+1]?=a_ y)(h1:(a:Int)+1-sh<=x/\x<=a+1+sh)(b:(a:Int)-sh<=y/\y<=a+sh):qz m sh (o.take a++[y,x]++o.drop (a+2)) where
 per:=by
  obtain⟨_,ex⟩:=n_.mp J;obtain⟨I,S⟩:=n_.mp B;have e:o=o.take a++[x,y]++o.drop (a+2):=by
   have Y:o.drop a=x::o.drop (a+1):=by rw[Gd ad,ex]
   have U:o.drop (a+1)=y::o.drop (a+2):=by rw[Gd I,S]
   conv=>lhs;rw[<- GR a o,Y,U]
   simp
  have:(o.take a++[y,x]++o.drop (a+2)).Perm (o.take a++[x,y]++o.drop (a+2)):=((O0 x y []).append_left _).append_right _;rw[<- e]at this;exact this.trans h.per
 near:=λi z hz=>by
  have I:=(n_.mp B).1;have lt:(o.take a).length=a:=by rw[GC];lia
  rw[FQ]at hz;by_cases c:i<a
  .rw[Gw ad,Pm,p_ c]at hz;exact h.near i z hz
  .rw[Hb ad,lt]at hz;by_cases f:i=a
   .simp_all
   .by_cases d:i=a+1
    .simp_all
    .rw[Hb (by simp;lia)]at hz;simp only[B_,JO,Po]at hz;have:a+2+(i-a-(0+1+1))=i:=ad
     rw[this]at hz;exact h.near i z hz
end
theorem Dx(m sh:Nat):qz m sh (iv 0 m):=⟨IM _,λi x h=>by have hi:=(n_.mp h).1;rw[jb]at hi;rw[El m 0 i hi]at h;cases h;lia⟩
theorem V.Good.cover{v:V}(f:v.Good){sh:Nat}{P:Pap}(J:Cr v P)(B:∀b∈BL v.fl.length sh,look P b=v.ent P b){p:List (Nat×Nat)}(c:v.Pl p){o:a0}(g:qz v.fl.length sh o)(D:p.map (λx=>(x.1:Int))=o):∀i,i<=v.fl.length->∀l,v.along v.l0 (p.take i)=a_ l->∃y∈look P (lh (o.take i)),nw y l=d_
 |0,_,l,h=>by
  rw[List.take_zero]at h;cases h;refine⟨v.l0,?_,tR _⟩
  have:lh (o.take 0)=[]:=rfl;rw[this,B [] (ng.mpr ⟨0,ad,(g.beg (k:=0) ad)⟩)];simp[V.ent]
 |i+1,hi,l,h=>by
  have U:i<p.length:=by have:=Jk Kl D;rw[oe,g.len]at this;lia
  rw[r6 U,v.qo]at h;cases e1:v.along v.l0 (p.take i)with
  |none=>rw[e1]at h;cases h|some q=>
   rw[e1]at h;obtain⟨a,S⟩:=c _ (mP U);have e2:v.beh q (qN p i).1 (qN p i).2=a_ l:=by
    have h':(v.beh q (qN p i).1 (qN p i).2).bind (λH=>v.along H [])=a_ l:=h;cases e3:v.beh q (qN p i).1 (qN p i).2 with
    |none=>simp_all|some N=>rw[e3]at h';cases h';rfl
   have s:v.Pl (p.take i):=λx K=>c x (IJ K);obtain⟨y,E,r⟩:=f.cover J B c g D i ad q e1;have n:=f.qm (p.take i) v.Ei s e1;have e:=J _ y E;obtain⟨G,e4,Y⟩:=f.beh_mono n e r a S e2;have ex:o[i]?=a_ ((qN p i).1:Int):=by rw[<- D,FL,v_ U];unfold qN;rw[z_,v_ U];rfl
   obtain⟨j,L,w,u⟩:=g.step ex;have A:lh (o.take (i+1))∈BL v.fl.length sh:=ng.mpr ⟨i+1,hi,g.beg hi⟩;have C:G∈v.iH P (lh (o.take (i+1))):=v.uH.mpr ⟨j,L,y,by rw[w];exact E,(qN p i).2,S,by rw[u];exact e4⟩;have t:lh (o.take (i+1))≠[]:=λz=>by simp_all
   have F:look P (lh (o.take (i+1)))=m7 (v.iH P (lh (o.take (i+1)))):=by rw[B _ A];unfold V.ent;rw[q_ t]
   obtain⟨z,hz,d⟩:=AQ C;refine⟨z,by rw[F];exact hz,?_⟩
   have m:=f.uI n a S e2;have I:=f.uI e a S e4;have c:=(J _ z (by rw[F];exact hz))
   simp[nw]at d Y ⊢;exact⟨ad,wt (by rw[c.good.1,I.good.1]) (by rw[I.good.1,m.good.1]) c.good.2 I.good.2 m.good.2 d.2 Y.2⟩
def nx_nil(t:Int):nx [] t=t:=nx_eq ⟨Je _,Je _⟩
theorem gapD_at(B:g.Good){s b t:Int}(J:0<=a)(I:a<g.k)(Y:0<=b)(U:b<g.k)(e:g.two=c_->s=t)(fs ft fa fb S:ag->M A')(ρ:ag)(k:S ρ=.ok g.D)(es:fs ρ=.ok (.int s))(j:ft ρ=.ok (.int t))(ea:fa ρ=.ok (.int a))(eb:fb ρ=.ok (.int b)):
  f2 ixD (f2 ixD (f2 ixD S (fL intD (aa (f2 neM fs ft) aw))) fa) fb ρ=.ok (.int (apS g.rows g.r2 (a,s) (b,t))):=by
 obtain⟨d,_⟩:=uW B.rows J I;obtain⟨c,_⟩:=getA B.rows J I Y U;obtain⟨m,_⟩:=uW B.r2 J I;obtain⟨l,_⟩:=getA B.r2 J I Y U;have h:g.D=.lst (if g.two=d_ then [aL g.rows,aL g.r2]else [aL g.rows]):=rfl;by_cases f:s=t
 .have i:iQ (if g.two=d_ then [A'.lst (g.rows.map fH),A'.lst (g.r2.map fH)]else [A'.lst (g.rows.map fH)]) 0=.ok (.lst (g.rows.map fH)):=by cases g.two<;>simp
  simp[k,es,j,ea,eb,f,h,i,aL,d,fH,c,apS,b2z]
 simp_all[aL,fH,apS,b2z]
def maxadd{ft fa fx:ag->M A'}{ρ:ag}{t x:Int}(h1:ft ρ=.ok (.int t))(I:fa ρ=.ok (.int a))(B:fx ρ=.ok (.int x)):fL maxD (aa ft (aa (f2 eW fa fx) aw)) ρ=.ok (.int (fN t (a+x))):=by simp[h1,I,B]
section
variable(CR CP:iF)
noncomputable def plD(x:Nat×Nat):A':=.tup [.int x.1,.int x.2]
def V.spD(v:V)(p:List (Nat×Nat))(l:Nat):A':=.tup [.int (v.pf p l).kind,.int (qN p l).2,.int (v.t p l)]
def V.enD(v:V)(p:List (Nat×Nat))(j:Nat):A':=Lake.aY (v.lab p (j+1))
theorem EF(n:Nat){v:V}(m:v.Good){p:List (Nat×Nat)}(e:v.Pl p){i:Nat}(hi:i<p.length)(l k g f S J I B:Option A'):∀(r j:Nat) (a Y U:Option A'),j+r=i->∃d c b,
  wM (.tp [15,16,17]) (gc) 14 ((GZ j r).map (v.spD p)) [a_ v.g.D,l,k,e_,e_,e_,g,f,a_ (.int (qN p i).2),a_ (.int (v.pf p i).kind),S,J,I,B,a_ (.int (v.low p (v.tms p i) i j)),a,Y,U] =
  .ok [a_ v.g.D,l,k,e_,e_,e_,g,f,a_ (.int (qN p i).2),a_ (.int (v.pf p i).kind),S,J,I,B,a_ (.int (v.low p (v.tms p i) i i)),d,c,b]
 |0,j,a,Y,U,h=>⟨a,Y,U,by
  obtain rfl:j=i:=ad
  rfl⟩
 |r+1,j,a,Y,U,h=>by
  have s:=(m.pfAt e hi).2;have q:=(m.pfAt e (i:=j) ad).2;have w:=(e _ (mP hi)).2;have u:=(e _ (mP (i:=j) ad)).2;obtain⟨d,c,b,x⟩:=EF n m e hi l k g f S J I B r (j+1) (a_ (.int (v.pf p j).kind)) (a_ (.int (qN p j).2)) (a_ (.int (v.t p j))) ad;refine⟨d,c,b,?_⟩
  have o:v.g.two=c_->((qN p j).2:Int)=(qN p i).2:=λz=>by simp_all[Gp.s]
  have t:=gapD_at m.g q.k0 q.k1 s.k0 s.k1 o (ae 16) (ae 8) (ae 15) (ae 9) (ae 0) [a_ v.g.D,l,k,e_,e_,e_,g,f,a_ (.int (qN p i).2),a_ (.int (v.pf p i).kind),S,J,I,B,a_ (.int (v.low p (v.tms p i) i j)),a_ (.int (v.pf p j).kind),a_ (.int (qN p j).2),a_ (.int (v.t p j))] am am am am am;have e1:gc [a_ v.g.D,l,k,e_,e_,e_,g,f,a_ (.int (qN p i).2),a_ (.int (v.pf p i).kind),S,J,I,B,a_ (.int (v.low p (v.tms p i) i j)),a_ (.int (v.pf p j).kind),a_ (.int (qN p j).2),a_ (.int (v.t p j))]=.ok (.int (v.low p (v.tms p i) i (j+1))):=by rw[v.nY,v.ve p i j ad];exact maxadd am am t
  simp_all[IV,pk,wM,V.spD,af]
end
section
variable(CR CP:iF)
theorem wJ:∀L:List a0,lR (L.map tupI)=d_
 |[]=>rfl|r::L=>by
  have I:∀r:a0,lR (r.map .int)=d_:=λr=>by
   induction r with
   |nil=>rfl|cons x r B=>simp[lR,B]
  simp[lR,eC,tupI,I,wJ L]
def flat_lab(l:LK):eC (Lake.aY l)=d_:=by show eC (.tup [.int l.1,iw l.2])=d_;simp[eC,lR,iw,wJ]
theorem EG(n:Nat){v:V}(t:v.Good)(h0:v.cs=[]){p:List (Nat×Nat)}(k:v.Pl p)(Q:p.length<=18)(c:Option A'):∀(r i:Nat) (s q g b a Y U S J I B:Option A'),i+r=p.length->(∀j,j<i->v.okT p j)->∃K,K<=p.length/\(∀j,j<K->v.okT p j) /\
  pM (.tp [7,8]) (.tp [9,10,11,12,13]) (.tp [15,16,17]) 4 14 6 (f2 ixD (ae 1) (ae 7)) (ae 10) (gc) (gb) (g9) (ae 14) (ae 8) (ae 9) (g8) (fS) ((p.drop i).map plD) ((v.tab p i).map fH) ((x_ i).map (v.enD p)) ((GZ 0 i).map (v.spD p))
   [a_ v.g.D,a_ (.lst (v.fl.map flD)),c,e_,e_,e_,a_ (.int (v.cst p i)),s,q,g,b,a,Y,U,S,J,I,B]=.ok (.lst ((x_ K).map (v.enD p)))
 |0,i,s,q,g,b,a,Y,U,S,J,I,B,h,ok=>⟨i,ad,ok,by rw[Lz ad];rfl⟩|r+1,i,s,q,g,b,a,Y,U,S,J,I,B,h,ok=>by
  have hi:i<p.length:=ad
  obtain⟨Z,u⟩:=t.pfAt k hi;have L:=(k _ (mP hi)).2;have R:=t.g.k3;obtain⟨s1,s2⟩:=v.g.s2;have T:p.drop i=qN p i::p.drop (i+1):=by rw[Gd hi];unfold qN;rw[z_,v_ hi];rfl
  have X:v.t p i=v.low p (v.tms p i) i i:=by unfold V.t;rw[h0,nx_nil]
  obtain⟨f,e,d,o⟩:=EF n t k hi (a_ (.lst (v.fl.map flD))) c (a_ (.int (v.cst p i))) (a_ (.int (qN p i).1)) (a_ (.int (v.pf p i).first)) (a_ (.int (v.pf p i).last)) (a_ (.int (v.pf p i).due)) (a_ (.int (v.pf p i).price)) i 0 J I B ad;have e0:v.low p (v.tms p i) i 0=(v.pf p i).first:=rfl;rw[e0,<- X]at o;rw[T,pk,pM];have b1:cA (.tp [7,8]) (plD (qN p i)) [a_ v.g.D,a_ (.lst (v.fl.map flD)),c,e_,e_,e_,a_ (.int (v.cst p i)),s,q,g,b,a,Y,U,S,J,I,B]=.ok [a_ v.g.D,a_ (.lst (v.fl.map flD)),c,e_,e_,e_,a_ (.int (v.cst p i)),a_ (.int (qN p i).1),a_ (.int (qN p i).2),g,b,a,Y,U,S,J,I,B]:=by simp[plD]
  have b2:cA (.tp [9,10,11,12,13]) (flD (v.pf p i)) [a_ v.g.D,a_ (.lst (v.fl.map flD)),c,e_,e_,e_,a_ (.int (v.cst p i)),a_ (.int (qN p i).1),a_ (.int (qN p i).2),g,b,a,Y,U,S,J,I,B]=.ok [a_ v.g.D,a_ (.lst (v.fl.map flD)),c,e_,e_,e_,a_ (.int (v.cst p i)),a_ (.int (qN p i).1),a_ (.int (qN p i).2),a_ (.int (v.pf p i).kind),a_ (.int (v.pf p i).first),a_ (.int (v.pf p i).last),a_ (.int (v.pf p i).due),a_ (.int (v.pf p i).price),S,J,I,B]:=by simp[flD]
  have H:f2 ixD (ae 1) (ae 7) [a_ v.g.D,a_ (.lst (v.fl.map flD)),c,e_,e_,e_,a_ (.int (v.cst p i)),a_ (.int (qN p i).1),a_ (.int (qN p i).2),g,b,a,Y,U,S,J,I,B]=.ok (flD (v.pf p i)):=by simp[Z]
  have G:ae 10 [a_ v.g.D,a_ (.lst (v.fl.map flD)),c,e_,e_,e_,a_ (.int (v.cst p i)),a_ (.int (qN p i).1),a_ (.int (qN p i).2),a_ (.int (v.pf p i).kind),a_ (.int (v.pf p i).first),a_ (.int (v.pf p i).last),a_ (.int (v.pf p i).due),a_ (.int (v.pf p i).price),S,J,I,B]=.ok (.int (v.pf p i).first):=by simp
  rw[b1,af,H,af,b2,af,G,af];simp only[xM,u_];rw[o,af];have A:fS [a_ v.g.D,a_ (.lst (v.fl.map flD)),c,e_,e_,e_,a_ (.int (v.cst p i)),a_ (.int (qN p i).1),a_ (.int (qN p i).2),a_ (.int (v.pf p i).kind),a_ (.int (v.pf p i).first),a_ (.int (v.pf p i).last),a_ (.int (v.pf p i).due),a_ (.int (v.pf p i).price),a_ (.int (v.t p i)),f,e,d]=.ok (xF ((v.pf p i).last<v.t p i)):=by simp[fS]
  rw[A,af];by_cases z:(v.pf p i).last<v.t p i
  .rw[IY z,p_ rfl];exact⟨i,ad,ok,rfl⟩
  .rw[HY z,q_ as];have w:∀j,j<i+1->v.okT p j:=λj hj=>by
    grind[V.okT]
   have F:gb [a_ v.g.D,a_ (.lst (v.fl.map flD)),c,e_,e_,e_,a_ (.int (v.cst p i)),a_ (.int (qN p i).1),a_ (.int (qN p i).2),a_ (.int (v.pf p i).kind),a_ (.int (v.pf p i).first),a_ (.int (v.pf p i).last),a_ (.int (v.pf p i).due),a_ (.int (v.pf p i).price),a_ (.int (v.t p i)),f,e,d]=.ok (v.spD p i):=by simp[gb,V.spD]
   have p0:=u.p0;have p1:=u.p1;have l:nV (.int (v.pf p i).price) (.int (fN 0 (v.t p i-(v.pf p i).due)))=.ok (.int ((v.pf p i).price*fN 0 (v.t p i-(v.pf p i).due))):=EK (by simp only[vp,m_,FG];lia);have E:g9 [a_ v.g.D,a_ (.lst (v.fl.map flD)),c,e_,e_,e_,a_ (.int (v.cst p i)),a_ (.int (qN p i).1),a_ (.int (qN p i).2),a_ (.int (v.pf p i).kind),a_ (.int (v.pf p i).first),a_ (.int (v.pf p i).last),a_ (.int (v.pf p i).due),a_ (.int (v.pf p i).price),a_ (.int (v.t p i)),f,e,d]=.ok (.int (v.cst p (i+1))):=by simp[g9,l,V.cst,Ed,-EK,-EJ]
   rw[F,af,E,af];simp only[xM,u_];have y:((v.pf p i).kind.toNat:Int)=(v.pf p i).kind:=by have:=u.k0;lia
   have x:(v.pf p i).kind.toNat<v.g.k:=by have:=u.k1;lia
   have W:=v.l9 k i ad;obtain⟨q1,q2⟩:=jV W L x (v.t p i);rw[y]at q2;have C:sY ((v.tab p i).map fH) (ae 14) (ae 8) (ae 9) [a_ v.g.D,a_ (.lst (v.fl.map flD)),c,e_,e_,e_,a_ (.int (v.cst p (i+1))),a_ (.int (qN p i).1),a_ (.int (qN p i).2),a_ (.int (v.pf p i).kind),a_ (.int (v.pf p i).first),a_ (.int (v.pf p i).last),a_ (.int (v.pf p i).due),a_ (.int (v.pf p i).price),a_ (.int (v.t p i)),f,e,d]=.ok ((v.tab p (i+1)).map fH):=by simp[sY,oB,mN,asI,q1,q2,V.tab]
   rw[C,af];have m:=v.l9 k (i+1) ad;have ct:=xf (v.tab p (i+1)) (m.short ad);have P:(v.tab p (i+1)).length<=16777216:=by have:=m.1;lia
   have D:g8 [a_ v.g.D,a_ (.lst (v.fl.map flD)),c,e_,a_ (.lst ((v.tab p (i+1)).map fH)),e_,a_ (.int (v.cst p (i+1))),a_ (.int (qN p i).1),a_ (.int (qN p i).2),a_ (.int (v.pf p i).kind),a_ (.int (v.pf p i).first),a_ (.int (v.pf p i).last),a_ (.int (v.pf p i).due),a_ (.int (v.pf p i).price),a_ (.int (v.t p i)),f,e,d]=.ok (v.enD p i):=by simp[g8,ct,P,V.enD];rfl
   rw[D,af,p_ (by have:eC (v.enD p i)=d_:=flat_lab _;simp only[this,K9,m_,FG,oe,HE,List.length_range',IS];lia)]
   have O:(x_ i).map (v.enD p)++[v.enD p i]=(x_ (i+1)).map (v.enD p):=by rw[Qk,Hc];rfl
   have N:(GZ 0 i).map (v.spD p)++[v.spD p i]=(GZ 0 (i+1)).map (v.spD p):=by rw[List.range'_concat,Hc];simp
   rw[O,N];exact EG n t h0 k Q c r (i+1) _ _ _ _ _ _ _ _ _ _ _ ad w
theorem ends_ok(n:Nat)(J:v.Good)(h0:v.cs=[])(g:v.Pl p)(h:p.length<=18):∃K,K<=p.length/\(∀j,j<K->v.okT p j)/\gB [v.g.D,.lst (v.fl.map flD),.lst (p.map plD)]=.ok (.lst ((x_ K).map (v.enD p))):=by
 obtain⟨K,h1,k,e⟩:=EG n J h0 g h (a_ (.lst (p.map plD))) p.length 0 e_ e_ e_ e_ e_ e_ e_ e_ e_ e_ e_ ad (λj o=>by lia);refine⟨K,h1,k,?_⟩
 have i:=J.g.k3;obtain⟨s1,s2⟩:=v.g.s2;have a:v.g.D=.lst (if v.g.two=d_ then [aL v.g.rows,aL v.g.r2]else [aL v.g.rows]):=rfl;generalize I:(if v.g.two=d_ then [aL v.g.rows,aL v.g.r2]else [aL v.g.rows])=B at a;have U:B.length=v.g.s:=by rw[<- I];unfold Gp.s;cases v.g.two<;>rfl
 have Y:iQ B 0=.ok (aL v.g.rows):=by rw[<- I];cases v.g.two<;>simp
 have S:=J.g.rows.1;have l:aO (.nm 0) gp (f2 Df (fL bj (aa (f1 BI (fC (.int 1))) aw)) (fL kO (aa (f2 ixD (ae 1) (fC (.int 0))) aw))) [e_,a_ (.lst B)] B=.ok ((L0 v.g).map fH):=by
  have:=dR (p:=.nm 0) (fe:=f2 Df (fL bj (aa (f1 BI (fC (.int 1))) aw)) (fL kO (aa (f2 ixD (ae 1) (fC (.int 0))) aw))) (ρ0:=[e_,a_ (.lst B)]) (λ_=>fH (D_ v.g.k (-1))) B (λd _=>⟨[a_ d,a_ (.lst B)],am,by
   have f:(-9223372036854775808:Int)<=(v.g.k:Int):=ad
   have k2:(v.g.k:Int)<9223372036854775808:=ad
   have c:v.g.k<=16777216:=ad
   simp[Y,aL,S,f,k2,c,fH,Mz]⟩)
  rw[this,Nn,U];simp[L0]
 have tl:B.length<=16777216:=ad
 have b:v.tab p 0=L0 v.g:=rfl;have m:v.cst p 0=0:=rfl;rw[b,m,IX]at e;simp only[List.range_zero,List.range'_zero,GL]at e;rw[a]at e ⊢;unfold gB bJ pI sEns;simp[l,tl,lstOf,e]
end
def yO(l:List A')(a:Nat)(h:a<=l.length):cB (.lst l) e_ (a_ (a:Int))=.ok (.lst (l.take a)):=by simp
section
variable(CR CP:iF)
theorem Ac(n:Nat){k:Nat}(y:k<=1000)(c Y:Option A'):∀(L M:List a0) (U S:Option A'),(∀r∈L,r.length=k)->(∀r∈M,r.length=k)->∃o m,bM (.tp [2,3]) (c8) (qu (L.map tupI) (M.map tupI)) [c,Y,U,S]=if leL L M=d_ then .ok (.nx [c,Y,o,m])else .ok (.rt (.bl c_))
 |[],t,U,S,_,_=>⟨U,S,by rfl⟩|x::r,[],U,S,_,_=>⟨U,S,by rfl⟩|r::L,t::M,U,S,h1,v=>by
  obtain⟨o,m,w⟩:=Ac n y c Y L M (a_ (tupI r)) (a_ (tupI t)) (λx s=>h1 x (by simp[s])) (λx s=>v x (by simp[s]));refine⟨o,m,?_⟩
  have F:=h1 r am;have E:=v t am;have u: -4611686018427387904<=(r.length:Int):=ad
  have k2:(r.length:Int)<4611686018427387904:=ad
  have e:(aB 0 r.length).length<=16777216:=by rw[dz];lia
  have d:=xi (p:=.nm 0) (ft:=fB (f2 gtD (f2 ixD (ae 1) (ae 0)) (f2 ixD (ae 2) (ae 0)))) (fe:=ae 0) (ρ0:=[e_,a_ (tupI r),a_ (tupI t)]) (λj=>xF (tAt t j<tAt r j)) (λj=>.int j) r.length (λj l=>by
   refine⟨[a_ (.int j),a_ (tupI r),a_ (tupI t)],am,?_,am⟩
   have e1:=getT (ts:=r) (i:=j) l;have e2:=getT (ts:=t) (i:=j) ad;simp[tupI,e1,e2])
  rw[pk,pk,qu,bM];have A:cA (.tp [2,3]) (.tup [tupI r,tupI t]) [c,Y,U,S]=.ok [c,Y,a_ (tupI r),a_ (tupI t)]:=by simp
  have z:c8 [c,Y,a_ (tupI r),a_ (tupI t)]=if leR r t=d_ then .ok (.nx [c,Y,a_ (tupI r),a_ (tupI t)])else .ok (.rt (.bl c_)):=by
   have I:=E9 (a:=r) (b:=t) ad;generalize C:(x_ r.length).filter (λj=>xF (tAt t j<tAt r j))=J at d;have D:(J.map λj:Nat=>A'.int j)=(J.map λj:Nat=>(j:Int)).map A'.int:=by rw[FK];rfl
   rw[D]at d;have B:kO [tupI r]=.ok (.int r.length):=by simp[tupI]
   by_cases h:leR r t=d_
   .rw[p_ h];have f:J=[]:=by
     rw[<- C];refine Oe.mpr λj l=>?_;have:=I.mp h j (Gv.mp l);simp;lia
    rw[f]at d;simp[c8,eV,B,u,k2,e,d,neM,E',iG,eqD,ug]
   .rw[q_ h];cases J with
    |nil=>refine FR (I.mpr λj l=>?_) h;simp_all|cons q J=>
     have g:neM (.lst (((q::J).map λj:Nat=>(j:Int)).map A'.int)) (.lst [])=.ok (.bl d_):=by
      have h:E' (.lst (((q::J).map λj:Nat=>(j:Int)).map A'.int)) 40=d_:=by simp[E',tP,-FK,-pk]
      unfold neM;rw[h];simp[E',iG,eqD,ug]
     generalize ((q::J).map λj:Nat=>(j:Int)).map A'.int=G at d g;simp[c8,eV,B,u,k2,e,d,g]
  rw[A,af,z];by_cases h:leR r t=d_
  .simp only[leL,h,Jw,K9];exact w
  simp_all[leL,L7]
theorem lnw_ok(n:Nat)(S:g.Good){p:Int×List a0}(J:kW g.s g.k p.2)(I:kW g.s g.k q.2):aT [labP p,labP q]=.ok (.bl (nw p q)):=by
 have a:=S.k3;obtain⟨Y,U,e⟩:=Ac n (k:=g.k) ad (a_ (labP p)) (a_ (labP q)) p.2 q.2 e_ e_ J.2 I.2;simp only[labP,aY,iw]at e ⊢;by_cases h:p.1<=q.1
 .have h':¬q.1<p.1:=ad
  by_cases B:leL p.2 q.2=d_
  .rw[p_ B]at e;simp[aT,dO,cV,h',e,nw,h,B]
  .rw[q_ B]at e;simp[aT,dO,cV,h',e,nw,h,B]
 .have h':q.1<p.1:=ad
  simp[aT,dO,cV,h',nw,h]
end
def D1(xs:a0):eY [.lst (xs.map .int)]=.ok (.lst ((lh xs).map .int)):=by have e:cF (xs.map .int)=.ok xs:=fw xs;simp[eY,t5,e];rfl
theorem nT(n:Nat):∀ls:a9,iG (ls.map Lake.aY) (n+4)=d_
 |[]=>rfl|l::ls=>by simp[iG,E',Lake.aY,iq,nT n ls]
theorem su(ls:a9):eqM (.lst (ls.map Lake.aY)) (.lst [])=.ok (.bl ls.isEmpty)/\neM (.lst (ls.map Lake.aY)) (.lst [])=.ok (.bl !ls.isEmpty):=by
 have h:E' (.lst (ls.map Lake.aY)) 40=d_:=by rw[E'];exact nT _ ls
 have h0:E' (.lst []) 40=d_:=rfl;simp_all[eqD,ug,eqM,neM]
def ne_self(ls:a9):neM (.lst (ls.map Lake.aY)) (.lst (ls.map Lake.aY))=.ok (.bl c_):=by
 have h:E' (.lst (ls.map Lake.aY)) 40=d_:=by rw[E'];exact nT _ ls
 unfold neM;rw[h];simp[iU h]
theorem Ah:∀ls:a9,mx (ls.map Lake.aY)=.ok ls
 |[]=>rfl|l::ls=>by rw[pk,mx,k9,af,Ah ls];rfl
section
variable(CR CP:iF)
theorem D2{o:a0}(B:p.map (λx=>(x.1:Int))=o)(S:p.length<=18)(U:k<=p.length)(fp fk:ag->M A')(ρ:ag)(e1:fp ρ=.ok (.lst (p.map plD)))(e2:fk ρ=.ok (.int k)):
  fL fj (aa (fL eY (aa (bD (fIt (fSl cB fp kh (iN fk))) [e_,e_] (.tp [0,1]) gp (ae 0)) aw)) aw) ρ=.ok (aP (lh (o.take k))):=by
 have c:=yO (p.map plD) k aW;have a:aO (.tp [0,1]) gp (ae 0) [e_,e_] ((p.take k).map plD)=.ok ((p.take k).map λx=>A'.int x.1):=
  iY plD _ _ λx _=>⟨[a_ (.int x.1),a_ (.int x.2)],by rfl,am⟩
 have e3:((p.take k).map λx=>A'.int x.1)=(o.take k).map .int:=by rw[<- B,<- Mt,FK];rfl
 have I:(o.take k).length<64:=by rw[<- B,GC,oe];lia
 have Y:=D1 (o.take k);have J:((p.take k).map plD).length<=16777216:=by simp;lia
 simp_all[Mt,aP]
theorem vN(n:Nat){v:V}(f:v.Good){sh:Nat}{P:Pap}(I:Cr v P)(B:∀b,(look P b).length<=262144)(S:P.map (·.1)=BL v.fl.length sh)(J:∀b∈BL v.fl.length sh,look P b=v.ent P b){p:List (Nat×Nat)}(s:v.Pl p)(H:p.length<=18){o:a0}(t:qz v.fl.length sh o)(u:p.map (λx=>(x.1:Int))=o){K:Nat}(T:K<=p.length)(ok:∀j,j<K->v.okT p j)(d c a Y:Option A'):∀(r j:Nat) (m U:Option A'),j+r=K->∃A w,
  bM (.nm 7) (cj) (aB j r) [d,c,a,a_ (.dic (bx P)),a_ (.lst (p.map plD)),Y,a_ (.lst ((x_ K).map (v.enD p))),m,U]=.ok (.nx [d,c,a,a_ (.dic (bx P)),a_ (.lst (p.map plD)),Y,a_ (.lst ((x_ K).map (v.enD p))),A,w])
 |0,j,m,U,h=>⟨m,U,by rfl⟩|r+1,j,m,U,h=>by
  have hj:j<K:=ad
  have Q:p.length=v.fl.length:=by rw[<- t.len,<- u,oe]
  have es:=D2 u H (k:=j+1) ad (ae 4) (f2 eW (ae 7) (fC (.int 1))) [d,c,a,a_ (.dic (bx P)),a_ (.lst (p.map plD)),Y,a_ (.lst ((x_ K).map (v.enD p))),a_ (.int j),U] am am;have R:lh (o.take (j+1))∈BL v.fl.length sh:=ng.mpr ⟨j+1,ad,t.beg ad⟩;obtain⟨A,w,ih⟩:=vN n f I B S J s H t u T ok d c a Y r (j+1) (a_ (.int j)) (a_ (aP (lh (o.take (j+1))))) ad;refine⟨A,w,?_⟩
  have g:v.along v.l0 (p.take (j+1))=a_ (v.lab p (j+1)):=by have:=f.n5 s (j+1) ad;rw[this,p_ λi hi=>ok i ad]
  obtain⟨y,N,C⟩:=f.cover I J s t u (j+1) ad _ g;have E:=f.qm (p.take (j+1)) v.Ei (λx O=>s x (IJ O)) g;generalize lh (o.take (j+1))=b at *;have G:xD (.dic (bx P)) (aP b)=.ok (cC (look P b)):=by rw[jO,kA,af,wB b P aW]
  have W:iQ ((x_ K).map (v.enD p)) (j:Int)=.ok (v.enD p j):=by rw[eZ aW];simp
  have Z:aO (.nm 0) (uX (fL (aT) (aa (ae 0) (aa (f2 ixD (ae 1) (ae 2)) aw)))) (ae 0) [e_,a_ (.lst ((x_ K).map (v.enD p))),a_ (.int j)] ((look P b).map Lake.aY)=.ok (((look P b).filter λx=>nw x (v.lab p (j+1))).map Lake.aY):=
   lX Lake.aY _ _ _ λl F=>⟨[a_ (Lake.aY l),a_ (.lst ((x_ K).map (v.enD p))),a_ (.int j)],am,by have e:=lnw_ok n f.g (p:=l) (q:=v.lab p (j+1)) (I b l F).good E.good;have X:aT [Lake.aY l,v.enD p j]=.ok (.bl (nw l (v.lab p (j+1)))):=e;simp[W,X],λ_=>by simp⟩
  have D:((look P b).filter λx=>nw x (v.lab p (j+1))).isEmpty=c_:=by rw[NS];intro z;have:y∈(look P b).filter λx=>nw x (v.lab p (j+1)):=GI.mpr ⟨N,C⟩;rw[z]at this;cases this
  have q:=(su ((look P b).filter λx=>nw x (v.lab p (j+1)))).1;rw[D]at q;have L:(look P b).length<=16777216:=by have:=B b;lia
  have hb:cj [d,c,a,a_ (.dic (bx P)),a_ (.lst (p.map plD)),Y,a_ (.lst ((x_ K).map (v.enD p))),a_ (.int j),U]=.ok (.nx [d,c,a,a_ (.dic (bx P)),a_ (.lst (p.map plD)),Y,a_ (.lst ((x_ K).map (v.enD p))),a_ (.int j),a_ (aP b)]):=by unfold cj bw aQ;simp only[erase];rw[es];simp only[af,xM,u_];generalize aP b=tb at *;simp[gK,G,cC,Z,q,L,-jO]
  simp_all[bS,bM,iC,af,xM,u_]
end
def zZ(n:Nat)(x:Option LK):E' (kQ x) (n+4)=d_:=by
 cases x with
 |none=>rfl|some l=>simp[kQ,E',iG,Lake.aY,iq]
theorem vZ(n:Nat):∀xs:List (Option LK),iG (xs.map kQ) (n+4)=d_
 |[]=>rfl|x::xs=>by simp[iG,zZ,vZ n xs]
def not_in{xs:List (Option LK)}(h:a_ x∈xs):DK (Lake.aY x) (.lst (xs.map kQ))=.ok (.bl c_):=by have h1:E' (Lake.aY x) 40=d_:=zZ 36 (a_ x);have I:iG (xs.map kQ) 40=d_:=vZ 36 xs;have B:((xs.map kQ).any λd=>eqD d (Lake.aY x))=d_:=J_.mpr ⟨Lake.aY x,Gq.mpr ⟨a_ x,h,rfl⟩,iU h1⟩;show(GY (xs.map kQ)).bind _=_;rw[af,h1,I,B];rfl
def V.bh1(v:V)(q:Nat)(l:LK):List (Option LK):=(x_ v.g.s).map λs=>v.beh l q s
def V.bh2(v:V)(P:Pap)(b:a0)(i:Nat):List (Option LK):=(look P (b.eraseIdx i)).flatMap (v.bh1 (b.getD i 0).toNat)
def V.Fn(v:V)(q:Nat)(l:LK):(v.bh1 q l).length=v.g.s:=by simp[V.bh1]
theorem V.AO(v:V)(q:Nat):∀ls:a9,(ls.flatMap (v.bh1 q)).length=v.g.s*ls.length
 |[]=>by simp|l::ls=>by rw[Jt,FJ,v.Fn,v.AO q ls,B_,LG];lia
section
variable(CR CP:iF)
theorem wk(n:Nat)(J:CR≠CP){v:V}(e:v.Good)(h0:v.cs=[]){l:LK}(g:Lab v.g l){q:Nat}(f:q<v.fl.length)(b a Y U I:Option A'):∀(r s:Nat) (B:List (Option LK)) (c:Option A'),s+r=v.g.s->B.length+r<=16777216->∃d,
  bM (.nm 9) (cp CR CP n) (aB s r) [a_ (aq CR CP v.g.rows v.g.o),a_ (.lst (v.fl.map flD)),b,a,Y,a_ (.lst (B.map kQ)),a_ (.int q),U,a_ (Lake.aY l),c,I] =
  .ok (.nx [a_ (aq CR CP v.g.rows v.g.o),a_ (.lst (v.fl.map flD)),b,a,Y,a_ (.lst ((B++(GZ s r).map λs=>v.beh l q s).map kQ)),a_ (.int q),U,a_ (Lake.aY l),d,I])
 |0,s,B,c,_,_=>⟨c,by simp[aB,bM]⟩|r+1,s,B,c,h,k=>by
  obtain⟨d,i⟩:=wk n J e h0 g f b a Y U I r (s+1) (B++[v.beh l q s]) (a_ (.int s)) ad (by simp;lia);refine⟨d,?_⟩
  have eb:=behV CR CP n J e g f (s:=s) ad;rw[h0,GL]at eb;have S:(B.map kQ).length<16777216:=by simp;lia
  have j:cp CR CP n [a_ (aq CR CP v.g.rows v.g.o),a_ (.lst (v.fl.map flD)),b,a,Y,a_ (.lst (B.map kQ)),a_ (.int q),U,a_ (Lake.aY l),a_ (.int s),I]=.ok (.nx [a_ (aq CR CP v.g.rows v.g.o),a_ (.lst (v.fl.map flD)),b,a,Y,a_ (.lst ((B++[v.beh l q s]).map kQ)),a_ (.int q),U,a_ (Lake.aY l),a_ (.int s),I]):=by rw[Hc];generalize B.map kQ=m at *;simp[cp,eb,S]
  rw[bS,bM,iC,af];simp only[xM,u_];rw[j,af];rw[IV,pk];have:B++v.beh l q s::(GZ (s+1) r).map (λs=>v.beh l q s)=B++[v.beh l q s]++(GZ (s+1) r).map λs=>v.beh l q s:=by simp
  rw[this];exact i
theorem wm(n:Nat)(b:CR≠CP){v:V}(j:v.Good)(h0:v.cs=[]){q:Nat}(k:q<v.fl.length)(a Y U S I:Option A'):∀(ls:a9) (B:List (Option LK)) (d J:Option A'),(∀l∈ls,Lab v.g l)->B.length+v.g.s*ls.length<=16777216->∃h e,
  bM (.nm 8) (cn CR CP n) (ls.map Lake.aY) [a_ (aq CR CP v.g.rows v.g.o),a_ (.lst (v.fl.map flD)),a,Y,U,a_ (.lst (B.map kQ)),a_ (.int q),S,d,J,I] =
  .ok (.nx [a_ (aq CR CP v.g.rows v.g.o),a_ (.lst (v.fl.map flD)),a,Y,U,a_ (.lst ((B++ls.flatMap (v.bh1 q)).map kQ)),a_ (.int q),S,h,e,I])
 |[],B,d,J,_,_=>⟨d,J,by simp[bM]⟩|l::ls,B,d,J,m,u=>by
  obtain⟨s1,s2⟩:=v.g.s2;rw[B_,LG]at u;obtain⟨e,e1⟩:=wk CR CP n b j h0 (m l am) k a Y U S I v.g.s 0 B J ad ad;have i:((GZ 0 v.g.s).map λs=>v.beh l q s)=v.bh1 q l:=by rw[<- Kj];rfl
  rw[i]at e1;obtain⟨h,f,p⟩:=wm n b j h0 k a Y U S I ls (B++v.bh1 q l) (a_ (Lake.aY l)) e (λx r=>m x (by simp[r])) (by rw[FJ,v.Fn];lia);refine⟨h,f,?_⟩
  have c:=ua CR CP n b (g:=v.g) (ae 0) (erase [5] [a_ (aq CR CP v.g.rows v.g.o),a_ (.lst (v.fl.map flD)),a,Y,U,a_ (.lst (B.map kQ)),a_ (.int q),S,a_ (Lake.aY l),J,I]) (by rfl);have o:(-4611686018427387904:Int)<=(v.g.s:Int):=ad
  have k2:(v.g.s:Int)<4611686018427387904:=ad
  have t:cn CR CP n [a_ (aq CR CP v.g.rows v.g.o),a_ (.lst (v.fl.map flD)),a,Y,U,a_ (.lst (B.map kQ)),a_ (.int q),S,a_ (Lake.aY l),J,I]=.ok (.nx [a_ (aq CR CP v.g.rows v.g.o),a_ (.lst (v.fl.map flD)),a,Y,U,a_ (.lst ((B++v.bh1 q l).map kQ)),a_ (.int q),S,a_ (Lake.aY l),e,I]):=by
   unfold cn iM;simp only[erase,xM,u_]at c ⊢;have i:gF jl (aa (dE CR CP "many_strips" (aU) (b9) (ae 0) aw) aw) [a_ (aq CR CP v.g.rows v.g.o),a_ (.lst (v.fl.map flD)),a,Y,U,e_,a_ (.int q),S,a_ (Lake.aY l),J,I]=.ok (aB 0 v.g.s):=by simp[c,o,k2]
   rw[i,af];exact e1
  rw[pk,bM,iC,af];simp only[xM,u_];rw[t,af,Jt,<- FQ];exact p
end
section
variable(CR CP:iF)
theorem others(S:gQ b)(hi:i<b.length):(b.filter λx=> !decide (x=b[i]))=b.eraseIdx i:=by
 have U:=G2.mp S;refine zM (S.sublist List.filter_sublist) (S.sublist (OB _ _)) λx=>?_;rw[GI,HU];constructor
 .rintro⟨h1,Y⟩;obtain⟨j,B,I⟩:=IU h1;refine⟨j,B,λz=>?_,I⟩
  subst z;rw[I]at Y;simp at Y
 .rintro⟨j,B,J,I⟩;refine⟨by rw[<- I];exact FX B,?_⟩
  simp only[K3,Jy];intro z;rcases MN J with w|w
  .have:=U j i B hi w;lia
  .have:=U i j hi B w;lia
theorem rL(n:Nat)(d:CR≠CP){v:V}(y:v.Good)(h0:v.cs=[]){P:Pap}(Y:Cr v P)(J:∀b,(look P b).length<=262144){b:a0}(A:gQ b)(f:∀x∈b,0<=x/\x<v.fl.length)(w:b.length<=18)(a I:Option A'):∀(r i:Nat) (B:List (Option LK)) (g c U S:Option A'),i+r=b.length->B.length<=v.g.s*262144*i->∃p o k j,
  bM (.nm 6) (cm CR CP n) ((b.drop i).map .int) [a_ (aq CR CP v.g.rows v.g.o),a_ (.lst (v.fl.map flD)),a_ (.dic (bx P)),a_ (aP b),a,a_ (.lst (B.map kQ)),g,c,U,S,I] =
  .ok (.nx [a_ (aq CR CP v.g.rows v.g.o),a_ (.lst (v.fl.map flD)),a_ (.dic (bx P)),a_ (aP b),a,a_ (.lst ((B++(GZ i r).flatMap (v.bh2 P b)).map kQ)),p,o,k,j,I])
 |0,i,B,g,c,U,S,h,_=>⟨g,c,U,S,by simp_all[Lz,bM]⟩|r+1,i,B,g,c,U,S,h,L=>by
  have hi:i<b.length:=ad
  obtain⟨s1,s2⟩:=v.g.s2;have H:=f b[i] (FX hi);have K:((b[i].toNat:Nat):Int)=b[i]:=ad
  have t:b.getD i 0=b[i]:=by rw[z_,v_ hi];rfl
  have G:=J (b.eraseIdx i);have z:B.length+v.g.s*(look P (b.eraseIdx i)).length<=v.g.s*262144*(i+1):=by have:=Kx v.g.s G;rw[LG];lia
  have s:v.g.s*262144*(i+1)<=2*262144*18:=KS (OZ _ s2) ad;obtain⟨k,j,e1⟩:=wm CR CP n d y h0 (q:=b[i].toNat) ad (a_ (.dic (bx P))) (a_ (aP b)) a (a_ (aP (b.eraseIdx i))) I (look P (b.eraseIdx i)) B U S (Y _) ad;rw[K]at e1;obtain⟨p,o,m,l,F⟩:=rL n d y h0 Y J A f w a I r (i+1) (B++v.bh2 P b i) (a_ (.int b[i])) (a_ (aP (b.eraseIdx i))) k j ad (by rw[FJ,V.bh2,v.AO];simp_all);refine⟨p,o,m,l,?_⟩
  have C:aO (.nm 0) (fB (f2 neM (ae 0) (ae 1))) (ae 0) [e_,a_ (.int b[i])] (b.map .int)=.ok ((b.filter λx=> !decide (x=b[i])).map .int):=
   lX A'.int _ _ _ λx _=>⟨[a_ (.int x),a_ (.int b[i])],am,am,λ_=>by simp⟩
  rw[others A hi]at C;have E:b.length<=16777216:=ad
  have D:(b.eraseIdx i).length<=16777216:=by rw[Kk,p_ hi];lia
  have e:=uc (b.eraseIdx i) P;have u:cm CR CP n [a_ (aq CR CP v.g.rows v.g.o),a_ (.lst (v.fl.map flD)),a_ (.dic (bx P)),a_ (aP b),a,a_ (.lst (B.map kQ)),a_ (.int b[i]),c,U,S,I]=.ok (.nx [a_ (aq CR CP v.g.rows v.g.o),a_ (.lst (v.fl.map flD)),a_ (.dic (bx P)),a_ (aP b),a,a_ (.lst ((B++v.bh2 P b i).map kQ)),a_ (.int b[i]),a_ (aP (b.eraseIdx i)),k,j,I]):=by
   unfold cm bw aQ;simp only[erase,xM,u_];have e2:fL fj (aa (bD (fIt (ae 3)) [e_,a_ 6] (.nm 0) (fB (f2 neM (ae 0) (ae 1))) (ae 0)) aw) [a_ (aq CR CP v.g.rows v.g.o),a_ (.lst (v.fl.map flD)),a_ (.dic (bx P)),a_ (aP b),a,e_,a_ (.int b[i]),c,U,S,I]=.ok (aP (b.eraseIdx i)):=by simp[aP,C,E,D]
   rw[e2];simp only[af,xM,u_];unfold iM;simp only[erase,xM,u_];have e3:fIt (qQ (ae 2) (ae 7) (fL bj aw)) [a_ (aq CR CP v.g.rows v.g.o),a_ (.lst (v.fl.map flD)),a_ (.dic (bx P)),a_ (aP b),a,e_,a_ (.int b[i]),a_ (aP (b.eraseIdx i)),U,S,I]=.ok ((look P (b.eraseIdx i)).map Lake.aY):=by simp[Et,kA,e,cC]
   rw[e3,af,V.bh2,t];exact e1
  rw[Gd hi,pk,bM,iC,af];simp only[xM,u_];rw[u,af,IV,Jt,<- FQ];exact F
theorem DZ(n:Nat){v:V}(E:v.Good){ls:a9}(J:∀l∈ls,Lab v.g l)(B:ls.Pairwise (λx y=>ltL y x=c_/\nw x y=c_))(A:ls.length<=262144){xs:List (Option LK)}(U:∀l∈ls,a_ l∈xs)(s o m i g f d c:Option A'):∀(r k:Nat) (I:Option A'),k+r=ls.length->∃S,
  bM (.nm 10) (ck) (aB k r) [s,o,m,i,a_ (cC ls),a_ (.lst (xs.map kQ)),g,f,d,c,I]=.ok (.nx [s,o,m,i,a_ (cC ls),a_ (.lst (xs.map kQ)),g,f,d,c,S])
 |0,k,I,_=>⟨I,by rfl⟩|r+1,k,I,h=>by
  have Y:k<ls.length:=ad
  obtain⟨S,K⟩:=DZ n E J B A U s o m i g f d c r (k+1) (a_ (.int k)) ad;refine⟨S,?_⟩
  have G:(-4611686018427387904:Int)<=(ls.length:Int):=ad
  have k2:(ls.length:Int)<4611686018427387904:=ad
  have D:∀j,(a:j<ls.length)->iQ (ls.map Lake.aY) (j:Int)=.ok (Lake.aY ls[j]):=λj a=>by simp_all[eZ]
  have t:(aB 0 ls.length).length<=16777216:=by rw[dz];lia
  have F:=xi (p:=.nm 0) (ft:=yz (fB (f2 neM (ae 0) (ae 2))) (uX (fL (aT) (aa (f2 ixD (ae 1) (ae 0)) (aa (f2 ixD (ae 1) (ae 2)) aw))))) (fe:=ae 0) (ρ0:=[e_,a_ (cC ls),a_ (.int k)]) (λ_=>c_) (λj=>.int j) ls.length (λj a=>by
   refine⟨[a_ (.int j),a_ (cC ls),a_ (.int k)],am,?_,am⟩
   have e1:=D j a;have e2:=D k Y;have e3:aT [Lake.aY ls[j],Lake.aY ls[k]]=.ok (.bl (nw ls[j] ls[k])):=lnw_ok n E.g (p:=ls[j]) (q:=ls[k]) (J _ (FX a)).good (J _ (FX Y)).good;by_cases e:j=k
   .simp_all
   .have L:nw ls[j] ls[k]=c_:=by
     cases z:nw ls[j] ls[k]with
     |false=>rfl|true=>exact FR (rH J B (v_ a) (v_ Y) z) e
    simp_all[cC])
  have H:((x_ ls.length).filter λ_=>c_).map (λj:Nat=>A'.int j)=[]:=by simp
  rw[H]at F;have w:neM (.lst []) (.lst [])=.ok (.bl c_):=by simp[neM,E',iG,eqD,ug]
  have u:=not_in (U ls[k] (FX Y));have C:kO [cC ls]=.ok (.int ls.length):=by simp[cC]
  have N:ck [s,o,m,i,a_ (cC ls),a_ (.lst (xs.map kQ)),g,f,d,c,a_ (.int k)]=.ok (.nx [s,o,m,i,a_ (cC ls),a_ (.lst (xs.map kQ)),g,f,d,c,a_ (.int k)]):=by
   have b:ixD (cC ls) (.int k)=.ok (Lake.aY ls[k]):=by have:=D k Y;simp[cC,this]
   simp[ck,gN,gM,C,G,k2,t,F,w,b,u]
  simp_all[bS,bM,iC,af,xM,u_]
end
section
variable(CR CP:iF)
theorem list_ok(n:Nat)(c:CR≠CP)(q:v.Good)(h0:v.cs=[])(S:Cr v P)(I:∀b,(look P b).length<=262144)(e:P.map (·.1)=BL v.fl.length sh)(J:∀b∈BL v.fl.length sh,look P b=v.ent P b)(U:b∈BL v.fl.length sh)(m:b≠[])(N:v.fl.length<=18):bZ CR CP n [aq CR CP v.g.rows v.g.o,.lst (v.fl.map flD),.dic (bx P),aP b]=.ok (.bl d_):=by
 obtain⟨k,O,g⟩:=ng.mp U;have a:b.length<=18:=by rw[g.len];lia
 have o:∀x∈b,0<=x/\x<v.fl.length:=λx p=>⟨(g.bnd x p).1,(g.bnd x p).2.1⟩
 have f:xD (.dic (bx P)) (aP b)=.ok (cC (look P b)):=by rw[jO,kA,af,wB b P aW]
 have B:(look P b).Pairwise (λx y=>ltL y x=c_/\nw x y=c_):=by rw[J b U];exact v.Aw P b
 have G:oC [cC (look P b)]=.ok (cC (look P b)):=by show(mx ((look P b).map Lake.aY)).bind _=_;rw[Ah,af,D0 (B.imp λh=>h.1)];rfl
 have H:neM (cC (look P b)) (cC (look P b))=.ok (.bl c_):=ne_self _;obtain⟨A,z,w,u,e1⟩:=rL CR CP n c q h0 S I g.rise o a (a_ (cC (look P b))) e_ b.length 0 [] e_ e_ e_ e_ ad am;rw[IX,IH]at e1;have Y:∀l∈look P b,a_ l∈(GZ 0 b.length).flatMap (v.bh2 P b):=λl r=>by
  have L:look P b=m7 (v.iH P b):=by rw[J b U];unfold V.ent;rw[q_ m]
  rw[L]at r;obtain⟨i,hi,D,e2,s,e3,e4⟩:=v.uH.mp (oi r);refine Nc.mpr ⟨i,aW,?_⟩;exact Nc.mpr ⟨D,e2,Gq.mpr ⟨s,Gv.mpr e3,e4⟩⟩
 generalize (GZ 0 b.length).flatMap (v.bh2 P b)=xs at e1 Y;have K:=I b;obtain⟨C,e2⟩:=DZ n q (S b) B K Y (a_ (aq CR CP v.g.rows v.g.o)) (a_ (.lst (v.fl.map flD))) (a_ (.dic (bx P))) (a_ (aP b)) A z w u (look P b).length 0 e_ ad;have F:(-4611686018427387904:Int)<=((look P b).length:Int):=ad
 have k2:((look P b).length:Int)<4611686018427387904:=ad
 have d:kO [cC (look P b)]=.ok (.int (look P b).length):=by simp[cC]
 have j:jG (aP b)=.ok (b.map .int):=rfl;simp only[GL]at e1;have t:((0:Nat):Int)=0:=rfl;rw[t]at e2;generalize cC (look P b)=E at *;generalize aP b=tb at *;simp[bZ,iz,gO,f,G,H,j,e1,d,F,k2,e2,erase,-jO]
theorem planr_ok(n:Nat)(e:CR≠CP)(d:v.Good)(h0:v.cs=[])(S:Cr v P)(B:∀b,(look P b).length<=262144)(I:P.map (·.1)=BL v.fl.length sh)(J:∀b∈BL v.fl.length sh,look P b=v.ent P b)(s:v.Pl p)(i:v.fl.length<=18){o:a0}(c:qz v.fl.length sh o)(j:p.map (λx=>(x.1:Int))=o){a:Nat}(H:1<=a)(U:a<=v.fl.length):eN CR CP n [aq CR CP v.g.rows v.g.o,v.g.D,.lst (v.fl.map flD),.dic (bx P),.lst (p.map plD),.int a]=.ok (.bl d_):=by
 have y:p.length=v.fl.length:=by rw[<- c.len,<- j,oe]
 obtain⟨K,A,ok,E⟩:=ends_ok n d h0 s ad;obtain⟨r,q,t⟩:=vN n d S B I J s ad c j A ok (a_ (aq CR CP v.g.rows v.g.o)) (a_ v.g.D) (a_ (.lst (v.fl.map flD))) (a_ (.int a)) K 0 e_ e_ ad;have es:=D2 j ad (k:=a) ad (ae 4) (ae 5) [a_ (aq CR CP v.g.rows v.g.o),a_ v.g.D,a_ (.lst (v.fl.map flD)),a_ (.dic (bx P)),a_ (.lst (p.map plD)),a_ (.int a),a_ (.lst ((x_ K).map (v.enD p))),r,q] am am;have g:lh (o.take a)∈BL v.fl.length sh:=ng.mpr ⟨a,U,c.beg U⟩;have h:lh (o.take a)≠[]:=λz=>by have:=(c.beg U).len;rw[z]at this;simp at this;lia
 have m:=list_ok CR CP n e d h0 S B I J g h i;have f:((x_ K).map (v.enD p)).length=K:=by simp
 have w:(-4611686018427387904:Int)<=(K:Int):=ad
 have k2:(K:Int)<4611686018427387904:=ad
 generalize (x_ K).map (v.enD p)=l at *;generalize v.g.D=Y at *;generalize aP (lh (o.take a))=tb at *;have D:gF jl (aa (fL kO (aa (ae 6) aw)) aw) [a_ (aq CR CP v.g.rows v.g.o),a_ Y,a_ (.lst (v.fl.map flD)),a_ (.dic (bx P)),a_ (.lst (p.map plD)),a_ (.int a),a_ (.lst l),e_,e_]=.ok (aB 0 K):=by simp[f,w,k2]
 have F:fL (bZ CR CP n) (aa (ae 0) (aa (ae 2) (aa (ae 3) (aa (fL fj (aa (fL eY (aa (bD (fIt (fSl cB (ae 4) kh (iN (ae 5)))) [e_,e_] (.tp [0,1]) gp (ae 0)) aw)) aw)) aw)))) [a_ (aq CR CP v.g.rows v.g.o),a_ Y,a_ (.lst (v.fl.map flD)),a_ (.dic (bx P)),a_ (.lst (p.map plD)),a_ (.int a),a_ (.lst l),r,q]=.ok (.bl d_):=by generalize L:fL fj (aa (fL eY (aa (bD (fIt (fSl cB (ae 4) kh (iN (ae 5)))) [e_,e_] (.tp [0,1]) gp (ae 0)) aw)) aw)=X at es ⊢;simp[es,m]
 have G:fL (gB) (aa (ae 1) (aa (ae 2) (aa (ae 4) aw))) [a_ (aq CR CP v.g.rows v.g.o),a_ Y,a_ (.lst (v.fl.map flD)),a_ (.dic (bx P)),a_ (.lst (p.map plD)),a_ (.int a),e_,e_,e_]=.ok (.lst l):=by simp[E]
 have u:((0:Nat):Int)=0:=rfl;rw[u]at t;have C:cS CR CP n [a_ (aq CR CP v.g.rows v.g.o),a_ Y,a_ (.lst (v.fl.map flD)),a_ (.dic (bx P)),a_ (.lst (p.map plD)),a_ (.int a),e_,e_,e_]=.ok (.rt (.bl d_)):=by unfold cS bw aQ;simp only[erase];rw[G];simp only[af,xM,u_];unfold iM;simp only[erase];rw[D];simp only[af];rw[t];simp only[af];unfold d7;rw[F];rfl
 show(cS CR CP n [a_ (aq CR CP v.g.rows v.g.o),a_ Y,a_ (.lst (v.fl.map flD)),a_ (.dic (bx P)),a_ (.lst (p.map plD)),a_ (.int a),e_,e_,e_]).bind _=_;rw[C];rfl
end
def xa(l:List A')(a:Nat)(h:a<=l.length):cB (.lst l) (a_ (a:Int)) e_=.ok (.lst (l.drop a)):=by simp
section
variable(CR CP:iF)
theorem Dq(n:Nat)(Z:2<=m)(Q:m<=18){o:a0}(Y:qz m sh o)(x t:Int)(C y w v F:Option A'):∃o' H G,qz m sh o' /\
  cZ [C,a_ (.int m),a_ (.int sh),y,a_ (.lst (o.map .int)),a_ (.int x),a_ (.int t),F,w,v]=.ok (.nx [C,a_ (.int m),a_ (.int sh),y,a_ (.lst (o'.map .int)),a_ (.int H),a_ (.int t),G,w,v]):=by
 have B:fN 1 ((m:Int)-1)=(m:Int)-1:=by unfold fN;split<;>lia
 have b0:=IL x (b:=(m:Int)-1) ad;have b1:=HR x (b:=(m:Int)-1) ad;obtain⟨a,h⟩:∃a:Nat,x%((m:Int)-1)=a:=⟨(x%((m:Int)-1)).toNat,ad⟩
 have g:a+1<o.length:=by rw[Y.len];lia
 have P:o[a]?=a_ o[a]:=v_ ad;have O:o[a+1]?=a_ o[a+1]:=v_ g;have p:iQ (o.map .int) (a:Int)=.ok (.int o[a]):=by rw[eZ (by simp;lia)];simp
 have g2:iQ (o.map .int) ((a:Int)+1)=.ok (.int o[a+1]):=by have:=eZ (ds:=o.map .int) (k:=a+1) (by simp;lia);simpa using this
 have s1:=yO (o.map .int) a (by simp;lia);have s2:=xa (o.map .int) (a+2) (by simp;lia);have e2:((a+2:Nat):Int)=(a:Int)+2:=ad
 rw[e2]at s2;have I:1<(m:Int):=ad
 have f:¬(m:Int)-1=0:=ad
 have J:(0:Int)<(m:Int)-1:=ad
 have u:∀i s:Int,∃A,absD [.int i]=.ok (.int A)/\(A<=s↔ -s<=i/\i<=s):=λi s=>⟨if i<0 then -i else i,e_abs i,by split<;>lia⟩
 obtain⟨E,U,l⟩:=u (o[a]-a-1) sh;obtain⟨D,S,j⟩:=u (o[a+1]-a) sh;by_cases c:E<=sh/\D<=sh
 .have d:=l.mp c.1;have r:=j.mp c.2;refine⟨o.take a++[o[a+1],o[a]]++o.drop (a+2),x*40014%2147483563+t,a_ (.int a),Y.swap P O ⟨ad,ad⟩ ⟨ad,ad⟩,?_⟩
  have X:(o.map A'.int).length<=18:=by rw[oe,Y.len];lia
  have R:(o.take a++[o[a+1],o[a]]++o.drop (a+2)).map A'.int=(o.map A'.int).take a++[.int o[a+1],.int o[a]]++(o.map A'.int).drop (a+2):=by simp[Mt,Mu]
  rw[R];have W:((o.map A'.int).take a).length<=18:=by rw[GC];lia
  have T:((o.map A'.int).drop (a+2)).length<=18:=by rw[Hu];lia
  generalize (o.map A'.int).take a=e at *;generalize (o.map A'.int).drop (a+2)=q at *;generalize o.map A'.int=N at *;have q1:e.length+2<=16777216:=ad
  have q2:e.length+(2+q.length)<=16777216:=ad
  have L:e.length+2+q.length<=16777216:=ad
  have K:e.length+(q.length+2)<=16777216:=ad
  simp[cZ,gg,B,h,p,g2,I,f,J,U,S,c.1,c.2,s1,s2,q1,q2,L,K,eW,-e_abs]
 .refine⟨o,x*40014%2147483563+t,a_ (.int a),Y,?_⟩
  generalize o.map A'.int=N at *;by_cases d:E<=sh
  .have r:¬D<=sh:=λz=>c ⟨d,z⟩;simp[cZ,gg,B,h,p,g2,I,f,J,U,S,d,r,-e_abs]
  .simp[cZ,gg,B,h,p,g2,I,f,J,U,S,d,-e_abs]
theorem rC(n:Nat){m sh:Nat}(f:2<=m)(I:m<=18)(a Y U S:Option A'):∀(r:Nat) (j:Int) (o:a0) (x:Int) (J B:Option A'),qz m sh o->∃o' i d c,qz m sh o' /\
  bM (.nm 6) (cZ) (aB j r) [a,a_ (.int m),a_ (.int sh),Y,a_ (.lst (o.map .int)),a_ (.int x),J,B,U,S]=.ok (.nx [a,a_ (.int m),a_ (.int sh),Y,a_ (.lst (o'.map .int)),a_ (.int i),d,c,U,S])
 |0,j,o,x,J,B,e=>⟨o,x,J,B,e,by rfl⟩|r+1,j,o,x,J,B,e=>by
  obtain⟨l,h,c,h1,e1⟩:=Dq n f I e x j a Y U S B;obtain⟨k,g,d,b,p,e2⟩:=rC n f I a Y U S r (j+1) l h (a_ (.int j)) c h1;refine⟨k,g,d,b,p,?_⟩
  rw[bS,bM,iC,af];simp only[xM,u_];rw[e1,af];exact e2
theorem oQ(n:Nat){st:Nat}(j:1<=st)(c a Y U S J:Option A'):∀(o:a0) (p:List (Nat×Nat)) (x:Int) (d:Option A'),(∀y∈o,0<=y)->(∀y∈p,y.2<st)->p.length+o.length<=100->∃(p':List (Nat×Nat)) (f:Int) (e:Option A'),p'.map (λy=>(y.1:Int))=p.map (λy=>(y.1:Int))++o/\(∀y∈p',y.2<st) /\
  bM (.nm 9) (gm) (o.map .int) [c,a,Y,a_ (.int st),U,a_ (.int x),S,J,a_ (.lst (p.map plD)),d]=.ok (.nx [c,a,Y,a_ (.int st),U,a_ (.int f),S,J,a_ (.lst (p'.map plD)),e])
 |[],p,x,d,_,g,_=>⟨p,x,d,am,g,by rfl⟩|y::o,p,x,d,h,g,i=>by
  have B:(0:Int)<st:=ad
  have r:=IL (x*40014%2147483563/8) (b:=(st:Int)) ad;have q:=HR (x*40014%2147483563/8) B;have h0:=h y am;obtain⟨p',f,e,e1,e2,e3⟩:=oQ n j c a Y U S J o (p++[(y.toNat,(x*40014%2147483563/8%(st:Int)).toNat)]) (x*40014%2147483563) (a_ (.int y)) (λz hz=>h z (by simp[hz])) (λz hz=>by
   rcases FW.mp hz with w|w
   .exact g z w
   .rw[Gi.mp w];show Int.toNat _<st;lia) (by simp at i ⊢;lia)
  refine⟨p',f,e,?_,e2,?_⟩
  .rw[e1,Hc,FQ]
   congr 1
   simp;lia
  .have I:(p.map plD).length<16777216:=by simp at i ⊢;lia
   have l:plD (y.toNat,(x*40014%2147483563/8%(st:Int)).toNat)=.tup [.int y,.int (x*40014%2147483563/8%(st:Int))]:=by unfold plD;rw[show((y.toNat:Nat):Int)=y by lia,show(((x*40014%2147483563/8%(st:Int)).toNat:Nat):Int)=x*40014%2147483563/8%(st:Int) by lia]
   have k:gm [c,a,Y,a_ (.int st),U,a_ (.int x),S,J,a_ (.lst (p.map plD)),a_ (.int y)]=.ok (.nx [c,a,Y,a_ (.int st),U,a_ (.int (x*40014%2147483563)),S,J,a_ (.lst ((p++[(y.toNat,(x*40014%2147483563/8%(st:Int)).toNat)]).map plD)),a_ (.int y)]):=by rw[Hc,KH,l];have m:kj (.int (x*40014%2147483563/8)) (.int st)=.ok (.int (x*40014%2147483563/8%(st:Int))):=C3 B;generalize p.map plD=pm at *;simp[gm,m,I]
   rw[pk,bM,iC,af];simp only[xM,u_];rw[k,af];exact e3
theorem plan_ok(n:Nat)(c:Int)(f:2<=m)(S:m<=18)(e:1<=st):∃(p:List (Nat×Nat)) (o:a0),qz m sh o/\p.map (λx=>(x.1:Int))=o/\(∀y∈p,y.1<m/\y.2<st)/\iP [.int c,.int m,.int sh,.int st]=.ok (.lst (p.map plD)):=by
 obtain⟨o,x,Y,U,I,e1⟩:=rC n f S (a_ (.int c)) (a_ (.int st)) e_ e_ (2*m) 0 (iv 0 m) (c*48271%2147483647*69621%2147483629) e_ e_ (Dx m sh);obtain⟨p,i,h,e2,e3,e4⟩:=oQ n e (a_ (.int c)) (a_ (.int m)) (a_ (.int sh)) (a_ (.lst (o.map .int))) Y U o [] x e_ (λy B=>(I.bnd B).1) (λy B=>nomatch B) (by rw[I.len];simp;lia);rw[GL,IH]at e2;refine⟨p,o,I,e2,λy B=>⟨?_,e3 y B⟩,?_⟩
 .have:(y.1:Int)∈o:=by rw[<- e2];exact Gq.mpr ⟨y,B,rfl⟩
  have:=(I.bnd this).2;lia
 .have d:(-4611686018427387904:Int)<=(m:Int):=ad
  have k2:(m:Int)<4611686018427387904:=ad
  have b:(-4611686018427387904:Int)<=2*(m:Int):=ad
  have a:2*(m:Int)<4611686018427387904:=ad
  have g:aB 0 m=(iv 0 m).map .int:=lA m 0;have e5:(2*(m:Int)).toNat=2*m:=ad
  have J:(iv 0 m).length<=16777216:=by rw[jb];lia
  rw[GL]at e4;simp[iP,pH,d,k2,b,a,g,e5,e1,e4,J,erase]
end
def Fz:(aI (BL 12 1)&&aI (BL 7 2)&&aI (BL 6 3)&&aI (BL 18 1)&&aI (BL 10 2)&&aI (BL 8 3)&&aI (BL 8 0)&&aI (BL 5 1)&&aI (BL 4 2)&&aI (BL 4 3)&&aI (BL 6 1)&&aI (BL 5 2))=d_:=by decide +kernel
structure Sz(k st sh m:Nat):Prop where
 k1:1<=k
 k2:k<=2
 s1:st=1\/st=2
 h3:sh<=3
 m1:4<=m
 m2:m<=18
 tt:∀(CR CP:iF) (n:Nat),∃c:Int,aD [.int m,.int sh]=.ok (.int c)/\c*(st:Int)^m<=5000
 few:(st*(sh+1))^m<=262144
 ap:aI (BL m sh)=d_
def sz_all:Sz 2 1 1 12/\Sz 2 1 2 7/\Sz 2 1 3 6/\Sz 1 1 1 18/\Sz 1 1 2 10/\Sz 1 1 3 8/\Sz 2 2 0 8/\Sz 2 2 1 5/\Sz 2 2 2 4/\Sz 2 2 3 4/\Sz 1 2 0 8/\Sz 1 2 1 6/\Sz 1 2 2 5/\Sz 1 2 3 4:=by
 have h:=Fz;simp only[m_]at h;obtain⟨⟨⟨⟨⟨⟨⟨⟨⟨⟨⟨h1,e⟩,d⟩,c⟩,b⟩,a⟩,S⟩,Y⟩,U⟩,B⟩,J⟩,I⟩:=h;refine⟨⟨as,as,as,as,as,as,λ_ _ _=>⟨_,run_12_1,as⟩,as,h1⟩,⟨as,as,as,as,as,as,λ_ _ _=>⟨_,run_7_2,as⟩,as,e⟩,⟨as,as,as,as,as,as,λ_ _ _=>⟨_,run_6_3,as⟩,as,d⟩,
  ⟨as,as,as,as,as,as,λ_ _ _=>⟨_,run_18_1,as⟩,as,c⟩,⟨as,as,as,as,as,as,λ_ _ _=>⟨_,run_10_2,as⟩,as,b⟩,⟨as,as,as,as,as,as,λ_ _ _=>⟨_,run_8_3,as⟩,as,a⟩,
  ⟨as,as,as,as,as,as,λ_ _ _=>⟨_,D7,as⟩,as,S⟩,⟨as,as,as,as,as,as,λ_ _ _=>⟨_,run_5_1,as⟩,as,Y⟩,⟨as,as,as,as,as,as,λ_ _ _=>⟨_,run_4_2,as⟩,as,U⟩,⟨as,as,as,as,as,as,λ_ _ _=>⟨_,D8,as⟩,as,B⟩,
  ⟨as,as,as,as,as,as,λ_ _ _=>⟨_,D7,as⟩,as,S⟩,⟨as,as,as,as,as,as,λ_ _ _=>⟨_,run_6_1,as⟩,as,J⟩,⟨as,as,as,as,as,as,λ_ _ _=>⟨_,run_5_2,as⟩,as,I⟩,⟨as,as,as,as,as,as,λ_ _ _=>⟨_,D8,as⟩,as,B⟩⟩
section
variable(CR CP:iF)
def new1(n:Nat)(h1:1<=k)(I:k<=6)(B:eA k rows):newR CR (az) [aL rows]=.ok (aq CR CP rows .non):=by have e:=mJ n k rows h1 I B;simp[newR,e,aq]
def new2(n:Nat){B:List a0}(h1:1<=k)(S:k<=6)(J:eA k rows)(I:eA k B):newP CP (az) [aL rows,aL B]=.ok (aq CR CP rows (aL B)):=by
 have e1:=mJ n k rows h1 S J;have e2:=mJ n k B h1 S I;have U:twoL (aL rows) (aL B)=d_:=by simp[twoL,aL,J.1,I.1]
 simp only[newP,e1,e2,af,U,Jw];rfl
theorem kU(n:Nat)(ns:a0)(k:Int)(h0:0<=k)(h1:k<1000):∃c,bh [.lst (ns.map .int),.int k]=.ok (.int c):=by
 by_cases b:k<(ns.length:Int)
 .simp_all[bh,iS,gh,getI_int]
 .by_cases B:ns=[]
  .subst B;have:¬k<0:=ad
   exact⟨0,by simp[bh,iS,gh,j4,this,eqM,E',iG,eqD,ug]⟩
  .have a:0<ns.length:=Mi.mpr B;have Y:(0:Int)<ns.length:=ad
   have J:0<=k%(ns.length:Int):=IL _ ad;have I:k%(ns.length:Int)<(ns.length:Int):=HR _ ad;have U: -18446744073709551616<k:=ad
   have S:k<18446744073709551616:=ad
   exact⟨ns[(k%(ns.length:Int)).toNat]'(by omega)*69621+k*k*48271,by simp[bh,iS,gh,j4,b,eqM,E',iG,eqD,B,a,getI_int J I,U,S]⟩
theorem sizes_ok(n:Nat)(c:Int):∃k st sh m:Nat,Sz k st sh m/\c9 [.int c]=.ok (.tup [.int k,.int st,.int sh,.int m]):=by
 obtain⟨q,p,o,l,j,i,h,g,f,d,b,a,Y,U⟩:=sz_all;have S:c%2=0\/c%2=1:=ad
 have J:c/2%3=0\/c/2%3=1\/c/2%3=2:=ad
 have I:c/2%4=0\/c/2%4=1\/c/2%4=2\/c/2%4=3:=ad
 by_cases B:c/8%4=1
 .rcases S with e2|e2
  .obtain⟨s,m,z,e3,e⟩:∃s m:Nat,Sz 1 1 s m/\1+c/2%3=s/\iQ [.int 0,.int 18,.int 10,.int 8] s=.ok (.int m):=by
    rcases J with e3|e3|e3
    .exact⟨1,18,l,by rw[e3];rfl,rfl⟩
    .exact⟨2,10,j,by rw[e3];rfl,rfl⟩
    .exact⟨3,8,i,by rw[e3];rfl,rfl⟩
   exact⟨1,1,s,m,z,by simp[c9,fD,B,e2,e3,b2z,e]⟩
  .obtain⟨s,m,z,e3,e⟩:∃s m:Nat,Sz 1 2 s m/\c/2%4=s/\iQ [.int 8,.int 6,.int 5,.int 4] s=.ok (.int m):=by
    rcases I with e3|e3|e3|e3
    .exact⟨0,8,b,e3,rfl⟩
    .exact⟨1,6,a,e3,rfl⟩
    .exact⟨2,5,Y,e3,rfl⟩
    .exact⟨3,4,U,e3,rfl⟩
   exact⟨1,2,s,m,z,by simp[c9,fD,B,e2,e3,b2z,e]⟩
 .rcases S with e2|e2
  .obtain⟨s,m,z,e3,e⟩:∃s m:Nat,Sz 2 1 s m/\1+c/2%3=s/\iQ [.int 0,.int 12,.int 7,.int 6] s=.ok (.int m):=by
    rcases J with e3|e3|e3
    .exact⟨1,12,q,by rw[e3];rfl,rfl⟩
    .exact⟨2,7,p,by rw[e3];rfl,rfl⟩
    .exact⟨3,6,o,by rw[e3];rfl,rfl⟩
   exact⟨2,1,s,m,z,by simp[c9,fD,B,e2,e3,b2z,e]⟩
  .obtain⟨s,m,z,e3,e⟩:∃s m:Nat,Sz 2 2 s m/\c/2%4=s/\iQ [.int 8,.int 5,.int 4,.int 4] s=.ok (.int m):=by
    rcases I with e3|e3|e3|e3
    .exact⟨0,8,h,e3,rfl⟩
    .exact⟨1,5,g,e3,rfl⟩
    .exact⟨2,4,f,e3,rfl⟩
    .exact⟨3,4,d,e3,rfl⟩
   exact⟨2,2,s,m,z,by simp[c9,fD,B,e2,e3,b2z,e]⟩
end
theorem AI{p:Pat}{fe:ag->M A'}{ρ0:ag}(Q:Int->Prop):∀ds:List A',(∀d∈ds,∃ρ x,cA p d ρ0=.ok ρ/\fe ρ=.ok (.int x)/\Q x)->∃xs:a0,xs.length=ds.length/\(∀x∈xs,Q x)/\aO p gp fe ρ0 ds=.ok (xs.map .int)
 |[],_=>⟨[],rfl,(λx h=>nomatch h),rfl⟩
 |d::ds,h=>by
  obtain⟨ρ,x,e1,e2,q⟩:=h d am;obtain⟨xs,l,I,e⟩:=AI Q ds λd J=>h d (by simp[J]);refine⟨x::xs,by simp[l],λy B=>?_,?_⟩
  .rcases t_.mp B with z|z
   .rw[z];exact q
   .exact I y z
  .rw[aO,e1,af];show(GY d_).bind _=_;rw[af,p_ rfl,e2,af,e,af];rfl
section
variable(CR CP:iF)
theorem zh(n:Nat)(ns:a0){k:Nat}(o:k<=2){side:Nat}(I:side<=2)(U S:Option A'):∀(r j:Nat) (rows:List a0) (Y:Option A'),rows.length=j->(∀r∈rows,mL k r)->j+r<=2->∃(B:List a0) (a:Option A'),B.length=j+r/\(∀r∈B,mL k r) /\
  bM (.nm 6) (dZ) (aB j r) [a_ (.lst (ns.map .int)),a_ (.int k),U,S,a_ (.int side),a_ (.lst (rows.map fH)),Y]=.ok (.nx [a_ (.lst (ns.map .int)),a_ (.int k),U,S,a_ (.int side),a_ (.lst (B.map fH)),a])
 |0,j,rows,Y,h1,f,_=>⟨rows,Y,h1,f,by rfl⟩|r+1,j,rows,Y,h1,f,A=>by
  obtain⟨xs,l,m,e1⟩:=AI (p:=.nm 0) (fe:=f2 kj (fL (bh) (aa (ae 1) (aa (f2 eW (f2 eW (f2 eW (fC (.int 1)) (f2 nV (fC (.int 4)) (ae 2))) (f2 nV (fC (.int 2)) (ae 3))) (ae 0)) aw))) (fC (.int 10))) (ρ0:=[e_,a_ (.lst (ns.map .int)),a_ (.int side),a_ (.int j)]) (λx=>0<=x/\x<=1000000) (aB 0 k) (λd t=>by
   obtain⟨i,hi⟩:=Jq.mp t;obtain⟨q,rfl⟩:=Bw hi;obtain⟨c,v⟩:=kU n ns (1+4*(side:Int)+2*j+i) ad ad;refine⟨[a_ (.int i),a_ (.lst (ns.map .int)),a_ (.int side),a_ (.int j)],c%10,am,?_,ad⟩
   simp[v])
  have s:mL k xs:=⟨by rw[l,dz],m⟩
  obtain⟨B,a,q1,q2,e⟩:=zh n ns o I U S r (j+1) (rows++[xs]) (a_ (.int j)) (by simp[h1]) (λr h=>by
   rcases FW.mp h with z|z
   .exact f r z
   .rw[Gi.mp z];exact s) ad
  refine⟨B,a,ad,q2,?_⟩
  have g:(-4611686018427387904:Int)<=(k:Int):=ad
  have k2:(k:Int)<4611686018427387904:=ad
  have b:(aB 0 k).length<=16777216:=by rw[dz];lia
  have J:(rows.map fH).length<16777216:=by simp;lia
  have u:dZ [a_ (.lst (ns.map .int)),a_ (.int k),U,S,a_ (.int side),a_ (.lst (rows.map fH)),a_ (.int j)]=.ok (.nx [a_ (.lst (ns.map .int)),a_ (.int k),U,S,a_ (.int side),a_ (.lst ((rows++[xs]).map fH)),a_ (.int j)]):=by rw[Hc,KH,fH];generalize rows.map fH=y at *;simp[dZ,g,k2,b,e1,J,erase]
  rw[bS,bM,iC,af];simp only[xM,u_];rw[u,af];have w:((j+1:Nat):Int)=(j:Int)+1:=rfl;rw[w]at e;exact e
theorem vh(n:Nat)(ns:a0){k:Nat}(i:k<=2)(S:Option A'):∀(r j:Nat) (B:List (List a0)) (a U J:Option A'),B.length=j->(∀T∈B,eA k T)->j+r<=2->∃(I:List (List a0)) (f d b:Option A'),I.length=j+r/\(∀T∈I,eA k T) /\
  bM (.nm 4) (dX) (aB j r) [a_ (.lst (ns.map .int)),a_ (.int k),S,a_ (.lst (B.map aL)),a,U,J]=.ok (.nx [a_ (.lst (ns.map .int)),a_ (.int k),S,a_ (.lst (I.map aL)),f,d,b])
 |0,j,B,a,U,J,h1,h,_=>⟨B,a,U,J,h1,h,by rfl⟩|r+1,j,B,a,U,J,h1,h,v=>by
  obtain⟨rows,b,q1,q2,e1⟩:=zh n ns i (side:=j) ad S (a_ (.lst (B.map aL))) k 0 [] J rfl (λr g=>nomatch g) ad;have p:eA k rows:=⟨ad,q2⟩
  obtain⟨I,f,d,c,u,m,e⟩:=vh n ns i S r (j+1) (B++[rows]) (a_ (.int j)) (a_ (aL rows)) b (by simp[h1]) (λr g=>by
   rcases FW.mp g with z|z
   .exact h r z
   .rw[Gi.mp z];exact p) ad
  refine⟨I,f,d,c,ad,m,?_⟩
  have o:(-4611686018427387904:Int)<=(k:Int):=ad
  have k2:(k:Int)<4611686018427387904:=ad
  have Y:(B.map aL).length<16777216:=by simp;lia
  have l:((0:Nat):Int)=0:=rfl;rw[l,GL]at e1;have q:dX [a_ (.lst (ns.map .int)),a_ (.int k),S,a_ (.lst (B.map aL)),a_ (.int j),U,J]=.ok (.nx [a_ (.lst (ns.map .int)),a_ (.int k),S,a_ (.lst ((B++[rows]).map aL)),a_ (.int j),a_ (aL rows),b]):=by rw[Hc,KH];generalize B.map aL=t at *;simp only[aL]at e1 ⊢;simp[dX,o,k2,e1,Y,erase]
  rw[bS,bM,iC,af];simp only[xM,u_];rw[q,af];have s:((j+1:Nat):Int)=(j:Int)+1:=rfl;rw[s]at e;exact e
theorem CN(n:Nat)(ns:a0)(B:1<=k)(J:k<=2)(I:st=1\/st=2):∃g:Gp,g.Good/\g.k=k/\g.s=st/\cQ [.lst (ns.map .int),.int k,.int st]=.ok g.D:=by
 obtain⟨S,i,h,f,q1,q2,e⟩:=vh n ns J (a_ (.int st)) st 0 [] e_ e_ e_ rfl (λT c=>nomatch c) ad;have Y:(-4611686018427387904:Int)<=(st:Int):=ad
 have k2:(st:Int)<4611686018427387904:=ad
 have U:((0:Nat):Int)=0:=rfl;rw[U,GL]at e;have d:cQ [.lst (ns.map .int),.int k,.int st]=.ok (.lst (S.map aL)):=by simp[cQ,lO,Y,k2,e,erase]
 rw[d];rcases I with rfl|rfl
 .match S,q1,q2 with
  |[a],_,q2=>exact⟨⟨k,a,c_,a⟩,⟨B,J,q2 a am,q2 a am⟩,rfl,rfl,rfl⟩
 .match S,q1,q2 with
  |[a,b],_,q2=>exact⟨⟨k,a,d_,b⟩,⟨B,J,q2 a am,q2 b am⟩,rfl,rfl,rfl⟩
theorem EB(n:Nat)(ns:a0){k:Nat}(s:1<=k)(G:k<=2)(d:Option A'):∀(r j:Nat) (fl:List Fli) (g U S J:Option A'),fl.length=j->(∀f∈fl,n9 k f)->j+r<=40->∃(B:List Fli) (o m l i:Option A'),B.length=j+r/\(∀f∈B,n9 k f) /\
  bM (.nm 4) (dw) (aB j r) [a_ (.lst (ns.map .int)),a_ (.int k),d,a_ (.lst (fl.map flD)),g,U,S,J]=.ok (.nx [a_ (.lst (ns.map .int)),a_ (.int k),d,a_ (.lst (B.map flD)),o,m,l,i])
 |0,j,fl,g,U,S,J,h1,v,_=>⟨fl,g,U,S,J,h1,v,by rfl⟩|r+1,j,fl,g,U,S,J,h1,v,h3=>by
  obtain⟨x,e1⟩:=kU n ns (9+3*(j:Int)) ad ad;obtain⟨y,e2⟩:=kU n ns (9+3*(j:Int)+1) ad ad;obtain⟨z,e3⟩:=kU n ns (9+3*(j:Int)+2) ad ad;have I:(0:Int)<k:=ad
  have a:(k:Int)<18446744073709551616:=ad
  obtain⟨w,L,Q,P⟩:∃w:Int,iQ [A'.int 60,.int 12,.int 60,.int 300] (y/300%4)=.ok (.int w)/\1<=w/\w<=300:=by
   have:y/300%4=0\/y/300%4=1\/y/300%4=2\/y/300%4=3:=ad
   rcases this with h|h|h|h<;>rw[h]
   .simp
   .simp
   .simp
   simp
  have E:=IL x (b:=(k:Int)) ad;have D:=HR x I;have X:=IL y (b:=w) ad;have W:=HR y (show(0:Int)<w by lia);have C:kj (.int x) (.int k)=.ok (.int (x%k)):=C3 I;have c:nH (.int x) (.int k)=.ok (.int (x/k)):=e_fdiv I a;have A:kj (.int y) (.int w)=.ok (.int (y%w)):=C3 ad;generalize Z:x/(k:Int)=q at c;have T:(0:Int)<=q%8:=ad
  have R:q%8<8:=ad
  generalize F:(3:Int)*j+q%8=t;obtain⟨B,o,m,l,i,q1,q2,e⟩:=EB n ns s G d r (j+1) (fl++[⟨x%k,t,t+y%w,t+z%9,z/9%5⟩]) (a_ (.int j)) (a_ (.lst [.int x,.int y,.int z])) (a_ (.int t)) (a_ (.int (t+y%w))) (by simp[h1]) (λf H=>by
   rcases FW.mp H with u|u
   .exact v f u
   .rw[Gi.mp u];exact⟨E,D,by show 0<=t;lia,by show t<=t+y%w;lia,ad,ad,ad,by show 0<=z/9%5;lia,by show z/9%5<=1000000000;lia⟩) ad
  refine⟨B,o,m,l,i,ad,q2,?_⟩
  have Y:(fl.map flD).length<16777216:=by simp;lia
  have O:aO (.nm 0) gp (fL (bh) (aa (ae 1) (aa (f2 eW (f2 eW (fC (.int 9)) (f2 nV (fC (.int 3)) (ae 2))) (ae 0)) aw))) [e_,a_ (.lst (ns.map .int)),a_ (.int j)] (aB 0 3)=.ok [.int x,.int y,.int z]:=by have:aB 0 3=[.int 0,.int 1,.int 2]:=rfl;rw[this];simp[aO,e1,e2,e3]
  have p:(aB 0 3).length<=16777216:=by decide
  have K:dw [a_ (.lst (ns.map .int)),a_ (.int k),d,a_ (.lst (fl.map flD)),a_ (.int j),U,S,J]=.ok (.nx [a_ (.lst (ns.map .int)),a_ (.int k),d,a_ (.lst ((fl++[(⟨x%k,t,t+y%w,t+z%9,z/9%5⟩:Fli)]).map flD)),a_ (.int j),a_ (.lst [.int x,.int y,.int z]),a_ (.int t),a_ (.int (t+y%w))]):=by rw[Hc,KH,flD];generalize fl.map flD=fm at *;simp[dw,O,p,C,c,L,A,F,Y,erase]
  rw[bS,bM,iC,af];simp only[xM,u_];rw[K,af];have N:((j+1:Nat):Int)=(j:Int)+1:=rfl;rw[N]at e;exact e
theorem BY(n:Nat)(ns:a0)(B:1<=k)(J:k<=2)(d:m<=18):∃fl:List Fli,fl.length=m/\(∀f∈fl,n9 k f)/\de [.lst (ns.map .int),.int k,.int m]=.ok (.lst (fl.map flD)):=by
 obtain⟨fl,c,b,a,Y,q1,q2,e⟩:=EB n ns B J (a_ (.int m)) m 0 [] e_ e_ e_ e_ rfl (λf S=>nomatch S) ad;refine⟨fl,ad,q2,?_⟩
 have I:(-4611686018427387904:Int)<=(m:Int):=ad
 have k2:(m:Int)<4611686018427387904:=ad
 have U:((0:Nat):Int)=0:=rfl;rw[U,GL]at e;simp[de,kC,I,k2,e,erase]
end
noncomputable def xB(P:Pap)(b:a0)(ls:a9):Pap:=P.map λp=>if p.1=b then(p.1,ls)else p
def D3(P:Pap)(b:a0)(ls:a9):(xB P b ls).map (·.1)=P.map (·.1):=by unfold xB;rw[FK];refine Ib λp _=>?_;show(if p.1=b then(p.1,ls)else p).1=p.1;split<;>rfl
def p8(p:a0×a9)(P:Pap)(c:a0):look (p::P) c=if p.1=c then p.2 else look P c:=by unfold look;rw[HJ];by_cases h:p.1=c<;>simp[h]
theorem E1(P:Pap)(b:a0)(ls:a9)(c:a0):look (xB P b ls) c=if c=b/\b∈P.map (·.1)then ls else look P c:=by
 induction P with
 |nil=>simp[xB,look]|cons p P B=>have e:xB (p::P) b ls=(if p.1=b then(p.1,ls)else p)::xB P b ls:=rfl;rw[e,p8,p8,B];grind
theorem put_setP(P:Pap)(b:a0)(ls:a9)(h:b∈P.map (·.1)):gU (bx P) b (cC ls)=bx (xB P b ls):=by
 unfold gU;rw[Ap,p_ ad];unfold bx xB;rw[FK,FK];refine Ib λp _=>?_;show(if p.1=b then(p.1,cC ls)else(p.1,cC p.2))=((if p.1=b then(p.1,ls)else p).1,cC (if p.1=b then(p.1,ls)else p).2)
 split<;>rfl
theorem C1(L:List a0):eqM (.lst (L.map aP)) (.lst [])=.ok (.bl L.isEmpty):=by
 have h:E' (.lst (L.map aP)) 40=d_:=by rw[E'];exact iq _ L
 have h0:E' (.lst []) 40=d_:=rfl;simp_all[eqD,ug,eqM]
section
variable(CR CP:iF)
theorem DR(n:Nat)(hm:m<=18)(T:sh<=3)(C:aI (BL m sh)=d_)(U:P.map (·.1)=BL m sh)(S:∀b,(look P b).length<=262144)(c:Int):cR [.dic (bx P),.int c]=.ok .non\/∃b i,b∈BL m sh/\b≠[]/\i<(look P b).length/\cR [.dic (bx P),.int c]=.ok (.dic (bx (xB P b ((look P b).eraseIdx i)))):=by
 have w:(bx P).map (·.1)=BL m sh:=by rw[<- U];unfold bx;rw[FK];rfl
 have b3:=B9 (m:=m) (s:=sh) ad T;have s1:i9 [.dic (bx P)]=.ok (.lst ((cx tY (BL m sh)).map aP)):=by rw[kf,w,p_ (yX _ _)]
 have g:∀b∈BL m sh,xD (.dic (bx P)) (aP b)=.ok (cC (look P b)):=λb l=>by simp_all[jO,kA,af,wB]
 have Q:aO (.nm 0) (yz (fB (f2 gtD (fL kO (aa (ae 0) aw)) (fC (.int 0)))) (fB (f2 neM (f2 xD (ae 1) (ae 0)) (fL bj aw)))) (ae 0) [e_,a_ (.dic (bx P))] ((cx tY (BL m sh)).map aP)=.ok (((cx tY (BL m sh)).filter λb=> !b.isEmpty&& !(look P b).isEmpty).map aP):=
  lX aP _ _ _ λb l=>⟨[a_ (aP b),a_ (.dic (bx P))],am,by
   have A:b∈BL m sh:=(bC _).mem_iff.mp l;have e1:=g b A;have e2:=(su (look P b)).2;have e3:kO [aP b]=.ok (.int b.length):=by simp[aP]
   simp only[cC]at e1;cases b with
   |nil=>rfl|cons x b=>simp[e3,e1,e2,-jO],λ_=>by simp⟩
 have p:(cx tY (BL m sh)).length<=16777216:=by rw[(bC _).length_eq];lia
 have e:∀b∈(cx tY (BL m sh)).filter λb=> !b.isEmpty&& !(look P b).isEmpty,b∈BL m sh/\b≠[]/\look P b≠[]:=λb l=>by obtain⟨h1,F⟩:=GI.mp l;simp only[m_,K3,NS]at F;exact⟨(bC _).mem_iff.mp h1,F.1,F.2⟩
 generalize (cx tY (BL m sh)).filter (λb=> !b.isEmpty&& !(look P b).isEmpty)=B at *;have L:bD (fIt (fL i9 (aa (ae 0) aw))) [e_,a_ 0] (.nm 0) (yz (fB (f2 gtD (fL kO (aa (ae 0) aw)) (fC (.int 0)))) (fB (f2 neM (f2 xD (ae 1) (ae 0)) (fL bj aw)))) (ae 0) [a_ (.dic (bx P)),a_ (.int c),e_,e_,e_,e_]=.ok (.lst (B.map aP)):=by simp[s1,p,Q,-kf]
 have a:=C1 B;cases Y:B with
 |nil=>
  left;rw[Y,GL]at L a;have a:eqM (.lst []) (.lst [])=.ok (.bl d_):=a;have G:cf [a_ (.dic (bx P)),a_ (.int c),e_,e_,e_,e_]=.ok (.rt .non):=by unfold cf bw aQ;simp only[erase];rw[L];simp[gL,a]
  show(cf [a_ (.dic (bx P)),a_ (.int c),e_,e_,e_,e_]).bind _=_;rw[G];rfl
 |cons t0 LT'=>
  right;have J:(0:Int)<(B.length:Int):=by rw[Y];simp
  have o:B.isEmpty=c_:=by rw[Y];rfl
  rw[o]at a;have j0:=IL (c*48271%65537) (b:=(B.length:Int)) ad;have j1:=HR (c*48271%65537) J;obtain⟨j,Z⟩:∃j:Nat,c*48271%65537%(B.length:Int)=j:=⟨(c*48271%65537%(B.length:Int)).toNat,ad⟩
  have f:j<B.length:=ad
  obtain⟨h,z,y⟩:=e B[j] (FX f);have gj:iQ (B.map aP) (j:Int)=.ok (aP B[j]):=by rw[eZ (by simpa using f)];simp
  generalize B[j]=b at *;have I:(0:Int)<((look P b).length:Int):=by have:=Mi.mpr y;lia
  have i0:=IL (c/7) (b:=((look P b).length:Int)) ad;have i1:=HR (c/7) I;obtain⟨i,hi⟩:∃i:Nat,c/7%((look P b).length:Int)=i:=⟨(c/7%((look P b).length:Int)).toNat,ad⟩
  have t:i<(look P b).length:=ad
  refine⟨b,i,h,z,t,?_⟩
  have K:kj (.int (c*48271%65537)) (.int B.length)=.ok (.int j):=by rw[C3 J,Z]
  have H:kj (.int (c/7)) (.int (look P b).length)=.ok (.int i):=by rw[C3 I,hi]
  have e1:=g b h;have q:kO [cC (look P b)]=.ok (.int (look P b).length):=by simp[cC]
  have v:dictC [.dic (bx P)]=.ok (.dic (bx P)):=by
   rw[EL,p_];rw[w,C,QL];cases hP:bx P with
   |nil=>simp_all|cons=>rfl
  have X:=S b;have Q:=yO ((look P b).map Lake.aY) i (by simp;lia);have R:=xa ((look P b).map Lake.aY) (i+1) (by simp;lia);have e2:((i+1:Nat):Int)=(i:Int)+1:=rfl;rw[e2]at R;have er:((look P b).map Lake.aY).take i++((look P b).map Lake.aY).drop (i+1)=((look P b).eraseIdx i).map Lake.aY:=by rw[M9,Hc,Mt,Mu]
  have l1:(((look P b).map Lake.aY).take i).length+(((look P b).map Lake.aY).drop (i+1)).length<=16777216:=by rw[GC,Hu,oe];lia
  have k:eW (.lst (((look P b).map Lake.aY).take i)) (.lst (((look P b).map Lake.aY).drop (i+1)))=.ok (cC ((look P b).eraseIdx i)):=by show(if _ then _ else _)=_;rw[p_ aW,er];rfl
  have d:=put_setP P b ((look P b).eraseIdx i) aW;have W:=vO ((look P b).eraseIdx i);have u:(bx P).length<16777216:=by have:=Jk Kl w;rw[oe]at this;lia
  have r:=kA b;have G:cf [a_ (.dic (bx P)),a_ (.int c),e_,e_,e_,e_]=.ok (.rt (.dic (bx (xB P b ((look P b).eraseIdx i))))):=by
   have D:(B.map aP).length=B.length:=by simp
   have O:cB (cC (look P b)) e_ (a_ (i:Int))=.ok (.lst (((look P b).map Lake.aY).take i)):=Q;have N:cB (cC (look P b)) (a_ ((i:Int)+1)) e_=.ok (.lst (((look P b).map Lake.aY).drop (i+1))):=R;unfold cf bw aQ;simp only[erase];rw[L];simp only[af,xM,u_];rw[<- d];generalize ((look P b).map Lake.aY).take i=A1 at *;generalize ((look P b).map Lake.aY).drop (i+1)=A2 at *;generalize B.map aP=LM at *;generalize aP b=tb at *;generalize cC ((look P b).eraseIdx i)=Ee at *;generalize cC (look P b)=E at *;generalize hDD:bx P=DD at *;simp[gL,a,D,K,gj,e1,q,H,v,O,N,k,lU,r,W,u,-jO,-EL]
  show(cf [a_ (.dic (bx P)),a_ (.int c),e_,e_,e_,e_]).bind _=_;rw[G];rfl
end
theorem nU:∀l:a0,ym (l.map .int)=d_
 |[]=>rfl|x::l=>by simp[ym,noD,nU l]
theorem A5:∀L:List a0,ym (L.map fH)=d_
 |[]=>rfl|r::L=>by simp[ym,noD,fH,nU,A5 L]
theorem A4:∀L:List a0,ym (L.map aP)=d_
 |[]=>rfl|r::L=>by simp[ym,noD,aP,nU,A4 L]
theorem A6:∀ls:a9,ym (ls.map Lake.aY)=d_
 |[]=>rfl|l::ls=>by simp[ym,noD,Lake.aY,A4,A6 ls]
theorem noD_fl:∀fl:List Fli,ym (fl.map flD)=d_
 |[]=>rfl|f::fl=>by simp[ym,noD,flD,noD_fl fl]
def DN(CR CP:iF)(g:Gp):noD (aq CR CP g.rows g.o)=d_:=by unfold Gp.o;cases g.two<;>simp[aq,noD,noDF,aL,A5]
def put_last(ks:List (a0×A'))(k:a0)(d:A')(h:k∉ks.map (·.1)):gU ks k d=ks++[(k,d)]:=by
 unfold gU;have:qv ks k=e_:=by
  unfold qv;rw[Pp.mpr λx B=>?_]
  .rfl
  .simp only[FG];exact λz=>h (Gq.mpr ⟨x,B,z⟩)
 rw[this];rfl
theorem fold_same:∀(ps B:List (a0×A')),((B++ps).map (·.1)).Nodup->ps.foldl (λB p=>gU B p.1 p.2) B=B++ps
 |[],B,_=>by simp|p::ps,B,h=>by
  have I:p.1∉B.map (·.1):=λz=>by grind
  rw[FH,put_last B p.1 p.2 I,fold_same ps (B++[(p.1,p.2)]) (by simpa using h)];simp
theorem vS:∀P:Pap,dJ ((bx P).map λp=>.tup [.tup (p.1.map .int),p.2])=.ok (bx P)
 |[]=>rfl|p::P=>by show(kZ (aP p.1)).bind (λk=>(dJ ((bx P).map λp=>.tup [.tup (p.1.map .int),p.2])).bind λr=>.ok ((k,cC p.2)::r))=_;rw[kA,af,vS P];rfl
theorem A9:∀{P:Pap} {p:a0×a9},p∈P->(P.map (·.1)).Nodup->look P p.1=p.2
 |q::P,p,h,B=>by
  rw[pk,Jj]at B;rw[p8];rcases t_.mp h with z|z
  .simp_all
  .rw[q_ λe=>B.1 (by rw[e];exact Gq.mpr ⟨p,z,rfl⟩)];exact A9 z B.2
theorem zv:∀P:Pap,oE (bx P) (bx P)=d_
 |[]=>rfl|p::P=>by
  have h:E' (cC p.2) 40=d_:=by unfold cC;rw[E'];exact nT _ p.2
  show(xF (p.1=p.1)&&E' (cC p.2) 40&&E' (cC p.2) 40&&eqD (cC p.2) (cC p.2)&&oE (bx P) (bx P))=d_;rw[h,iU h,zv P];simp
section
variable(CR CP:iF)
theorem wu(n:Nat)(k:CR≠CP)(ns:a0){v:V}(w:v.Good)(h0:v.cs=[]){sh:Nat}(u:4<=v.fl.length)(i:v.fl.length<=18){P:Pap}(e:Cr v P)(J:∀b,(look P b).length<=262144)(S:P.map (·.1)=BL v.fl.length sh)(d:∀b∈BL v.fl.length sh,look P b=v.ent P b)(q Y U:Option A'):∀(r j:Nat) (s I B:Option A'),j+r<=12->∃t g f,
  bM (.nm 9) (uL CR CP n) (aB j r) [a_ (.lst (ns.map .int)),q,a_ (.int v.g.s),a_ (.int sh),a_ (.int v.fl.length),a_ v.g.D,a_ (aq CR CP v.g.rows v.g.o),a_ (.lst (v.fl.map flD)),a_ (.dic (bx P)),s,I,B,Y,U] =
  .ok (.nx [a_ (.lst (ns.map .int)),q,a_ (.int v.g.s),a_ (.int sh),a_ (.int v.fl.length),a_ v.g.D,a_ (aq CR CP v.g.rows v.g.o),a_ (.lst (v.fl.map flD)),a_ (.dic (bx P)),t,g,f,Y,U])
 |0,j,s,I,B,_=>⟨s,I,B,by rfl⟩|r+1,j,s,I,B,h=>by
  obtain⟨c,H⟩:=kU n ns (50+(j:Int)) ad ad;obtain⟨p,o,z,F,C,ep⟩:=plan_ok n c (m:=v.fl.length) (sh:=sh) (st:=v.g.s) ad i v.g.s2.1;have l:(0:Int)<(v.fl.length:Int):=ad
  have O:=IL c (b:=(v.fl.length:Int)) ad;have N:=HR c l;obtain⟨a,D⟩:∃a:Nat,1+c%(v.fl.length:Int)=a:=⟨(1+c%(v.fl.length:Int)).toNat,ad⟩
  have E:=planr_ok CR CP n k w h0 e J S d (p:=p) (λy x=>C y x) i z F (a:=a) ad ad;have G:kj (.int c) (.int v.fl.length)=.ok (.int (c%(v.fl.length:Int))):=C3 l;obtain⟨t,g,f,K⟩:=wu n k ns w h0 u i e J S d q Y U r (j+1) (a_ (.int j)) (a_ (.int c)) (a_ (.lst (p.map plD))) ad;refine⟨t,g,f,?_⟩
  have A:uL CR CP n [a_ (.lst (ns.map .int)),q,a_ (.int v.g.s),a_ (.int sh),a_ (.int v.fl.length),a_ v.g.D,a_ (aq CR CP v.g.rows v.g.o),a_ (.lst (v.fl.map flD)),a_ (.dic (bx P)),a_ (.int j),I,B,Y,U]=.ok (.nx [a_ (.lst (ns.map .int)),q,a_ (.int v.g.s),a_ (.int sh),a_ (.int v.fl.length),a_ v.g.D,a_ (aq CR CP v.g.rows v.g.o),a_ (.lst (v.fl.map flD)),a_ (.dic (bx P)),a_ (.int j),a_ (.int c),a_ (.lst (p.map plD)),Y,U]):=by generalize v.g.D=L at *;generalize p.map plD=pm at *;simp[uL,Fi,H,ep,G,D,E,erase]
  simp_all[bS,bM,iC,af,xM,u_]
theorem law_true(y:CR≠CP):∀ns:a0,ns.length<=63->∃n,m_law CR CP n [.lst (ns.map .int)]=.ok (.bl d_):=by
 intro ns _;refine⟨64,?_⟩
 generalize (64:Nat)=n;obtain⟨c0,ec0⟩:=kU n ns 0 ad ad;obtain⟨k,st,sh,m,z,ez⟩:=sizes_ok n c0;obtain⟨g,hg,rfl,rfl,eg⟩:=CN n ns z.k1 z.k2 z.s1;obtain⟨fl,rfl,hfl,ef⟩:=BY n ns z.k1 z.k2 z.m2;obtain⟨A,e62⟩:=kU n ns 62 ad ad;have hm2:=z.m2;have N:(⟨g,fl,[]⟩:V).Good:=⟨hg,hfl,ad,rfl,λp hp=>nomatch hp⟩
 generalize C:(⟨g,fl,[]⟩:V)=v at N;have e1:g=v.g:=by rw[<- C]
 have e2:fl=v.fl:=by rw[<- C]
 have h0:v.cs=[]:=by rw[<- C]
 subst e1 e2;obtain⟨c,F,hc⟩:=z.tt CR CP n;obtain⟨Z,ep⟩:=paper_ok CR CP n y N z.m2 z.few z.h3 F hc;obtain⟨bl1,bl2⟩:=BL_ok v.fl.length sh;have S:=v.zX (BL v.fl.length sh) [];rw[GL,IH]at S;have w:=v.zW (BL v.fl.length sh) [] aW bl2;have a:∀b,(look (v.pap [] (BL v.fl.length sh)) b).length<=262144:=λb=>Z.many z.few b;have x:=Z.lab;clear Z;generalize v.pap [] (BL v.fl.length sh)=P at *;have R:[]∈BL v.fl.length sh:=ng.mpr ⟨0,ad,(Dx v.fl.length sh).beg (k:=0) ad⟩;have first:look P []=[v.l0]:=by rw[w [] R];simp[V.ent]
 have ei:=pB CR CP n y N z.m2 z.h3 F hc x a S first;have ha:(BL v.fl.length sh).all (v.hG P)=d_:=Hd.mpr λb hb=>V.Bu (w b hb);rw[ha]at ei;rw[h0,GL]at ep ei;have hT0:ixD v.g.D (.int 0)=.ok (aL v.g.rows):=by unfold Gp.D;cases v.g.two<;>simp
 have hr1:newR CR (az) [aL v.g.rows]=.ok (aq CR CP v.g.rows .non):=new1 CR CP n z.k1 (by have:=z.k2;lia) hg.rows;have O:∀(t j L f K H d J I Y U:Option A'),uG CR CP n [t,j,a_ (.int v.g.s),L,f,a_ v.g.D,a_ (aq CR CP v.g.rows .non),K,H,d,J,I,Y,U]=.ok (.nx [t,j,a_ (.int v.g.s),L,f,a_ v.g.D,a_ (aq CR CP v.g.rows v.g.o),K,H,d,J,I,Y,U]):=λt j L f K H d J I Y U=>by
  cases h2:v.g.two with
  |false=>simp_all[Gp.s,Gp.o,uG]|true=>
   have hs2:v.g.s=2:=by simp[Gp.s,h2]
   have ho:v.g.o=aL v.g.r2:=by simp[Gp.o,h2]
   have hT1:ixD v.g.D (.int 1)=.ok (aL v.g.r2):=by unfold Gp.D;rw[h2];simp
   have hr2:=new2 CR CP n z.k1 (by have:=z.k2;lia) hg.rows hg.r2;rw[hs2,ho];generalize v.g.D=gD at *;simp[uG,hT0,hT1,hr2,erase]
 obtain⟨y9,y10,y11,et⟩:=wu CR CP n y ns N h0 z.m1 z.m2 x a S w (a_ (.int v.g.k)) e_ e_ 12 0 e_ e_ e_ ad;have z0:((0:Nat):Int)=0:=rfl;rw[z0]at et;have hll:(v.fl.map flD).length<=16777216:=by rw[oe];lia
 have u:fX [.lst (v.fl.map flD)]=.ok (.lst (v.fl.map flD)):=by first|rfl|(simp;lia)
 obtain⟨B,eB,eB5⟩:∃B,cR [.dic (bx P),.int A]=.ok B/\∀(t j r f o d J I U:Option A'),uF CR CP n [t,j,r,a_ (.int sh),f,o,a_ (aq CR CP v.g.rows v.g.o),a_ (.lst (v.fl.map flD)),a_ (.dic (bx P)),d,J,I,a_ B,U]=.ok (.nx [t,j,r,a_ (.int sh),f,o,a_ (aq CR CP v.g.rows v.g.o),a_ (.lst (v.fl.map flD)),a_ (.dic (bx P)),d,J,I,a_ B,U]):=by
  rcases DR n z.m2 z.h3 z.ap S a A with h|⟨b,i,hb,hbe,hi,h⟩
  .refine⟨.non,h,λt j r f o d J I U=>?_⟩
   simp[uF]
  .have hbk:b∈P.map (·.1):=by rw[S];exact hb
   have W:∀c,look (xB P b ((look P b).eraseIdx i)) c=if c=b then(look P b).eraseIdx i else look P c:=λc=>by simp_all[E1,p_,q_]
   have sub:∀c,∀l∈look (xB P b ((look P b).eraseIdx i)) c,l∈look P c:=λc l T=>by
    rw[W]at T;split at T
    .rename_i e;rw[e];exact List.mem_of_mem_eraseIdx T
    simp_all
   have len:∀c,(look (xB P b ((look P b).eraseIdx i)) c).length<=262144:=λc=>by
    rw[W];split
    .rw[Kk,p_ hi];have:=a b;lia
    .exact a c
   have eq:=pB CR CP n y N z.m2 z.h3 F hc (P:=xB P b ((look P b).eraseIdx i)) (λc l T=>x c l (sub c l T)) len (by rw[D3];exact S) (by rw[W,q_ (HI hbe)];exact first);have Z:(BL v.fl.length sh).all (v.hG (xB P b ((look P b).eraseIdx i)))=c_:=by
    rw[PM];refine⟨b,hb,?_⟩
    rw[V.xX x hbe (w b hb) (λc hcl=>by rw[W,q_ λz=>by rw[z]at hcl;lia]) hi (by rw[W,p_ rfl])];decide
   rw[Z,h0,GL]at eq;refine⟨_,h,λt j r f o d J I U=>?_⟩
   generalize xB P b ((look P b).eraseIdx i)=Q at *;generalize v.fl.map flD=fm at *;simp[uF,u,eq,w9,DL]
 have hkd:((bx P).map (·.1)).Nodup:=by
  have:(bx P).map (·.1)=P.map (·.1):=by unfold bx;rw[FK];rfl
  rw[this,S];exact bl1
 have E:aO (.tp [0,1]) gp (fL cq (aa (ae 0) (aa (fL fX (aa (ae 1) aw)) aw))) [e_,e_] ((bx P).map λp=>.tup [.tup (p.1.map .int),p.2])=.ok ((bx P).map λp=>.tup [.tup (p.1.map .int),p.2]):=by
  have:=iY (p:=.tp [0,1]) (fe:=fL cq (aa (ae 0) (aa (fL fX (aa (ae 1) aw)) aw))) (ρ0:=[e_,e_]) (λp:a0×a9=>.tup [.tup (p.1.map .int),cC p.2]) (λp=>.tup [.tup (p.1.map .int),cC p.2]) P λp hp=>⟨[a_ (.tup (p.1.map .int)),a_ (cC p.2)],am,by rfl⟩
  unfold bx;rw[FK];exact this
 have hdl:(bx P).length<=16777216:=by have h1:=Jk Kl S;have h2:=B9 (m:=v.fl.length) (s:=sh) ad z.h3;rw[oe]at h1;unfold bx;rw[oe];lia
 have D:C4 [.lst ((bx P).map λp=>.tup [.tup (p.1.map .int),p.2])]=.ok (.dic (bx P)):=by show(dJ _).bind _=_;rw[vS,af];unfold As;rw[fold_same (bx P) [] aW];rfl
 have hnd:((bx P).all λp=>noD p.2)=d_:=Hd.mpr λp hp=>by obtain⟨q,_,rfl⟩:=Gq.mp hp;simp[cC,noD,A6]
 have nr:ndE (a_ (aq CR CP v.g.rows v.g.o))=a_ (aq CR CP v.g.rows v.g.o):=by show(if noD (aq CR CP v.g.rows v.g.o)=d_ then _ else _)=_;rw[p_ (DN CR CP v.g)]
 have nf:ndE (a_ (.lst (v.fl.map flD)))=a_ (.lst (v.fl.map flD)):=by show(if noD (.lst (v.fl.map flD))=d_ then _ else _)=_;rw[p_ (by simp[noD,noD_fl])]
 have ni:∀i:Int,ndE (a_ (.int i))=a_ (.int i):=λi=>rfl;have hsame:=zv P;have ens:noD (.lst (ns.map .int))=d_:=by simp[noD,nU]
 have e4:∀(t j r f o d J I Y U:Option A'),yS CR CP n [t,j,r,a_ (.int sh),f,o,a_ (aq CR CP v.g.rows v.g.o),a_ (.lst (v.fl.map flD)),a_ (.dic (bx P)),d,J,I,Y,U]=.ok (.nx [t,j,r,a_ (.int sh),f,o,a_ (aq CR CP v.g.rows v.g.o),a_ (.lst (v.fl.map flD)),a_ (.dic (bx P)),d,J,I,Y,U]):=λt j r f o d J I Y U=>by generalize v.fl.map flD=fm at *;simp[yS,u,ei,DL]
 have e6:∀(j r L f o a6 K H d J I Y U:Option A'),yR [a_ (.lst (ns.map .int)),j,r,L,f,o,a6,K,H,d,J,I,Y,U]=if 0<A%4 then .ok (.rt (.bl d_))else .ok (.nx [a_ (.lst (ns.map .int)),j,r,L,f,o,a6,K,H,d,J,I,Y,U]):=λj r L f o a6 K H d J I Y U=>by simp_all[yR]
 have G:∀(t j r f o d J I Y:Option A'),vB 8 13 (fL C4 (aa (bD (jL (ae 8)) [e_,e_] (.tp [0,1]) gp (fL cq (aa (ae 0) (aa (fL fX (aa (ae 1) aw)) aw)))) aw)) (f2 eqKD (fL (eK CR CP n) (aa (ae 6) (aa (fL fX (aa (ae 7) aw)) (aa (fL bj aw) (aa (ae 3) aw))))) (ae 13)) [t,j,r,a_ (.int sh),f,o,a_ (aq CR CP v.g.rows v.g.o),a_ (.lst (v.fl.map flD)),a_ (.dic (bx P)),d,J,I,Y,e_]=.ok (.rt (.bl d_)):=λt j r f o d J I Y=>by
  have ek:fL C4 (aa (bD (jL (ae 8)) [e_,e_] (.tp [0,1]) gp (fL cq (aa (ae 0) (aa (fL fX (aa (ae 1) aw)) aw)))) aw) [t,j,r,a_ (.int sh),f,o,a_ (aq CR CP v.g.rows v.g.o),a_ (.lst (v.fl.map flD)),a_ (.dic (bx P)),d,J,I,Y,e_]=.ok (.dic (bx P)):=by
   generalize hI:(bx P).map (λp=>A'.tup [.tup (p.1.map .int),p.2])=IT at *;have hIl:IT.length<=16777216:=by rw[<- hI,oe];exact hdl
   simp[hI,E,hIl,D,-e_dictA]
  unfold vB;rw[show([t,j,r,a_ (.int sh),f,o,a_ (aq CR CP v.g.rows v.g.o),a_ (.lst (v.fl.map flD)),a_ (.dic (bx P)),d,J,I,Y,e_]:ag)[8]?=a_ (a_ (.dic (bx P)))from rfl];simp only;rw[ek,af];simp only;rw[p_ (by simp[hnd])];simp_all[pk,GL,xM,u_,onlyB]
 have er:gF jl (aa (fC (.int 12)) aw) [a_ (.lst (ns.map .int)),a_ (.int v.g.k),a_ (.int v.g.s),a_ (.int sh),a_ (.int v.fl.length),a_ v.g.D,a_ (aq CR CP v.g.rows v.g.o),a_ (.lst (v.fl.map flD)),a_ (.dic (bx P)),e_,e_,e_,e_,e_]=.ok (aB 0 12):=by simp
 have gl:g_law CR CP n [a_ (.lst (ns.map .int)),e_,e_,e_,e_,e_,e_,e_,e_,e_,e_,e_,e_,e_]=.ok (.rt (.bl d_)):=by
  unfold g_law zw;rw[p_ (by simp[ndO,ens])];have x1:fL (c9) (aa (fL (bh) (aa (ae 0) (aa (fC (.int 0)) aw))) aw) [a_ (.lst (ns.map .int)),e_,e_,e_,e_,e_,e_,e_,e_,e_,e_,e_,e_,e_]=.ok (.tup [.int v.g.k,.int v.g.s,.int sh,.int v.fl.length]):=by simp[ec0,ez]
  have x2:fL (cQ) (aa (ae 0) (aa (ae 1) (aa (ae 2) aw))) [a_ (.lst (ns.map .int)),a_ (.int v.g.k),a_ (.int v.g.s),a_ (.int sh),a_ (.int v.fl.length),e_,e_,e_,e_,e_,e_,e_,e_,e_]=.ok v.g.D:=by simp[eg]
  have x3:fL (newR CR (az)) (aa (f2 ixD (ae 5) (fC (.int 0))) aw) [a_ (.lst (ns.map .int)),a_ (.int v.g.k),a_ (.int v.g.s),a_ (.int sh),a_ (.int v.fl.length),a_ v.g.D,e_,e_,e_,e_,e_,e_,e_,e_]=.ok (aq CR CP v.g.rows .non):=by generalize v.g.D=gD at *;simp[hT0,hr1]
  have x4:fL (de) (aa (ae 0) (aa (ae 1) (aa (ae 4) aw))) [a_ (.lst (ns.map .int)),a_ (.int v.g.k),a_ (.int v.g.s),a_ (.int sh),a_ (.int v.fl.length),a_ v.g.D,a_ (aq CR CP v.g.rows v.g.o),e_,e_,e_,e_,e_,e_,e_]=.ok (.lst (v.fl.map flD)):=by simp[ef]
  have x5:fL (eK CR CP n) (aa (ae 6) (aa (fL fX (aa (ae 7) aw)) (aa (fL bj aw) (aa (ae 3) aw)))) [a_ (.lst (ns.map .int)),a_ (.int v.g.k),a_ (.int v.g.s),a_ (.int sh),a_ (.int v.fl.length),a_ v.g.D,a_ (aq CR CP v.g.rows v.g.o),a_ (.lst (v.fl.map flD)),e_,e_,e_,e_,e_,e_]=.ok (.dic (bx P)):=by generalize v.fl.map flD=fm at *;simp[u,ep]
  have x6:fL (cR) (aa (ae 8) (aa (fL (bh) (aa (ae 0) (aa (fC (.int 62)) aw))) aw)) [a_ (.lst (ns.map .int)),a_ (.int v.g.k),a_ (.int v.g.s),a_ (.int sh),a_ (.int v.fl.length),a_ v.g.D,a_ (aq CR CP v.g.rows v.g.o),a_ (.lst (v.fl.map flD)),a_ (.dic (bx P)),y9,y10,y11,e_,e_]=.ok B:=by simp[e62,eB]
  have b1:cA (.tp [1,2,3,4]) (.tup [.int v.g.k,.int v.g.s,.int sh,.int v.fl.length]) [a_ (.lst (ns.map .int)),e_,e_,e_,e_,e_,e_,e_,e_,e_,e_,e_,e_,e_]=.ok [a_ (.lst (ns.map .int)),a_ (.int v.g.k),a_ (.int v.g.s),a_ (.int sh),a_ (.int v.fl.length),e_,e_,e_,e_,e_,e_,e_,e_,e_]:=by simp
  have go:∀X:M B6,X=.ok (.rt (.bl d_))->X.bind onlyR=.ok (.rt (.bl d_)):=λX h=>by rw[h];rfl
  refine go _ ?_;unfold bw Bp;simp only[erase];rw[x1,af,b1];simp only[af];unfold aQ;simp only[erase];rw[x2];simp only[af,xM,u_];rw[x3];simp only[af,xM,u_];rw[O];simp only[af];rw[x4];simp only[af,xM,u_];rw[x5];simp only[af,xM,u_];unfold iM;simp only[erase];rw[er,af,et];simp only[af];rw[e4];simp only[af];rw[x6];simp only[af,xM,u_];rw[eB5];simp only[af];rw[e6];by_cases h:0<A%4
  .rw[p_ h];rfl
  .rw[q_ h];simp only[af];exact G _ _ _ _ _ _ _ _ _
 show(g_law CR CP n [a_ (.lst (ns.map .int)),e_,e_,e_,e_,e_,e_,e_,e_,e_,e_,e_,e_,e_]).bind _=_;rw[gl];rfl
end
def fin_mk{P:GD}{K:Pn}{h:Gu}{fa CR:iF}(_:K.In h)(_:h.Ns G3 mg)(B:mg "law"=a_ (.ref fa))(Z:Zs K mg CR CP):
  ∃fd:IG,(∀(s:k_) (v:h_),MW s fd ⟨[v],[]⟩ [("_law_script",v)])/\∀base:Gu,K.In base->base.Ns G3 mg->jk P w K mg base CX0 12 fa fd ["_law_script"] (spLaw K):=by
 obtain⟨f,fd,D,I⟩:=Z.d_law;have e:=B.symm.trans D.mg;cases e;refine⟨fd,I,λbase _ _=>law_ok (ro:=c_) (mlaw:=m_law CR CP) (λn=>?_) (law_true CR CP Z.ne)⟩
 obtain⟨S,J,Y⟩:=ok_law (n:=n) (P:=P) (w:=w) (base:=base) Z;have e:=D.mg.symm.trans Y.d.mg;cases e;rw[D.fn.uniq Y.d.fn];exact Y.o
def walk{l:MG}{q:GD}{B:List Gf}{c:(Ld)->Gu->Prop}{J:Hw->Gu->Prop}{d:DefRec}{K:Params->Pn}(S:l.most=a_ 63)(I:d.params.defaults=[])(Y:∀(w:Hw) (h:Gu),J w h->(K w.params).In h)(F:∀(w:Hw) (mg:Ld) (fa:iF) (h:Gu),(K w.params).In h->h.Ns G3 mg->mg d.name=a_ (.ref fa) ->
   ∃fd:IG,(∀(s:k_) (u:h_),MW s fd ⟨[u],[]⟩ [("_law_script",u)])/\∀base:Gu,(K w.params).In base->base.Ns G3 mg->jk l.prog w (K w.params) mg base CX0 12 fa fd ["_law_script"] (spLaw (K w.params))):
  OS q B c J l.row.toRowW d [] (λf vs=>Kz f vs):=
 Lake.walk_of (n:=63) (k:=12) (x:="_law_script") (CX:=λ_=>CX0) (sp:=λw=>spLaw (K w.params)) S as I ⟨rfl,as,as⟩ Y F (λ_ _ a ns U _ b=>⟨a,ns,rfl,b,U,λ_=>rfl⟩) λ_ _ _ _ _ z=>z
end Tactic
end
open PySem PySem.W PyProof.Rows
structure PySem.W.Fast:Prop where (tw2321555212825862728
tw9128647246857690086
tw4530110307209955101
tw1738879243047382965
tw10317091564231195131
tw14389462166438803111
tw16760233481440625063
tw17925192616567309836
tw11173777610066013990
tw18348861928535431740
tw6300536599395570472
tw6250240232019695662
tw12276930097774525980
tw8474980607746754381
tw11024612230558392215
tw4869589612633503478
tw8408320748999877191
tw18303759373544128481
tw7840261886556850900
tw543470535435584561
tw12463770014723989129
tw898700321373695826
tw1723752763116349467
tw5547391117625558829
tw14425102516428829737
tw14636519887464671029
tw653274254521916669
tw4851824368886389764
tw10726042707032825306
tw4741004807202128332
tw1978230701787090113
tw4091620078196541983
tw9359056025189562854
tw6958244298252148298
tw18201119269951704035
tw13139913379199259830
tw18067429320530005541
tw16678172888958758301
tw17236469599414229800
tw2043156463280500232
tw13491657098451886570
tw1732354737459916537
tw10731180949285783991
tw3872735813759451478
tw7399216458007758743
tw4623016544460662173
tw15567262993599546430
tw6380822966590005935
tw15712922622524720329
tw9035497125020281818
tw9314725551547398205
tw7626484356741600142
tw9878590867512963568
tw10915357997878500069
tw6904289251591323284
tw15656619610843649117
tw9404239566173711902
tw11019260846599597281
tw14429993178135236490
tw11977956238087578512
tw6652526372107617607
tw8374921170118098953
tw9370546507889108025
tw5554845339696811574
tw6069992769757593812
tw6102631813965364332
tw14828240376389953065
tw366732099398715172
tw11755139440611059255
tw7544967406359242060
tw15657286344269180635
tw17236870503798929424
tw8507563859979525295
tw9559881165986252358
tw4255041971863655424
tw7695360903060059204
tw12324741570299928770
tw10702300142448433467
tw11824559310678763128
tw11736241028691478313
tw6910267937034496280
tw15532465204752363808
tw14149629587287091673
tw15548400313011483234
tw8546196552667953681
tw18156922575368547777
tw15995118428828221372
tw15792560408274815988
tw4482311490623201303
tw8156917967738084383
tw3082794976480575483
tw13972303727219196385
tw9352825050362205697
tw18357906463104598204
tw349182517333557198
tw15361257226703862921
tw4671921483508238784
tw14299713986756795418
tw16207723975895840288
tw18047688555977629149
tw9783802908833649742
tw7906058307825759867
tw9188590185067699219
tw13007171616948180540
tw6837219747118669201
tw6038654411464874523
tw13446182127634262518
tw843859214097189691
tw17878353587956116096
tw13882364301917979371
tw13507107922042311693
tw1442298966540835196
tw10515319208189799798
tw1163652691811508240
tw17881667200118911938
tw1945141216727909797
tw4995126499003888573
tw17344090598337435706
tw17979152930438838613
tw4657448442634418741
tw2930691479734792392
tw524735469322253340
tw18427403720658368910
tw91345606551468787
tw16349762160474089769
tw15189841527296460076
tw12958550454518220826
tw6937126870071903021
tw17448310140603329237
tw2427111338321285074
tw4247358710330262143
tw4481971657386368426
tw18431208872228328753
tw12741877570503111984
tw8368441495186665936
tw4478064315599820165
tw12117246194565184888
tw5803996551008747893
tw1055742948167479836
tw9016696247384410664
tw8464183537370235039
tw5664151419585023342
tw15658397528734472247
tw8826337319497698417
tw14262235765768644772
tw11798543878058802067
tw16521957804642243289
tw8252580746266677628
tw11498778327757452764
tw17206296876324302028
tw2477840802178245762
tw14810024026972995725
tw1180275584195569217
tw17183820856277637640
tw15301308252108899842
tw2827817385753722289
tw11643224876390727887
tw15354649807247525754
tw16583697832644112846
tw2152918846806088305
tw15537453122253863644
tw2675265051584635562
tw10872101468151240149
tw14823922521409464219
tw10112161806541627515
tw1938639888428081318
tw10988628257406335122
tw14722642730233746817
tw4803947070635115162
tw684314755093640433
tw7833399983595628082
tw14990406280250564072
tw14795828319676938704
tw13441586149042251015
tw17010128285630577364
tw922129406999827191
tw7483423689578682080
tw12218917459273014598
tw6231103983710533097
tw16422735351395104866
tw3666495014515195317
tw1014807378739690941
tw4234992801689795139
tw1022260769595085254
tw712110618287589262
tw2047429149977986607
tw4867419126299641910
tw16566337090718495418
tw1795699239819626301
tw3590462218235155236
tw15559374292657462362
tw13878033760635830792
tw674368389127148271
tw7493346439947063334
tw6190693174402223160
tw15525855717738206417
tw12070331086009097002
tw5480408329745251624
tw7782248341098852540
tw8005880978538260670
tw5531068862589863953
tw12862310416720885760
tw3173352963489945128
tw14566858525867781005
tw13470446843626736729
tw10184638404123227224
tw17867923295021248485
tw4823232781145932248
tw7755490350386060677
tw5014158532983819391
tw14473995409742500266
tw3481284875720393431
tw6748921481309696877
tw14130487673160581890
tw3906558630849716947
tw8255459129596764375
tw9155913080662987197
tw16353609235587281728
tw6999409397693875497
tw1803115826252934519
tw15387940631568621160
tw2963960911681218231
tw12497562021317772880
tw10219723545879230049
tw12907454214202903855
tw11082115670603743960
tw1638879374788214420
tw6513558328911867553
tw5540625225424964741
tw16927963236735074234
tw7422973379043523386:True)
set_option maxRecDepth 100000 in
set_option maxHeartbeats 0 in
theorem PySem.Challenge.cw_wakeorder_k57_great_papers_holds : PySem.Challenge.rw_wakeorder_k57_great_papers.Holds := by
 w_on;o_law;k_head;(case hw=>w_witness2)
 k_fill
 refine Tactic.walk (l:=PySem.Challenge.rw_wakeorder_k57_great_papers) rfl rfl (fun w h Y=>PySem.W.kIn_of Y) ?F
 case F=>
  intro w mg fa h KX G hmg;refine' Tactic.fin_mk KX G hmg ?z
  case z=>
   constructor
   all_goals first|exact Lake.dF KX G|exact PySem.W.mg_none_of KX G (by k_is)|exact ⟨_,mg_of KX G (by k_is)⟩|exact mg_of KX G (by k_is)|exact Lake.mF|exact Lake.kF KX G|exact Lake.tF KX G|exact Lake.iF|exact Lake.xF KX G|exact Lake.xM KX G Lake.mF|exact Lake.lF KX G|exact Lake.rS Lake.mF|k_is|kernel_rfl|exact ⟨mg_of KX G (by k_is),by k_is,by k_is⟩|exact ⟨by k_is,Lake.iF⟩|exact ⟨⟨_,_,_,rfl,by first|k_is|kernel_rfl,by first|k_is|kernel_rfl,by first|k_is|kernel_rfl⟩⟩|exact ⟨⟨_,_,_,_,rfl,by first|k_is|kernel_rfl,by first|k_is|kernel_rfl,by first|k_is|kernel_rfl,by first|k_is|kernel_rfl⟩⟩|decide +kernel|(constructor<;>first|k_is|kernel_rfl|rfl|decide +kernel)|(simp only [List.mem_cons,List.not_mem_nil,or_false,forall_eq_or_imp,forall_eq];repeat' constructor)<;>first|k_is|kernel_rfl
