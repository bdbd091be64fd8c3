import PyProof.Rows.All
import Wide.All
import OpenK.AllK
import PySem.Challenge.RW_wakeorder_k56_whole_papers_and_plans
open Option renaming some->a_,none->f_,map_some->Jb,isSome_iff_exists->Jw,getD_some->Mp,map_eq_some_iff->Nu,isSome_map->OD,getD_none->O0
open PySem renaming wpAny_bind->b_,wpAny_pure->g_,Value->h_,Addr->i_,starEach->j_,Shared->l_,sizeLine->q_,wpAny->w_,model->B_,boot_len->FY,eval->Ga,Str->Gh,Heap->Gr,wpAny_call_entry->Gx,compareOp->Gy,wpAny_newObj_type->GD,Program->GH,wpAny_mono->GS,Stmt->G1,wpAny_callSpecial?_slot->G2,cLine->G3,wpAny_truthy_bool->G4,mainGlobals->G6,wpAny_holding->G9,assignEach->Ha,Expr->Hb,wpAny_seqItems->Hg,mem_of_lookup->Hj,backTo->Hl,DictEntry->Hn,foldedSetIterable->Ht,World->Hz,swapsWith->HB,cellsFrom->HC,Around->HQ,sysModules->HW,wpAny_field->H_,wpAny_rule->Ih,codeAny_builtin->Ii,binaryOp->Io,bootBuiltins->Iu,FuncData->IG,holding->IL,attributeBase->IW,rawInt->Jc,wpAny_typeNameOfWhole_valiter->Ji,wpAny_typeNameOfWhole_keyiter->Jj,wpAny_passesOwn->Jm,NameKind->Jn,plainId_quiet->Jo,wpAny_dictEntries->Jt,keywordEach->Jz,wpAny_isInstance->JA,codeAny_mono->JB,pyNext->JC,assign->JD,wpAny_attempt->JF,ZipApart->JG,wpAny_dictEpoch->JI,codeAny->JJ,wpAny_tupleItemsOf->JO,wpAny_pyIter_tuple->JP,wpAny_Call_Name_kw->JQ,sizeLine_eq->JW,wpAny_tryCatch->JZ,wpAny_setField->J1,wpAny_pyIter_enum->J2,Paired->J3,call->Ka,eqBool->Kg,swapsWithSole->Kk,swappedStores->Kl,behindInMarks->Km,argBest->Kn,wpAny_letGo->Ks,reduceHash->KQ,backToKw->KR,wpAny_pyIter_list->K9,standAt->K_,numAt->La,Keyword->Lb,wpAny_standAt->Lf,wpAny_onRaise->Lg,IsPair->Lh,Sem->Ln,wpAny_pyIter_zip->Lu,wpAny_forIn_list->Lv,intItems->Lw,wpAny_execs_nil->LR,letOwnedTupleGo->LS,wpAny_notOrdered_dict->LV,wpAny_isOneOf_valiter->LW,isSubtype_tuple_tuple->LX,Obj->L7,wpAny_fieldsOf->L9,sliceBounds->L_,pyHash->Ma,intItems_at->Mb,storedH->Mj,getMethod->Ml,BindsTo->Mn,nums_intItems->MC,wpAny_load->MG,tupleKind_room_in1->MH,Pos->MJ,wpAny_typeOf->MS,setField->MT,numAt_eq->MU,concat_meets->MV,callerA->MW,bindArgs->MX,Scope->MY,HeapKind->MZ,seqItems?->Ng,noFill_tuple_add->Nh,Result->Nj,IsPart->Nk,wpAny_of_eq->Nq,wpAny_updateSeq->Ny,wpAny_specialOf->Nz,pushCells_keeps->NA,Within->NB,wpAny_richCompare_same_room->NK,wpAny_letOwnedTupleGo_enum->NS,newFunctionEnv->NT,isSubtype_stop->NU,firstArgMember->NV,wpAny_letOwnedTupleGo_zip->Oc,Env->Oe,wpAny_newList->Oj,wpAny_handled->Ol,wpAny_comprehension_free->Om,seq_tuple_add->Oo,rangeSize_one->Oq,lastMarks->OG,eqIsQuiet->OH,bindL->OI,bindC->OJ,atKey->OM,PassesOwn->OT,Fin->OU,wpAny_pyNext_list_item->O5,wpAny_Assign_Subscript->O6,setItem->O7,seqIndex_neg->O8,pyIter->O9,isTrue->O_,intKind->Pa,getItem->Pb,wpAny_pyNext_list_end->Pk,wpAny_isOneOf_keyiter->Pm,wpAny_throw->Py,wpAny_pyIter_keyiter->Pz,seqIndex_of->PB,richCompare->PC,callWith->PD,Model->PH,call_enumerate_list->P0,wpAny_setItem_heap->Qb,wpAny_setField_rec->Qc,wpAny_dictSet_heap->Qd,wpAny_call->Qe,wpAny_Name->Qf,newExc->Qg,isInstance->Qh,intKind_is->Qi,getattributeRaised->Qj,call_meets->Qk,builtinsNs->Ql,wpAny_pyIter_slot->Qq,wpAny_assign_Name->Qr,unaryOp->Qs,slot_list_getitem->Qt,release->Qu,newList->Qv,collect->Qw,call_sum_walkAnyS->Qx,wpAny_execs_cons->QC,wpAny_Dict_empty->QD,updateSeq->QE,small_one->QF
open Bool renaming false->c_,true->d_,and_eq_true->t_,false_eq_true->Gk,false_ne_true->GJ,not_true->J7,eq_iff_iff->Ll,or_eq_true->MR,false_and->Nd,and_false->Nf,true_and->Nw,not_false->Qa
open PySem.Heap renaming get?_push_of_some->e_,get?_push_size->o_,lt_size->s_,get?_update_other->GN,ExtBut->Hm,size_push->Hq,get?_update_self->Iv,SameBut->Ju,get?_none_of_le->LC,IsTuple->NO
open Nat renaming le_refl->k_,le_trans->Cb,lt_of_lt_of_le->C_,ne_of_lt->FR,zero_le->Gi,lt_of_le_of_ne->Gw,pow_le_pow_right->GO,le_of_lt->GP,zero_add->GY,lt_of_succ_lt->Ho,succ_le_succ->HR,ne_of_gt->HU,add_le_add_left->Ie,le_add_right->Ip,mul_le_mul->Iy,pos_of_ne_zero->Je,lt_of_le_of_lt->Jf,lt_irrefl->Jk,sub_self->JS,le_of_eq->JT,eq_zero_of_not_pos->JU,sub_le->J6,add_assoc->J8,mul_le_mul_right->Kc,min_eq_left->Kh,le_antisymm->Ki,pow_le_pow_left->Kp,mul_le_mul_left->Kq,add_lt_add_left->Kr,sub_pos_of_lt->KJ,le_of_lt_succ->KL,lt_succ_self->K8,not_lt_zero->Lq,le_of_sub_eq_zero->LB,le_succ->LP,add_le_add_right->LQ,pred_lt_of_lt->My,pow_succ->Mz,le_of_succ_le->MA,succ_ne_self->MK,not_lt_of_le->ML,mul_add->MM,add_sub_cancel_left->NQ,sub_zero->N6,lt_trans->N7,one_pos->OE,lt_or_gt_of_ne->Pe,add_right_comm->Pf,lt_trichotomy->Pt,lt_succ_of_lt->Pu,not_le_of_lt->PN,min_eq_right->PQ,max_eq_right->PR,lt_of_not_le->PU,le_of_not_lt->PV,le_max_right->PX,min_le_left->P6,mul_assoc->QA,succ_mul->QJ,mul_succ->QK,mul_comm->QL
open List renaming getD_eq_getElem?_getD->m_,length_map->n_,getElem?_eq_some_iff->oe,mem_cons->p_,map_cons->r_,getElem?_set_ne->v_,getElem?_eq_getElem->y_,getElem?_set_self->z_,map_map->D_,length_cons->E_,length_append->FK,mem_append->FL,range->FN,mem_map->FP,getElem?_map->FQ,foldl_cons->FU,set_cons_zero->FV,mem_append_right->FW,append_assoc->FX,set_cons_succ->Gb,length_set->Gd,mem_singleton->Gj,pairwise_append->Gm,mem_of_getElem?->Gn,drop_eq_getElem_cons->Gq,mem_range->Gs,not_mem_nil->Gv,replicate->Gz,getElem_mem->GA,getElem?_append_left->GC,mem_filter->GI,length_take->GL,pairwise_cons->GR,take_append_drop->GV,lookup->GW,take_of_length_le->G5,size_toArray->G8,getElem?_cons_succ->Hc,mem_append_left->He,append_nil->Hf,map_congr_left->Hk,mem_cons_self->Hu,mem_cons_of_mem->Hw,lookup_cons->Hx,length_drop->Hy,nodup_append->HG,pairwise_iff_getElem->HJ,take_sublist->HX,length_range->HY,length_eq_zero_iff->HZ,find?_cons->H9,range_succ_eq_map->Ig,getElem_map->Ik,drop_length->Il,all_eq_true->Im,mem_filterMap->Iq,getElem?_append_right->Ir,mem_iff_getElem?->Iz,nodup_cons->IH,nil_append->II,map_append->IJ,mem_of_mem_take->IM,map_nil->IP,take_length->IT,mem_reverse->IU,flatMap_cons->Jl,drop_zero->Jq,mem_or_eq_of_mem_set->Jv,getElem_of_mem->Jx,filterMap_cons->Jy,length->JE,getElem_take->JM,drop_drop->JN,mem_of_mem_drop->J9,mem_eraseIdx_iff_getElem->J_,length_nil->Kf,getElem?_range->Kj,range'->KD,pairwise_map->KG,foldl_append->KH,ext_getElem?->KI,map_drop->KN,eq_of_mem_replicate->KO,getElem?_cons_zero->K2,ext_getElem->K3,drop_of_length_le->Le,forIn_cons->Lk,length_singleton->Lr,take_succ->LG,range_eq_range'->LH,forIn_nil->LI,zip_cons_cons->L8,reverse_perm->Mr,map_set->Ms,getElem_drop->Mt,drop_sublist->Mu,eraseIdx_eq_take_drop_succ->MB,range'_succ->MD,mem_flatMap->ME,any_eq_true->MF,range_succ->MN,of_mem_zip->MO,setIfInBounds_toArray->M_,nodup_nil->Na,drop_left->Nb,length_erase_of_mem->Nv,getElem?_replicate->NH,filter_cons_of_pos->NI,filter_cons_of_neg->NJ,set_append_right->N8,length_replicate->N9,getElem?_eq_none->N_,mem_erase_of_ne->Of,map_id->Og,length_eraseIdx->Oh,map_replicate->O1,mapM_toArray->Pg,countP_cons->Pw,cons_append->Px,map_const'->PZ,map->P7,foldl_map->P8,drop_take->P9,sum_cons->Qo,zipIdx->QM
open Decidable renaming decide->A_
open PyProof.Rows renaming wpS_pure->FH,pendingOf->FT,SortSt->F_,callWith_type1->GB,Keyed->GQ,boot_list->G_,wpS_bind->HE,seqObj->Iw,boot_tuple->IE,slot_tuple_getitem->IZ,wpS_modify->JR,kindOf->J5,wpS->Ke,IntsAre->KC,failedOf->KW,wpS_get->Lc,envOfC->Lj,subscriptTail_builtinR->LN,AllBare->LO,wpS_lift->Md,boot_max->Me,arrOf->Mf,boot_sorted->Nt,boot_range->N2,boot_all->N3,SortKind->N4,IsTup->N5,listUpdate_at->OC,lt_int->OY,Call_->OZ,wpS_mono->PJ,seqEpoch_at->PK,mergeAt'->PL,elem'->PM,setPending->Qn
open PySem.Value renaming ref->FJ,none->Gu,type->HD,int->KS,bool->LZ,builtin->P4
open PySem.NameKind renaming free->Ge,cell->Ia
open PySem.Builtin.Tuple renaming tupleHashOf->Gf,tupleExact->Kb,tupleItemsOf->L3
open Int renaming le_refl->Gg,emod_lt_of_pos->GK,emod_nonneg->GZ,le_trans->Hi,le_of_lt->Ij,toNat_natCast->IQ,neg_le_neg->JV,not_lt->Mh,mul_le_mul_of_nonneg_left->MP,mul_nonneg->Np,cast_ofNat_Int->Ph,le_antisymm->P_
open Array renaming length_toList->GF,getElem?_eq_none->Ja,toList_inj->KZ,getElem?_toList->Lm,toList->Mi,perm_iff_toList_perm->M4,forIn_toList->OF,toList_zip->Pj
open False renaming elim->GG
open Pure renaming pure->GU
open Except renaming ok->GX,error->I9,bind->Qp
open Option.some renaming inj->G7,injEq->Hv
open PySem.Around renaming under_plainId->Hd
open PySem.F renaming slot_dict_valueiterator_next->Hh,slot_dict_keyiterator_next->Hr,slot_tuple_iterator_next->IC,plain_min_loop->I_,slot_zip_next->JK,slot_tuple_lt->Kt,args_tuple_add_2->Ky,entry_tuple_add->KA,slot_tuple_add->KU,slot_tuple_hash->K0,plain_list_iadd->K1,slot_list_getattribute->K6,args_dict_valueiterator_next_1->Li,entry_dict_valueiterator_next->Lo,args_dict_keyiterator_next_1->Lz,entry_dict_keyiterator_next->LD,args_tuple_iterator_next_1->LM,entry_tuple_iterator_next->LU,slot_dict_values_iter->Mm,slot_dict_values->M0,entry_min_loop->M1,plainAttrs_list->M6,plainAttrs_dict->M7,args_zip_next_1->M8,slot_tuple_eq->Nl,slot_dict_iter->Nm,entry_zip_next->Nn,slot_dict_get->Nr,args_object_init_2->NF,slot_list_extend->NZ,slot_list_append->N0,args_tuple_lt_2->Od,entry_tuple_lt->OB,plain_proto_collect->OV,entry_proto_collect->OW,entry_list_iadd->P5
open PySem.W renaming emptyDict->HA,instObj->IA,cellsFrom_some->IX,kitOne->Js,keepIn->Kw,findIn->Kx,methodCall_KW->K4,plainGet_of->Lx,methodObj->LY,OpenLaw->Mc,fnOf->Ni,kas_ask->NL,plainGet->NW,codeIn->NX,callWith_K->NY,handedIn->Ou,WalkO->Ov,takesIn->ON,specialIn->OO,readsIn->OQ,hasDictIn->OR,findCls->OS,kia_one->Pc,mroIn->Po,makesIn->Qy,plainOver->QG
open LawfulBEq renaming eq_of_beq->HF
open PySem.Builtin.Dict_items renaming ownsTuple->HI,newIterator->Pq,dictOf->Pr
open Prod renaming fst->HK,ext->Mo
open List.Pairwise renaming nil->HL,sublist->Kz,imp_of_mem->Mg,imp->QN,cons->QO
open Ne renaming symm->HM
open List.Perm renaming refl->HN,append_left->Nc
open PySem.Obj renaming mapSeq->HP,data_mapFields->Jd,isFreed_of_fields->Ly,mapFields->L6,cls_mapFields->Mw
open PySem.Str renaming ofString->HS
open PySem.Builtin.Dict renaming showsAll->Ib,updateFrom->Mx
open PySem.Heap.SameBut renaming update->IB
open Except.ok renaming inj->ID
open PySem.Builtin.SmallTypes renaming nextOf->IY,ownedTupleIsFree->Pp
open PySem.Builtin.Slice renaming slicePlaces->Jg,sliceAdjust->J4,sliceApplied->L4,slicePartIndex->QH,sliceFields->QI
open PySem.Builtin.Range renaming rangeSize->Jp,small->KV
open List.cons renaming injEq->JX,inj->O3
open True renaming intro->JY
open PySem.Builtin.List renaming listTooLong->Kd
open PyProof.Rows.SortSt renaming mk'->Ko
open PySem.AutoSeq1 renaming wpAny_loadPart'->Ku
open ForInStep renaming yield->KP
open PySem.SeqAt renaming EqAt->K5,ne_of_list_tuple->NC,RcNeAt->ND,RcAt->Oz
open PySem.Calls renaming callWith_builtin->K7,spliced_cons->L1,Name_function_global->M3,call_function_entry->M9,evalArgs_plain->N1,spliced_nil->OX
open PySem.Builtin.Builtins renaming bindParams->LA
open Prod.mk renaming injEq->LF
open PySem.Shared renaming TypeIs->LJ,heap->NM
open Function renaming comp->MQ
open PySem.Paired renaming length->M5
open Min renaming min->NG
open PySem.Walks renaming list->Ot
open PySem.W.Looks renaming here->Ox,of_pure->P1
open ForIn renaming forIn->O4
open PyProof.Rows.IsTup renaming new->Pd
open PySem.W.KatTups renaming cons->PF,nil->P2
open MonadExcept renaming tryCatch->PY
open PySem.Challenge renaming pw_wakeorder_k56_whole_papers_and_plans->Qm
open PySem.Heap.IsSliceOf renaming new->Qz
open Max renaming max->QB
abbrev u_:=@if_pos
abbrev x_:=@if_neg
abbrev FO:=@decide_eq_true_eq
abbrev FZ:=@absurd
abbrev HV:=@if_false
abbrev IF:=@decide_eq_false
abbrev IS:=@StateT
abbrev IV:=@congrArg
abbrev Jh:=@DecidableEq
abbrev Jr:=@decide_eq_true
abbrev Kv:=@if_true
abbrev KY:=@ForInStep
abbrev L5:=@of_decide_eq_true
abbrev Mv:=@or_false
abbrev Nx:=@beq_eq_false_iff_ne
abbrev NR:=@of_decide_eq_false
abbrev Oi:=@decide_false
set_option Elab.async false
set_option linter.all false
set_option maxRecDepth 100000
set_option maxHeartbeats 4000000
open PySem.W (lookIn plainGet hasDictIn findIn isFn plainOver takerIn makesIn keepIn callWith_K fnOf codeIn nsIn mg_of specialIn kitOne kia_one)
abbrev Pn:=PySem.W.Frag
abbrev Vp:=List (i_×L7)
abbrev Mq:=h_->l_->Prop
abbrev Ld:=Gh->Option h_
set_option compiler.extract_closed false
noncomputable section
theorem Jq0(_:True:=by rfl):True:=trivial
local macro_rules|`(~~~$t)=>`(autoParam $t Jq0._auto_1)
theorem Jq1(_:True:=by decide):True:=trivial
local macro_rules|`($t⁻¹)=>`(autoParam $t Jq1._auto_1)
theorem Jq2_(_:True:=by k_is):True:=trivial
def Jq2:Lean.Syntax:=Jq2_._auto_1
theorem Jq3_(_:True:=by intro _;rfl):True:=trivial
def Jq3:Lean.Syntax:=Jq3_._auto_1
theorem Jq4_(_:True:=by first|exact .inl rfl|exact .inr rfl|assumption):True:=trivial
def Jq4:Lean.Syntax:=Jq4_._auto_1
theorem Jq5_(_:True:=by first|exact Or.inl rfl|exact Or.inr (Or.inl rfl)|exact Or.inr (Or.inr rfl)):True:=trivial
def Jq5:Lean.Syntax:=Jq5_._auto_1
theorem Jq6_(_:True:=by first|exact Or.inl rfl|exact Or.inr rfl):True:=trivial
def Jq6:Lean.Syntax:=Jq6_._auto_1
theorem Jq7_(_:True:=by with_unfolding_all rfl):True:=trivial
def Jq7:Lean.Syntax:=Jq7_._auto_1
theorem Jq8_(_:True:=by exact λ_ _=>rfl):True:=trivial
def Jq8:Lean.Syntax:=Jq8_._auto_1
theorem Jq9_(_:True:=by first|k_is|kernel_rfl):True:=trivial
def Jq9:Lean.Syntax:=Jq9_._auto_1
theorem Jq10_(_:True:=by first|exact DH _|with_unfolding_all rfl):True:=trivial
def Jq10:Lean.Syntax:=Jq10_._auto_1
theorem Jq11_(_:True:=by exact PassesOwn.never):True:=trivial
def Jq11:Lean.Syntax:=Jq11_._auto_1
theorem Jq12_(_:True:=by exact⟨rfl,rfl,rfl,by decide +kernel,rfl,by decide +kernel,by decide +kernel⟩):True:=trivial
def Jq12:Lean.Syntax:=Jq12_._auto_1
theorem Jq13_(_:True:=by intro _ _ _ _ _ _ us hl;repeat' (first|(simp at hl;done)|rfl|(cases us<;>try rename_i us))):True:=trivial
def Jq13:Lean.Syntax:=Jq13_._auto_1
theorem dkK{p:Prop}(h:p:=by decide +kernel):p:=h
theorem ac{p:Prop}(h:p:=by lia):p:=h
theorem ad{p:Prop}(h:p:=by simp):p:=h
theorem am{p:Prop}(h:p:=by decide):p:=h
theorem be{p:Prop}(h:p:=by grind):p:=h
theorem bi{p:Prop}(h:p:=by simp_all):p:=h
abbrev PySem.Shared.z(s:PySem.Shared):=s.heap.objs.size
set_option bootstrap.genMatcherCode false
set_option genSizeOf false
set_option genInjectivity false
namespace Lake
open PySem PySem.Spec PyProof.Rows
abbrev bv:=List h_
abbrev bo:=List Nat
abbrev bm:=List Int
variable{a b dx C:i_}{h h':Gr}{x name m qual:Gh}{e c tg:Hb}{B2:Vp}{g':Array GenState}{ch fp:List i_}{N ps:List Gh}{i j k:Nat}{A:HQ}{E:Mq}{u:h_}{Q:Unit->l_->Prop}{s':l_}{pos pos' p:MJ}{K:Pn}{es:List Hb}{g:Int->Int->Int}{body:List G1}{P:GH}{w:Hz}{op op':CmpOp}{us:List h_}{mA mg:Ld}{pl:Ln Bool}{kw:List (Gh×h_)}{outer:List Oe}{fd:IG}{scope:MY}
set_option genInjectivity true in
set_option bootstrap.genMatcherCode true in
inductive V where
 |non|bl (b:Bool)|int (i:Int)|ref (a:i_)|ty (n:String)
 deriving DecidableEq
abbrev bp:=List V
variable{v y:V}{xs vs:List V}
def C':V->h_->Prop
 |.non,u=>u=Gu|.bl b,u=>u=LZ b|.int i,u=>∃t,u=KS i t
 |.ref a,u=>u=FJ a|.ty n,u=>u=HD n
abbrev D':bp->bv->Prop:=J3 C'
theorem D'.length{xs:bp}{us:bv}(r:D' xs us):xs.length=us.length:=M5 r
inductive AtI{α:Type}(S P:α->Prop):Prop
 |mk (u:α) (e:S u) (r:P u)
theorem D'.get:∀{xs:bp} {us:bv} {i:Nat} {x:V},D' xs us->xs[i]?=a_ x->AtI (λu=>us[i]?=a_ u) (C' x)
 |_,_,_,_,.nil,e=>by simp at e|_,_,0,_,.cons r _,e=>by simp at e;subst e;exact⟨_,rfl,r⟩|_,_,i+1,x,.cons _ t,e=>by obtain⟨u,h1,B⟩:=D'.get (i:=i) (x:=x) t (by simpa using e);exact⟨u,bi,B⟩
theorem D'.set{x:V}{u:h_}(r:C' x u):∀{xs:bp} {us:bv} (i:Nat),D' xs us->D' (xs.set i x) (us.set i u)
 |_,_,_,.nil=>.nil|_,_,0,.cons _ t=>.cons r t|_,_,i+1,.cons q t=>.cons q (D'.set r i t)
theorem D'.append:∀{xs ys:bp} {us B:bv},D' xs us->D' ys B->D' (xs++ys) (us++B)
 |_,_,_,_,.nil,s=>s|_,_,_,_,.cons r t,s=>.cons r (D'.append t s)
theorem D'.take:∀{xs:bp} {us:bv} (n:Nat),D' xs us->D' (xs.take n) (us.take n)
 |_,_,0,_=>.nil|_,_,_+1,.nil=>.nil|_,_,n+1,.cons r t=>.cons r (D'.take n t)
theorem D'.drop:∀{xs:bp} {us:bv} (n:Nat),D' xs us->D' (xs.drop n) (us.drop n)
 |_,_,0,r=>r|_,_,_+1,.nil=>.nil|_,_,n+1,.cons _ t=>D'.drop n t
def AZ:Option V->Option h_->Prop
 |some v,a_ u=>C' v u|none,f_=>True|_,_=>False
set_option genInjectivity true in
inductive HO where
  |lst (xs:List V)
  |tup (xs:List V)
  |ins (C dx:i_) (fs:List (Gh×V))
  |own (x:i_)
  |met (f x:i_)
  |rng (lo hi:Int)
  |frz (o:L7) (u:HO)
  |tbl (ps:Array h_)
  |ext (φ:Gr->Prop)
noncomputable abbrev Hp:=i_->Option HO
variable{H H':Hp}
def upd(H:Hp)(a:i_)(o:HO):Hp:=λb=>if b=a then a_ o else H b
def av{o:HO}:upd H a o a=a_ o:=by simp[upd,u_]
theorem aA{o:HO}(h:b≠a):upd H a o b=H b:=by simp_all[upd,x_]
theorem aM{o:HO}(h:H a=a_ o)(h':H b=f_):a≠b:=ac
section
variable(P:GH)(w:Hz)
def gZ(H:Hp)(h:Gr)(a:i_):HO->Prop
 |.lst xs=>xs.length<=q_/\∃(its:bv) (n:Nat),D' xs its/\h.get? a=a_ {cls:=.type "list",data:=.seq its.toArray n}
 |.tup xs=>xs.length<=q_/\∃its:bv,D' xs its/\N5 h a its.toArray
 |.ins C dx fs=>H dx=a_ (.own a)/\fs.length<=1000/\dx≠a/\h.get? a=a_ (IA C dx) /\
   ∃mA,h.Ns1 dx mA/\(∀f,AZ (fs.lookup f) (mA f))/\NB mA (fs.map (·.1))
 |.own _=>∃o,h.get? a=a_ o
 |.rng lo hi=>∃t u v,h.get? a=a_ {cls:=.type "range",data:=.fields #[.int lo t,.int hi u,.int 1 v]}
 |.frz o u=>h.get? a=a_ o/\gZ H h a u|.tbl ps=>h.get? a=a_ {cls:=.none,data:=.fields ps}|.met f x=>h.get? a=a_ (LY (.ref f) (.ref x))|.ext B=>B h/\(∃o,h.get? a=a_ o)/\∀h1 J:Gr,B h1->(∀o,h1.get? a=a_ o->J.get? a=a_ o)->B J
def HOk(H:Hp)(h:Gr):Prop:=∀a o,H a=a_ o->gZ H h a o
end
section
variable{o:HO}
theorem gZ.lt(x:gZ H h a o):a<h.objs.size:=by
 cases o with
 |lst xs=>obtain⟨_,_,_,_,e⟩:=x;exact s_ e
 |tup xs=>obtain⟨_,_,_,p⟩:=x;exact p.lt
 |ins C dx fs=>obtain⟨_,_,_,e,_⟩:=x;exact s_ e
 |own y=>obtain⟨_,e⟩:=x;exact s_ e
 |rng lo hi=>obtain⟨_,_,_,e⟩:=x;exact s_ e
 |frz J u=>obtain⟨e,_⟩:=x;exact s_ e
 |tbl ps=>exact s_ (show h.get? a=a_ _ from x)|met f y=>exact s_ (show h.get? a=a_ _ from x)|ext B=>obtain⟨_,⟨_,e⟩,_⟩:=x;exact s_ e
theorem Paired.mapP{α β:Type}{F G:α->β->Prop}:∀{l₁:List α} {B:List β},J3 F l₁ B->(∀a b,F a b->G a b)->J3 G l₁ B
 |_,_,.nil,_=>.nil|_,_,.cons r t,f=>.cons (f _ _ r) (Paired.mapP t f)
def gZ.stay(x:gZ H h a o)(k:∀b u,(b=a\/H b=a_ (.own a))->h.get? b=a_ u->h'.get? b=a_ u)(U:∀b,H b=a_ (.own a)->H' b=a_ (.own a))(g:∀b xs,H b=a_ (.tup xs)->H' b=a_ (.tup xs)):gZ H' h' a o:=by
 induction o with
 |lst xs=>obtain⟨z,its,n,r,e⟩:=x;exact⟨z,its,n,r,k _ _ (.inl rfl) e⟩
 |tup xs=>obtain⟨z,its,r,B,e,c⟩:=x;exact⟨z,its,r,B,k _ _ (.inl rfl) e,c⟩
 |ins C dx fs=>obtain⟨d,z,J,e,mA,⟨od,es,ep,e2,c⟩,r⟩:=x;exact⟨U _ d,z,J,k _ _ (.inl rfl) e,mA,⟨od,es,ep,k _ _ (.inr d) e2,c⟩,r⟩
 |own y=>obtain⟨B,e⟩:=x;exact⟨B,k _ _ (.inl rfl) e⟩
 |rng lo hi=>obtain⟨t,u,v,e⟩:=x;exact⟨t,u,v,k _ _ (.inl rfl) e⟩
 |frz B u L=>obtain⟨e,q⟩:=x;exact⟨k _ _ (.inl rfl) e,L q⟩
 |tbl ps=>have e:h.get? a=a_ {cls:=.none,data:=.fields ps}:=x;show h'.get? a=a_ {cls:=.none,data:=.fields ps};exact k a _ (.inl rfl) e|met f y=>have e:h.get? a=a_ (LY (.ref f) (.ref y)):=x;show h'.get? a=a_ (LY (.ref f) (.ref y));exact k a _ (.inl rfl) e|ext Y=>obtain⟨p,⟨o,e⟩,st⟩:=x;exact⟨st _ _ p λo q=>k _ _ (.inl rfl) q,⟨o,k _ _ (.inl rfl) e⟩,st⟩
theorem HOk.lt(x:HOk H h)(e:H a=a_ o):a<h.objs.size:=(x a o e).lt
def HOk.fresh(x:HOk H h)(e:h.objs.size<=a):H a=f_:=by
 cases q:H a with
 |none=>rfl|some u=>exact FZ (C_ (x.lt q) e) (Jk _)
def HOk.kept(x:HOk H h)(k:∀b u,h.get? b=a_ u->h'.get? b=a_ u):HOk H h':=λa o e=>(x a o e).stay (λb u _ q=>k b u q) (λ_ q=>q) λ_ _ q=>q
theorem HOk.laid(x:HOk H h)(k:∀b u,h.get? b=a_ u->h'.get? b=a_ u)(L:h.objs.size<=a)(J:gZ (upd H a o) h' a o):HOk (upd H a o) h':=λb u e=>by
 have B:=x.fresh L;by_cases U:b=a
 .simp_all[av]
 .rw[aA U]at e;exact(x b u e).stay (λc v _ q=>k c v q) (λc q=>by rw[aA (aM q B)];exact q) λc xs q=>by rw[aA (aM q B)];exact q
end
def Rd(H:Hp)(a:i_)(u:HO):Prop:=H a=a_ u\/∃o,H a=a_ (.frz o u)
def Rd.ok{u:HO}(r:Rd H a u)(x:HOk H h):gZ H h a u:=by
 rcases r with r|⟨o,r⟩
 .exact x a u r
 .obtain⟨_,q⟩:=x a _ r;exact q
def Mut:Option HO->Prop
 |some (.lst _)=>True|some (.ins _ _ _)=>True|some (.ext _)=>True|_=>False
section
variable{x e:i_}{o':HO}
theorem HOk.write(ok:HOk H h)(L:Mut (H x))(f:e=x\/H e=a_ (.own x))(k:∀b u,b≠e->h.get? b=a_ u->h'.get? b=a_ u)(U:∃u,h'.get? e=a_ u)(d:gZ (upd H x o') h' x o'):HOk (upd H x o') h':=λb u q=>by
 have J:∀c y,H c=a_ (.own y)->c≠x:=λc y r z=>by subst z;rw[r]at L;exact L
 have B:∀c xs,H c=a_ (.tup xs)->c≠x:=λc xs r z=>by subst z;rw[r]at L;exact L
 by_cases g:b=x
 .simp_all[av]
 .rw[aA g]at q;by_cases Y:b=e
  .have a:H b=a_ (.own x):=by
    rcases f with z|z
    .simp_all
    .rw[Y];exact z
   rw[q]at a;cases a;obtain⟨v,i⟩:=U;exact⟨v,bi⟩
  .refine(ok b u q).stay (λc v j r=>k c v ?_ r) (λc r=>by rw[aA (J c b r)];exact r) λc xs r=>by rw[aA (B c xs r)];exact r
   grind
end
structure Un(fs ex:List i_)(H H':Hp)(h h':Gr):Prop where
 keep:∀b o,h.get? b=a_ o->H b=f_->b∉fs->b∉ex->h'.get? b=a_ o
 slot:∀b o,h.get? b=a_ o->H b=f_->b∈fs->b∉ex->∃sl,h'.get? b=a_ {o with slots:=sl}
 free:∀b o,h.get? b=a_ o->H b=f_->b∉ex->H' b=f_
 there:∀b o,h.get? b=a_ o->b∉ex->∃o',h'.get? b=a_ o'
 tups:∀b xs,H b=a_ (.tup xs)->H' b=a_ (.tup xs)
 frzs:∀b o u,H b=a_ (.frz o u)->H' b=a_ (.frz o u)
 tbls:∀b ps,H b=a_ (.tbl ps)->∃more,H' b=a_ (.tbl (ps++more))
section
variable{fs ex:List i_}{H1:Hp}{h1:Gr}{x e:i_}{o:HO}
def Un.any(u:Un fs ex H H1 h h1){B:L7}(q:h.get? b=a_ B)(n:H b=f_)(J:b∉ex):∃sl,h1.get? b=a_ {B with slots:=sl}:=by
 by_cases L:b∈fs
 .exact u.slot b B q n L J
 .exact⟨B.slots,u.keep b B q n L J⟩
theorem Un.kept(k:∀b u,h.get? b=a_ u->h'.get? b=a_ u):Un fs ex H H h h':=
 ⟨λb B q _ _ _=>k b B q,λb B q _ _ _=>⟨B.slots,k b B q⟩,λ_ _ _ n _=>n,λb B q _=>⟨B,k b B q⟩,λ_ _ q=>q,λ_ _ _ q=>q,λ_ ps q=>⟨#[],bi⟩⟩
def Un.refl:Un fs ex H H h h:=Un.kept λ_ _ q=>q
def Un.laid(k:∀b u,h.get? b=a_ u->h'.get? b=a_ u)(J:h.objs.size<=a)(B:H a=f_):Un fs ex H (upd H a o) h h' where
 keep:=λb u q _ _ _=>k b u q
 slot:=λb u q _ _ _=>⟨u.slots,k b u q⟩
 free:=λb u q n _=>by rw[aA (FR (C_ (s_ q) J))];exact n
 there:=λb u q _=>⟨u,k b u q⟩
 tups:=λb xs q=>by rw[aA (aM q B)];exact q
 frzs:=λb u xs q=>by rw[aA (aM q B)];exact q
 tbls:=λb ps q=>⟨#[],by rw[aA (aM q B),q];simp⟩
theorem Un.write(J:Mut (H x))(c:e=x\/H e=a_ (.own x))(k:∀b u,b≠e->h.get? b=a_ u->h'.get? b=a_ u)(Y:∃u,h'.get? e=a_ u):Un fs ex H (upd H x o) h h':=by
 have U:∀b,H b=f_->b≠x:=λb n z=>by subst z;rw[n]at J;exact J
 have L:∀b,H b=f_->b≠e:=λb n z=>by simp_all
 have B:∀b u,H b=a_ u->¬Mut (a_ u)->b≠x:=λb u q a z=>by simp_all
 refine⟨λb u q n _ _=>k b u (L b n) q,λb u q n _ _=>⟨u.slots,k b u (L b n) q⟩,λb u q n _=>by rw[aA (U b n)];exact n,λb u q _=>?_,
  λb xs q=>by rw[aA (B b _ q λz=>z)];exact q,λb u xs q=>by rw[aA (B b _ q λz=>z)];exact q,λb ps q=>⟨#[],by rw[aA (B b _ q λz=>z),q];simp⟩⟩
 grind
end
noncomputable def trk(h:Gr)(H:Hp):List i_:=(FN h.objs.size).filter λa=>(H a).isSome
def hidT(h:Gr)(H:Hp):Gr:=PySem.W.hideAll h (trk h H)
def Em(h:Gr)(H:Hp):(hidT h H).objs.size=h.objs.size:=PySem.W.hideAll_size _ _
theorem hidT_get{o:L7}(e:h.get? b=a_ o)(n:H b=f_):(hidT h H).get? b=a_ o:=
 PySem.W.hideAll_get _ e λB=>by
  have q:(H b).isSome=d_:=(GI.mp B).2
  simp_all
theorem of_hidT{o:L7}(e:(hidT h H).get? b=a_ o):h.get? b=a_ o/\H b=f_:=by
 have B:h.get? b=a_ o:=PySem.W.of_hideAll (trk h H) e;refine⟨B,?_⟩
 cases q:H b with
 |none=>rfl|some x=>
  have J:b∈trk h H:=GI.mpr ⟨Gs.mpr (s_ B),by simp[q]⟩;have z:(hidT h H).get? b=f_:=PySem.W.hideAll_none (trk h H) J
  simp_all
def allNews(g h:Gr)(L:i_):Vp:=(FN h.objs.size).filterMap λa=>if a=L\/(g.get? a).isSome=d_ then f_ else(h.get? a).map λo=>(a,o)
def rest(g h:Gr)(L d:i_):Vp:=(allNews g h L).filter λp=>A_ (p.1≠d)
structure Mod(K:Pn)(mg:Ld)(base:Gr):Prop where
 kin:K.In base
 glob:base.Ns G6 mg
 blt:∃mb,base.Ns Ql mb/\∀x:Gh,x≠"__name__"->mb x=Iu x
 nolimit:base.NoLimit
structure Cx where
 prog:GH
 w:Hz
 K:Pn
 mg:Ld
 base:Gr
 A:HQ
 N:List Gh
 s₀:l_
 H₀:Hp
 env:Oe
 outer:List Oe
 stack:List Oe
 ex:List i_
 fn:Gh->Bool
 calm:Bool
 pn:Vp
 xe:Mq
variable{X:Cx}
noncomputable def frs(l:List Oe):List i_:=l.filterMap (·.frame)
abbrev Cx.fs(X:Cx):List i_:=frs X.outer
def Vis(sc:MY)(x:Gh):Prop:=sc.names.lookup x=a_ .local\/sc.names.lookup x=a_ .cell\/sc.names.lookup x=a_ .free
def Loc(sc:MY)(x:Gh):Prop:=sc.names.lookup x=a_ .local\/sc.names.lookup x=a_ .cell
def Look(env:Oe)(h:Gr)(m:Ld)(x:Gh)(u:h_):Prop:=
 (env.kindOf x=a_ .local/\m x=a_ u)\/((env.kindOf x=a_ .cell\/env.kindOf x=a_ .free)/\∃c,env.cells.lookup x=a_ c/\h.IsCell c (a_ u))
structure Cx.Ok(X:Cx):Prop where
 mod:Mod X.K X.mg X.base
 kind:X.env.scope.kind=.function
 glob:X.env.globals=G6
 blt:X.env.builtins=Ql
 above:X.s₀.heap.objs.size<=X.env.locals
 inj:∀x y c,X.env.cells.lookup x=a_ c->X.env.cells.lookup y=a_ c->x=y
 has:∀x,(X.env.kindOf x=a_ .cell\/X.env.kindOf x=a_ .free)->∃c,X.env.cells.lookup x=a_ c
 cab:∀x c,X.fn x=d_->X.env.cells.lookup x=a_ c->X.s₀.heap.objs.size<=c
 hd:X.calm=d_->X.A.handled=f_
 frames:X.A.frames=a_ X.stack
 stk:X.stack=X.outer\/(X.stack=X.env::X.outer/\X.env.frame=a_ X.env.locals)
 exf:∀b∈X.ex,b≠X.env.locals/\∀x c,X.env.cells.lookup x=a_ c->c≠b
 bs:∀b o,X.base.get? b=a_ o->X.s₀.heap.get? b=a_ o/\X.H₀ b=f_
 bsz:X.base.objs.size<=X.s₀.heap.objs.size
 noex:∀b o,X.base.get? b=a_ o->b∉X.ex
 exfs:∀b∈X.ex,b∉X.fs
 Ct:X.s₀.heap.FunFrames X.base X.outer
 frf:∀b∈X.fs,X.H₀ b=f_
structure B6(X:Cx)(B2:Vp)(σ:List (Option V))(H:Hp)(s:l_):Prop where
 ok:X.Ok
 os:s.os=X.s₀.os
 bare:LO s.gens
 base:Un X.fs X.ex X.H₀ H X.s₀.heap s.heap
 loc:∃m,s.heap.Ns X.env.locals m/\∀(i:Nat) (x:Gh) (v:V),X.N[i]?=a_ x->σ[i]?=a_ (a_ v)->Vis X.env.scope x->∃u,C' v u/\Look X.env s.heap m x u
 cell:∀x c,X.env.cells.lookup x=a_ c->∃v,s.heap.IsCell c v
 free:H X.env.locals=f_
 freeC:∀x c,X.env.cells.lookup x=a_ c->H c=f_
 pin:∀p∈X.pn++B2,s.heap.get? p.1=a_ p.2/\H p.1=f_/\p.1≠X.env.locals/\p.1∉X.fs/\∀v,p.2.data≠.cell v
 hok:HOk H s.heap
 len:σ.length=X.N.length
section
variable{σ:List (Option V)}{s:l_}
theorem Cx.Ok.nofr(ok:X.Ok){o:L7}(e:X.base.get? b=a_ o):b∉X.fs:=λB=>by
 have:=(ok.Ct.mem B).1
 simp_all
theorem B6.bs(I:B6 X B2 σ H s):∀b o,X.base.get? b=a_ o->s.heap.get? b=a_ o/\H b=f_:=λb o e=>⟨I.base.keep b o (I.ok.bs b o e).1 (I.ok.bs b o e).2 (I.ok.nofr e) (I.ok.noex b o e),I.base.free b o (I.ok.bs b o e).1 (I.ok.bs b o e).2 (I.ok.noex b o e)⟩
def B6.bk(I:B6 X B2 σ H s):∀b o,X.base.get? b=a_ o->s.heap.get? b=a_ o:=λb o e=>(I.bs b o e).1
theorem B6.mod(I:B6 X B2 σ H s):Mod X.K X.mg X.base:=I.ok.mod
def B6.kIn(I:B6 X B2 σ H s):X.K.In s.heap:=I.ok.mod.kin.keeps I.bk
theorem B6.lt(I:B6 X B2 σ H s):X.env.locals<s.heap.objs.size:=let ⟨_,B,_⟩:=I.loc;B.lt
def B6.sz(I:B6 X B2 σ H s):X.s₀.heap.objs.size<=s.heap.objs.size:=Cb I.ok.above (GP I.lt)
def B6.nofs(I:B6 X B2 σ H s)(h:s.heap.objs.size<=a):a∉X.fs:=λJ=>by obtain⟨_,o,B,_⟩:=I.ok.Ct.mem J;exact FZ (C_ (s_ B) (Cb I.sz h)) (Jk _)
theorem B6.cne(I:B6 X B2 σ H s):∀x c,X.env.cells.lookup x=a_ c->c≠X.env.locals:=λx c e z=>by
 obtain⟨v,o,L,U⟩:=I.cell x c e;obtain⟨m,⟨o',es,ep,B,J,_⟩,_⟩:=I.loc
 simp_all
theorem B6.Ct(I:B6 X B2 σ H s):s.heap.FunFrames X.base X.outer:=by
 have J:∀(l:List Oe),(∀b∈frs l,b∈X.fs)->X.s₀.heap.FunFrames X.base l->s.heap.FunFrames X.base l:=by
  intro l
  induction l with
  |nil=>intro _ _;trivial|cons env r a=>intro U g;obtain⟨h,⟨L,o,i,f,d,j⟩,c⟩:=g;have B:L∈X.fs:=U L (by simp_all[frs,Jy]);obtain⟨sl,e⟩:=I.base.slot L o d (I.ok.frf L B) B λz=>I.ok.exfs L z B;exact⟨h,⟨L,_,i,f,e,j⟩,a (λb Y=>U b (by simp_all[frs,Jy])) c⟩
 exact J X.outer (λ_ Y=>Y) I.ok.Ct
theorem B6.stack(I:B6 X B2 σ H s):s.heap.FunFrames X.base X.stack:=by
 rcases I.ok.stk with e|⟨e,J⟩
 .rw[e];exact I.Ct
 .rw[e];obtain⟨m,B,_⟩:=I.loc;refine .cons (by rw[I.ok.kind];decide) J B ?_ I.Ct;exact LC (Cb I.ok.bsz I.ok.above)
theorem B6.vn(I:B6 X B2 σ H s):∀b∈frs X.stack,b∈X.env.locals::X.fs:=λb J=>by
 rcases I.ok.stk with e|⟨e,B⟩
 .simp_all
 simp_all[frs,Jy]
def B6.CV(I:B6 X B2 σ H s):∀b∈frs X.stack,H b=f_:=λb B=>by
 rcases p_.mp (I.vn b B)with e|B
 .rw[e];exact I.free
 .obtain⟨_,o,J,_⟩:=I.ok.Ct.mem B;exact I.base.free b o J (I.ok.frf b B) λz=>I.ok.exfs b z B
theorem B6.step{t':Nat}{d':Drawn}(I:B6 X B2 σ H s)(Y:∀b∈ch,(b∈X.ex\/X.s₀.heap.objs.size<=b)/\b≠X.env.locals/\(∀x c,X.env.cells.lookup x=a_ c->c≠b)/\∀p∈X.pn++B2,p.1≠b)(U:∀b o,b≠X.env.locals->b∉X.fs->b∉ch->s.heap.get? b=a_ o->H b=f_->h'.get? b=a_ o)(g:∀b o,b≠X.env.locals->b∈X.fs->b∉ch->s.heap.get? b=a_ o->H b=f_->∃sl,h'.get? b=a_ {o with slots:=sl})(J:∀b o,b∉ch->s.heap.get? b=a_ o->H b=f_->H' b=f_)(h:∀b o,b∉ch->s.heap.get? b=a_ o->∃o',h'.get? b=a_ o')(w:∀b xs,H b=a_ (.tup xs)->H' b=a_ (.tup xs))(C:∀b o u,H b=a_ (.frz o u)->H' b=a_ (.frz o u))(G:∀b ps,H b=a_ (.tbl ps)->∃A,H' b=a_ (.tbl (ps++A)))(ns:∀m,s.heap.Ns X.env.locals m->h'.Ns X.env.locals m)(E:HOk H' h')(S:LO g'):
  B6 X B2 σ H' {s with heap:=h',gens:=g',drawn:=d',toks:=t'}:=by
 have y:∀b o,X.s₀.heap.get? b=a_ o->b≠X.env.locals:=λb o e=>FR (C_ (s_ e) I.ok.above);have f:∀b o,X.s₀.heap.get? b=a_ o->b∉X.ex->b∉ch:=λb o e B j=>by
  rcases(Y b j).1 with z|z
  .exact B z
  .exact FZ (C_ (s_ e) z) (Jk _)
 have a:∀x c,X.env.cells.lookup x=a_ c->∀v,s.heap.IsCell c v->h'.IsCell c v:=λx c e v ⟨o,t,F⟩=>by
  have L:c∉ch:=λz=>(Y c z).2.2.1 x c e rfl;by_cases P:c∈X.fs
  .obtain⟨sl,q⟩:=g c o (I.cne x c e) P L t (I.freeC x c e);exact⟨_,q,F⟩
  .exact⟨o,U c o (I.cne x c e) P L t (I.freeC x c e),F⟩
 refine⟨I.ok,I.os,S,⟨λb o e n j B=>?_,λb o e n j B=>?_,λb o e n B=>?_,λb o e B=>?_,λb xs e=>w b xs (I.base.tups b xs e),λb o xs e=>C b o xs (I.base.frzs b o xs e),λb ps e=>?_⟩,?_,λx c e=>?_,?_,λx c e=>?_,λp O=>?_,E,I.len⟩
 .exact U b o (y b o e) j (f b o e B) (I.base.keep b o e n j B) (I.base.free b o e n B)
 .obtain⟨sl,e1⟩:=I.base.slot b o e n j B;obtain⟨D,e2⟩:=g b _ (y b o e) j (f b o e B) e1 (I.base.free b o e n B);exact⟨D,e2⟩
 .obtain⟨o',e1⟩:=I.base.there b o e B;exact J b o' (f b o e B) e1 (I.base.free b o e n B)
 .obtain⟨o',e1⟩:=I.base.there b o e B;exact h b o' (f b o e B) e1
 .obtain⟨T,e1⟩:=I.base.tbls b ps e
  grind
 .obtain⟨m,Q,R⟩:=I.loc;refine⟨m,ns m Q,λi x v e1 e2 e3=>?_⟩
  obtain⟨u,r,l⟩:=R i x v e1 e2 e3;refine⟨u,r,?_⟩
  rcases l with l|⟨k,c,e,z⟩
  .exact .inl l
  .exact .inr ⟨k,c,e,a x c e _ z⟩
 .obtain⟨v,z⟩:=I.cell x c e;exact⟨v,a x c e v z⟩
 .obtain⟨m,⟨o,_,_,t,_⟩,_⟩:=I.loc;exact J _ o (λz=>(Y _ z).2.1 rfl) t I.free
 .obtain⟨v,o,t,F⟩:=I.cell x c e;exact J c o (λz=>(Y c z).2.2.1 x c e rfl) t (I.freeC x c e)
 .obtain⟨e,n,N,K,d⟩:=I.pin p O;have L:p.1∉ch:=λz=>(Y p.1 z).2.2.2 p O rfl;exact⟨U p.1 p.2 N K L e n,J p.1 p.2 L e n,N,K,d⟩
def B6.un{t':Nat}(I:B6 X B2 σ H s)(u:Un X.fs [] H H' s.heap h')(J:HOk H' h'):B6 X B2 σ H' {s with heap:=h',toks:=t'}:=by
 obtain⟨m,⟨o,es,ep,Y,r⟩,_⟩:=id I.loc;obtain⟨sl,c⟩:=u.any Y I.free ad;exact I.step (g':=s.gens) (d':=s.drawn) (ch:=[]) (λ_ z=>nomatch z) (λb o _ L _ e n=>u.keep b o e n L ad) (λb o _ L _ e n=>u.slot b o e n L ad) (λb o _ e n=>u.free b o e n ad) (λb o _ e=>u.there b o e ad) u.tups u.frzs u.tbls (λd a=>by obtain⟨o',U,ep',B,r'⟩:=a;rw[Y]at B;cases B;exact⟨_,U,ep',c,r'⟩) J I.bare
def B6.call{t':Nat}{d':Drawn}(I:B6 X B2 σ H s)(u:Un (frs X.stack) ch H H' s.heap h')(U:HOk H' h')(g:LO g')(L:∀b∈ch,(b∈X.ex\/X.s₀.heap.objs.size<=b)/\b≠X.env.locals/\(∀x c,X.env.cells.lookup x=a_ c->c≠b)/\∀p∈X.pn++B2,p.1≠b):
  B6 X B2 σ H' {s with heap:=h',gens:=g',drawn:=d',toks:=t'}:=by
 obtain⟨m,⟨o,es,ep,d,r⟩,_⟩:=id I.loc;obtain⟨sl,Y⟩:=u.any d I.free λz=>(L _ z).2.1 rfl;exact I.step (ch:=ch) L (λb o Y h B e n=>u.keep b o e n (λz=>(p_.mp (I.vn b z)).elim Y h) B) (λb o _ _ B e n=>u.any e n B) (λb o B e n=>u.free b o e n B) (λb o B e=>u.there b o e B) u.tups u.frzs u.tbls (λi f=>by obtain⟨o',a,ep',J,r'⟩:=f;rw[d]at J;cases J;exact⟨_,a,ep',Y,r'⟩) U g
theorem B6.turned{t':Nat}{B:i_}(I:B6 X B2 σ H s)(k:∀b o,b≠B->s.heap.get? b=a_ o->h'.get? b=a_ o)(h:H B=f_)(L:B≠X.env.locals)(h1:B∈X.ex\/X.s₀.heap.objs.size<=B)(g:∀x c,X.env.cells.lookup x=a_ c->c≠B)(f:∀p∈X.pn++B2,p.1≠B):B6 X B2 σ H {s with heap:=h',toks:=t'}:=by
 have U:∀b u,H b=a_ u->b≠B:=λb u e z=>by simp_all
 refine I.step (g':=s.gens) (d':=s.drawn) (ch:=[B]) (λb d=>?_) (λb o _ _ J e _=>k b o (λz=>J (by simp[z])) e) (λb o _ _ J e _=>⟨o.slots,k b o (λz=>J (by simp[z])) e⟩) (λ_ _ _ _ n=>n)
  (λb o J e=>⟨o,k b o (λz=>J (by simp[z])) e⟩) (λ_ _ e=>e) (λ_ _ _ e=>e) (λb ps e=>⟨#[],bi⟩) (λm a=>?_) (λb u e=>?_) I.bare
 .have e:b=B:=by simpa using d
  subst e;exact⟨h1,L,g,f⟩
 .obtain⟨o,es,ep,Y,r⟩:=a;exact⟨o,es,ep,k _ o (HM L) Y,r⟩
 .refine(I.hok b u e).stay (λc v J q=>k c v ?_ q) (λ_ q=>q) λ_ _ q=>q
  lia
def B6.tok(I:B6 X B2 σ H s)(t:Nat):B6 X B2 σ H {s with toks:=t}:=I.un (h':=s.heap) (t':=t) Un.refl I.hok
theorem B6.kept{t':Nat}(I:B6 X B2 σ H s)(k:∀b u,s.heap.get? b=a_ u->h'.get? b=a_ u):B6 X B2 σ H {s with heap:=h',toks:=t'}:=I.un (Un.kept k) (I.hok.kept k)
theorem B6.laid{a:i_}{o:HO}{t':Nat}(I:B6 X B2 σ H s)(k:∀b u,s.heap.get? b=a_ u->h'.get? b=a_ u)(J:s.heap.objs.size<=a)(B:gZ (upd H a o) h' a o):
  B6 X B2 σ (upd H a o) {s with heap:=h',toks:=t'}:=I.un (Un.laid k J (I.hok.fresh J)) (I.hok.laid k J B)
theorem B6.write{x e:i_}{o:HO}{t':Nat}(I:B6 X B2 σ H s)(L:Mut (H x))(U:e=x\/H e=a_ (.own x))(k:∀b u,b≠e->s.heap.get? b=a_ u->h'.get? b=a_ u)(B:∃u,h'.get? e=a_ u)(J:gZ (upd H x o) h' x o):B6 X B2 σ (upd H x o) {s with heap:=h',toks:=t'}:=I.un (Un.write L U k B) (I.hok.write L U k B J)
def B6.weak{B:List (Option V)}(I:B6 X B2 σ H s)(U:B.length=σ.length)(w:∀(i:Nat) v,B[i]?=a_ (a_ v)->σ[i]?=a_ (a_ v)):B6 X B2 B H s:=
 ⟨I.ok,I.os,I.bare,I.base,let ⟨m,L,J⟩:=I.loc;⟨m,L,λi x v e1 e2 e3=>J i x v e1 (w i v e2) e3⟩,I.cell,I.free,I.freeC,I.pin,I.hok,U.trans I.len⟩
def B6.tK{pins':Vp}(I:B6 X B2 σ H s)(h:∀p∈pins',s.heap.get? p.1=a_ p.2/\H p.1=f_/\p.1≠X.env.locals/\p.1∉X.fs/\∀v,p.2.data≠.cell v):B6 X pins' σ H s:=
 ⟨I.ok,I.os,I.bare,I.base,I.loc,I.cell,I.free,I.freeC,λp B=>(FL.mp B).elim (λz=>I.pin p (He _ z)) (h p),I.hok,I.len⟩
def A8(B:N.Nodup)(a:N[i]?=a_ x)(b:N[j]?=a_ x):i=j:=by obtain⟨h1,e1⟩:=oe.mp a;obtain⟨J,e2⟩:=oe.mp b;exact(List.getElem_inj B).mp (e1.trans e2.symm)
theorem vk{M:PH}(I:B6 X B2 σ H s)(hN:X.N.Nodup)(hi:X.N[i]?=a_ x)(L:Loc X.env.scope x)(r:C' v u)(h:∀s',B6 X B2 (σ.set i (a_ v)) H s'->(∃a,Ju a s.heap s'.heap/\(a=X.env.locals\/X.env.cells.lookup x=a_ a))->Q () s')(hf:autoParam (X.fn x=d_\/X.env.scope.names.lookup x=a_ .local) Jq4):w_ M A (storeName X.env x u) Q E s:=by
 obtain⟨m,W,hl⟩:=id I.loc;have C:(X.env.scope.kind==.class||(X.env.scope.kind==.module&&X.env.locals != X.env.globals))=c_:=by rw[I.ok.kind];rfl
 have Y:i<σ.length:=by rw[I.len];exact(oe.mp hi).1
 have t:=I.cne;have J:∀{a:i_} {h':Gr},(∃o,s.heap.get? a=a_ o/\H a=f_)->Ju a s.heap h'->HOk H h':=λ{a h'} ha B b ob e=>by
  obtain⟨_,_,Z⟩:=ha;refine(I.hok b ob e).stay (λc G U q=>(B.2 c ?_).trans q) (λ_ q=>q) λ_ _ q=>q
  lia
 rcases L with w|w
 .refine wpAny_storeName_local w W (λh' T B=>?_) C;obtain⟨oL,_,_,S,_⟩:=id W;refine h _ ⟨I.ok,I.os,I.bare,⟨λb o e n l L=>?_,λb o e n l L=>?_,I.base.free,λb o e L=>?_,I.base.tups,I.base.frzs,I.base.tbls⟩,⟨_,T,λj y K e1 e2 e3=>?_⟩,λy c e=>?_,I.free,I.freeC,λp P=>?_,J ⟨oL,S,I.free⟩ B,by simpa using I.len⟩ ⟨_,B,.inl rfl⟩
  .exact(B.2 b (FR (C_ (s_ e) I.ok.above))).trans (I.base.keep b o e n l L)
  .obtain⟨sl,e1⟩:=I.base.slot b o e n l L;exact⟨sl,(B.2 b (FR (C_ (s_ e) I.ok.above))).trans e1⟩
  .obtain⟨o',e1⟩:=I.base.there b o e L;exact⟨o',(B.2 b (FR (C_ (s_ e) I.ok.above))).trans e1⟩
  .by_cases f:j=i
   .subst f;rw[hi]at e1;cases e1;rw[z_ Y]at e2;cases e2;exact⟨u,r,.inl ⟨w,ad⟩⟩
   .rw[v_ (HM f)]at e2;obtain⟨N,r',q⟩:=hl j y K e1 e2 e3;refine⟨N,r',?_⟩
    rcases q with⟨k,e⟩|⟨k,c,e,z⟩
    .refine .inl ⟨k,?_⟩;have:y≠x:=λe=>f (A8 hN e1 (e▸hi))
     simp_all
    .exact .inr ⟨k,c,e,z.sameBut B (t y c e)⟩
  .obtain⟨G,z⟩:=I.cell y c e;exact⟨G,z.sameBut B (t y c e)⟩
  .obtain⟨e,n,D,O,d⟩:=I.pin p P;exact⟨(B.2 p.1 D).trans e,n,D,O,d⟩
 .have g:X.fn x=d_:=by
   rcases hf with z|z
   .exact z
   .simp_all
  obtain⟨c,U⟩:=I.ok.has x (.inl w);obtain⟨G,z⟩:=I.cell x c U;refine wpAny_storeName_cell I.ok.kind w U z (λh' hc' B=>?_);obtain⟨oc,R,hocd⟩:=id z;refine h {s with heap:=h'} ⟨I.ok,I.os,I.bare,⟨λb o e n l L=>?_,λb o e n l L=>?_,I.base.free,λb o e L=>?_,I.base.tups,I.base.frzs,I.base.tbls⟩,⟨m,W.sameBut B (HM (t x c U)),λj y K e1 e2 e3=>?_⟩,λy F e=>?_,I.free,I.freeC,λp P=>?_,J ⟨oc,R,I.freeC x c U⟩ B,by simpa using I.len⟩ ⟨c,B,.inr U⟩
  .exact(B.2 b (FR (C_ (s_ e) (I.ok.cab x c g U)))).trans (I.base.keep b o e n l L)
  .obtain⟨sl,e1⟩:=I.base.slot b o e n l L;exact⟨sl,(B.2 b (FR (C_ (s_ e) (I.ok.cab x c g U)))).trans e1⟩
  .obtain⟨o',e1⟩:=I.base.there b o e L;exact⟨o',(B.2 b (FR (C_ (s_ e) (I.ok.cab x c g U)))).trans e1⟩
  .by_cases f:j=i
   .subst f;rw[hi]at e1;cases e1;rw[z_ Y]at e2;cases e2;exact⟨u,r,.inr ⟨.inl w,c,U,hc'⟩⟩
   .rw[v_ (HM f)]at e2;obtain⟨N,r',q⟩:=hl j y K e1 e2 e3;refine⟨N,r',?_⟩
    rcases q with q|⟨k,F,e,z'⟩
    .exact .inl q
    .refine .inr ⟨k,F,e,z'.sameBut B ?_⟩;rintro rfl;exact f (A8 hN e1 (I.ok.inj _ _ _ e U▸hi))
  .by_cases hcc:F=c
   .grind
   .obtain⟨w2,z2⟩:=I.cell y F e;exact⟨w2,z2.sameBut B hcc⟩
  .obtain⟨e,n,D,O,d⟩:=I.pin p P;refine⟨(B.2 p.1 ?_).trans e,n,D,O,d⟩
   grind
def zI{M:PH}(I:B6 X B2 σ H s)(L:X.N.Nodup)(hi:X.N[i]?=a_ x)(B:Loc X.env.scope x)(r:C' v u)(h:∀s',B6 X B2 (σ.set i (a_ v)) H s'->Q () s')(J:autoParam (X.fn x=d_\/X.env.scope.names.lookup x=a_ .local) Jq4):w_ M A (storeName X.env x u) Q E s:=
 vk I L hi B r (λs' U _=>h s' U) J
def B6.call'(I:B6 X B2 σ H s)(L:s'.os=s.os)(u:Un (frs X.stack) ch H H' s.heap s'.heap)(B:HOk H' s'.heap)(U:LO s'.gens)(J:∀b∈ch,(b∈X.ex\/X.s₀.heap.objs.size<=b)/\b≠X.env.locals/\(∀x c,X.env.cells.lookup x=a_ c->c≠b)/\∀p∈X.pn++B2,p.1≠b):B6 X B2 σ H' s':=by obtain⟨h',g',d',t',o'⟩:=s';have e:o'=s.os:=L;subst e;exact I.call (g':=g') (t':=t') (d':=d') u B U J
end
abbrev XK:=h_->Option i_->Hp->Prop
noncomputable abbrev St:=List (Option V)
variable{σ:St}
abbrev VK:=V->Hp->Prop
abbrev TE:=St->Hp->VK->Prop
variable{ta tb te:TE}
abbrev TT:=St->Hp->(Bool->Hp->Prop)->Prop
variable{tc:TT}
abbrev TA:=St->Hp->(bp->Hp->Prop)->Prop
structure Ends where
 nx:St->Hp->Prop
 rt:VK
 bk:St->Hp->Prop:=λ_ _=>False
 ct:St->Hp->Prop:=λ_ _=>False
abbrev TS:=Ends->St->Hp->Prop
inductive EP(X:Cx)(B2:Vp)(σ:St)(Q:VK)(u:h_)(s':l_):Prop
 |mk (v:V) (H':Hp) (I:B6 X B2 σ H' s') (r:C' v u) (q:Q v H')
inductive TP(X:Cx)(B2:Vp)(σ:St)(Q:Bool->Hp->Prop)(b:Bool)(s':l_):Prop
 |mk (H':Hp) (I:B6 X B2 σ H' s') (q:Q b H')
inductive AP(X:Cx)(B2:Vp)(σ:St)(Q:List V->Hp->Prop)(us:List h_)(s':l_):Prop
 |mk (vs:List V) (H':Hp) (I:B6 X B2 σ H' s') (r:D' vs us) (q:Q vs H')
inductive NP(X:Cx)(B2:Vp)(Q:St->Hp->Prop)(s':l_):Prop
 |mk (σ':St) (H':Hp) (I:B6 X B2 σ' H' s') (q:Q σ' H')
inductive RP(X:Cx)(B2:Vp)(Q:VK)(u:h_)(s':l_):Prop
 |mk (v:V) (σ':St) (H':Hp) (I:B6 X B2 σ' H' s') (r:C' v u) (q:Q v H')
def SP(X:Cx)(B2:Vp)(D:Ends)(f:Flow)(s':l_):Prop:=
 match f with
 |.next=>NP X B2 D.nx s'|.brk=>NP X B2 D.bk s'|.cont=>NP X B2 D.ct s'|.ret u=>RP X B2 D.rt u s'
def PE(X:Cx)(e:Hb)(t:TE):Prop:=
 ∀(B2:Vp) (s:l_) (σ:St) (H:Hp) (Q:VK),B6 X B2 σ H s->t σ H Q->w_ (B_ X.prog X.w) X.A (Ga e X.env) (EP X B2 σ Q) X.xe s
def PT(X:Cx)(e:Hb)(t:TT):Prop:=
 ∀(B2:Vp) (s:l_) (σ:St) (H:Hp) (Q:Bool->Hp->Prop),B6 X B2 σ H s->t σ H Q->w_ (B_ X.prog X.w) X.A (O_ e X.env (Ga e X.env)) (TP X B2 σ Q) X.xe s
def PW(X:Cx)(e:Hb)(t:TT):Prop:=
 ∀(B:Ln h_) (B2:Vp) (s:l_) (σ:St) (H:Hp) (Q:Bool->Hp->Prop),B6 X B2 σ H s->t σ H Q->w_ (B_ X.prog X.w) X.A (O_ e X.env B) (TP X B2 σ Q) X.xe s
def PW.pt{t:TT}(h:PW X e t):PT X e t:=h _
def PA(X:Cx)(es:List Hb)(t:TA):Prop:=
 ∀(pos:MJ) (B2:Vp) (s:l_) (σ:St) (H:Hp) (Q:bp->Hp->Prop),B6 X B2 σ H s->t σ H Q->w_ (B_ X.prog X.w) X.A (spliced (Hl pos (j_ es X.env))) (AP X B2 σ Q) X.xe s
def PS(X:Cx)(st:G1)(t:TS):Prop:=
 ∀(B2:Vp) (s:l_) (σ:St) (H:Hp) (D:Ends),B6 X B2 σ H s->t D σ H->w_ (B_ X.prog X.w) X.A (exec st X.env) (SP X B2 D) X.xe s
def PSs(X:Cx)(st:List G1)(t:TS):Prop:=
 ∀(B2:Vp) (s:l_) (σ:St) (H:Hp) (D:Ends),B6 X B2 σ H s->t D σ H->w_ (B_ X.prog X.w) X.A (execs st X.env) (SP X B2 D) X.xe s
def E'{α:Type}{t:Ln α}{Q B:α->l_->Prop}{M:PH}{s:l_}(h:w_ M A t Q E s)(J:∀a s,Q a s->B a s):w_ M A t B E s:=GS h J λ_ _ x=>x
section
noncomputable def tVar(i:Nat):TE:=λσ H Q=>∃v,σ[i]?=a_ (a_ v)/\Q v H
noncomputable def tC(v:V):TE:=λ_ H Q=>Q v H
def pe_int{i j pos}:PE X (.Constant (.int i) j pos) (tC (.int i)):=λ_ _ _ H _ I h=>wpAny_Constant_int ⟨.int i,H,I.tok _,⟨_,rfl⟩,h⟩
def pe_bl{b j pos}:PE X (.Constant (.bool b) j pos) (tC (.bl b)):=λ_ _ _ H _ I h=>Constant_bool ⟨.bl b,H,I,rfl,h⟩
def pe_non{j pos}:PE X (.Constant .none j pos) (tC .non):=λ_ _ _ H _ I h=>Constant_none ⟨.non,H,I,rfl,h⟩
def Gl(X:Cx)(x:Gh):Prop:=X.env.kindOf x=a_ .globalImplicit
def ud{s:l_}{Q:Mq}(I:B6 X B2 σ H s)(J:Gl X x)(B:X.mg x=a_ u)(h:Q u s)(L:((x==("__debug__":Gh))=c_)⁻¹):w_ (B_ X.prog X.w) X.A (Ga (.Name x pos) X.env) Q E s:=
 M3 I.ok.kind J (Calls.loadGlobal_global (by rw[I.ok.glob];exact I.mod.glob.keeps I.bk) B h) L
def jd{s:l_}{Q:Mq}(I:B6 X B2 σ H s)(U:Gl X x)(L:X.mg x=f_)(B:Iu x=a_ u)(h:Q u s)(J:(x≠"__name__")⁻¹)(Y:((x==("__debug__":Gh))=c_)⁻¹):w_ (B_ X.prog X.w) X.A (Ga (.Name x pos) X.env) Q E s:=by obtain⟨b,h1,a⟩:=I.mod.blt;exact M3 I.ok.kind U (Calls.loadGlobal_builtin (by rw[I.ok.glob];exact I.mod.glob.keeps I.bk) L (by rw[I.ok.blt];exact h1.keeps I.bk) ((a x J).trans B) h) Y
def pe_glob(J:Gl X x)(B:X.mg x=a_ u)(r:C' v u)(L:((x==("__debug__":Gh))=c_)⁻¹):PE X (.Name x pos) (tC v):=
 λ_ _ _ H _ I h=>ud I J B ⟨v,H,I,r,h⟩ L
def pe_bltn(U:Gl X x)(L:X.mg x=f_)(B:Iu x=a_ u)(r:C' v u)(J:(x≠"__name__")⁻¹)(Y:((x==("__debug__":Gh))=c_)⁻¹):PE X (.Name x pos) (tC v):=
 λ_ _ _ H _ I h=>jd I U L B ⟨v,H,I,r,h⟩ J Y
variable{a b:Hb}
variable{tA tB':TT}{rest:List Hb}
def tAnd(t u:TT):TT:=λσ H Q=>t σ H λc H1=>if c=d_ then u σ H1 Q else Q c_ H1
def tOr(t u:TT):TT:=λσ H Q=>t σ H λc H1=>if c=d_ then Q d_ H1 else u σ H1 Q
def tNot(t:TT):TT:=λσ H Q=>t σ H λc H1=>Q (!c) H1
def pw_and(Y:PT X a tA)(U:PW X (.BoolOp .And (b::rest) pos) tB'):PW X (.BoolOp .And (a::b::rest) pos) (tAnd tA tB'):=by
 intro J B2 s σ H Q I h;refine isTrue_and (E' (Y B2 s σ H _ I h) λc s1 L=>?_);obtain⟨H1,B,q1⟩:=L;cases c with
 |true=>exact U J B2 s1 σ H1 Q B q1|false=>exact⟨H1,B,q1⟩
def pw_or(Y:PT X a tA)(U:PW X (.BoolOp .Or (b::rest) pos) tB'):PW X (.BoolOp .Or (a::b::rest) pos) (tOr tA tB'):=by
 intro J B2 s σ H Q I h;refine isTrue_or (E' (Y B2 s σ H _ I h) λc s1 L=>?_);obtain⟨H1,B,q1⟩:=L;cases c with
 |true=>exact⟨H1,B,q1⟩|false=>exact U J B2 s1 σ H1 Q B q1
def pt_not(J:PT X a tA):PT X (.UnaryOp .Not a pos) (tNot tA):=by intro B2 s σ H Q I h;refine isTrue_not (E' (J B2 s σ H (λc H1=>Q (!c) H1) I h) λ_ _ B=>?_);obtain⟨H1,L,q1⟩:=B;exact⟨H1,L,q1⟩
noncomputable def tAndV(ta tb:TE):TE:=λσ H Q=>ta σ H λx H1=>∃c,x=.bl c/\if c=d_ then tb σ H1 Q else Q (.bl c_) H1
noncomputable def tOrV(ta tb:TE):TE:=λσ H Q=>ta σ H λx H1=>∃c,x=.bl c/\if c=d_ then Q (.bl d_) H1 else tb σ H1 Q
def pe_and(Y:PE X a ta)(U:PE X (.BoolOp .And (b::rest) pos) tb):PE X (.BoolOp .And (a::b::rest) pos) (tAndV ta tb):=by
 intro B2 s σ H Q I h;refine BoolOp_and (E' (Y B2 s σ H _ I h) λv s1 L=>?_);obtain⟨x,H1,B,J,q1⟩:=L;obtain⟨c,rfl,q1⟩:=q1;cases J;refine G4 ?_;cases c with
 |true=>exact U B2 s1 σ H1 Q B q1|false=>exact⟨.bl c_,H1,B,rfl,q1⟩
def pe_or(Y:PE X a ta)(U:PE X (.BoolOp .Or (b::rest) pos) tb):PE X (.BoolOp .Or (a::b::rest) pos) (tOrV ta tb):=by
 intro B2 s σ H Q I h;refine BoolOp_or (E' (Y B2 s σ H _ I h) λv s1 L=>?_);obtain⟨x,H1,B,J,q1⟩:=L;obtain⟨c,rfl,q1⟩:=q1;cases J;refine G4 ?_;cases c with
 |false=>exact U B2 s1 σ H1 Q B q1|true=>exact⟨.bl d_,H1,B,rfl,q1⟩
def tIf(t:TT)(ta tb:TE):TE:=λσ H Q=>t σ H λc H1=>if c=d_ then ta σ H1 Q else tb σ H1 Q
def pe_ifExp(L:PT X c tA)(Y:PE X a ta)(U:PE X b tb):PE X (.IfExp c a b pos) (tIf tA ta tb):=by
 intro B2 s σ H Q I h;refine wpAny_IfExp (E' (L B2 s σ H _ I h) λd s1 J=>?_);obtain⟨H1,B,q1⟩:=J;cases d with
 |true=>exact Y B2 s1 σ H1 Q B q1|false=>exact U B2 s1 σ H1 Q B q1
end
inductive KLs(K:Pn)(a:i_)(xs:List V):Prop
 |mk (o:L7) (its:Array h_) (n:Nat) (k:K.lookup a=a_ o) (c:o.cls=.type "list") (d:o.dict=f_) (s:o.data=.seq its n) (z:its.size<=q_) (r:D' xs its.toList)
inductive KTp(K:Pn)(a:i_)(xs:List V):Prop
 |mk (o:L7) (its:Array h_) (n:Nat) (k:K.lookup a=a_ o) (c:o.cls=.type "tuple") (s:o.data=.seq its n) (z:its.size<=q_) (r:D' xs its.toList)
def SqL(K:Pn)(H:Hp)(a:i_)(xs:bp):Prop:=Rd H a (.lst xs)\/KLs K a xs
def SqT(K:Pn)(H:Hp)(a:i_)(xs:bp):Prop:=Rd H a (.tup xs)\/KTp K a xs
noncomputable def absV:h_->Option V
 |.none=>a_ .non|.bool b=>a_ (.bl b)|.int i _=>a_ (.int i)|.ref a=>a_ (.ref a)|.type n=>a_ (.ty n)|_=>f_
def C'.abs{x:V}(r:C' x u):absV u=a_ x:=by
 cases x with
 |non=>cases r;rfl|bl _=>cases r;rfl|int _=>obtain⟨t,rfl⟩:=r;rfl
 |ref _=>cases r;rfl|ty _=>cases r;rfl
def C'.inj{x y:V}{u:h_}(r:C' x u)(q:C' y u):x=y:=G7 (r.abs.symm.trans q.abs)
theorem D'.inj:∀{xs ys:bp} {us:bv},D' xs us->D' ys us->xs=ys
 |_,_,_,.nil,.nil=>rfl|_,_,_,.cons r t,.cons r' t'=>by rw[r.inj r',D'.inj t t']
section
variable{s:l_}{ys:List V}
def SqL.of(h:H a=a_ (.lst xs)):SqL K H a xs:=.inl (.inl h)
def SqT.of(h:H a=a_ (.tup xs)):SqT K H a xs:=.inl (.inl h)
inductive AsQ(P:Array h_->Prop)(xs:List V):Prop
 |mk (its:List h_) (r:D' xs its) (p:P its.toArray) (z:xs.length<=q_)
theorem B6.list(I:B6 X B2 σ H s)(h:SqL X.K H a xs):AsQ (PlainL s.heap a) xs:=by
 rcases h with h|⟨o,its,n,B,L,J,Y,U,r⟩
 .obtain⟨z,its,n,r,e⟩:=h.ok I.hok;exact⟨its,r,⟨_,n,e,rfl,rfl,rfl⟩,z⟩
 .refine⟨its.toList,r,⟨o,n,I.kIn a o B,L,J,bi⟩,?_⟩
  have e:=r.length
  simp_all
theorem B6.tuple(I:B6 X B2 σ H s)(h:SqT X.K H a xs):AsQ (N5 s.heap a) xs:=by
 rcases h with h|⟨o,its,n,B,J,U,L,r⟩
 .obtain⟨z,its,r,p⟩:=h.ok I.hok;exact⟨its,r,p,z⟩
 .refine⟨its.toList,r,⟨o,I.kIn a o B,J,n,bi⟩,?_⟩
  have e:=r.length
  simp_all
def B6.oz(I:B6 X B2 σ H s)(h:SqL X.K H a xs)(h':SqL X.K H a ys):xs=ys:=by
 obtain⟨its,r,⟨o,n,e,_,_,d⟩,_⟩:=I.list h;obtain⟨its',r',⟨o',J,B,_,_,d'⟩,_⟩:=I.list h';rw[e]at B;cases B;rw[d]at d';injection d' with d1 _
 have:its=its':=by simpa using IV Mi d1
 subst this;exact r.inj r'
def B6.lN(I:B6 X B2 σ H s)(h:SqT X.K H a xs)(h':SqT X.K H a ys):xs=ys:=by
 obtain⟨its,r,⟨o,e,_,n,d⟩,_⟩:=I.tuple h;obtain⟨its',r',⟨o',B,_,J,d'⟩,_⟩:=I.tuple h';rw[e]at B;cases B;rw[d]at d';injection d' with d1 _
 have:its=its':=by simpa using IV Mi d1
 subst this;exact r.inj r'
end
noncomputable abbrev Cx.wish(X:Cx)(E:Mq):Cx:={X with xe:=E}
abbrev Cx.nox(X:Cx):Cx:=X.wish λ_ _=>False
theorem Cx.Ok.wish{X:Cx}(ok:X.Ok)(E:Mq):(X.wish E).Ok:=
 ⟨ok.mod,ok.kind,ok.glob,ok.blt,ok.above,ok.inj,ok.has,ok.cab,ok.hd,ok.frames,ok.stk,ok.exf,ok.bs,ok.bsz,ok.noex,ok.exfs,ok.Ct,ok.frf⟩
def Cx.Ok.n9(ok:(X.wish E).Ok):X.Ok:=
 ⟨ok.mod,ok.kind,ok.glob,ok.blt,ok.above,ok.inj,ok.has,ok.cab,ok.hd,ok.frames,ok.stk,ok.exf,ok.bs,ok.bsz,ok.noex,ok.exfs,ok.Ct,ok.frf⟩
section
variable{s:l_}
theorem B6.wish(I:B6 X B2 σ H s)(E:Mq):B6 (X.wish E) B2 σ H s:=⟨I.ok.wish E,I.os,I.bare,I.base,I.loc,I.cell,I.free,I.freeC,I.pin,I.hok,I.len⟩
theorem B6.n9(I:B6 (X.wish E) B2 σ H s):B6 X B2 σ H s:=⟨I.ok.n9,I.os,I.bare,I.base,I.loc,I.cell,I.free,I.freeC,I.pin,I.hok,I.len⟩
theorem SP.n9{D:Ends}{f:Flow}{s':l_}(h:SP (X.wish E) B2 D f s'):SP X B2 D f s':=by
 cases f with
 |next=>obtain⟨B,H',I,q⟩:=h;exact⟨B,H',I.n9,q⟩
 |brk=>obtain⟨B,H',I,q⟩:=h;exact⟨B,H',I.n9,q⟩
 |cont=>obtain⟨B,H',I,q⟩:=h;exact⟨B,H',I.n9,q⟩
 |ret u=>obtain⟨v,B,H',I,r,q⟩:=h;exact⟨v,B,H',I.n9,r,q⟩
theorem PSs.nox{st:List G1}{t:TS}(h:PSs X.nox st t):PSs X st t:=λB2 s σ H D I hw=>GS (h B2 s σ H D (I.wish _) hw) (λ_ _ q=>q.n9) λ_ _ z=>GG z
end
section
variable{st:G1}{rest:List G1}{t u:TS}
def tNext:TS:=λD σ H=>D.nx σ H
def tSeq(t u:TS):TS:=λD σ H=>t {D with nx:=u D} σ H
def Dj:PSs X [] tNext:=λ_ _ σ H _ I h=>LR ⟨σ,H,I,h⟩
def iP(h1:PS X st t)(J:PSs X rest u):PSs X (st::rest) (tSeq t u):=by
 intro B2 s σ H D I h;refine QC (E' (h1 B2 s σ H {D with nx:=u D} I h) λf s1 q=>?_);cases f with
 |next=>obtain⟨B,H',L,q⟩:=q;exact J B2 s1 B H' D L q
 |ret v=>exact q|brk=>exact q|cont=>exact q
def yi(h1:PS X st t):PSs X [st] t:=by
 intro B2 s σ H D I h;refine QC (E' (h1 B2 s σ H D I h) λf s1 q=>?_);cases f with
 |next=>exact LR q|ret v=>exact q|brk=>exact q|cont=>exact q
def B6.quiet{s:l_}(I:B6 X B2 σ H s):interactive X.env=c_:=by simp[interactive,I.ok.kind]
def tDrop(te:TE):TS:=λD σ H=>te σ H λ_ H1=>D.nx σ H1
def tH(L:PE X e te)(B: ~~~(HB e f_ pos.line X.env=GU c_)):PS X (.Expr e pos) (tDrop te):=by intro B2 s σ H D I h;refine wpAny_Expr_any (E' (L B2 s σ H _ I h) λv s1 J=>?_) I.quiet B;obtain⟨x,H1,U,Y,q1⟩:=J;exact⟨σ,H1,U,q1⟩
def tRet(te:TE):TS:=λD σ H=>te σ H D.rt
def ps_ret(L:PE X e te):PS X (.Return (a_ e) pos) (tRet te):=by intro B2 s σ H D I h;refine wpAny_Return_some (E' (L B2 s σ H _ I h) λv s1 J=>?_);obtain⟨x,H1,U,B,q1⟩:=J;exact⟨x,σ,H1,U,B,q1⟩
def tIfS(c:TT)(t u:TS):TS:=λD σ H=>c σ H λb H1=>if b=d_ then t D σ H1 else u D σ H1
def ps_if{a b:List G1}(L:PT X c tc)(Y:PSs X a t)(U:PSs X b u):PS X (.If c a b pos) (tIfS tc t u):=by
 intro B2 s σ H D I h;refine wpAny_If (E' (L B2 s σ H _ I h) λd s1 J=>?_);obtain⟨H1,B,q1⟩:=J;cases d with
 |true=>exact Y B2 s1 σ H1 D B q1|false=>exact U B2 s1 σ H1 D B q1
noncomputable def tNever:TS:=λ_ _ _=>False
def Dk{sts:List G1}:PSs X sts tNever:=λ_ _ _ _ _ _ h=>h.elim
end
abbrev TG:=V->St->Hp->(St->Hp->Prop)->Prop
abbrev TGs:=bp->St->Hp->(St->Hp->Prop)->Prop
def PG(X:Cx)(B:Hb)(t:TG):Prop:=
 ∀(B2:Vp) (s:l_) (σ:St) (H:Hp) (v:V) (u:h_) (Q:St->Hp->Prop),B6 X B2 σ H s->C' v u->t v σ H Q ->
  w_ (B_ X.prog X.w) X.A (JD B X.env u) (λ_ s'=>NP X B2 Q s') X.xe s
def PGs(X:Cx)(B:List Hb)(t:TGs):Prop:=
 ∀(B2:Vp) (s:l_) (σ:St) (H:Hp) (vs:bp) (us:bv) (Q:St->Hp->Prop),B6 X B2 σ H s->D' vs us->t vs σ H Q ->
  w_ (B_ X.prog X.w) X.A (assignInOrder ((Ha B X.env).map (·.2)) us) (λ_ s'=>NP X B2 Q s') X.xe s
abbrev TSet:=V->V->V->Hp->(Hp->Prop)->Prop
def PSet(X:Cx)(t:TSet):Prop:=
 ∀(B2:Vp) (s:l_) (σ:St) (H:Hp) (o i v:V) (B J u:h_) (Q:Hp->Prop),B6 X B2 σ H s->C' o B->C' i J->C' v u->t o i v H Q ->
  w_ (B_ X.prog X.w) X.A (O7 B J u) (λ_ s'=>TP X B2 σ (λ_=>Q) d_ s') X.xe s
noncomputable def wF(i:Nat):TG:=λv σ H Q=>Q (σ.set i (a_ v)) H
def yj(L:X.N.Nodup)(hi:X.N[i]?=a_ x)(B:Loc X.env.scope x)(J:autoParam (X.fn x=d_\/X.env.scope.names.lookup x=a_ .local) Jq4):PG X (.Name x pos) (wF i):=by intro B2 s σ H v u Q I r h;exact Qr (zI I L hi B r (λs' U=>⟨_,H,U,h⟩) J)
noncomputable def gNil:TGs:=λvs σ H Q=>vs=[]/\Q σ H
def gCons(t:TG)(u:TGs):TGs:=λvs σ H Q=>∃v r,vs=v::r/\t v σ H λB H'=>u r B H' Q
def A0{t:TG}{u:TGs}(h1:PG X e t)(Y:PGs X es u)(L: ~~~((Ha (e::es) X.env).map (·.2)=JD e X.env::(Ha es X.env).map (·.2))):PGs X (e::es) (gCons t u):=by
 intro B2 s σ H vs us Q I r h;obtain⟨v,b,e1,h⟩:=h;subst e1;cases r with
 |cons r J=>rw[L];refine assignInOrder_cons (E' (h1 B2 s σ H _ _ _ I r h) λ_ s1 U=>?_);obtain⟨B,H1,a,q1⟩:=U;exact Y B2 s1 B H1 _ _ Q a J q1
def gTup(K:Pn)(n:Nat)(t:TGs):TG:=λv σ H Q=>∃a xs,v=.ref a/\SqT K H a xs/\xs.length=n/\t xs σ H Q
def gSub(to B:TE)(t:TSet):TG:=λv σ H Q=>to σ H λo H1=>B σ H1 λi H2=>t o i v H2 λJ=>Q σ J
def Dr{o i:Hb}{to U:TE}{t:TSet}(d:PE X o to)(hi:PE X i U)(c:PSet X t)(e:autoParam (∀v,JD (.Subscript o i pos) X.env v=(do
   let B <- IL [v] (Ga o X.env)
   let J <- IL [v,B] (Ga i X.env)
   K_ pos
   IL [v,B,J] (O7 B J v)
   Qu [v,B,J] [])) Jq3):PG X (.Subscript o i pos) (gSub to U t):=by
 intro B2 s σ H v u Q I r h;rw[e];refine b_ (G9 (E' (d B2 s σ H _ I h) λB s1 L=>?_));obtain⟨x,H1,j,a,q1⟩:=L;refine b_ (G9 (E' (hi B2 s1 σ H1 _ j q1) λJ s2 L=>?_));obtain⟨y,H2,g,Y,q2⟩:=L;refine b_ (Lf (b_ (G9 (E' (c B2 s2 σ H2 x y v B J u _ g a Y r q2) λ_ l L=>?_))));obtain⟨k,f,b⟩:=L;exact wpAny_release ⟨σ,k,f,b⟩
def tAsg(te:TE)(g:TG):TS:=λD σ H=>te σ H λx H1=>g x σ H1 D.nx
def vN{g:TG}(Y:PE X e te)(U:PG X tg g)(J: ~~~(Kk [tg] e pos.line X.env=GU c_))(hw: ~~~(Kl [tg] e X.env=GU f_))(h1: ~~~((Ha [tg] X.env).map (·.2)=[JD tg X.env])):PS X (.Assign [tg] e pos) (tAsg te g):=by intro B2 s σ H D I h;refine wpAny_Assign_stores (E' (Y B2 s σ H _ I h) λv s1 L=>?_) J hw;obtain⟨x,H1,a,B,q1⟩:=L;rw[h1];exact E' (U B2 s1 σ H1 x v _ a B q1) λ_ s2 q=>q
def ps_set(b:X.N.Nodup)(hi:X.N[i]?=a_ x)(J:Loc X.env.scope x)(a:PE X e te)(L: ~~~(HB e (a_ (.Name x pos')) pos.line X.env=GU c_))(Y:autoParam (X.fn x=d_\/X.env.scope.names.lookup x=a_ .local) Jq4):
  PS X (.Assign [.Name x pos'] e pos) (tAsg te (wF i)):=by
 intro B2 s σ H D I h;refine wpAny_Assign_Name (E' (a B2 s σ H _ I h) λv s1 U=>?_) L;obtain⟨y,H1,d,B,q1⟩:=U;exact zI d b hi J B (λs2 c=>⟨_,H1,c,q1⟩) Y
def tWhile(c:TT)(tb:TS):TS:=λD σ H=>∃W:Nat->St->Hp->Prop,(∃m,W m σ H)/\∀m σ H,W m σ H ->
 c σ H λb H1=>if b=d_ then ∃N:St->Hp->Prop,(∀B H',N B H'->∃J,J<m/\W J B H')/\tb {D with nx:=N,ct:=N,bk:=D.nx} σ H1 else D.nx σ H1
def ps_while{tb:TS}(a:OT (B_ X.prog X.w) X.A X.env X.xe)(q:PT X c tc)(r:PSs X body tb):PS X (.While c body [] pos) (tWhile tc tb):=by
 intro B2 s σ H D I h;obtain⟨W,⟨p,o⟩,L⟩:=h;refine wpAny_While (codeAny_whileLoop (λn s'=>NP X B2 (W n) s') ?_ p ⟨σ,H,I,o⟩);rintro n s1 ⟨J,H1,t,m⟩;refine Jm a (E' (q B2 s1 J H1 _ t (L n J H1 m)) λb s2 a=>?_);obtain⟨H2,l,q2⟩:=a;cases b with
 |true=>
  obtain⟨N,k,q2⟩:=q2;rw[u_ rfl];refine Jm a (E' (r B2 s2 J H2 _ l q2) λf u Y=>?_);cases f with
  |next=>obtain⟨B,U,j,e⟩:=Y;obtain⟨g,i,d⟩:=k B U e;exact⟨g,i,B,U,j,d⟩
  |cont=>obtain⟨B,U,j,e⟩:=Y;obtain⟨g,i,d⟩:=k B U e;exact⟨g,i,B,U,j,d⟩
  |brk=>exact Y|ret v=>exact Y
 |false=>rw[x_ GJ];exact LR ⟨J,H2,l,q2⟩
structure It where
 go:Nat->Hp->Prop
 yld:Nat->Hp->V->Hp->Prop
 stop:Nat->Hp->Prop
def Cq(X:Cx)(B2:Vp)(H:Hp)(b:i_):Prop:=
 H b=f_/\b≠X.env.locals/\b∉X.fs/\(b∈X.ex\/X.s₀.heap.objs.size<=b)/\(∀x c,X.env.cells.lookup x=a_ c->c≠b)/\∀p∈X.pn++B2,p.1≠b
theorem B6.fpOk{s:l_}(I:B6 X B2 σ H s)(B:s.heap.objs.size<=b)(L:H' b=f_):Cq X B2 H' b:=by
 refine⟨L,HU (C_ I.lt B),I.nofs B,.inr (Cb I.sz B),λx c e z=>?_,λp J z=>?_⟩
 .obtain⟨v,q⟩:=I.cell x c e;exact FZ (C_ q.lt bi) (Jk _)
 .exact FZ (C_ (s_ (I.pin p J).1) bi) (Jk _)
inductive TnP(X:Cx)(B2:Vp)(σ:St)(u:h_)(s:l_)(Y:V->Hp->Prop)(T:Prop)(fp:List i_):Prop
 |mk (x:V) (H':Hp) (I:B6 X B2 σ H' s) (r:C' x u) (y:Y x H') (t:T) (n:∀b∈fp,H' b=f_)
structure Turn(P:GH)(w:Hz)(K:Pn)(tg:Hb)(J:It)(fp:List i_)(it:i_)(tn:Nat->Gr->Prop):Prop where
 mem:it∈fp
 obj:∀i h,tn i h->∀b∈fp,∃o,h.get? b=a_ o/\∀v,o.data≠.cell v
 keep:∀i h h',tn i h->(∀b∈fp,∀o,h.get? b=a_ o->h'.get? b=a_ o)->tn i h'
 item:∀(X:Cx),X.prog=P->X.w=w->X.K=K->X.calm=d_->∀(i:Nat) (B2:Vp) (s:l_) (σ:St) (H:Hp) (E:Mq),B6 X B2 σ H s->(∀b∈fp,Cq X B2 H b)->tn i s.heap->J.go i H ->
  w_ (B_ P w) X.A (JC (.ref it)) (λr s1=>∃u,r=a_ u /\
   w_ (B_ P w) X.A (LS tg (.ref it) u) (λ_ s2=>TnP X B2 σ u s2 (J.yld i H) (tn (i+1) s2.heap) fp) E s1) E s
 done:∀(X:Cx),X.prog=P->X.w=w->X.K=K->X.calm=d_->∀(i:Nat) (B2:Vp) (s:l_) (σ:St) (H:Hp) (E:Mq),B6 X B2 σ H s->(∀b∈fp,Cq X B2 H b)->tn i s.heap->J.stop i H ->
  w_ (B_ P w) X.A (JC (.ref it)) (λr s1=>r=f_/\B6 X B2 σ H s1) E s
 self:∀(A:HQ) (i:Nat) (s:l_) (Q:Mq) (E:Mq),tn i s.heap->Q (.ref it) s->w_ (B_ P w) A (O9 (.ref it)) Q E s
abbrev TI:=St->Hp->(It->Hp->Prop)->Prop
inductive PIE(X:Cx)(B2:Vp)(σ:St)(tg:Hb)(R:It->Hp->Prop)(itv:h_)(s2:l_):Prop
 |mk (it:i_) (fp:List i_) (tn:Nat->Gr->Prop) (J:It) (H':Hp) (e:itv=.ref it) (I:B6 X B2 σ H' s2) (t:Turn X.prog X.w X.K tg J fp it tn) (z:tn 0 s2.heap) (f:∀b∈fp,Cq X B2 H' b) (r:R J H')
def PI(X:Cx)(tg iter:Hb)(wi:TI):Prop:=
 ∀(B2:Vp) (s:l_) (σ:St) (H:Hp) (R:It->Hp->Prop),B6 X B2 σ H s->wi σ H R ->
  w_ (B_ X.prog X.w) X.A (Ga iter X.env) (λv s1=>w_ (B_ X.prog X.w) X.A (O9 v) (PIE X B2 σ tg R) X.xe s1) X.xe s
def go_of{M : PH}{A : HQ}{E : h_ -> l_ -> Prop}{s : l_}{tg : Hb}{J : i_}{u : h_}{o : L7}{n : String}{vs : Array h_}{Q : Unit -> l_ -> Prop}(L : s.heap.get? J = a_ o)(a : o.cls = .type n)(Y : o.data = .fields vs)(U : ["enumerate", "zip", "dict_itemiterator", "dict_reverseitemiterator", "odict_iterator", "itertools.zip_longest", "itertools.pairwise"].contains n = c_)(B : Q () s): w_ M A (LS tg (.ref J) u) Q E s := by
  unfold LS;cases tg <;> first
    | exact g_ B
    | (cases u <;> first
        | exact g_ B
        | (refine b_ (MG L ?_)
           rw[a,Y];show w_ M A (if (["enumerate", "zip", "dict_itemiterator", "dict_reverseitemiterator", "odict_iterator", "itertools.zip_longest", "itertools.pairwise"].contains n && vs[0]?== a_ (Jc _)) = d_ then _ else _) Q E s;rw[x_ (by intro h; rw[U,Nd]at h; cases h)];exact g_ B))
def Itl(K:Pn)(a:i_):It:=
 ⟨λi H=>∃xs x,SqL K H a xs/\xs[i]?=a_ x,λi H x H'=>H'=H/\∀xs,SqL K H a xs->xs[i]?=a_ x,λi H=>∃xs,SqL K H a xs/\xs.length<=i⟩
def Itt(K:Pn)(a:i_):It:=
 ⟨λi H=>∃xs x,SqT K H a xs/\xs[i]?=a_ x,λi H x H'=>H'=H/\∀xs,SqT K H a xs->xs[i]?=a_ x,λi H=>∃xs,SqT K H a xs/\xs.length<=i⟩
noncomputable def Itr(lo:Int)(n:Nat):It:=⟨λi _=>i<n,λi H x H'=>H'=H/\x=.int (lo+i),λi _=>n<=i⟩
theorem vd(a B:i_):Turn P w K tg (Itl K a) [B] B (λi h=>h.IsListIter B a i) where
 mem:=by simp
 obj:=λi h st b J=>by
  have e:b=B:=by simpa using J
  subst e;obtain⟨o,e,c,d⟩:=st
  simp_all
 keep:=λi h h' st k=>st.at λo e=>k B ad o e
 item:=by intro X l hw m r i B2 s σ H E I Y st j;subst l hw m;obtain⟨xs,x,U,g⟩:=j;obtain⟨its,f,p,v⟩:=I.list U;obtain⟨u,C,t⟩:=f.get g;obtain⟨q,n,z,f3,f4,f5⟩:=Y B ad;refine O5 st p.isList (x:=u) bi λh' L sb=>?_;have A:B6 X B2 σ H {s with heap:=h'}:=I.turned (t':=s.toks) (λb o J e=>(sb.2 b J).trans e) q n f3 f4 f5;obtain⟨o,e,c,d⟩:=id L;exact⟨u,rfl,go_of (s:={s with heap:=h'}) e c d am ⟨x,H,A,t,⟨rfl,λys y=>by rw[I.oz y U];exact g⟩,L,λb J=>(Y b J).1⟩⟩
 done:=by intro X l hw m r i B2 s σ H E I Y st j;subst l hw m;obtain⟨xs,U,g⟩:=j;obtain⟨its,f,p,v⟩:=I.list U;obtain⟨q,n,z,f3,f4,f5⟩:=Y B ad;have D:=f.length;exact Pk (I.ok.hd r) st p.isList bi λh' eb=>⟨rfl,I.turned (t':=s.toks) (λb o J e=>eb b o J e) q n f3 f4 f5⟩
 self:=λ_ _ _ _ _ st h=>wpAny_pyIter_listiter st h
theorem Bc(a B:i_):Turn P w K tg (Itt K a) [B] B (λi h=>h.IsTupleIter B a i) where
 mem:=by simp
 obj:=λi h st b J=>by
  have e:b=B:=by simpa using J
  subst e;obtain⟨o,e,c,d⟩:=st
  simp_all
 keep:=λi h h' st k=>st.at λo e=>k B ad o e
 item:=by intro X l hw m r i B2 s σ H E I Y st j;subst l hw m;obtain⟨xs,x,U,g⟩:=j;obtain⟨its,f,p,v⟩:=I.tuple U;obtain⟨u,C,t⟩:=f.get g;obtain⟨q,n,z,f3,f4,f5⟩:=Y B ad;refine wpAny_pyNext_tuple_item st (show s.heap.IsTuple a its.toArray from p) (x:=u) bi λh' L sb=>?_;have A:B6 X B2 σ H {s with heap:=h'}:=I.turned (t':=s.toks) (λb o J e=>(sb.2 b J).trans e) q n f3 f4 f5;obtain⟨o,e,c,d⟩:=id L;exact⟨u,rfl,go_of (s:={s with heap:=h'}) e c d am ⟨x,H,A,t,⟨rfl,λys y=>by rw[I.lN y U];exact g⟩,L,λb J=>(Y b J).1⟩⟩
 done:=by intro X l hw m r i B2 s σ H E I Y st j;subst l hw m;obtain⟨xs,U,g⟩:=j;obtain⟨its,f,p,v⟩:=I.tuple U;obtain⟨q,n,z,f3,f4,f5⟩:=Y B ad;have D:=f.length;exact wpAny_pyNext_tuple_end (I.ok.hd r) st (show s.heap.IsTuple a its.toArray from p) bi λh' eb=>⟨rfl,I.turned (t':=s.toks) (λb o J e=>eb b o J e) q n f3 f4 f5⟩
 self:=λ_ _ _ _ _ st h=>wpAny_pyIter_tupleiter st h
theorem Be(B:i_)(lo:Int)(n:Nat):Turn P w K tg (Itr lo n) [B] B (λi h=>IsRangeIter h B (lo+(i:Nat)*1) ((n:Int)-(i:Nat)) 1) where
 mem:=by simp
 obj:=λi h st b L=>by simp_all
 keep:=λi h h' st k=>k B ad _ st
 item:=by
  intro X c hw d a i B2 s σ H E I U st Y;subst c hw d;obtain⟨g,f,m,f3,f4,f5⟩:=U B ad;have W:=Walks.range (prog:=X.prog) (w:=X.w) (I.ok.hd a) B lo 1 n;refine W.item i s _ _ Y st λv h' tk l J j=>?_;obtain⟨t,rfl⟩:=l;have p:B6 X B2 σ H {s with heap:=h',toks:=tk}:=I.turned (λb o L e=>j b o bi e) g f f3 f4 f5;refine⟨_,rfl,go_of (s:={s with heap:=h',toks:=tk}) (n:="range_iterator") J rfl rfl am ⟨.int (lo+i),H,p,⟨t,?_⟩,⟨rfl,rfl⟩,J,λb L=>(U b L).1⟩⟩
  simp
 done:=by intro X c hw d a i B2 s σ H E I U st Y;subst c hw d;obtain⟨g,f,m,f3,f4,f5⟩:=U B ad;exact wpAny_pyNext_range_end (I.ok.hd a) st (by have:n<=i:=Y;lia) λh' eb=>⟨rfl,I.turned (t':=s.toks) (λb o L e=>eb b o L e) g f f3 f4 f5⟩
 self:=λ_ _ _ _ _ st h=>wpAny_pyIter_rangeiter st h
theorem zW{s:l_}{R:It->Hp->Prop}{lo hi:Int}{t u v:Tok}{tk:Nat}(I:B6 X B2 σ H s)(h1: -(2^62)<=lo)(Y:lo<2^62)(U: -(2^62)<=hi)(L:hi<2^62)(q:R (Itr lo (hi-lo).toNat) H):w_ (B_ X.prog X.w) X.A (O9 (.ref s.heap.objs.size)) (PIE X B2 σ tg R) E {s with heap:=s.heap.push {cls:=.type "range",data:=.fields #[.int lo t,.int hi u,.int 1 v]},toks:=tk}:=by
 refine wpAny_pyIter_range (IsRange.new ..) (QF h1 Y U L) ?_;have B:B6 X B2 σ H {s with heap:=s.heap.push {cls:=.type "range",data:=.fields #[.int lo t,.int hi u,.int 1 v]},toks:=tk}:=I.kept λb o e=>e_ _ e;refine⟨(s.heap.push {cls:=.type "range",data:=.fields #[.int lo t,.int hi u,.int 1 v]}).objs.size,[(s.heap.push {cls:=.type "range",data:=.fields #[.int lo t,.int hi u,.int 1 v]}).objs.size],_,_,H,rfl,
  B.kept (t':=tk) λb o e=>e_ _ e,Be _ lo (hi-lo).toNat,?_,λb J=>?_,q⟩
 .have e1:lo+((0:Nat):Int)*1=lo:=by simp
  have e2:(((hi-lo).toNat:Nat):Int)-((0:Nat):Int)=Jp lo hi 1:=by rw[Oq];split<;>lia
  show IsRangeIter _ _ (lo+((0:Nat):Int)*1) ((((hi-lo).toNat:Nat):Int)-((0:Nat):Int)) 1;rw[e1,e2];exact o_ _ rfl
 .have e:b=(s.heap.push {cls:=.type "range",data:=.fields #[.int lo t,.int hi u,.int 1 v]}).objs.size:=by simpa using J
  subst e;exact B.fpOk (k_ _) (B.hok.fresh (k_ _))
def iRng1(ta:TA):TI:=λσ H R=>ta σ H λvs H1=>∃j:Int,vs=[.int j]/\ -(2^62)<=j/\j<2^62/\R (Itr 0 j.toNat) H1
def iRng2(ta:TA):TI:=λσ H R=>ta σ H λvs H1=>∃i j:Int,vs=[.int i,.int j]/\(-(2^62)<=i/\i<2^62/\ -(2^62)<=j/\j<2^62)/\R (Itr i (j-i).toNat) H1
theorem Dq{a:Hb}{ta:TA}(b:Gl X "range")(Y:X.mg "range"=f_)(c:PA X [a] ta)(L: ~~~(j_ [a] X.env=[(c_,Ga a X.env)])):PI X tg (.Call (.Name "range" p) [a] [] pos) (iRng1 ta):=by
 intro B2 s σ H R I h;refine OZ (jd I b Y N2 (GB (E' (c pos B2 s σ H _ I h) λus s1 U=>?_) L rfl));obtain⟨vs,H1,d,J,q1⟩:=U;obtain⟨j,e,q1,q2,q⟩:=q1;subst e;cases J with
 |cons r B=>cases B;obtain⟨t,rfl⟩:=r;exact call_range_1 (zW d ac ac q1 q2 bi)
theorem Dp{a b:Hb}{ta:TA}(f:Gl X "range")(d:X.mg "range"=f_)(g:PA X [a,b] ta)(l: ~~~(j_ [a,b] X.env=[(c_,Ga a X.env),(c_,Ga b X.env)]))(J: ~~~(j_ [b] X.env=[(c_,Ga b X.env)])):
  PI X tg (.Call (.Name "range" p) [a,b] [] pos) (iRng2 ta):=by
 intro B2 s σ H R I h;refine OZ (jd I f d N2 (GB (E' (g pos B2 s σ H _ I h) λus s1 c=>?_) bi (by rw[J];rfl)));obtain⟨vs,H1,k,L,q1⟩:=c;obtain⟨i,j,e,⟨q1,q2,Y,U⟩,q⟩:=q1;subst e;cases L with
 |cons r B=>
  cases B with
  |cons r' B=>cases B;obtain⟨t,rfl⟩:=r;obtain⟨t',rfl⟩:=r';exact call_range_2 (zW k q1 q2 Y U q)
def tFor(wi:TI)(g:TG)(tb:TS):TS:=λD σ H=>wi σ H λJ H1=>∃W:Nat->Nat->St->Hp->Prop,(∃m,W 0 m σ H1)/\∀i m σ H,W i m σ H ->
 (J.stop i H/\D.nx σ H)\/(J.go i H/\∃N:St->Hp->Prop,(∀B H',N B H'->∃U,U<m/\W (i+1) U B H')/\∀x H',J.yld i H x H'->g x σ H' λL H2=>tb {D with nx:=N,ct:=N,bk:=D.nx} L H2)
def vO(fp:List i_)(h:Gr):Vp:=fp.filterMap λb=>(h.get? b).map λo=>(b,o)
theorem kf{o:L7}(B:b∈fp)(e:h.get? b=a_ o):(b,o)∈vO fp h:=Iq.mpr ⟨b,B,bi⟩
theorem DC{p:i_×L7}(B:p∈vO fp h):p.1∈fp/\h.get? p.1=a_ p.2:=by
 obtain⟨b,J,e⟩:=Iq.mp B;cases q:h.get? b with
 |none=>simp_all|some o=>grind
theorem B6.pinned{s:l_}(I:B6 X B2 σ H s)(J:∀b∈fp,Cq X B2 H b)(U:∀b∈fp,∃o,s.heap.get? b=a_ o/\∀v,o.data≠.cell v):B6 X (B2++vO fp s.heap) σ H s:=
 I.tK λp B=>(FL.mp B).elim (λz=>I.pin p (FW _ z)) λz=>by
  obtain⟨L,e⟩:=DC z;obtain⟨c,a,Y,_⟩:=J p.1 L
  grind
def B6.sR{pl:Vp}{s:l_}(I:B6 X (B2++pl) σ H s):B6 X B2 σ H s:=I.tK λp B=>I.pin p (FW _ (He _ B))
def ps_for{iter:Hb}{wi:TI}{g:TG}{tb:TS}(L:OT (B_ X.prog X.w) X.A X.env X.xe)(Z:X.calm=d_)(hi:PI X tg iter wi)(hg:PG X tg g)(c:PSs X body tb)(hs:autoParam (∀x,Ht iter X.env x=GU x) Jq3):PS X (.For tg iter body [] pos) (tFor wi g tb):=by
 intro B2 s σ H D I h;refine wpAny_For (E' (hi B2 s σ H _ I h) λv s1 h1=>E' h1 λitv s2 h2=>?_) hs;obtain⟨it,fp,Q,J,H2,e,I2,T,F,f2,W,⟨m0,w0⟩,t⟩:=h2;subst e;have a:∀{H':Hp},(∀b∈fp,H' b=f_)->∀b∈fp,Cq X B2 H' b:=λhn b c=>⟨hn b c,(f2 b c).2⟩
 refine codeAny_forLoop_any (λn s'=>∃i Y H',B6 X B2 Y H' s'/\Q i s'.heap/\(∀b∈fp,H' b=f_)/\W i n Y H') ?_ m0 ⟨0,σ,H2,I2,F,λb c=>(f2 b c).1,w0⟩;rintro n S ⟨i,U,C,I3,y,A,w3⟩;rcases t i n U C w3 with⟨w,qn⟩|⟨go,N,hN,step⟩
 .refine Jm L (E' (T.done X rfl rfl rfl Z i B2 S U C X.xe I3 (a A) y w) λr s4 L=>?_);obtain⟨K,I4⟩:=L;subst K;exact LR ⟨U,C,I4,qn⟩
 .refine Jm L (E' (T.item X rfl rfl rfl Z i B2 S U C X.xe I3 (a A) y go) λr s4 L=>?_);obtain⟨u,K,h4⟩:=L;subst K;refine Jm L (E' h4 λ_ R L=>?_);obtain⟨x,H5,I5,r5,y5,q,O⟩:=L;have P:=I5.pinned (a O) (T.obj _ _ q);refine Jm L (E' (hg _ R U H5 x u _ P r5 (step x H5 y5)) λ_ s6 L=>?_);obtain⟨E,H6,I6,q6⟩:=L;refine Jm L (E' (c _ s6 E H6 _ I6 q6) λf G p=>?_);have j:∀{B:St} {l:Hp},B6 X (B2++vO fp R.heap) B l G->N B l->∃m,m<n/\∃i Y H',B6 X B2 Y H' G/\Q i G.heap/\(∀b∈fp,H' b=f_)/\W i m Y H':=λ{B l} k z=>by
   obtain⟨m',hm,w7⟩:=hN B l z;refine⟨m',hm,i+1,B,l,k.sR,T.keep _ _ _ q λb c o e=>(k.pin (b,o) (FW _ (FW _ (kf c e)))).1,λb c=>?_,w7⟩
   obtain⟨o,e,d⟩:=T.obj _ _ q b c;exact(k.pin (b,o) (FW _ (FW _ (kf c e)))).2.1
  cases f with
  |next=>obtain⟨B,l,k,z⟩:=p;exact j k z
  |cont=>obtain⟨B,l,k,z⟩:=p;exact j k z
  |brk=>obtain⟨B,l,k,p⟩:=p;exact⟨B,l,k.sR,p⟩
  |ret v=>obtain⟨x7,B,l,k,r7,p⟩:=p;exact⟨x7,B,l,k.sR,r7,p⟩
abbrev R2:=V->V->Hp->VK->Prop
variable{r r':R2}
def OpR(X:Cx)(f:h_->h_->Ln h_)(r:R2):Prop:=
 ∀(B2:Vp) (s:l_) (σ:St) (H:Hp) (x y:V) (v u:h_) (Q:VK),B6 X B2 σ H s->C' x v->C' y u->r x y H Q ->
  w_ (B_ X.prog X.w) X.A (f v u) (EP X B2 σ Q) X.xe s
def UnR(X:Cx)(f:h_->Ln h_)(r:V->Hp->VK->Prop):Prop:=
 ∀(B2:Vp) (s:l_) (σ:St) (H:Hp) (x:V) (v:h_) (Q:VK),B6 X B2 σ H s->C' x v->r x H Q ->
  w_ (B_ X.prog X.w) X.A (f v) (EP X B2 σ Q) X.xe s
def fW(X:Cx)(f:h_)(r:bp->Hp->VK->Prop):Prop:=
 ∀(B2:Vp) (s:l_) (σ:St) (H:Hp) (xs:bp) (us:bv) (Q:VK),B6 X B2 σ H s->D' xs us->r xs H Q ->
  w_ (B_ X.prog X.w) X.A (Ka f us) (EP X B2 σ Q) X.xe s
def TruR(X:Cx)(r:V->Hp->(Bool->Hp->Prop)->Prop):Prop:=
 ∀(B2:Vp) (s:l_) (σ:St) (H:Hp) (x:V) (v:h_) (Q:Bool->Hp->Prop),B6 X B2 σ H s->C' x v->r x H Q ->
  w_ (B_ X.prog X.w) X.A (truthy v) (TP X B2 σ Q) X.xe s
noncomputable def tOp(r:R2)(ta tb:TE):TE:=λσ H Q=>ta σ H λx H1=>tb σ H1 λy H2=>r x y H2 Q
noncomputable def tUn(r:V->Hp->VK->Prop)(ta:TE):TE:=λσ H Q=>ta σ H λx H1=>r x H1 Q
noncomputable def rI(C:Int->Int->Prop)(g:Int->Int->V):R2:=λx y H Q=>∃i j,x=.int i/\y=.int j/\C i j/\Q (g i j) H
noncomputable def rI0(g:Int->Int->V):R2:=λx y H Q=>∃i j,x=.int i/\y=.int j/\Q (g i j) H
def rU(g:Int->V):V->Hp->VK->Prop:=λx H Q=>∃i,x=.int i/\Q (g i) H
section
variable{a b:Hb}
def binT(e:PE X a ta)(d:PE X b tb){s:l_}{R:V->V->Hp->Prop}(I:B6 X B2 σ H s)(h:ta σ H λx H1=>tb σ H1 λy H2=>R x y H2){Q:Mq}{f:h_->h_->Ln h_}(c:∀v u s2 x y H2,B6 X B2 σ H2 s2->C' x v->C' y u->R x y H2->w_ (B_ X.prog X.w) X.A (f v u) Q X.xe s2):
  w_ (B_ X.prog X.w) X.A (Ga a X.env) (λv J=>w_ (B_ X.prog X.w) X.A (Ga b X.env) (λu B=>w_ (B_ X.prog X.w) X.A (f v u) Q X.xe B) X.xe J) X.xe s:=by
 refine E' (e B2 s σ H _ I h) λv s1 L=>?_;obtain⟨x,H1,i,Y,q1⟩:=L;refine E' (d B2 s1 σ H1 _ i q1) λu s2 L=>?_;obtain⟨y,H2,g,U,q2⟩:=L;exact c v u s2 x y H2 g Y U q2
def pe_op{op:Operator}(L:OpR X (Io op) r)(Y:PE X a ta)(U:PE X b tb):PE X (.BinOp a op b pos) (tOp r ta tb):=by intro B2 s σ H Q I h;exact wpAny_BinOp (binT Y U I h λv u s2 x y H2 c J B q=>L B2 s2 σ H2 x y v u Q c J B q)
def pe_un{op:UnaryOp}{r:V->Hp->VK->Prop}(L:UnR X (Qs op) r)(U:PE X a ta):PE X (.UnaryOp op a pos) (tUn r ta):=by intro B2 s σ H Q I h;refine UnaryOp_ (E' (U B2 s σ H _ I h) λv s1 J=>?_);obtain⟨x,H1,Y,B,q1⟩:=J;exact L B2 s1 σ H1 x v Q Y B q1
def opI{f:h_->h_->Ln h_}{C:Int->Int->Prop}(B:∀(i j:Int) (t u:Tok) (s:l_) (Q:Mq) (E:Mq),C i j->Q (.int (g i j) s.toks) {s with toks:=s.toks+1}->w_ (B_ X.prog X.w) X.A (f (.int i t) (.int j u)) Q E s):
  OpR X f (rI C λi j=>.int (g i j)):=by
 intro B2 s σ H x y v u Q I L J h;obtain⟨i,j,rfl,rfl,U,q⟩:=h;obtain⟨t,rfl⟩:=L;obtain⟨t',rfl⟩:=J;exact B i j t t' s _ _ U ⟨.int (g i j),H,I.tok _,⟨_,rfl⟩,q⟩
def opI0{f:h_->h_->Ln h_}(B:∀(i j:Int) (t u:Tok) (s:l_) (Q:Mq) (E:Mq),Q (.int (g i j) s.toks) {s with toks:=s.toks+1}->w_ (B_ X.prog X.w) X.A (f (.int i t) (.int j u)) Q E s):
  OpR X f (rI0 λi j=>.int (g i j)):=by
 intro B2 s σ H x y v u Q I L J h;obtain⟨i,j,rfl,rfl,q⟩:=h;obtain⟨t,rfl⟩:=L;obtain⟨t',rfl⟩:=J;exact B i j t t' s _ _ ⟨.int (g i j),H,I.tok _,⟨_,rfl⟩,q⟩
def opB0{f:h_->h_->Ln h_}{g:Int->Int->Bool}(B:∀(i j:Int) (t u:Tok) (s:l_) (Q:Mq) (E:Mq),Q (.bool (g i j)) s->w_ (B_ X.prog X.w) X.A (f (.int i t) (.int j u)) Q E s):
  OpR X f (rI0 λi j=>.bl (g i j)):=by
 intro B2 s σ H x y v u Q I L J h;obtain⟨i,j,rfl,rfl,q⟩:=h;obtain⟨t,rfl⟩:=L;obtain⟨t',rfl⟩:=J;exact B i j t t' s _ _ ⟨.bl (g i j),H,I,rfl,q⟩
def CPow(i j:Int):Prop:=0<=j/\j<=1000000/\i.natAbs<2^64
def CMul(i j:Int):Prop:=(-(2^64)<i/\i<2^64)\/(-(2^64)<j/\j<2^64)
def CMul.ok{i j:Int}(h:CMul i j):IntMulOk i j:=by
 rcases h with⟨h1,B⟩|⟨h1,B⟩
 .exact .of_left (intBits_le_64 h1 B)
 .exact .of_right (intBits_le_64 h1 B)
def op_add:OpR X (Io .Add) (rI0 λi j=>.int (i+j)):=opI0 λ_ _ _ _ _ _ _ q=>add_int q
def op_sub:OpR X (Io .Sub) (rI0 λi j=>.int (i-j)):=opI0 λ_ _ _ _ _ _ _ q=>sub_int q
def op_mul:OpR X (Io .Mult) (rI CMul λi j=>.int (i*j)):=opI λ_ _ _ _ _ _ _ B q=>mul_int q B.ok
theorem op_mod:OpR X (Io .Mod) (rI (λ_ j=>0<j) λi j=>.int (i%j)):=opI λi j _ _ _ _ _ B q=>by have h1:(0:Int)<j:=B;exact mod_int' ac (by rw[Int.fmod_eq_emod_of_nonneg i ac];exact q)
def op_pow:OpR X (Io .Pow) (rI CPow λi j=>.int (i^j.toNat)):=opI λ_ _ _ _ _ _ _ B q=>pow_int_small B.1 B.2.1 B.2.2 q
def unI{f:h_->Ln h_}{g:Int->Int}(B:∀(i:Int) (t:Tok) (s:l_) (Q:Mq) (E:Mq),Q (.int (g i) s.toks) {s with toks:=s.toks+1}->w_ (B_ X.prog X.w) X.A (f (.int i t)) Q E s):
  UnR X f (rU λi=>.int (g i)):=by
 intro B2 s σ H x v Q I J h;obtain⟨i,rfl,q⟩:=h;obtain⟨t,rfl⟩:=J;exact B i t s _ _ ⟨.int (g i),H,I.tok _,⟨_,rfl⟩,q⟩
def un_neg:UnR X (Qs .USub) (rU λi=>.int (-i)):=unI λ_ _ _ _ _ q=>neg_int q
end
noncomputable def scal:V->V->Bool
 |.non,.non=>d_|.non,.int _=>d_|.int _,.non=>d_|.non,.bl _=>d_|.bl _,.non=>d_|.int _,.int _=>d_|.bl _,.bl _=>d_|_,_=>c_
def rNe:R2:=λx y H Q=>scal x y=d_/\Q (.bl (!decide (x=y))) H
def dec_int{i j:Int}:A_ (V.int i=V.int j)=(i==j):=by rw[Ll];simp
def dec_bl{i j:Bool}:A_ (V.bl i=V.bl j)=(i==j):=by rw[Ll];simp
section
variable{a b:Hb}{tc:TE}
def ig{s:l_}{Q:VK}{k k':Bool}(I:B6 X B2 σ H s)(q:Q (.bl k) H)(e:k=k'):EP X B2 σ Q (.bool k') s:=by subst e;exact⟨.bl k,H,I,rfl,q⟩
def op_ne:OpR X (Gy .NotEq) rNe:=by
 intro B2 s σ H x y v u Q I L B h;obtain⟨J,q⟩:=h;cases x with
 |non=>
  cases L;cases y with
  |non=>cases B;exact PySem.EqNone.ne_none_none (ig I q ad)|bl j=>cases B;exact PySem.EqNone.ne_none_bool (ig I q ad)|int j=>obtain⟨t',rfl⟩:=B;exact PySem.EqNone.ne_none_int (ig I q ad)
  |_=>exact FZ (show c_=d_ from J) GJ
 |bl i=>
  cases L;cases y with
  |non=>cases B;exact PySem.EqNone.ne_bool_none (ig I q ad)|bl j=>cases B;exact ne_bool (ig I q (IV not dec_bl))|_=>exact FZ (show c_=d_ from J) GJ
 |int i=>
  obtain⟨t,rfl⟩:=L;cases y with
  |non=>cases B;exact PySem.EqNone.ne_int_none (ig I q ad)|int j=>obtain⟨t',rfl⟩:=B;exact ne_int (ig I q (IV not dec_int))
  |_=>exact FZ (show c_=d_ from J) GJ
 |_=>cases y<;>exact FZ (show c_=d_ from J) GJ
def op_lt:OpR X (Gy .Lt) (rI0 λi j=>.bl (A_ (i<j))):=opB0 λ_ _ _ _ _ _ _ q=>OY q
def op_le:OpR X (Gy .LtE) (rI0 λi j=>.bl (A_ (i<=j))):=opB0 λ_ _ _ _ _ _ _ q=>le_int q
def op_gt:OpR X (Gy .Gt) (rI0 λi j=>.bl (A_ (j<i))):=opB0 λ_ _ _ _ _ _ _ q=>gt_int q
def op_ge:OpR X (Gy .GtE) (rI0 λi j=>.bl (A_ (j<=i))):=opB0 λ_ _ _ _ _ _ _ q=>ge_int q
def op_isN:OpR X (Gy .Is) (λx y H Q=>y=.non/\Q (.bl (A_ (x=.non))) H):=by
 intro B2 s σ H x y v u Q I B J h;obtain⟨rfl,q⟩:=h;cases J;refine is_none_gen (ig I q ?_);cases x<;>first
  |(cases B;rfl)
  |(obtain⟨t,rfl⟩:=B;rfl)
def op_notN:OpR X (Gy .IsNot) (λx y H Q=>y=.non/\Q (.bl (!decide (x=.non))) H):=by
 intro B2 s σ H x y v u Q I B J h;obtain⟨rfl,q⟩:=h;cases J;refine isnot_none_gen (ig I q ?_);cases x<;>first
  |(cases B;rfl)
  |(obtain⟨t,rfl⟩:=B;rfl)
def OpR.or{f:h_->h_->Ln h_}(h:OpR X f r)(h':OpR X f r'):OpR X f (λx y H Q=>r x y H Q\/r' x y H Q):=by
 intro B2 s σ H x y v u Q I J B q;rcases q with q|q
 .exact h B2 s σ H x y v u Q I J B q
 .exact h' B2 s σ H x y v u Q I J B q
theorem DH(b:Hb)(h:(op≠.In)⁻¹)(B:(op≠.NotIn)⁻¹):Km op b=c_:=by
 have e1:(op==CmpOp.In)=c_:=by cases op<;>first|rfl|simp_all
 have e2:(op==CmpOp.NotIn)=c_:=by cases op<;>first|rfl|simp_all
 cases b<;>simp[Km,e1,e2]
def pe_cmpR(L:OpR X (Gy op) r)(c:PE X a ta)(Y:PE X b tb)(U:Km op b=c_):PE X (.Compare a [op] [b] pos) (tOp r ta tb):=by intro B2 s σ H Q I h;exact wpAny_Compare1 (binT c Y I h λv u s2 x y H2 d J B q=>L B2 s2 σ H2 x y v u Q d J B q) U
def tTest(t:TE):TT:=λσ H Q=>t σ H λx H'=>∃k,x=.bl k/\Q k H'
def Di(Y:OpR X (Gy op) r)(g:PE X a ta)(f:PE X b tb)(d:Km op b=c_):PT X (.Compare a [op] [b] pos) (tTest (tOp r ta tb)):=by
 intro B2 s σ H Q I h;refine wpAny_isTrue_Compare1 (E' (g B2 s σ H _ I h) λv s1 ⟨x,H1,l,L,q1⟩=>E' (f B2 s1 σ H1 _ l q1) λu s2 ⟨y,H2,j,J,q2⟩=>E' (Y B2 s2 σ H2 x y v u _ j L J q2) λc n ⟨z,m,i,B,k,e,U⟩=>?_) d
 subst e;cases B;exact G4 ⟨m,i,U⟩
def CS(r r':R2)(ta tb tc:TE):TE:=λσ H Q=>ta σ H λx H1=>tb σ H1 λy H2=>r x y H2 λz B=>∃k,z=.bl k /\
 (if k=d_ then tc σ B λJ L=>r' y J L Q else Q (.bl c_) B)
def pe_chain(p:OpR X (Gy op) r)(B:OpR X (Gy op') r')(A:PE X a ta)(w:PE X b tb)(t:PE X c tc)(q:autoParam (OG [op,op'] [b,c]=c_) Jq7):PE X (.Compare a [op,op'] [b,c] pos) (CS r r' ta tb tc):=by
 intro B2 s σ H Q I h;refine Compare_chain (E' (A B2 s σ H _ I h) λv s1 ⟨x,H1,E,n,q1⟩=>chain_link (E' (w B2 s1 σ H1 _ E q1) λu s2 ⟨y,H2,D,J,q2⟩=>E' (p B2 s2 σ H2 x y v u _ D n J q2) λd j ⟨z,Y,U,m,k,e,L⟩=>?_)) q
 subst e;cases m;refine G4 ?_;cases k with
 |false=>exact ite_ff ⟨.bl c_,Y,U,rfl,L⟩|true=>exact ite_tt (chain_last (E' (t B2 j σ Y _ U L) λg i ⟨f,F,C,l,o⟩=>B B2 i σ F y f u g Q C J l o))
def pt_chain(A:OpR X (Gy op) r)(J:OpR X (Gy op') r')(F:PE X a ta)(E:PE X b tb)(D:PE X c tc)(C:autoParam (OG [op,op'] [b,c]=c_) Jq7):PT X (.Compare a [op,op'] [b,c] pos) (tTest (CS r r' ta tb tc)):=by
 intro B2 s σ H Q I h;refine isTrue_chain (E' (F B2 s σ H _ I h) λv s1 ⟨x,H1,P,p,q1⟩=>test_link (E' (E B2 s1 σ H1 _ P q1) λu s2 ⟨y,H2,O,L,q2⟩=>E' (A B2 s2 σ H2 x y v u _ O p L q2) λd l ⟨z,f,Y,o,k,e,U⟩=>?_)) C
 subst e;cases o;refine G4 ?_;cases k with
 |false=>obtain⟨k',G,w⟩:=U;cases G;exact ite_ff ⟨f,Y,w⟩
 |true=>refine ite_tt (test_last (E' (D B2 l σ f _ Y U) λi j B=>?_));obtain⟨g,S,N,n,t⟩:=B;refine E' (J B2 j σ S y g u i _ N L n t) λd' W B=>?_;obtain⟨T,R,K,m,k2,e2,q⟩:=B;subst e2;cases m;exact G4 ⟨R,K,q⟩
def TruV(K:Pn)(x:V)(H:Hp)(k:Bool):Prop:=
 match x with
 |.non=>k=c_|.bl b=>k=b|.int i=>k=(i != 0)|.ref p=>(∃xs,SqL K H p xs/\k= !xs.isEmpty)\/∃xs,SqT K H p xs/\k= !xs.isEmpty
 |_=>False
def rR{its:bv}(r:D' xs its):(!its.toArray.isEmpty)= !xs.isEmpty:=by cases r<;>simp
def wo:(q_:Nat)<2^63:=by simp[JW]
theorem tru_ok:TruR X (λx H Q=>∃k,TruV X.K x H k/\Q k H):=by
 intro B2 s σ H x v Q I L h;obtain⟨k,e,q⟩:=h;have c:=wo;have a:q_=16777216:=JW;cases x with
 |non=>cases L;have B:k=c_:=e;subst B;exact truthy_none ⟨H,I,q⟩|bl b=>cases L;have B:k=b:=e;subst B;exact G4 ⟨H,I,q⟩|int i=>obtain⟨t,rfl⟩:=L;have B:k=(i != 0):=e;subst B;exact PySem.P.truthy_int ⟨H,I,q⟩
 |ref p=>
  cases L;have B:(∃xs,SqL X.K H p xs/\k= !xs.isEmpty)\/∃xs,SqT X.K H p xs/\k= !xs.isEmpty:=e;rcases B with⟨xs,U,B⟩|⟨xs,U,B⟩
  .subst B;obtain⟨its,r,pl,Y⟩:=I.list U;have J:=r.length;exact wpAny_truthy_list pl.isList be ⟨H,I.tok _,by rw[rR r];exact q⟩
  .subst B;obtain⟨its,r,pl,Y⟩:=I.tuple U;have J:=r.length;exact truthy_tuple pl be ⟨H,I.tok _,by rw[rR r];exact q⟩
 |_=>exact(show False from e).elim
def pt_truth(Y:PE X a ta)(U:∀B,O_ a X.env B=(do let v <- B;K_ a.pos;IL [v] (truthy v))):
  PT X a (λσ H Q=>ta σ H λx H'=>∃k,TruV X.K x H' k/\Q k H'):=by
 intro B2 s σ H Q I h;refine isTrue_plain (E' (Y B2 s σ H _ I h) λv s1 L=>?_) (U _);obtain⟨x,H1,b,J,q1⟩:=L;exact tru_ok B2 s1 σ H1 x v Q b J q1
def vals1{x:V}(r:D' [x] us):∃u,us=[u]/\C' x u:=by
 cases r with
 |cons J B=>cases B;exact⟨_,rfl,J⟩
def vals2{x:V}(r:D' [x,y] us):∃u B,us=[u,B]/\C' x u/\C' y B:=by
 cases r with
 |cons Y U=>
  cases U with
  |cons L J=>cases J;exact⟨_,_,rfl,Y,L⟩
def Fi(J:X.calm=d_):fW X (.builtin "max") (λxs H Q=>∃i j,xs=[.int i,.int j]/\Q (.int (if j>i then j else i)) H):=by
 intro B2 s σ H xs us Q I r h;obtain⟨i,j,rfl,q⟩:=h;obtain⟨u,L,rfl,⟨t,rfl⟩,⟨t',rfl⟩⟩:=vals2 r;refine max_two_ints (I.ok.hd J) λh' tk k=>⟨_,H,I.kept k,?_,q⟩
 by_cases B:j>i
 .rw[u_ B,u_ B];exact⟨_,rfl⟩
 .rw[x_ B,x_ B];exact⟨_,rfl⟩
def Fg(J:X.calm=d_):fW X (.builtin "min") (λxs H Q=>∃i j,xs=[.int i,.int j]/\Q (.int (if j<i then j else i)) H):=by
 intro B2 s σ H xs us Q I r h;obtain⟨i,j,rfl,q⟩:=h;obtain⟨u,L,rfl,⟨t,rfl⟩,⟨t',rfl⟩⟩:=vals2 r;refine min_two_ints (I.ok.hd J) λh' tk k=>⟨_,H,I.kept k,?_,q⟩
 by_cases B:j<i
 .rw[u_ B,u_ B];exact⟨_,rfl⟩
 .rw[x_ B,x_ B];exact⟨_,rfl⟩
end
structure ObjM(h:Gr)(x dx C:i_)(mA:Ld):Prop where
 obj:h.get? x=a_ (IA C dx)
 ns:h.Ns1 dx mA
 ne:dx≠x
theorem DZ(n:h.Ns1 dx mA):∃od,h.get? dx=a_ od/\∀name,lookIn name od=a_ (mA name):=by
 obtain⟨o,es,ep,L,b,Y,_,U⟩:=n;refine⟨o,L,λname=>?_⟩
 have e:=U name;unfold nsFind findBy at e;rw[<- Array.find?_toList]at e;unfold lookIn;rw[b];dsimp only;split
 .simp_all
 .rename_i q;rw[q]at e;have a:es.toList.any (·.refKey)=c_:=by
   rw[List.any_eq_false];intro y J;obtain⟨z,t,B⟩:=Y y (Array.mem_toList_iff.mp J);simp[DictEntry.refKey,B]
  grind
theorem ObjM.look{x:i_}(I:ObjM h x dx C mA):∃od,PySem.W.InstAt h x (IA C dx) C (a_ od)/\∀name,lookIn name od=a_ (mA name):=
 let ⟨od,B,J⟩:=DZ I.ns
 ⟨od,⟨I.obj,rfl,rfl,B⟩,J⟩
section
variable{prog:GH}{s:l_}{x f:i_}{v:h_}
theorem get_map{B:Bool}{Q:Mq}(X:K.In s.heap)(I:ObjM s.heap x dx C mA)(Y:NW K C name=d_)(U:OR K C=d_)(a:Kx K (.ref C) name=a_ f_)(b:mA name=a_ v)(L:Ou v=d_)(h:Q v {s with toks:=s.toks+1}):
  w_ (B_ prog w) A (getAttr (.ref x) name B) Q E s:=by
 obtain⟨od,J,c⟩:=I.look;exact PySem.W.get_value X J (Lx Y).1 (PySem.W.findObj_own U a rfl bi) L h
theorem get_meth{Q:h_×bv->l_->Prop}(X:K.In s.heap)(I:ObjM s.heap x dx C mA)(B:NW K C name=d_)(U:Kx K (.ref C) name=a_ (a_ (.ref f)))(L:isFn K (.ref f)=d_)(Y:mA name=f_)(h:Q (.ref f,[.ref x]) s):
  w_ (B_ prog w) A (Ml (.ref x) name pl) Q E s:=by
 obtain⟨od,J,a⟩:=I.look;exact PySem.W.method_fn X J (Lx B).1 (Lx B).2 U (beq_iff_eq.mp L) (by show(lookIn name od).map (·.isSome)=a_ c_;simp_all) h
theorem set_map{ns:List Gh}(X:K.In s.heap)(I:ObjM s.heap x dx C mA)(g:Kx K (.ref C) "__setattr__"=a_ (a_ (.builtin "object.__setattr__")))(i:QG K C=d_)(f:takerIn K C name=a_ f_)(j:OR K C=d_)(hw:NB mA ns)(hsz:ns.length<=q_)(h:∀h',ObjM h' x dx C (λy=>if y=name then a_ v else mA y)->Ju dx s.heap h'->Q () {s with heap:=h',toks:=s.toks+2}):
  w_ (B_ prog w) A (setAttr (.ref x) name v) Q E s:=by
 obtain⟨od,J,o⟩:=I.look;refine PySem.W.set_plain X J g (PySem.W.osa_open (s:={s with toks:=s.toks+1}) (r:=f_) X J i f λb=>?_);obtain⟨p,k,c⟩:=PySem.W.any_some j;have e:s.heap.get? x=a_ ⟨.ref C,a_ dx,.plain,#[]⟩:=I.obj;refine b_ (g_ (b_ (b_ (wpAny_loadPart e (b_ (Ox (s:={s with toks:=s.toks+1}) (PySem.W.looks_clsIn X k) ?_))))));rw[c];refine g_ (a:=a_ dx) (b_ (g_ (b_ ?_)));refine wpAny_nsSet1 (s:={s with toks:=s.toks+1}) I.ns λh' L B=>?_;obtain⟨n,l,m,U,Y,d⟩:=L.count (PySem.Within.cons name v hw);refine b_ (wpAny_lookBehind U (by rw[Y];exact pastItsLine_dict (Cb d bi)) ?_);exact g_ (h _ ⟨(B.2 _ (HM I.ne)).trans I.obj,L,I.ne⟩ B)
def make_map{R:Nj->l_->Prop}{vs:bv}(X:K.In s.heap)(J:Qy K C=d_)(hi:Kx K (.ref C) "__init__"=a_ (a_ (.ref f)))(L:PySem.W.typeIn K (.ref f)=a_ (.type "function"))(h:JJ (B_ prog w) (A.under (.builtin "type.__call__" ⟨.ref C::vs,kw⟩)) (.call (.ref f) ⟨.ref (s.heap.objs.size+1)::vs,kw⟩) (PySem.W.InitBack (s.heap.objs.size+1) R)
   {s with heap:=(s.heap.push HA).push (IA C s.heap.objs.size)}):
  JJ (B_ prog w) A (.call (.ref C) ⟨vs,kw⟩) R s:=by
 obtain⟨Y,g,d,t,U⟩:=s;exact PySem.W.make_core (PySem.W.makes_of X J) (PySem.W.looks_findIn X hi) (λB=>PySem.W.bind_fn X B L) (.inl rfl) h
end
def uZ(f:Gh)(v:V):List (Gh×V)->List (Gh×V)
 |[]=>[(f,v)]|(g,x)::r=>if g=f then(g,v)::r else(g,x)::uZ f v r
theorem pC(f g:Gh)(v:V):∀fs:List (Gh×V),(uZ f v fs).lookup g=if g=f then a_ v else fs.lookup g
 |[]=>by
  show GW g [(f,v)]=_
  grind
 |(k,x)::r=>by
  have B:=pC f g v r;rw[show uZ f v ((k,x)::r)=(if k=f then(k,v)::r else(k,x)::uZ f v r)from rfl]
  grind
theorem pG(f:Gh)(v:V):∀fs:List (Gh×V),f∈(uZ f v fs).map (·.1)/\∀g,g∈fs.map (·.1)->g∈(uZ f v fs).map (·.1)
 |[]=>⟨by simp[uZ],λg h=>by simp at h⟩|(k,x)::r=>by
  obtain⟨J,B⟩:=pG f v r;rw[show uZ f v ((k,x)::r)=(if k=f then(k,v)::r else(k,x)::uZ f v r)from rfl]
  grind
theorem pE(f:Gh)(v:V):∀fs:List (Gh×V),(uZ f v fs).length<=fs.length+1
 |[]=>by simp[uZ]|(k,x)::r=>by
  have B:=pE f v r;rw[show uZ f v ((k,x)::r)=(if k=f then(k,v)::r else(k,x)::uZ f v r)from rfl]
  grind
def AZ.some_of{o:Option h_}(r:AZ (a_ v) o):∃u,o=a_ u/\C' v u:=by
 cases o with
 |none=>exact(show False from r).elim|some u=>exact⟨u,rfl,r⟩
def AZ.none_of{o:Option h_}(r:AZ f_ o):o=f_:=by
 cases o with
 |none=>rfl|some u=>exact(show False from r).elim
def En(r:C' v u):Ou u=d_:=by
 cases v with
 |non=>cases(show u=Gu from r);rfl|bl b=>cases(show u=LZ b from r);rfl|int i=>obtain⟨t,e⟩:=(show ∃t,u=KS i t from r);cases e;rfl
 |ref a=>cases(show u=FJ a from r);rfl|ty n=>cases(show u=HD n from r);rfl
section
variable{fs:List (Gh×V)}
def yC(B:HOk H h)(e:H a=a_ (.ins C dx fs)):∃mA,ObjM h a dx C mA/\(∀f,AZ (fs.lookup f) (mA f))/\NB mA (fs.map (·.1))/\fs.length<=1000/\H dx=a_ (.own a):=by
 obtain⟨d,z,L,J,mA,n,r,q⟩:=(show gZ H h a (.ins C dx fs)from B a _ e)
 exact⟨mA,⟨J,n,L⟩,r,q,z,d⟩
end
structure Cls(K:Pn)(C:i_):Prop where
 pg:NW K C Str.empty=d_
 hd:OR K C=d_
 po:QG K C=d_
 sa:Kx K (.ref C) "__setattr__"=a_ (a_ (.builtin "object.__setattr__"))
def Cls.get(c:Cls K C)(f:Gh):NW K C f=d_:=c.pg
def jq(K:Pn)(C:i_)(f:Gh):Prop:=Kx K (.ref C) f=a_ f_
def jq.taker{f:Gh}(n:jq K C f):takerIn K C f=a_ f_:=by unfold takerIn;rw[show Kx K (.ref C) f=a_ f_ from n];rfl
structure Meth(K:Pn)(C:i_)(m:Gh)(f:i_):Prop where
 at_:Kx K (.ref C) m=a_ (a_ (.ref f))
 fn:isFn K (.ref f)=d_
 kp:Kw K (.ref f)=d_
section
variable{s:l_}{fs:List (Gh×V)}{f:Gh}
def BS{b:Bool}{Q:Mq}(I:B6 X B2 σ H s)(e:H a=a_ (.ins C dx fs))(c:Cls X.K C)(n:jq X.K C f)(l:fs.lookup f=a_ v)(h:∀u s',B6 X B2 σ H s'->C' v u->Q u s'):w_ (B_ X.prog X.w) A (getAttr (.ref a) f b) Q E s:=by obtain⟨mA,O,r,_,_,_⟩:=yC I.hok e;obtain⟨u,J,B⟩:=AZ.some_of (v:=v) (o:=mA f) (by rw[<- l];exact r f);exact get_map I.kIn O (c.get f) c.hd n J (En B) (h u _ (I.tok _) B)
def rT{g:i_}{Q:h_×bv->l_->Prop}(I:B6 X B2 σ H s)(e:H a=a_ (.ins C dx fs))(c:Cls X.K C)(k:Meth X.K C m g)(l:fs.lookup m=f_)(h:Q (.ref g,[.ref a]) s):w_ (B_ X.prog X.w) A (Ml (.ref a) m pl) Q E s:=by obtain⟨mA,O,r,_,_,_⟩:=yC I.hok e;have B:mA m=f_:=AZ.none_of (by rw[<- l];exact r m);exact get_meth I.kIn O (c.get m) k.at_ k.fn B h
theorem Bk(I:B6 X B2 σ H s)(e:H a=a_ (.ins C dx fs))(c:Cls X.K C)(n:jq X.K C f)(j:fs.length<1000)(J:C' y u)(h:∀s',B6 X B2 σ (upd H a (.ins C dx (uZ f y fs))) s'->Q () s'):w_ (B_ X.prog X.w) A (setAttr (.ref a) f u) Q E s:=by
 obtain⟨mA,O,r,wi,_,B⟩:=yC I.hok e;have L:(fs.map (·.1)).length<=q_:=by rw[n_,JW];lia
 refine set_map I.kIn O c.sa c.po n.taker c.hd wi L λh' O' sb=>h _ ?_;have Y:∃o,h'.get? dx=a_ o:=let ⟨o,_,_,i,_⟩:=O'.ns;⟨o,i⟩;refine I.write (x:=a) (e:=dx) (by rw[e];exact JY) (.inr B) (λb q d z=>(sb.2 b d).trans z) Y ?_;refine⟨by rw[aA O.ne];exact B,?_,O.ne,O'.obj,_,O'.ns,λg=>?_,λg U=>?_⟩
 .have:=pE f y fs;lia
 .show AZ ((uZ f y fs).lookup g) (if g=f then a_ u else mA g);rw[pC];by_cases q:g=f
  .rw[u_ q,u_ q];exact J
  simp_all
 .by_cases q:g=f
  .rw[q];exact(pG f y fs).1
  .refine(pG f y fs).2 g (wi g λz=>U ?_)
   simp_all
def B6.made(I:B6 X B2 σ H s):B6 X B2 σ (upd (upd H s.heap.objs.size (.own (s.heap.objs.size+1))) (s.heap.objs.size+1) (.ins C s.heap.objs.size []))
  {s with heap:=(s.heap.push HA).push (IA C s.heap.objs.size)}:=by
 have e1:(s.heap.push HA).get? s.z=a_ HA:=o_ s.heap rfl;have e2:((s.heap.push HA).push (IA C s.z)).get? (s.z+1)=a_ (IA C s.z):=by
  have:=o_ (s.heap.push HA) (o:=IA C s.z) rfl
  rwa [Hq]at this
 have e3:(s.heap.push HA).Ns s.z (λ_=>f_):=⟨HA,#[],_,e1,rfl,(λe L=>FZ L ad),λ_=>rfl⟩
 have U:=I.laid (a:=s.z) (o:=.own (s.z+1)) (h':=s.heap.push HA) (t':=s.toks) (λb u q=>e_ _ q) (k_ _) ⟨_,e1⟩;refine U.laid (a:=s.z+1) (o:=.ins C s.z []) (t':=s.toks) (λb u q=>e_ _ q) (JT (Hq _ _)) ?_;have B:s.z≠s.z+1:=FR (K8 _);refine⟨by rw[aA B,av],Gi _,B,e2,λ_=>f_,(Heap.Ns1.of_empty e3).at λo q=>e_ _ q,λ_=>JY,λy J=>FZ rfl J⟩
end
def tFld(K:Pn)(ta:TE)(f:Gh):TE:=λσ H Q=>ta σ H λx H1=>∃a C dx fs v,x=.ref a/\H1 a=a_ (.ins C dx fs)/\Cls K C/\jq K C f/\fs.lookup f=a_ v/\Q v H1
def sFld(K:Pn)(ta tv:TE)(f:Gh):TS:=λD σ H=>tv σ H λy H1=>ta σ H1 λx H2=>∃a C dx fs,x=.ref a/\H2 a=a_ (.ins C dx fs)/\Cls K C/\jq K C f/\fs.length<1000 /\
 D.nx σ (upd H2 a (.ins C dx (uZ f y fs)))
section
variable{o value:Hb}{f:Gh}{tv:TE}
def Du(U:PE X e ta)(Y:IW e f X.env (Ga e X.env)=Ga e X.env):PE X (.Attribute e f pos) (tFld X.K ta f):=by intro B2 s σ H Q I h;refine Attribute_any_ (E' (U B2 s σ H _ I h) λu s1 L=>?_) (by rw[arm_eval_Attribute,Y]);obtain⟨x,H1,d,B,a,C,dx,fs,v,ex,ea,c,n,l,q⟩:=L;subst ex;obtain rfl:u=FJ a:=B;exact BS d ea c n l λg s2 b J=>⟨v,H1,b,J,q⟩
def ps_fld(d:PE X o ta)(Y:PE X value tv)(b:HB value (a_ (.Attribute o f pos')) pos.line X.env=GU c_):PS X (.Assign [.Attribute o f pos'] value pos) (sFld X.K ta tv f):=by intro B2 s σ H D I h;refine plainObj_wpAny_Assign_Attribute (E' (Y B2 s σ H _ I h) λu s1 B=>?_) b;obtain⟨y,H1,i,J,q⟩:=B;refine E' (d B2 s1 σ H1 _ i q) λU s2 B=>?_;obtain⟨x,H2,g,L,a,C,dx,fs,ex,ea,c,n,l,q2⟩:=B;subst ex;obtain rfl:U=FJ a:=L;exact Bk g ea c n l J λj e=>⟨σ,_,e,q2⟩
end
structure jo(k:Nat)(A:HQ):Prop where
 hd:A.handled=f_
 dp:A.depth+3*k+5<recursionLimit
 un:A.units+16*k+200<G3
theorem jo.mono(r:jo k A)(h:j<=k):jo j A:=⟨r.hd,by have:=r.dp;lia,by have:=r.un;lia⟩
theorem jo.deeper{k:Nat}{A:HQ}(r:jo (k+1) A)(env:Oe):jo k (A.deeper env):=
 ⟨r.hd,by have:=r.dp;show A.depth+1+3*k+5<_;lia,by have:=r.un;show A.units+3+16*k+200<_;lia⟩
theorem BI:(A.under (.builtin "type.__call__" ⟨.ref C::us,kw⟩)).depth=A.depth+1:=by rfl
theorem BH:(A.under (.builtin "type.__call__" ⟨.ref C::us,kw⟩)).units=A.units+1:=by rfl
theorem jo.make(r:jo (k+1) A)(C:i_)(us:bv)(kw:List (Gh×h_)):jo k (A.under (.builtin "type.__call__" ⟨.ref C::us,kw⟩)):=
 ⟨r.hd,by have:=r.dp;grind[BI],by have:=r.un;grind[BH]⟩
theorem jo.depth{k:Nat}{A:HQ}(r:jo k A):A.depth<recursionLimit:=by have:=r.dp;lia
theorem jo.units{k:Nat}{A:HQ}(r:jo k A):A.units+64<G3:=by have:=r.un;lia
noncomputable def tNil:TA:=λ_ H Q=>Q [] H
noncomputable def qz(ta:TE)(B:TA):TA:=λσ H Q=>ta σ H λx H1=>B σ H1 λxs H2=>Q (x::xs) H2
section
variable{t:TA}
def fJ:PA X [] tNil:=λ_ _ _ _ H Q I h=>OX ⟨[],H,I,.nil,h⟩
def bR(a:PE X e te)(Y:PA X es t)(U: ~~~(j_ (e::es) X.env=(c_,Ga e X.env)::j_ es X.env)):PA X (e::es) (qz te t):=by intro pos B2 s σ H Q I h;rw[U];show w_ _ _ (spliced ((c_,Ga e X.env)::Hl pos (j_ es X.env))) _ _ s;refine L1 (E' (a B2 s σ H _ I h) λu s1 B=>?_);obtain⟨x,H1,c,L,q1⟩:=B;refine E' (Y pos B2 s1 σ H1 _ c q1) λus s2 B=>?_;obtain⟨xs,H2,b,J,q2⟩:=B;exact⟨x::xs,H2,b,.cons L J,q2⟩
def tTup(t:TA):TE:=λσ H Q=>t σ H λxs H1=>xs.length<=q_/\∀p,H1 p=f_->Q (.ref p) (upd H1 p (.tup xs))
def tLst(t:TA):TE:=λσ H Q=>t σ H λxs H1=>xs.length<=q_/\∀p,H1 p=f_->Q (.ref p) (upd H1 p (.lst xs))
def pe_tup{J}(h:PA X es t):PE X (.Tuple es J pos) (tTup t):=by
 intro B2 s σ H Q I L;refine wpAny_Tuple_spliced (E' (h pos B2 s σ H _ I L) λus s1 U=>?_);obtain⟨xs,H1,B,r,z,q⟩:=U;refine⟨by rw[<- r.length];exact z,?_⟩
 have Y:H1 s1.z=f_:=B.hok.fresh (k_ _);refine⟨.ref s1.z,upd H1 s1.z (.tup xs),B.laid (t':=s1.toks) (λb u e=>e_ _ e) (k_ _) ?_,rfl,q _ Y⟩
 exact⟨z,us,r,⟨_,o_ _ rfl,rfl,_,rfl⟩⟩
def pe_lst(h:PA X es t):PE X (.List es pos) (tLst t):=by
 intro B2 s σ H Q I J;refine wpAny_List_spliced (E' (h pos B2 s σ H _ I J) λus s1 L=>?_);obtain⟨xs,H1,B,r,z,q⟩:=L;refine⟨by rw[<- r.length];exact z,?_⟩
 have U:H1 s1.z=f_:=B.hok.fresh (k_ _);refine⟨.ref s1.z,upd H1 s1.z (.lst xs),B.laid (t':=s1.toks) (λb u e=>e_ _ e) (k_ _) ?_,rfl,q _ U⟩
 exact⟨z,us,0,r,o_ _ rfl⟩
end
abbrev Sp:=bp->Hp->VK->XK->Prop
abbrev CXT:=List Oe->Hp->l_->XK->Mq
variable{CX:CXT}
structure Env0(P:GH)(w:Hz)(K:Pn)(mg:Ld)(base:Gr)(A:HQ)(outer:List Oe)(s:l_)(H:Hp):Prop where
 frames:A.frames=a_ outer
 mod:Mod K mg base
 bs:∀b o,base.get? b=a_ o->s.heap.get? b=a_ o/\H b=f_
 bsz:base.objs.size<=s.heap.objs.size
 Ct:s.heap.FunFrames base outer
 frf:∀b∈frs outer,H b=f_
 hok:HOk H s.heap
 bare:LO s.gens
inductive CE(outer:List Oe)(P:GH)(w:Hz)(H:Hp)(s:l_)(Q:VK)(u:h_)(s':l_):Prop
 |mk (v:V) (H':Hp) (o:s'.os=s.os) (b:LO s'.gens) (n:Un (frs outer) [] H H' s.heap s'.heap) (k:HOk H' s'.heap) (r:C' v u) (q:Q v H')
def CR(CX:CXT)(outer:List Oe)(P:GH)(w:Hz)(H:Hp)(s:l_)(Q:VK)(E:XK)(r:Nj)(s':l_):Prop:=
 match r with
 |.ok (.ret u)=>CE outer P w H s Q u s'|.ok _=>False|.error e=>CX outer H s E e s'
structure jr(P:GH)(w:Hz)(K:Pn)(mg:Ld)(base:Gr)(CX:CXT)(k:Nat)(f:i_)(fd:IG)(ps:List Gh)(sp:Sp):Prop where
 len:∀vs H Q E,sp vs H Q E->vs.length=ps.length
 run:∀(A:HQ) (outer:List Oe) (s:l_) (H:Hp) (args:Args) (us:bv) (vs:bp) (Q:VK) (E:XK),jo k A->Env0 P w K mg base A outer s H->Mn s fd args (ps.zip us)->D' vs us->sp vs H Q E ->
  JJ (B_ P w) A (.call (.ref f) args) (CR CX outer P w H s Q E) s
def Env0.make{base:Gr}{s:l_}(e:Env0 P w K mg base A outer s H)(C:i_)(us:bv)(kw:List (Gh×h_)):
  Env0 P w K mg base (A.under (.builtin "type.__call__" ⟨.ref C::us,kw⟩)) outer s H:=⟨by first|exact e.frames|(simpa[Around.under,Code.envs,Code.isFrame,pushEnvs] using e.frames),e.mod,e.bs,e.bsz,e.Ct,e.frf,e.hok,e.bare⟩
section
variable{s:l_}
def B6.env0(I:B6 X B2 σ H s):Env0 X.prog X.w X.K X.mg X.base X.A X.stack s H:=
 ⟨I.ok.frames,I.ok.mod,I.bs,Cb I.ok.bsz I.sz,I.stack,I.CV,I.hok,I.bare⟩
def B6.after{Q:VK}(I:B6 X B2 σ H s)(h:CE X.stack X.prog X.w H s Q u s'):EP X B2 σ Q u s':=by obtain⟨v,H',Y,B,U,L,r,q⟩:=h;obtain⟨a,g,d,t,J⟩:=s';obtain rfl:J=s.os:=Y;exact⟨v,H',I.call (h':=a) (g':=g) (d':=d) (t':=t) (ch:=[]) U L B (λb z=>FZ z ad),r,q⟩
end
def tCall(sp:Sp)(dvs:bp)(E:XK)(t:TA):TE:=λσ H Q=>t σ H λvs H1=>sp (vs++dvs) H1 Q E
def tMeth(C:i_)(m:Gh)(sp:Sp)(dvs:bp)(E:XK)(ta:TE)(t:TA):TE:=λσ H Q=>ta σ H λx H1=>∃a dx fs,x=.ref a/\H1 a=a_ (.ins C dx fs)/\fs.lookup m=f_ /\
 t σ H1 λvs H2=>sp (x::(vs++dvs)) H2 Q E
def tMake(C:i_)(sp:Sp)(dvs:bp)(E:XK)(t:TA):TE:=λσ H Q=>t σ H λvs H1=>∀x dx,H1 x=f_->H1 dx=f_->dx≠x ->
 sp (.ref x::(vs++dvs)) (upd (upd H1 dx (.own x)) x (.ins C dx [])) (λv H2=>v=.non/\Q (.ref x) H2) E
def Binds(K:Pn)(fd:IG)(ps:List Gh)(ds:bv):Prop:=
 ∀(s:l_) (us:bv),K.In s.heap->(us++ds).length=ps.length->Mn s fd ⟨us,[]⟩ (ps.zip (us++ds))
def Binds.all(h:∀us:bv,us.length=ps.length->MX fd ⟨us,[]⟩=GU (ps.zip us)):Binds K fd ps []:=λs us _ B=>by rw[Hf]at B ⊢;exact .of_eq (h us B)
def Passes(CX:CXT)(X:Cx)(E:XK):Prop:=∀(B2:Vp) (σ:St) (H:Hp) (s:l_) (e:h_) (s':l_),B6 X B2 σ H s->CX X.stack H s E e s'->X.xe e s'
section
variable{f:i_}{sp:Sp}{dvs:List V}{ds:List h_}{E:XK}{apos:MJ}{o:Hb}{t:TA}
theorem zL{s:l_}{Q:VK}(F:jr X.prog X.w X.K X.mg X.base CX k f fd ps sp)(U:jo k X.A)(b:Binds X.K fd ps ds)(a:D' dvs ds)(L:Passes CX X E)(I:B6 X B2 σ H s)(r:D' vs us)(h:sp (vs++dvs) H Q E):w_ (B_ X.prog X.w) X.A (Ka (.ref f) us) (EP X B2 σ Q) X.xe s:=by
 have J:D' (vs++dvs) (us++ds):=r.append a;have Y:(us++ds).length=ps.length:=by rw[<- J.length];exact F.len _ _ _ _ h
 refine Qe (JB (F.run X.A X.stack s H ⟨us,[]⟩ (us++ds) (vs++dvs) Q E U I.env0 (b s us I.kIn Y) J h) λr s' B=>?_);cases r with
 |error e=>exact L B2 σ H s e s' I B|ok fl=>
  cases fl with
  |ret u=>exact I.after B|next=>exact GG B|brk=>exact GG B|cont=>exact GG B
def ym(F:jr X.prog X.w X.K X.mg X.base CX k f fd ps sp)(Y:jo k X.A)(d:Gl X x)(b:X.mg x=a_ (.ref f))(c:Kw X.K (.ref f)=d_)(j:Binds X.K fd ps ds)(i:D' dvs ds)(U:Passes CX X E)(l:PA X (e::es) t)(J:((x==("__debug__":Gh))=c_)⁻¹)(g: ~~~(j_ (e::es) X.env=(c_,Ga e X.env)::j_ es X.env))(B: ~~~((Hl pos (j_ es X.env)).any (·.1)=c_)):
  PE X (.Call (.Name x p) (e::es) [] pos) (tCall sp dvs E t):=by
 intro B2 s σ H Q I h;refine JQ (ud I d b ?_ J);refine NY (h₀:=X.base) I.ok.mod.kin c (E' (l pos B2 s σ H _ I h) λus s1 a=>?_) g B;obtain⟨vs,H1,L,r,q⟩:=a;refine⟨L.kIn,?_⟩
 exact zL F Y j i U L r q
def pe_meth(p:PE X o ta)(c:Cls X.K C)(Y:Meth X.K C m f)(F:jr X.prog X.w X.K X.mg X.base CX k f fd ps sp)(n:jo k X.A)(w:Binds X.K fd ps ds)(v:D' dvs ds)(i:Passes CX X E)(y:PA X (e::es) t)(B: ~~~(j_ (e::es) X.env=(c_,Ga e X.env)::j_ es X.env))(J: ~~~((Hl pos (j_ es X.env)).any (·.1)=c_))(j: ~~~(Ga (.Call (.Attribute o m apos) (e::es) [] pos) X.env=(do
   let U <- Ga o X.env
   K_ apos.atName
   let (f,first) <- IL [U] (Ml U m pl)
   PD pos f first (Hl pos (j_ (e::es) X.env)) (KR pos (Jz [] X.env))))):
  PE X (.Call (.Attribute o m apos) (e::es) [] pos) (tMeth C m sp dvs E ta t):=by
 intro B2 s σ H Q I h;refine K4 (pl:=pl) (E' (p B2 s σ H _ I h) λu s1 L=>?_) j;obtain⟨x,H1,d,g,a,dx,fs,ex,ea,l,q⟩:=L;subst ex;obtain rfl:u=FJ a:=g;refine rT d ea c Y l ?_;refine NY (first:=[.ref a]) (h₀:=X.base) I.ok.mod.kin Y.kp (E' (y pos B2 s1 σ H1 _ d q) λus s2 L=>?_) B J;obtain⟨vs,H2,b,r,q2⟩:=L;refine⟨b.kIn,?_⟩
 exact zL (us:=.ref a::us) (vs:=.ref a::vs) F n w v i b (.cons rfl r) q2
def pe_meth0(g:PE X o ta)(c:Cls X.K C)(L:Meth X.K C m f)(F:jr X.prog X.w X.K X.mg X.base CX k f fd ps sp)(d:jo k X.A)(j:Binds X.K fd ps ds)(i:D' dvs ds)(Y:Passes CX X E)(b: ~~~(Ga (.Call (.Attribute o m apos) [] [] pos) X.env=(do
   let J <- Ga o X.env
   K_ apos.atName
   let (f,first) <- IL [J] (Ml J m pl)
   PD pos f first (Hl pos (j_ [] X.env)) (KR pos (Jz [] X.env))))):
  PE X (.Call (.Attribute o m apos) [] [] pos) (tMeth C m sp dvs E ta tNil):=by
 intro B2 s σ H Q I h;refine K4 (pl:=pl) (E' (g B2 s σ H _ I h) λu s1 e=>?_) b;obtain⟨x,H1,B,U,a,dx,fs,ex,ea,l,q⟩:=e;subst ex;obtain rfl:u=FJ a:=U;refine rT B ea c L l ?_;exact PySem.W.callWith_K0 (first:=[.ref a]) B.kIn L.kp (zL (us:=[.ref a]) (vs:=[.ref a]) F d j i Y B (.cons rfl .nil) q)
structure Mk(K:Pn)(C f:i_):Prop where
 makes:Qy K C=d_
 init:Kx K (.ref C) "__init__"=a_ (a_ (.ref f))
 fn:isFn K (.ref f)=d_
 kp:Kw K (.ref C)=d_
theorem run_make{s:l_}{Q:VK}(M:Mk X.K C f)(F:jr X.prog X.w X.K X.mg X.base CX k f fd ps sp)(c:jo (k+1) X.A)(i:Binds X.K fd ps ds)(g:D' dvs ds)(b:Passes CX X E)(I:B6 X B2 σ H s)(r:D' vs us)(h:∀x dx,H x=f_->H dx=f_->dx≠x->sp (.ref x::(vs++dvs)) (upd (upd H dx (.own x)) x (.ins C dx [])) (λv H2=>v=.non/\Q (.ref x) H2) E):
  w_ (B_ X.prog X.w) X.A (Ka (.ref C) us) (EP X B2 σ Q) X.xe s:=by
 have U:=h (s.z+1) s.z (I.hok.fresh (LP _)) (I.hok.fresh (k_ _)) (FR (K8 _));have J:=B6.made (C:=C) I;have L:D' (V.ref (s.z+1)::(vs++dvs)) (FJ (s.z+1)::(us++ds)):=.cons rfl (r.append g);have d:(FJ (s.z+1)::us++ds).length=ps.length:=by have e:=L.length;rw[F.len _ _ _ _ U]at e;exact e.symm
 refine Qe (make_map (f:=f) I.kIn M.makes M.init (beq_iff_eq.mp M.fn) (JB (F.run _ X.stack _ _ ⟨FJ (s.z+1)::us,[]⟩ (FJ (s.z+1)::(us++ds)) _ _ E (c.make C us [])
  (J.env0.make C us []) (i _ (FJ (s.z+1)::us) J.kIn d) L U) λr s' B=>?_))
 cases r with
 |error e=>exact b B2 σ _ _ e s' J B|ok fl=>
  cases fl with
  |ret u=>obtain⟨v,H',j,Y,ev,a⟩:=J.after B;subst ev;exact⟨Y,⟨V.ref (s.z+1),H',j,rfl,a⟩⟩
  |next=>exact GG B|brk=>exact GG B|cont=>exact GG B
def Dt(M:Mk X.K C f)(F:jr X.prog X.w X.K X.mg X.base CX k f fd ps sp)(Y:jo (k+1) X.A)(c:Gl X x)(b:X.mg x=a_ (.ref C))(i:Binds X.K fd ps ds)(g:D' dvs ds)(U:Passes CX X E)(j:PA X (e::es) t)(J:((x==("__debug__":Gh))=c_)⁻¹)(d: ~~~(j_ (e::es) X.env=(c_,Ga e X.env)::j_ es X.env))(B: ~~~((Hl pos (j_ es X.env)).any (·.1)=c_)):
  PE X (.Call (.Name x p) (e::es) [] pos) (tMake C sp dvs E t):=by
 intro B2 s σ H Q I h;refine JQ (ud I c b ?_ J);refine NY (h₀:=X.base) I.ok.mod.kin M.kp (E' (j pos B2 s σ H _ I h) λus s1 a=>?_) d B;obtain⟨vs,H1,L,r,q⟩:=a;refine⟨L.kIn,?_⟩
 exact run_make M F Y i g U L r q
end
structure j8(N P:List Gh)(sc:MY):Prop where
 kind:sc.kind=.function
 co:sc.isCoroutine=c_
 gen:sc.isGenerator=c_
 nd:N.Nodup
 pre:N.take P.length=P
 par:∀x∈P,sc.names.lookup x=a_ .local\/sc.names.lookup x=a_ .cell
 nofree:∀y∈sc.names,y.2≠.free
theorem xr{J:Gh->Option Jn}{x:Gh}:∀{B:List (Gh×h_)} {m:Ld},(∀v,(x,v)∉B)->OI J B m x=m x
 |[],_,_=>rfl|(n,v)::r,m,h=>by
  unfold OI;rw[xr λw hw=>h w (Hw _ hw)];split
  .grind
  .rfl
theorem xu{J:Gh->Option Jn}{x:Gh}:∀{B:List (Gh×h_)} {m:Ld},(∀v,(x,v)∉B)->OJ J B m x=m x
 |[],_,_=>rfl|(n,v)::r,m,h=>by
  unfold OJ;rw[xu λw hw=>h w (Hw _ hw)];split
  .rfl
  grind
theorem xt{B:Gh->Option Jn}{x:Gh}{v:h_}:∀{P:List Gh} {vs:bv} {i:Nat} {m:Ld},P.Nodup->P[i]?=a_ x->vs[i]?=a_ v->B x=a_ .local ->
  OI B (P.zip vs) m x=a_ v
 |[],_,_,_,_,h,_,_=>by simp at h|_::_,[],_,_,_,_,h,_=>by simp at h|p::P,w::vs,0,m,L,h1,J,U=>by simp at h1 J;subst h1;subst J;show OI B ((p,w)::P.zip vs) m p=_;unfold OI;rw[xr λv Y=>(IH.mp L).1 (MO Y).1,u_ U];simp|p::P,w::vs,i+1,m,L,h1,J,U=>by show OI B ((p,w)::P.zip vs) m x=_;unfold OI;exact xt (i:=i) (IH.mp L).2 (by simpa using h1) (by simpa using J) U
theorem xv{B:Gh->Option Jn}{x:Gh}{v:h_}:∀{P:List Gh} {vs:bv} {i:Nat} {m:Ld},P.Nodup->P[i]?=a_ x->vs[i]?=a_ v->B x≠a_ .local ->
  OJ B (P.zip vs) m x=a_ v
 |[],_,_,_,_,h,_,_=>by simp at h|_::_,[],_,_,_,_,h,_=>by simp at h|p::P,w::vs,0,m,L,h1,J,U=>by simp at h1 J;subst h1;subst J;show OJ B ((p,w)::P.zip vs) m p=_;unfold OJ;rw[xu λv Y=>(IH.mp L).1 (MO Y).1,x_ U];simp|p::P,w::vs,i+1,m,L,h1,J,U=>by show OJ B ((p,w)::P.zip vs) m x=_;unfold OJ;exact xv (i:=i) (IH.mp L).2 (by simpa using h1) (by simpa using J) U
noncomputable def start(N:List Gh)(vs:bp):St:=vs.map a_++Gz (N.length-vs.length) f_
def cxOf(CX:CXT)(P:GH)(w:Hz)(K:Pn)(mg:Ld)(base:Gr)(N:List Gh)(qual:Gh)(scope:MY)(f:i_)(J:h_)(A:HQ)(outer:List Oe)(s:l_)(H:Hp)(E:XK):Cx where
 prog:=P
 w:=w
 K:=K
 mg:=mg
 base:=base
 A:=A.deeper (Lj qual scope s.heap.objs.size f J)
 N:=N
 s₀:=s
 H₀:=H
 env:=Lj qual scope s.heap.objs.size f J
 outer:=outer
 stack:=Lj qual scope s.heap.objs.size f J::outer
 ex:=[]
 calm:=d_
 fn:=λ_=>d_
 pn:=[]
 xe:=λe s'=>w_ (B_ P w) (A.deeper (Lj qual scope s.heap.objs.size f J)) (leaving (Lj qual scope s.heap.objs.size f J) e) (λ_ B=>CX outer H s E e B) (λL B=>CX outer H s E L B) s'
def AL{sc:MY}{n:Nat}(h:sc.names.lookup x=a_ .cell):∃c,(HC n sc.names []).lookup x=a_ c:=by have q:=IX sc.names n [] (.inl h);exact Jw.mp q
theorem Ej{base:Gr}{f:i_}{g:h_}{s s1:l_}{E:XK}(S:j8 N ps scope)(t:A.handled=f_)(B:Env0 P w K mg base A outer s H)(D:vs.length=ps.length)(r:D' vs us)(x:InCallC s s.heap.objs.size (OI (Lj qual scope s.heap.objs.size f g).kindOf (ps.zip us) λ_=>f_) (HC (s.heap.objs.size+1) scope.names []) (OJ (Lj qual scope s.heap.objs.size f g).kindOf (ps.zip us) λ_=>f_) s1):
  B6 (cxOf CX P w K mg base N qual scope f g A outer s H E) [] (start N vs) H s1:=by
 have o:ps.length<=N.length:=by have:=IV JE S.pre;rw[GL]at this;lia
 obtain⟨h1,tk,rfl,l⟩:=x.done;have J:∀b:i_,b∉(cxOf CX P w K mg base N qual scope f g A outer s H E).ex:=λb z=>FZ (show b∈([]:List i_)from z) ad;refine⟨⟨B.mod,S.kind,rfl,rfl,k_ _,λy z c h1 d=>?_,λy L=>?_,λy c _ h=>?_,λ_=>t,Around.frames_deeper B.frames,.inr ⟨rfl,rfl⟩,λb z=>FZ z (J b),B.bs,B.bsz,λb _ _=>J b,λb z=>FZ z (J b),B.Ct,B.frf⟩,
  rfl,B.bare,Un.kept l,⟨_,x.toInCall.ns,λi y v h1 d F=>?_⟩,λy c h=>⟨_,x.cell y c h⟩,B.hok.fresh (k_ _),λy c h=>?_,λp Y=>FZ (show p∈([]:Vp)from Y) ad,B.hok.kept l,?_⟩
 .exact name_of_addr x.apart (Hj h1) (Hj d)
 .have L:scope.names.lookup y=a_ .cell\/scope.names.lookup y=a_ .free:=L;rcases L with L|L
  .exact AL L
  .exact FZ rfl (S.nofree _ (Hj L))
 .exact GP (x.above y c (Hj h))
 .have hi:i<vs.length:=by
   unfold start at d;by_cases hi:i<vs.length
   .exact hi
   .simp_all[Ir,NH]
  have C:vs[i]?=a_ v:=by
   unfold start at d;rw[GC bi,FQ]at d;cases e:vs[i]? with
   |none=>simp_all|some a=>simp_all
  obtain⟨u,j,m⟩:=r.get C;have Y:ps[i]?=a_ y:=by rw[<- S.pre,List.getElem?_take_of_lt ac];exact h1
  have U:ps.Nodup:=by rw[<- S.pre];exact S.nd.sublist (HX _ _)
  refine⟨u,m,?_⟩
  rcases S.par y (Gn Y)with k|k
  .exact .inl ⟨k,xt U Y j k⟩
  .obtain⟨c,e⟩:=AL (n:=s.z+1) k;refine .inr ⟨.inl k,c,e,?_⟩;have q:=x.cell y c e;rw[xv U Y j (by show scope.names.lookup y≠_;simp_all)]at q;exact q
 .exact B.hok.fresh (GP (x.above y c (Hj h)))
 .unfold start;show _=N.length
  simp_all
theorem fn_of{base:Gr}{f:i_}{B:Arguments}{p kV doc pm cdv ct oc:h_}{an od:Option i_}{osl:Array (Option h_)}{sp:Sp}(D:K.lookup f=a_ ⟨oc,od,.func (Ni name qual B body scope p kV doc pm an cdv ct),osl⟩)(m:NX K cdv qual=d_)(S:j8 N ps scope)(c:∀vs H Q E,sp vs H Q E->vs.length=ps.length)(Y:∀(A:HQ) (outer:List Oe) (s:l_) (H:Hp) (vs:bp) (Q:VK) (E:XK),jo k (A.deeper (Lj qual scope s.heap.objs.size f cdv))->sp vs H Q E ->
   ∃t,PSs (cxOf CX P w K mg base N qual scope f cdv A outer s H E) body t/\t {nx:=λ_ H'=>Q .non H',rt:=Q} (start N vs) H):
  jr P w K mg base CX (k+1) f (Ni name qual B body scope p kV doc pm an cdv ct) ps sp:=by
 refine⟨c,λA outer s H z us vs Q E l h W r d=>?_⟩
 have R:=c _ _ _ _ d;have C:K.In s.heap:=h.mod.kin.keeps λb o e=>(h.bs b o e).1;have j:s.heap.NoLimit:=h.mod.nolimit.keeps λb o e=>(h.bs b o e).1;have U:∀y∈ps.zip us,scope.names.lookup y.1=a_ .local\/(scope.names.lookup y.1=a_ .cell/\((HC (s.z+1) scope.names []).lookup y.1).isSome=d_):=λ⟨n,v⟩ F=>by
  rcases S.par n (MO F).1 with q|q
  .exact .inl q
  .exact .inr ⟨q,IX _ _ _ (.inl q)⟩
 refine codeAny_call_function l.depth (C _ _ D) rfl S.co S.gen rfl (PySem.W.codeRec_of C m) (W _ _ _ _ ?_);refine wpAny_newFunctionEnv_cells S.kind U λenv T s1 x=>?_;subst T;refine⟨j.keeps x.toInCall.keep,codeAny_func ?_⟩
 obtain⟨t,G,O⟩:=Y A outer s H vs Q E (l.deeper _) d;have I:B6 (cxOf CX P w K mg base N qual scope f cdv A outer s H E) [] (start N vs) H s1:=Ej S l.hd h R r x;refine GS (G [] s1 (start N vs) H _ I O) (λfl s' a=>?_) λe s' a=>a;have g:∀{L:St} {H':Hp} {v:V} {u:h_},B6 (cxOf CX P w K mg base N qual scope f cdv A outer s H E) [] L H' s'->C' v u->Q v H'->CE outer P w H s Q u s':=
  λ{L H' v u} J i q=>⟨v,H',J.os,J.bare,J.base,J.hok,i,q⟩
 cases fl with
 |ret u=>obtain⟨v,L,H',J,i,q⟩:=a;exact g J i q
 |next=>obtain⟨L,H',J,q⟩:=a;exact g (v:=V.non) (u:=Gu) J rfl q
 |brk=>
  obtain⟨_,_,_,q⟩:=a
  simp_all
 |cont=>
  obtain⟨_,_,_,q⟩:=a
  simp_all
section
variable{t:TA}{id T:String}{r:List V->Hp->VK->Prop}
def tCB(r:bp->Hp->VK->Prop)(t:TA):TE:=λσ H Q=>t σ H λvs H1=>r vs H1 Q
def lW(f:fW X (.builtin id) r)(c:Gl X x)(b:X.mg x=f_)(U:Iu x=a_ (.builtin id))(g:PA X (e::es) t)(a:(x≠"__name__")⁻¹)(J:((x==("__debug__":Gh))=c_)⁻¹)(d: ~~~(j_ (e::es) X.env=(c_,Ga e X.env)::j_ es X.env))(B: ~~~((Hl pos (j_ es X.env)).any (·.1)=c_)):PE X (.Call (.Name x p) (e::es) [] pos) (tCB r t):=by intro B2 s σ H Q I h;refine JQ (jd I c b U ?_ a J);refine PyProof.Rows.callWith_builtin1 (E' (g pos B2 s σ H _ I h) λus s1 Y=>?_) d B;obtain⟨vs,H1,i,L,q1⟩:=Y;exact f B2 s1 σ H1 vs us Q i L q1
def p6(f:fW X (.type T) r)(c:Gl X x)(b:X.mg x=f_)(U:Iu x=a_ (.type T))(g:PA X (e::es) t)(a:(x≠"__name__")⁻¹)(J:((x==("__debug__":Gh))=c_)⁻¹)(d: ~~~(j_ (e::es) X.env=(c_,Ga e X.env)::j_ es X.env))(B: ~~~((Hl pos (j_ es X.env)).any (·.1)=c_)):PE X (.Call (.Name x p) (e::es) [] pos) (tCB r t):=by intro B2 s σ H Q I h;refine JQ (jd I c b U ?_ a J);refine GB (E' (g pos B2 s σ H _ I h) λus s1 Y=>?_) d B;obtain⟨vs,H1,i,L,q1⟩:=Y;exact f B2 s1 σ H1 vs us Q i L q1
end
end Lake
namespace Lake.HT
open PySem PyProof.Rows
section
open PySem.SeqAt
open PySem.AutoSeq1 (wpAny_loadPart')
open PySem.MeetsSeq PySem.MeetsSeq2 PySem.MeetsSeq3
end
section
variable{prog:GH}{w:Hz}{A:HQ}{E:Mq}{s:l_}
theorem cat_tup{t b:i_}{vs B:bv}{Q:Mq}(j:N5 s.heap t vs.toArray)(k:N5 s.heap b B.toArray)(m:vs≠[])(h1:B=[]->Q (.ref t) s)(l:B≠[]->Q (.ref s.heap.objs.size) {s with heap:=s.heap.push {cls:=.type "tuple",data:=.seq (vs++B).toArray}})(hsz:vs.length+B.length<=q_):w_ (B_ prog w) A (Io .Add (.ref t) (.ref b)) Q E s:=by
 obtain⟨⟨cls,h,data,sl⟩,c,g,n,f⟩:=id j;obtain⟨⟨i,a,d,L⟩,J,Y,n2,U⟩:=id k;simp only at g f Y U;subst g f Y U;have e:vs.toArray++B.toArray=(vs++B).toArray:=by simp
 by_cases hw:B=[]
 .exact MV ⟨_,c,rfl⟩ ⟨_,J,rfl⟩ Nh Oo KU KA (Ky _ _)
   (tuple_addW1 t b vs.toArray B.toArray n n2 h a sl L bi (by simp[hw])) ⟨c,J,h1 hw⟩
 .refine MV ⟨_,c,rfl⟩ ⟨_,J,rfl⟩ Nh Oo KU KA (Ky _ _)
   (tuple_addW2 t b vs.toArray B.toArray n n2 h a sl L bi bi bi) ⟨c,J,?_⟩
  rw[e];exact l hw
noncomputable def sIx(n d:Nat):Option Int->Nat
 |none=>d|some v=>if v<0 then(v+(n:Int)).toNat else NG v.toNat n
theorem sIx_le(n d:Nat)(B:d<=n)(o:Option Int):sIx n d o<=n:=by
 cases o with
 |none=>exact B|some v=>
  show(if v<0 then(v+(n:Int)).toNat else NG v.toNat n)<=n
  lia
theorem F9(v:Int)(n d:Nat):(if v<0 then QB (v+(n:Int)) 0 else NG v (n:Int))=((sIx n d (a_ v):Nat):Int):=by
 show(if v<0 then QB (v+(n:Int)) 0 else NG v (n:Int))=(((if v<0 then(v+(n:Int)).toNat else NG v.toNat n):Nat):Int)
 grind
theorem Cn(lo hi:Option Int)(n:Nat):J4 lo hi 1 (n:Int)=(((sIx n 0 lo:Nat):Int),((sIx n n hi:Nat):Int)):=by
 have h1:¬((1:Int)<0):=ac
 unfold J4;simp only[h1,HV];refine Mo ?_ ?_
 .cases lo with
  |none=>rfl|some v=>exact F9 v n 0
 .cases hi with
  |none=>rfl|some v=>exact F9 v n n
theorem BC(i j:Nat):Jg (i:Int) (j:Int) 1=j-i:=by
 unfold Jg
 lia
def rl{v:h_}{o:Option Int}{Q:Option Int->l_->Prop}(p:Nk v o)(h:Q o s):w_ (B_ prog w) A (QH v) Q E s:=by
 cases p with
 |none=>exact slicePart_none h|int i t=>exact slicePart_int h
def nJ{sl:i_}{U L:h_}{lo hi:Option Int}{n:Nat}{Q:Int×Int×Nat->l_->Prop}(a:s.heap.IsSliceOf sl U L .none)(pl:Nk U lo)(Y:Nk L hi)(h:Q (((sIx n 0 lo:Nat):Int),1,sIx n n hi-sIx n 0 lo) s):w_ (B_ prog w) A (L4 (.ref sl) (GU (n:Int))) Q E s:=by obtain⟨c,B,b,J⟩:=id a;unfold L4 QI;refine b_ (b_ (H_ B J (x:=U) rfl (b_ (H_ B J (x:=L) rfl (b_ (H_ B J (x:=.none) rfl (g_ ?_)))))));refine b_ (slicePart_none ?_);show w_ _ _ (if ((1:Int)==0)=d_ then _ else _) _ _ s;rw[x_ am];refine b_ (rl pl (b_ (rl Y (b_ (g_ ?_)))));show w_ _ _ (match J4 lo hi 1 (n:Int)with|(lo,hi)=>GU (lo,(1:Int),Jg lo hi 1)) _ _ s;rw[Cn lo hi n];show w_ _ _ (GU (((sIx n 0 lo:Nat):Int),(1:Int),Jg ((sIx n 0 lo:Nat):Int) ((sIx n n hi:Nat):Int) 1)) _ _ s;rw[BC];exact g_ h
theorem pick_gen(xs:Array h_)(i k:Nat):((FN k).filterMap λ(m:Nat)=>xs[((i:Int)+(m:Int)*1).toNat]?).toArray=((xs.toList.drop i).take k).toArray:=by
 have e:(λ(m:Nat)=>xs[((i:Int)+(m:Int)*1).toNat]?)=λm=>xs[i+m]?:=by
  funext m
  have:((i:Int)+(m:Int)*1).toNat=i+m:=ac
  rw[this]
 rw[e];have:=pick_run xs i k;rw[List.filterMap_map]at this;have e2:((λx=>xs[x]?)∘λx=>i+x)=λm=>xs[i+m]?:=rfl
 simp_all
theorem mN{t sl:i_}{items:Array h_}{b a:h_}{lo hi:Option Int}{Q:Mq}(B:N5 s.heap t items)(c:s.heap.IsSliceOf sl b a .none)(pl:Nk b lo)(d:Nk a hi)(hw:¬(sIx items.size 0 lo=0/\sIx items.size items.size hi=items.size))(h:Q (.ref s.heap.objs.size) {s with heap:=s.heap.push {cls:=.type "tuple",data:=.seq ((items.toList.drop (sIx items.size 0 lo)).take (sIx items.size items.size hi-sIx items.size 0 lo)).toArray}})(hsz:items.size<=q_):w_ (B_ prog w) A (Pb (.ref t) (.ref sl)) Q E s:=by
 have htake:sizeOk (.seq ((items.toList.drop (sIx items.size 0 lo)).take (sIx items.size items.size hi-sIx items.size 0 lo)).toArray):=by show((items.toList.drop (sIx items.size 0 lo)).take (sIx items.size items.size hi-sIx items.size 0 lo)).toArray.size<=q_;rw[G8,GL,Hy,GF];lia
 have g:sIx items.size items.size hi<=items.size:=sIx_le _ _ (k_ _) hi;obtain⟨e,J,U,f⟩:=id c;have Y:s.TypeIs (.ref sl) "slice":=⟨e,J,U⟩
 unfold Pb
 try with_reducible refine G9 ?_
 first|refine b_ (g_ ?_)|skip
 refine b_ (wpAny_sequenceKey B.typeIs am ?_);refine b_ (G2 (name:=HS "__getitem__") B.typeIs IZ
  (Gx IZ B.typeIs entry_tuple_getitem ?_ (args_tuple_getitem _ _)))
 show w_ _ _ (L3 (.ref t) >>= _) _ _ s;refine b_ (tupleItemsOf_ B ?_);refine b_ (MS Y ?_);rw[u_ am];refine b_ (nJ c pl d ?_);have L:¬((((sIx items.size 0 lo:Nat):Int)==0&&(1:Int)==1&&(sIx items.size items.size hi-sIx items.size 0 lo)==items.size)=d_):=by intro q;rw[t_,t_]at q;have q1:((sIx items.size 0 lo:Nat):Int)=0:=HF q.1.1;have q2:sIx items.size items.size hi-sIx items.size 0 lo=items.size:=HF q.2;exact hw ⟨ac,ac⟩
 show w_ _ _ (if (((sIx items.size 0 lo:Nat):Int)==0&&(1:Int)==1&&(sIx items.size items.size hi-sIx items.size 0 lo)==items.size)=d_ then _ else _) _ _ s;rw[x_ L,pick_gen]
 first
  |exact b_ (m:=Kb _) (GD (g_ ⟨_,rfl,g_ h⟩) htake)
  |exact wpAny_bind (m:=Builtin.Tuple.tupleExact _) (wpAny_newObj_type (wpAny_bind (wpAny_pure (wpAny_pure ⟨_,rfl,wpAny_pure h⟩))) htake)
  |exact wpAny_bind (wpAny_bind (m:=Builtin.Tuple.tupleExact _) (wpAny_newObj_type (wpAny_pure (wpAny_pure ⟨_,rfl,wpAny_pure h⟩)) htake))
  |exact wpAny_bind (wpAny_bind (m:=Builtin.Tuple.tupleExact _) (wpAny_newObj_type (wpAny_pure ⟨_,rfl,wpAny_pure h⟩) htake))
end
end Lake.HT
namespace Lake
open PySem PySem.Spec PyProof.Rows
variable{X:Cx}{e:Hb}{pos:MJ}{r:V->Option Int->Option Int->Hp->VK->Prop}{xs ys:List V}{us its its':List h_}{α:Type}{n:Nat}{i:Int}{B2:Vp}{σ:St}{H:Hp}{T:String}{x:V}
abbrev TO:=St->Hp->(Option Int->Hp->Prop)->Prop
inductive OP(X:Cx)(B2:Vp)(σ:St)(Q:Option Int->Hp->Prop)(u:h_)(s':l_):Prop
 |mk (o:Option Int) (H':Hp) (I:B6 X B2 σ H' s') (r:Nk u o) (q:Q o H')
def PO(X:Cx)(e:Option Hb)(t:TO):Prop:=
 ∀(B2:Vp) (s:l_) (σ:St) (H:Hp) (Q:Option Int->Hp->Prop),B6 X B2 σ H s->t σ H Q ->
  w_ (B_ X.prog X.w) X.A (evalPart e X.env) (λu s'=>OP X B2 σ Q u s') X.xe s
noncomputable def tNoPart:TO:=λ_ H Q=>Q f_ H
def tPart(t:TE):TO:=λσ H Q=>t σ H λx H1=>∃i,x=.int i/\Q (a_ i) H1
def intsAre_of{ns:bm}:∀{us:bv},D' (ns.map V.int) us->KC us ns:=by
 induction ns with
 |nil=>intro us r;rw[IP]at r;cases r;exact .nil|cons n ns L=>
  intro us r;rw[r_]at r;cases r with
  |cons J B=>obtain⟨t,e⟩:=J;subst e;exact .cons n t (L B)
section
variable{te:TE}{lo hi:Option Hb}{tl th:TO}{p2:MJ}
def po_none:PO X f_ tNoPart:=by intro B2 s σ H Q I h;rw[evalPart_none];exact g_ ⟨f_,H,I,.none,h⟩
def po_some(h:PE X e te):PO X (a_ e) (tPart te):=by intro B2 s σ H Q I hw;rw[evalPart_some];refine E' (h B2 s σ H _ I hw) λu s1 J=>?_;obtain⟨x,H1,L,B,q1⟩:=J;obtain⟨i,rfl,q⟩:=q1;obtain⟨t,rfl⟩:=B;exact⟨a_ i,H1,L,.int i t,q⟩
def SlR(X:Cx)(r:V->Option Int->Option Int->Hp->VK->Prop):Prop:=
 ∀(B2:Vp) (s:l_) (σ:St) (H:Hp) (x:V) (v J B:h_) (lo hi:Option Int) (sl:i_) (Q:VK),B6 X B2 σ H s->C' x v->s.heap.IsSliceOf sl J B .none->Nk J lo->Nk B hi->r x lo hi H Q ->
  ∃T id,typeLookup (.type T) "__getitem__"=GU (a_ (.builtin id))/\s.TypeIs v T/\w_ (B_ X.prog X.w) X.A (Pb v (.ref sl)) (EP X B2 σ Q) X.xe s
def SlR.or{r':V->Option Int->Option Int->Hp->VK->Prop}(h:SlR X r)(h':SlR X r'):SlR X (λx lo hi H Q=>r x lo hi H Q\/r' x lo hi H Q):=by
 intro B2 s σ H x v J B lo hi sl Q I L Y pl U q;rcases q with q|q
 .exact h B2 s σ H x v J B lo hi sl Q I L Y pl U q
 .exact h' B2 s σ H x v J B lo hi sl Q I L Y pl U q
noncomputable def tSl(r:V->Option Int->Option Int->Hp->VK->Prop)(te:TE)(tl th:TO):TE:=λσ H Q=>te σ H λx H1=>tl σ H1 λl H2=>th σ H2 λu B=>r x l u B Q
def pe_slice(i:SlR X r)(m:PE X e te)(j:PO X lo tl)(f:PO X hi th):PE X (.Subscript e (.Slice lo hi f_ p2) pos) (tSl r te tl th):=by intro B2 s σ H Q I h;refine Subscript_ (E' (m B2 s σ H _ I h) λv s1 J=>?_);obtain⟨x,H1,w,a,q1⟩:=J;refine wpAny_Slice (E' (j B2 s1 σ H1 _ w q1) λU s2 J=>?_);obtain⟨l,H2,t,pl,q2⟩:=J;refine E' (f B2 s2 σ H2 _ t q2) λL B J=>?_;obtain⟨u,Y,p,d,c⟩:=J;rw[evalPart_none];refine g_ ?_;have o:B6 X B2 σ Y {B with heap:=B.heap.push {cls:=.type "slice",data:=.fields #[U,L,.none]}}:=p.kept (t':=B.toks) λb y q=>e_ _ q;obtain⟨T,id,n,g,k⟩:=i B2 {B with heap:=B.heap.push {cls:=.type "slice",data:=.fields #[U,L,.none]}} σ Y x v U L l u B.z Q o a (Qz ..) pl d c;show w_ (B_ X.prog X.w) X.A (subscriptTail e (.Slice lo hi f_ p2) v (.ref B.z)) (EP X B2 σ Q) X.xe {B with heap:=B.heap.push {cls:=.type "slice",data:=.fields #[U,L,.none]}};exact tail_any (ops:=[.ref B.z,v]) g n k (by rfl)
def cutV(xs:bp)(lo hi:Option Int):bp:=(xs.drop (HT.sIx xs.length 0 lo)).take (HT.sIx xs.length xs.length hi-HT.sIx xs.length 0 lo)
theorem qg(xs:bp)(lo hi:Option Int):(cutV xs lo hi).length<=xs.length:=by unfold cutV;rw[GL,Hy];lia
def rSlT(K:Pn):V->Option Int->Option Int->Hp->VK->Prop:=λx lo hi H Q=>∃a xs,x=.ref a/\SqT K H a xs /\
 ¬(HT.sIx xs.length 0 lo=0/\HT.sIx xs.length xs.length hi=xs.length)/\∀p,H p=f_->Q (.ref p) (upd H p (.tup (cutV xs lo hi)))
theorem sl_tup:SlR X (rSlT X.K):=by
 intro B2 s σ H x v f e lo hi sl Q I L d pl U h;obtain⟨a,xs,rfl,c,hw,q⟩:=h;cases L;obtain⟨its,r,J,Y⟩:=I.tuple c;have B:its.toArray.size=xs.length:=by rw[G8];exact r.length.symm
 refine⟨"tuple",_,IZ.lookup,J.typeIs,?_⟩
 refine HT.mN J d pl U (by rw[B];exact hw) ?_ bi;rw[B];refine⟨.ref s.z,_,I.laid (t':=s.toks) (o:=.tup (cutV xs lo hi)) (λb g q=>e_ _ q) (k_ _) ?_,rfl,q _ (I.hok.fresh (k_ _))⟩
 exact⟨Cb (qg xs lo hi) Y,_,(r.drop (HT.sIx xs.length 0 lo)).take (HT.sIx xs.length xs.length hi-HT.sIx xs.length 0 lo),Pd _ _⟩
def rCatT(K:Pn):R2:=λx y H Q=>∃a b xs ys,x=.ref a/\y=.ref b/\SqT K H a xs/\SqT K H b ys/\xs≠[]/\xs.length+ys.length<=q_ /\
 (ys=[]->Q (.ref a) H)/\(ys≠[]->∀p,H p=f_->Q (.ref p) (upd H p (.tup (xs++ys))))
def D'.yu(r:D' xs us):us=[]↔xs=[]:=by
 cases r with
 |nil=>simp|cons _ _=>simp
theorem op_catT:OpR X (Io .Add) (rCatT X.K):=by
 intro B2 s σ H x y v u Q I Y U h;obtain⟨a,b,xs,ys,rfl,rfl,f,e,d,c,q1,q2⟩:=h;cases Y;cases U;obtain⟨its,J,p1,_⟩:=I.tuple f;obtain⟨L,B,p2,_⟩:=I.tuple e;refine HT.cat_tup p1 p2 (λz=>d (J.yu.mp z)) (λz=>⟨.ref a,H,I,rfl,q1 (B.yu.mp z)⟩) (λz=>?_) (by rw[<- J.length,<- B.length];exact c);refine⟨.ref s.z,_,I.laid (t':=s.toks) (o:=.tup (xs++ys)) (λb g q=>e_ _ q) (k_ _) ?_,rfl,q2 (λw=>z (B.yu.mpr w)) _ (I.hok.fresh (k_ _))⟩
 exact⟨bi,_,J.append B,Pd _ _⟩
end
noncomputable def ixN(n:Nat)(i:Int):Option Nat:=if 0<=i then(if i<n then a_ i.toNat else f_)else if -(n:Int)<=i then a_ (i+n).toNat else f_
def atI(xs:List α)(i:Int):Option α:=(ixN xs.length i).bind λj=>xs[j]?
theorem uh{j:Nat}(h:ixN n i=a_ j):seqIndex? i n=a_ j/\j<n/\ -(n:Int)<=i/\i<n:=by
 unfold ixN at h;by_cases h0:0<=i
 .rw[u_ h0]at h;by_cases h1:i<n
  .rw[u_ h1]at h
   grind[PB]
  simp_all
 .rw[x_ h0]at h;by_cases h1: -(n:Int)<=i
  .rw[u_ h1]at h
   grind[O8]
  simp_all
theorem Fu{xs:List α}{v:α}(h:atI xs i=a_ v):∃j,seqIndex? i xs.length=a_ j/\xs[j]?=a_ v/\j<xs.length/\ -(xs.length:Int)<=i/\i<xs.length:=by
 unfold atI at h;cases e:ixN xs.length i with
 |none=>simp_all|some j=>rw[e]at h;obtain⟨h1,L,J,B⟩:=uh e;exact⟨j,h1,h,L,J,B⟩
def uX(b:Hb):Prop:=∀o i,subscripted b c_ o i=operate [o,i] (Pb o i)
def IxR(X:Cx)(r:R2):Prop:=
 ∀(value B:Hb) (B2:Vp) (s:l_) (σ:St) (H:Hp) (x y:V) (v u:h_) (Q:VK),B6 X B2 σ H s->C' x v->C' y u->r x y H Q ->
  subscripted B c_ v u=operate [v,u] (Pb v u)->w_ (B_ X.prog X.w) X.A (subscriptTail value B v u) (EP X B2 σ Q) X.xe s
def MtR(X:Cx)(id:String)(r:V->bp->Hp->VK->Prop):Prop:=
 ∀(B2:Vp) (s:l_) (σ:St) (H:Hp) (x:V) (xs:bp) (v:h_) (us:bv) (Q:VK),B6 X B2 σ H s->C' x v->D' xs us->r x xs H Q ->
  w_ (B_ X.prog X.w) X.A (Ka (.builtin id) (v::us)) (EP X B2 σ Q) X.xe s
section
variable{a b:Hb}{ta tb:TE}
def IxR.or{r r':R2}(h:IxR X r)(h':IxR X r'):IxR X (λx y H Q=>r x y H Q\/r' x y H Q):=by
 intro value B B2 s σ H x y v u Q I L J q U;rcases q with q|q
 .exact h value B B2 s σ H x y v u Q I L J q U
 .exact h' value B B2 s σ H x y v u Q I L J q U
def pe_ix{r:R2}(U:IxR X r)(c:PE X a ta)(Y:PE X b tb)(L:uX b):PE X (.Subscript a b pos) (tOp r ta tb):=by intro B2 s σ H Q I h;exact Subscript_ (binT c Y I h λv u s2 x y H2 d J B q=>U a b B2 s2 σ H2 x y v u Q d J B q (L _ _))
def rIxL(K:Pn):R2:=λx y H Q=>∃p xs i v,x=.ref p/\y=.int i/\SqL K H p xs/\atI xs i=a_ v/\Q v H
def rIxT(K:Pn):R2:=λx y H Q=>∃p xs i v,x=.ref p/\y=.int i/\SqT K H p xs/\atI xs i=a_ v/\Q v H
theorem ix_list:IxR X (rIxL X.K):=by
 intro value J B2 s σ H x y v u Q I c b h Y;obtain⟨p,xs,i,z,rfl,rfl,d,f,q⟩:=h;cases c;obtain⟨t,rfl⟩:=b;obtain⟨its,r,pl,m⟩:=I.list d;obtain⟨j,h1,l,o,k,g⟩:=Fu f;obtain⟨w,a,L⟩:=r.get l;have e:=r.length;have n:=wo;have B:EP X B2 σ Q w s:=⟨z,H,I,L,q⟩
 by_cases h0:0<=i
 .have U:i.toNat=j:=by
   rw[PB h0 g]at h1;exact G7 h1
  exact item_listR pl.isList h0 ac (by rw[U];simpa using a) B Y
 .have U:(i+(its.toArray.size:Int)).toNat=j:=by
   rw[O8 ac k]at h1;rw[G8,<- e];exact G7 h1
  exact LN (x:=w) pl.isList.typeIs Qt.lookup
   (wpAny_getItem_list_neg (Q:=λr s'=>r=w/\EP X B2 σ Q r s') pl.isList ac bi ac (by rw[U];simpa using a) ⟨rfl,B⟩) Y
theorem ix_tup:IxR X (rIxT X.K):=by
 intro value B B2 s σ H x y v u Q I Y U h a;obtain⟨p,xs,i,z,rfl,rfl,b,c,q⟩:=h;cases Y;obtain⟨t,rfl⟩:=U;obtain⟨its,r,pl,f⟩:=I.tuple b;obtain⟨j,h1,d,n,m,l⟩:=Fu c;obtain⟨w,e,J⟩:=r.get d;have k:=r.length;have g:=wo;have L:EP X B2 σ Q w s:=⟨z,H,I,J,q⟩
 exact LN (x:=w) pl.typeIs IZ.lookup
  (getItem_tuple (j:=j) (Q:=λr s'=>r=w/\EP X B2 σ Q r s') pl ac ac bi (by simpa using e) ⟨rfl,L⟩) a
def rIx(K:Pn):R2:=λx y H Q=>rIxL K x y H Q\/rIxT K x y H Q
def Ak:IxR X (rIx X.K):=ix_list.or ix_tup
def BG(its:bv)(n j:Nat)(u:h_):HP (·.setIfInBounds j u) {cls:=.type "list",data:=.seq its.toArray n}={cls:=.type "list",data:=.seq (its.set j u).toArray n}:=by simp[HP]
theorem B6.lst{B2:Vp}{σ:St}{H:Hp}{s:l_}{p:i_}{xs:bp}(I:B6 X B2 σ H s)(h:H p=a_ (.lst xs)):
  ∃(its:bv) (n:Nat),D' xs its/\s.heap.get? p=a_ {cls:=.type "list",data:=.seq its.toArray n}/\xs.length<=q_:=by
 obtain⟨z,its,n,r,e⟩:=I.hok p _ h;exact⟨its,n,r,e,z⟩
def B6.lstUpd{s:l_}{p:i_}{B:Nat}{f:L7->L7}(I:B6 X B2 σ H s)(h:H p=a_ (.lst xs))(U:s.heap.get? p=a_ {cls:=.type "list",data:=.seq its.toArray n})(J:f {cls:=.type "list",data:=.seq its.toArray n}={cls:=.type "list",data:=.seq its'.toArray B})(r:D' ys its')(L:ys.length<=q_)(t:Nat):
  B6 X B2 σ (upd H p (.lst ys)) {s with heap:=s.heap.update p f,toks:=t}:=by
 have e:(s.heap.update p f).get? p=a_ {cls:=.type "list",data:=.seq its'.toArray B}:=by rw[Iv f U (by rw[J]<;>rfl),J]
 refine I.write (x:=p) (e:=p) (by rw[h];trivial) (.inl rfl) (λb u Y q=>(GN _ _ (HM Y)).trans q) ⟨_,e⟩ ?_;exact⟨L,its',B,r,e⟩
def rSetL:V->V->V->Hp->(Hp->Prop)->Prop:=λo i v H Q=>∃p xs k j,o=.ref p/\i=.int k/\H p=a_ (.lst xs)/\ixN xs.length k=a_ j/\Q (upd H p (.lst (xs.set j v)))
theorem set_list:PSet X rSetL:=by
 intro B2 s σ H o i v f g u Q I ro a Y h;obtain⟨p,xs,k,j,rfl,rfl,L,c,q⟩:=h;cases ro;obtain⟨t,rfl⟩:=a;obtain⟨its,n,r,B,l⟩:=I.lst L;obtain⟨h1,w,e,d⟩:=uh c;have b:=r.length;have m:=wo;have U:B6 X B2 σ (upd H p (.lst (xs.set j v))) {s with heap:=s.heap.update p (HP (·.setIfInBounds j u))}:=
  I.lstUpd L B (BG its n j u) (r.set Y j) bi s.toks
 by_cases h0:0<=k
 .have J:k.toNat=j:=by
   rw[PB h0 d]at h1;exact G7 h1
  exact PySem.W.ki_setAt B h0 ac bi (by rw[J];exact⟨_,U,q⟩)
 .have J:(k+(its.toArray.size:Int)).toNat=j:=by
   rw[O8 ac e]at h1;rw[G8,<- b];exact G7 h1
  exact PySem.W.ki_setBack B ac bi ac (by rw[J];exact⟨_,U,q⟩)
theorem vt(lo hi:Option Int)(n:Nat):(L_ lo hi f_ n).1=((HT.sIx n 0 lo:Nat):Int)/\(L_ lo hi f_ n).2.1=((HT.sIx n n hi:Nat):Int)/\(L_ lo hi f_ n).2.2=1:=by
 refine⟨?_,?_,rfl⟩
 .cases lo with
  |none=>rfl|some i=>
   simp only[L_,HT.sIx,O0,show(1:Int)>0 by decide,Kv]
   grind
 .cases hi with
  |none=>rfl|some i=>
   simp only[L_,HT.sIx,O0,show(1:Int)>0 by decide,Kv]
   grind
def sZ(its:bv)(lo hi:Option Int):slicePick its.toArray lo hi f_=((its.drop (HT.sIx its.length 0 lo)).take (HT.sIx its.length its.length hi-HT.sIx its.length 0 lo)).toArray:=by obtain⟨h1,J,B⟩:=vt lo hi its.toArray.size;unfold slicePick;rw[h1,J,B];simp only[sliceRange_one,pick_run,G8]<;>rfl
def rSlL(K:Pn):V->Option Int->Option Int->Hp->VK->Prop:=λx lo hi H Q=>∃a xs,x=.ref a/\SqL K H a xs/\∀p,H p=f_->Q (.ref p) (upd H p (.lst (cutV xs lo hi)))
theorem sl_list:SlR X (rSlL X.K):=by
 intro B2 s σ H x v f e lo hi sl Q I L d pl U h;obtain⟨a,xs,rfl,c,q⟩:=h;cases L;obtain⟨its,r,J,Y⟩:=I.list c;have B:=r.length;refine⟨"list",_,Qt.lookup,J.isList.typeIs,?_⟩
 refine wpAny_getItem_list_slice J.isList d pl U .none ad ?_ bi;rw[sZ,<- B];refine⟨.ref s.z,_,I.laid (t':=s.toks) (o:=.lst (cutV xs lo hi)) (λb g q=>e_ _ q) (k_ _) ?_,rfl,q _ (I.hok.fresh (k_ _))⟩
 exact⟨Cb (qg xs lo hi) Y,_,0,(r.drop (HT.sIx xs.length 0 lo)).take (HT.sIx xs.length xs.length hi-HT.sIx xs.length 0 lo),o_ _ rfl⟩
theorem jV:fW X (.builtin "len") (λxs H Q=>∃p ys,xs=[.ref p]/\(SqL X.K H p ys\/SqT X.K H p ys)/\Q (.int ys.length) H):=by
 intro B2 s σ H xs us Q I r h;obtain⟨p,ys,rfl,B,q⟩:=h;obtain⟨u,rfl,L⟩:=vals1 r;cases L;have Y:=wo;rcases B with B|B
 .obtain⟨its,r',pl,U⟩:=I.list B;have J:=r'.length;exact Calls.call_len_list pl.isList be ⟨.int ys.length,H,I.tok _,⟨s.toks+1,bi⟩,q⟩
 .obtain⟨its,r',pl,U⟩:=I.tuple B;have J:=r'.length;exact len_tuple pl be ⟨.int ys.length,H,I.tok _,⟨s.toks+1,bi⟩,q⟩
def fW.or{f:h_}{r r':bp->Hp->VK->Prop}(h:fW X f r)(h':fW X f r'):fW X f (λxs H Q=>r xs H Q\/r' xs H Q):=by
 intro B2 s σ H xs us Q I B q;rcases q with q|q
 .exact h B2 s σ H xs us Q I B q
 .exact h' B2 s σ H xs us Q I B q
theorem xo:fW X (.type "list") (λxs H Q=>∃p ys,xs=[.ref p]/\(SqL X.K H p ys\/SqT X.K H p ys)/\∀l,H l=f_->Q (.ref l) (upd H l (.lst ys))):=by
 intro B2 s σ H xs us Q I r h;obtain⟨p,ys,rfl,L,q⟩:=h;obtain⟨u,rfl,f⟩:=vals1 r;cases f;have Y:∀(its:bv),D' ys its->ys.length<=q_->∀(h':Gr) (B:Nat),(∀b o',s.heap.get? b=a_ o'->h'.get? b=a_ o') ->
   h'.get? s.z=a_ {cls:=.type "list",dict:=f_,data:=.seq its.toArray B,slots:=#[]}->EP X B2 σ Q (.ref s.z) {s with heap:=h'}:=λits r' J h' B kp e=>
  ⟨.ref s.z,_,I.laid (t':=s.toks) kp (k_ _) (show gZ _ h' _ (.lst ys)from⟨J,its,B,r',e⟩),rfl,q _ (I.hok.fresh (k_ _))⟩
 rcases L with L|L
 .obtain⟨its,r',pl,J⟩:=I.list L;have U:=r'.length;obtain⟨o,a,d,n,c⟩:=pl.isList;exact call_list_seq p (.inl rfl) a d c (λh' B kp e=>Y its r' J h' B kp e) bi
 .obtain⟨its,r',pl,J⟩:=I.tuple L;have U:=r'.length;obtain⟨o,a,d,n,c⟩:=pl;exact call_list_seq p (.inr rfl) a d c (λh' B kp e=>Y its r' J h' B kp e) bi
theorem uH:fW X (.type "tuple") (λxs H Q=>∃p ys,xs=[.ref p]/\((SqL X.K H p ys/\∀l,H l=f_->Q (.ref l) (upd H l (.tup ys)))\/(SqT X.K H p ys/\Q (.ref p) H))):=by
 intro B2 s σ H xs us Q I r h;obtain⟨p,ys,rfl,h⟩:=h;obtain⟨u,rfl,Y⟩:=vals1 r;cases Y;rcases h with⟨B,q⟩|⟨B,q⟩
 .obtain⟨its,r',pl,J⟩:=I.list B;have L:=r'.length;refine call_tuple_list pl.isList (λh' kp=>?_) bi;have U:B6 X B2 σ H {s with heap:=h'}:=I.kept (t':=s.toks) kp;have a:B6 X B2 σ (upd H h'.objs.size (.tup ys)) {s with heap:=h'.push {cls:=.type "tuple",data:=.seq its.toArray}}:=
   U.laid (t':=s.toks) (λb o e=>e_ _ e) (k_ _) (show gZ _ _ _ (.tup ys)from⟨J,its,r',Pd _ _⟩)
  exact⟨.ref h'.objs.size,_,a,rfl,q _ (U.hok.fresh (k_ _))⟩
 .obtain⟨its,r',pl,J⟩:=I.tuple B;exact call_tuple_same pl ⟨.ref p,H,I,rfl,q⟩
def tyV(K:Pn)(T:String)(x:V)(H:Hp):Prop:=T="list"/\∃p xs,x=.ref p/\SqL K H p xs
def tyV_is{s:l_}{v:h_}(I:B6 X B2 σ H s)(r:C' x v)(ty:tyV X.K T x H):
  s.TypeIs v T/\∀a,v=.ref a->∃B,s.heap.get? a=a_ B/\B.dict=f_:=by
 obtain⟨rfl,p,xs,rfl,J⟩:=ty;cases r;obtain⟨its,_,pl,_⟩:=I.list J;refine⟨pl.isList.typeIs,λa e=>?_⟩
 cases e;obtain⟨o,n,e,c,L,_⟩:=pl;exact⟨o,e,L⟩
def tBM(K:Pn)(T:String)(r:V->bp->Hp->VK->Prop)(to:TE)(t:TA):TE:=λσ H Q=>to σ H λx H1=>tyV K T x H1/\t σ H1 λxs H2=>r x xs H2 Q
variable{o:Hb}{es:List Hb}{to:TE}{t:TA}{name:Gh}{apos cpos:MJ}{id:String}{r:V->List V->Hp->VK->Prop}
def pe_bm(pa:PlainAttrs T)(U:Slot T name id)(a:typeOf (.builtin id)=GU (.type "method_descriptor"))(k:MtR X id r)(j:PE X o to)(l:PA X (e::es) t)(L: ~~~(IW o name X.env (Ga o X.env)=Ga o X.env))(Y: ~~~(((Hl cpos (j_ (e::es) X.env)).all (λx=> !x.1)&&(KR cpos (Jz [] X.env)).all (λx=>x.1.isSome)
   &&A_ ((e::es).length+([]:List Lb).length+(if ([]:List Lb).isEmpty then 0 else 1)<30))=d_))(J: ~~~((apos.endLine==cpos.line)=d_))(i: ~~~(j_ (e::es) X.env=(c_,Ga e X.env)::j_ es X.env))(B: ~~~((Hl cpos (j_ es X.env)).any (·.1)=c_)):
  PE X (.Call (.Attribute o name apos) (e::es) [] cpos) (tBM X.K T r to t):=by
 intro B2 s σ H Q I h;refine wpAny_Call_method_late L Y J rfl (E' (j B2 s σ H _ I h) λv s1 b=>?_);obtain⟨x,H1,f,c,ty,q1⟩:=b;obtain⟨h1,m⟩:=tyV_is f c ty;refine⟨T,id,pa,U,a,h1,m,?_⟩
 have d:=l cpos B2 s1 σ H1 _ f q1;rw[i]at d ⊢;refine K7 (by show(c_||(Hl cpos (j_ es X.env)).any (·.1))=c_;rw[B]<;>rfl) (N1 ?_);refine E' d λus s2 b=>?_;obtain⟨vs,H2,n,g,q2⟩:=b;exact k B2 s2 σ H2 x vs v us Q n c g q2
/- xs.append(e),list.index on a module's tuple .. are MtR facts of 06m -/
end
def MtM(X:Cx)(id:String)(r:V->bp->Hp->VK->Prop):Prop:=
 ∀(B2:Vp) (s:l_) (σ:St) (H:Hp) (x:V) (xs:bp) (v:h_) (us:bv) (Q:VK),B6 X B2 σ H s->C' x v->D' xs us->r x xs H Q ->
  w_ (B_ X.prog X.w) X.A (Ka (.builtin id) (v::us)) (EP X B2 σ Q) X.xe s
def D'.one(h:D' [x] us):∃u,us=[u]/\C' x u:=by
 cases h with
 |cons r t=>cases t;exact⟨_,rfl,r⟩
def D'.two{y:V}(h:D' [x,y] us):∃u v,us=[u,v]/\C' x u/\C' y v:=by
 cases h with
 |cons r t=>obtain⟨v,rfl,q⟩:=D'.one t;exact⟨_,_,rfl,r,q⟩
section
variable{s:l_}{l:i_}
def B6.lset{f:Array h_->Array h_}{t':Nat}(I:B6 X B2 σ H s)(a:H l=a_ (.lst xs))(e:s.heap.get? l=a_ {cls:=.type "list",data:=.seq its.toArray n})(U:f its.toArray=its'.toArray)(J:D' ys its')(B:ys.length<=q_):
  B6 X B2 σ (upd H l (.lst ys)) {s with heap:=s.heap.update l (HP f),toks:=t'}:=by
 have q:=PySem.IsL.update e f;rw[U]at q;refine I.write (x:=l) (e:=l) (by rw[a];exact trivial) (.inl rfl) (λb' u Y L=>(GN s.heap (HP f) (HM Y)).trans L) ⟨_,q⟩ ?_;exact⟨B,its',_,J,q⟩
def B6.lnew{t':Nat}(I:B6 X B2 σ H s)(J:D' ys its)(B:ys.length<=q_):
  B6 X B2 σ (upd H s.heap.objs.size (.lst ys)) {s with heap:=s.heap.push {cls:=.type "list",data:=.seq its.toArray},toks:=t'}:=
 I.laid (λ_ _ q=>e_ _ q) (k_ _) ⟨B,its,0,J,o_ _ rfl⟩
theorem B6.fresh(I:B6 X B2 σ H s):H s.heap.objs.size=f_:=I.hok.fresh (k_ _)
def B6.lstM(I:B6 X B2 σ H s)(B:H l=a_ (.lst xs)):xs.length<=q_/\∃(its:bv) (n:Nat),D' xs its/\xs.length=its.length/\s.heap.get? l=a_ {cls:=.type "list",data:=.seq its.toArray n}:=by obtain⟨z,its,n,r,e⟩:=I.hok l _ B;exact⟨z,its,n,r,r.length,e⟩
theorem notLongL(h:n<=q_):Kd n=c_:=by simp_all[Kd]
end
def De:V->bp->Hp->VK->Prop:=λx vs H Q=>∃l xs y,x=.ref l/\vs=[y]/\H l=a_ (.lst xs)/\xs.length<q_/\Q .non (upd H l (.lst (xs++[y])))
theorem DN:MtM X "list.append" De:=by
 intro B2 s σ H x vs v us Q I J L h;obtain⟨l,xs,y,rfl,rfl,B,Y,q⟩:=h;cases J;obtain⟨u,rfl,U⟩:=L.one;obtain⟨z,its,n,r,a,e⟩:=I.lstM B;refine Qk N0 ⟨_,e,rfl⟩ F.entry_list_append (F.args_list_append_2 _ _) (PySem.list_append l its.toArray n u bi) ⟨e,?_⟩;refine⟨.non,_,I.lset (its':=its++[u]) B e ad (r.append (.cons U .nil)) ?_,rfl,q⟩
 grind[FK,Lr]
def rExtend:V->bp->Hp->VK->Prop:=λx vs H Q=>∃l b xs B,x=.ref l/\vs=[.ref b]/\H l=a_ (.lst xs)/\H b=a_ (.lst B)/\xs.length+B.length<=q_/\Q .non (upd H l (.lst (xs++B)))
theorem DM:MtM X "list.extend" rExtend:=by
 intro B2 s σ H x vs v us Q I U Y h;obtain⟨l,b,xs,g,rfl,rfl,L,f,j,q⟩:=h;cases U;obtain⟨u,rfl,a⟩:=Y.one;cases a;obtain⟨z,its,n,r,k,e⟩:=I.lstM L;obtain⟨i,B,n2,c,d,e2⟩:=I.lstM f;have hsz:its.toArray.size+B.toArray.size<=q_:=by rw[G8,G8];lia
 have J:¬(!its.toArray.isEmpty&&Kd (its.toArray.size+B.toArray.size))=d_:=by rw[notLongL hsz,Nf];exact GJ
 refine Qk NZ ⟨_,e,rfl⟩ F.entry_list_extend (F.args_list_extend_2 _ _)
  (AutoSeq1.list_extend_list_list_0 l its.toArray n b B.toArray n2 J bi ac) ⟨e,e2,?_⟩
 refine⟨.non,_,I.lset (its':=its++B) L e ad (r.append c) ?_,rfl,q⟩
 simp_all
end Lake
namespace Lake.Att
open PySem PySem.W PySem.Calls PyProof.Rows
def pK{P:Params}{h:Gr}:∀(ns:bm) (vs:bv),WellAll P h vs (ns.map WData.int)->KC vs ns:=by
 intro ns
 induction ns with
 |nil=>intro vs w;rw[IP]at w;cases w;exact .nil|cons n ns B=>
  intro vs w;rw[r_]at w;cases w with
  |cons a b=>cases a;exact .cons _ _ (B _ b)
theorem D1{l:Mc}{n:Nat}(j:l.most=a_ n){P:Params}{h:Gr}{args:List WData}{B:bv}(J:l.row.toRowW.claim.pre args=d_)(b:WellAll P h B args):
  ∃a vs ns,B=[FJ a]/\args=[WData.list (ns.map WData.int)]/\h.get? a=a_ {cls:=.type "list",data:=.seq vs.toArray}/\KC vs ns/\ns.length<=n:=by
 have c:WShape.hasAll [] args [.list .int]=d_:=(pre_splitW J).1;have e:l.pre.holds [] {args:=args}=d_:=(pre_splitW J).2;obtain⟨d,r,rfl,h1,m⟩:=hasAllW_cons c;obtain rfl:=hasAllW_nil m;obtain⟨xs,rfl,k⟩:=hasW_list h1;obtain⟨ns,rfl⟩:=items_int k;have L:ns.length<=n:=by
  unfold OpenLaw.pre at e;have Y:(WTm.not (.lt (.lit (.int (n:Int))) (.len (.arg 0)))).holds [] {args:=[.list (ns.map .int)]}=d_:=by have Y:=(holds_andW e).1;rw[j]at Y;exact Y
  have h5:=condW_of Y (w_not (w_lt w_lit (w_len_list (w_arg rfl))));rw[n_]at h5;refine PV λq=>?_;have o:(n:Int)<((ns.length:Nat):Int):=ac
  first
   |simp_all
   |(simp at h5;lia)
 cases b with
 |cons g f=>
  cases f;cases g with
  |list i U=>exact⟨_,_,ns,rfl,rfl,i,pK ns _ U,L⟩
def Dl(l:Mc)(args:List WData):l.row.toRowW.claim.post args (.bool d_) args=d_:=
 postW_of (r:=l.row.toRowW) (X:=(d_==d_))
  (show WShape.has [] (.bool d_) .bool=d_ by rfl)
  (show(WTm.eq .res (.lit (.bool d_))).value [] {args:=args,res:=a_ (.bool d_),after:=args}=a_ (.bool (d_==d_))from w_eq_bool (w_res rfl) w_lit) rfl
def zh{l:Mc}{n:Nat}{q:GH}{L:List Gh}{y:(Ld)->Gr->Prop}{x:Hz->Gr->Prop}{d:DefRec}(D:l.most=a_ n)(m:d.params.defaults=[])(g:∀(w:Hz) (J B:l_) (mg i:Ld) (fa:i_) (o:L7) (pm h doc:h_) (a:i_) (vs:bv) (ns:bm),
   Ground q L [] y w J mg i B.heap->x w B.heap ->
   B.heap.get? fa=a_ o->o.data=.func (docDef d.name d.params d.body d.scope pm h doc)->B.heap.CodeRec h d.name->mg d.name=a_ (.ref fa) ->
   B.heap.get? a=a_ {cls:=.type "list",data:=.seq vs.toArray}->KC vs ns->ns.length<=n->B.gens=#[] ->
   JJ (B_ l.prog w) MW (.call (.ref fa) ⟨[.ref a],[]⟩) (λr s'=>r=.ok (.ret (.bool d_))/\OldK B.heap s'.heap/\s'.os=B.os/\LO s'.gens) B):
  Ov q L y x l.row.toRowW d [] (λf vs=>Ka f vs):=by
 intro w J B mg i G Y fa o pm h doc P kV C I p u k H v s as b t z j F;obtain rfl:P=.none:=Dflts.none u m;obtain rfl:kV=.none:=Dflts.noKw u;obtain⟨a,vs,ns,rfl,rfl,c,U,e⟩:=D1 D b j;refine enter_call (JB (g w J B mg i fa o pm h doc a vs ns G Y C (fd_plain I) p k c U e H) λr s' A=>?_);obtain⟨rfl,O,N,K⟩:=A;exact⟨.inl ⟨.bool d_,.bool d_,[],rfl,λ_=>rfl,.bool d_,Dl l _,λ_=>⟨HL,λ_ E=>(nomatch E)⟩⟩,O,N,K⟩
end Lake.Att
namespace Lake
open PySem PySem.Spec PyProof.Rows
variable{P prog:GH}{w:Hz}{K:Pn}{mg:Ld}{CX:CXT}{k n c j i m lo t' nN nN2 n2 k2 ep ep' hint ia ib:Nat}{a l b C r fad fI z I S:i_}{fd fdI:IG}{x qual:Gh}{vs us its:List h_}{X:Cx}{st st1:F_}{ps N' N ps2:List Gh}{oc kV doc pm cdv ct mc u k' a' b':h_}{od an:Option i_}{osl sl:Array (Option h_)}{pos spos py apos pos' q p2 q1 q2 p1 p3 p4 cpos kp:MJ}{H H1 H2 H' F F' H0 F1 F0 FB:Hp}{scope sc:MY}{env:Oe}{A:HQ}{E:Mq}{B2:Vp}{σ:St}{ix ix2:List (Option Nat)}{fp ch:List i_}{h1 h h':Gr}{R:List V->Hp->Prop}{elt tg iter e ex ea eb value ek ev e1 e2 e3 e4 e5:Hb}{ifs es elts:List Hb}{tt:TT}{te tl ta tb tv td:TE}{y v:V}{xs:List V}{T:Unit->l_->Prop}{cs:List (Gh×i_)}{p O O2 OL O' ys out pa pb p':List Nat}{pl:Ln Bool}{Q:VK}{ro:Bool}{α β:Type}{is:List Int}{op op':CmpOp}{sts body:List G1}{r':Array GQ}{κ:N4}{items:Array h_}{bd:Nat->Bool}{gs:List (List Nat×Nat)}
theorem vc:∀{vs:bv} {ns:bm},KC vs ns->D' (ns.map V.int) vs
 |_,_,.nil=>.nil|_,_,.cons n t h=>.cons ⟨t,rfl⟩ (vc h)
def Only(H:Hp):Prop:=∀b,H b=f_\/∃o xs,H b=a_ (.frz o (.lst xs))
theorem law_call{y:Ld}{fa:i_}{sp:Sp}{B:l_}{ns:bm}(Q:K.In B.heap)(i:B.heap.Ns G6 mg)(c:B.heap.Ns Ql y)(D:∀x:Gh,x≠"__name__"->y x=Iu x)(j:B.heap.NoLimit)(hg:B.gens=#[])(E:B.heap.get? a=a_ {cls:=.type "list",data:=.seq vs.toArray})(hi:KC vs ns)(hl:ns.length<=q_)(hr:jo k MW)(F:∀base:Gr,K.In base->base.Ns G6 mg->jr P w K mg base CX k fa fd [x] sp)(Y:∀(s:l_) (u:h_),Mn s fd ⟨[u],[]⟩ [(x,u)])(A:∀H:Hp,Only H->SqL K H a (ns.map V.int)->sp [.ref a] H (λv _=>v=.bl d_) λ_ _ _=>False)(G:∀H e s',CX [] H B (λ_ _ _=>False) e s'->False):
  JJ (B_ P w) MW (.call (.ref fa) ⟨[.ref a],[]⟩) (λr s'=>r=.ok (.ret (.bool d_))/\OldK B.heap s'.heap/\s'.os=B.os/\LO s'.gens) B:=by
 have T:=vc hi;have N:=hi.length;have U:∀H:Hp,Only H->SqL K H a (ns.map V.int)->HOk H B.heap->(∀b,H b≠f_->b=a)->(H a≠f_->K.lookup a=f_) ->
   JJ (B_ P w) MW (.call (.ref fa) ⟨[.ref a],[]⟩) (λr s'=>r=.ok (.ret (.bool d_))/\OldK B.heap s'.heap/\s'.os=B.os/\LO s'.gens) B:=by
  intro H O hS g hA hK;have J:∀{b:i_} {o:L7},B.heap.get? b=a_ o->H b=f_->(hidT B.heap H).get? b=a_ o:=λe n=>hidT_get e n;have t:∀{b:i_} {o:L7} {es:Array Hn} {ep:Nat},B.heap.get? b=a_ o->o.data=.dict es ep->H b=f_:=λ{b o es ep} e d=>by grind
  have L:∀{b:i_} {m:Ld},B.heap.Ns b m->(hidT B.heap H).Ns b m:=λ{b m} ⟨o,es,ep,e,d,r⟩=>⟨o,es,ep,J e (t e d),d,r⟩
  have l:K.In (hidT B.heap H):=λb o e=>J (Q b o e) be
  have hM:Mod K mg (hidT B.heap H):=⟨l,L i,⟨y,L c,D⟩,let ⟨mc,h1,h2⟩:=j;⟨mc,L h1,h2⟩⟩
  have e0:Env0 P w K mg (hidT B.heap H) MW [] B H:=⟨rfl,hM,λb o e=>of_hidT e,JT (Em _ _),trivial,λb c=>FZ (show b∈([]:List i_)from c) ad,g,.of_eq hg⟩
  refine JB ((F _ l (L i)).run MW [] B H ⟨[.ref a],[]⟩ [.ref a] [.ref a] _ _ hr e0 (Y B (.ref a)) (.cons rfl .nil) (A H O hS)) λr s' h=>?_;cases r with
  |error e=>exact(G H e s' h).elim|ok fl=>
   cases fl with
   |next=>exact GG h|brk=>exact GG h|cont=>exact GG h|ret u=>
    obtain⟨v,H',X,p,I,f,r',q⟩:=h;have W:v=.bl d_:=q;subst W;obtain rfl:u=LZ d_:=r';refine⟨rfl,OldK.of_keep λb o e=>?_,X,p⟩
    cases q:H b with
    |none=>exact I.keep b o e q (by intro z;exact FZ (show b∈([]:List i_)from z) ad) ad|some u=>
     rcases O b with z|⟨Z,xs,z⟩
     .simp_all
     .have R:=I.frzs b Z _ z;obtain⟨e1,_⟩:=g b _ z;obtain⟨e2,_⟩:=f b _ R
      simp_all
 cases C:K.lookup a with
 |some o=>have e:=Q a o C;rw[E]at e;cases e;refine U (λ_=>f_) (λ_=>.inl rfl) (.inr ⟨_,vs.toArray,_,C,rfl,rfl,rfl,bi,bi⟩) (λb u z=>by simp_all) (λb z=>FZ rfl z) λz=>FZ rfl z|none=>
  refine U (λb=>if b=a then a_ (.frz {cls:=.type "list",data:=.seq vs.toArray} (.lst (ns.map V.int)))else f_) (λb=>?_) (.inl (.inr ⟨{cls:=.type "list",data:=.seq vs.toArray},u_ rfl⟩)) (λb u z=>?_) (λb z=>?_) λ_=>C
  .grind
  .by_cases c:b=a
   .have S:=(u_ c).symm.trans z;cases S;subst c;exact⟨E,bi,vs,_,T,E⟩
   simp_all
  simp_all
def walk_of{l:Mc}{q:GH}{J:List Gh}{P:(Ld)->Gr->Prop}{r:Hz->Gr->Prop}{d:DefRec}{K:Params->Pn}{CX:Hz->CXT}{sp:Hz->Sp}(z:l.most=a_ n)(g:n<=q_)(j:d.params.defaults=[])(y:jo k MW)(E:∀(w:Hz) (h:Gr),r w h->(K w.params).In h)(F:∀(w:Hz) (mg:Ld) (fa:i_) (h:Gr),(K w.params).In h->h.Ns G6 mg->mg d.name=a_ (.ref fa) ->
   ∃fd:IG,(∀(s:l_) (u:h_),Mn s fd ⟨[u],[]⟩ [(x,u)]) /\
    ∀base:Gr,(K w.params).In base->base.Ns G6 mg->jr l.prog w (K w.params) mg base (CX w) k fa fd [x] (sp w))(c:∀(w:Hz) (H:Hp) (a:i_) (ns:bm),ns.length<=n->Only H->SqL (K w.params) H a (ns.map V.int)->sp w [.ref a] H (λv _=>v=.bl d_) λ_ _ _=>False)(m:∀(w:Hz) (H:Hp) (s:l_) (e:h_) (s':l_),CX w [] H s (λ_ _ _=>False) e s'->False):
  Ov q J P r l.row.toRowW d [] (λf vs=>Ka f vs):=by
 refine Att.zh z j λw p U mg Q fa o pm T doc a vs ns G Y R S C i b L B A=>?_;have t:=E w _ Y;obtain⟨fd,D,O⟩:=F w mg fa _ t G.T.g i;exact law_call t G.T.g G.T.b G.T.builtins G.T.nolimit A b L (Cb B g) y O D (λH N I=>c w H a ns B N I) λH e s'=>m w H U e s'
def inClass(s:G1)(j:Nat):G1:=match s with
 |.ClassDef _ _ _ body _ _ _ _ _ _ _=>body.getD j (.Pass ⟨0,0,0,0⟩)|_=>.Pass ⟨0,0,0,0⟩
def eZ(s:G1):Arguments:=match s with
 |.FunctionDef _ a _ _ _ _ _ _ _ _=>a|_=>{posonlyargs:=[],args:=[],vararg:=f_,kwonlyargs:=[],kw_defaults:=[],kwarg:=f_,defaults:=[]}
def cR(s:G1):List G1:=match s with
 |.FunctionDef _ _ b _ _ _ _ _ _ _=>b|_=>[]
def aO(s:G1):MY:=match s with
 |.FunctionDef _ _ _ _ _ _ sc _ _ _=>sc|_=>{kind:=.function,names:=[],isGenerator:=c_,isCoroutine:=c_}
noncomputable abbrev CX0:CXT:=λ_ _ _ _ _ _=>False
noncomputable abbrev E0:XK:=λ_ _ _=>False
def vQ:Passes CX0 X E0:=λ_ _ _ _ _ _ _ h=>h.elim
structure Fun(K:Pn)(x qual:Gh)(st:G1)(f:i_)(fd:IG):Prop where
 ex:∃(oc:h_) (od:Option i_) (kV doc pm:h_) (an:Option i_) (cdv ct:h_) (osl:Array (Option h_)),
  fd=Ni x qual (eZ st) (cR st) (aO st) .none kV doc pm an cdv ct/\K.lookup f=a_ ⟨oc,od,.func fd,osl⟩/\NX K cdv qual=d_
 kp:Kw K (.ref f)=d_
theorem Fun.binds{st:G1}{f:i_}(F:Fun K x qual st f fd)(h:∀(kV doc pm:h_) (an:Option i_) (cdv ct:h_) (us:bv),us.length=ps.length->MX (Ni x qual (eZ st) (cR st) (aO st) .none kV doc pm an cdv ct) ⟨us,[]⟩=GU (ps.zip us)):Binds K fd ps []:=by obtain⟨oc,od,kV,doc,pm,an,cdv,ct,osl,rfl,J,B⟩:=F.ex;exact .all (h kV doc pm an cdv ct)
def Ar{st:G1}{f:i_}(l:K.lookup f=a_ ⟨oc,od,.func (Ni x qual (eZ st) (cR st) (aO st) .none kV doc pm an cdv ct),osl⟩)(c:NX K cdv qual=d_)(k:Kw K (.ref f)=d_):Fun K x qual st f (Ni x qual (eZ st) (cR st) (aO st) .none kV doc pm an cdv ct):=⟨⟨oc,od,kV,doc,pm,an,cdv,ct,osl,rfl,l,c⟩,k⟩
def pv(i:Nat)(j: ~~~(X.N[i]?=a_ x))(b:autoParam (Vis X.env.scope x) Jq5)(U:((x==("__debug__":Gh))=c_)⁻¹)(Y:((x==("__classdict__":Gh))=c_)⁻¹):PE X (.Name x pos) (tVar i):=by
    intro B2 s σ H Q I h;obtain⟨v,e,h⟩:=h;obtain⟨m,d,g⟩:=I.loc;obtain⟨u,r,l⟩:=g i x v j e b;have L:EP X B2 σ Q u s:=⟨v,H,I,r,h⟩
    rcases l with⟨J,f⟩|⟨J,c,a,B⟩
    .exact Qf (wpAny_loadName_local I.ok.kind J d f L) U
    .rcases J with J|J
     .exact Qf (wpAny_loadName_cell I.ok.kind J a B L) U
     .exact Qf (wpAny_loadName_free I.ok.kind J a B L Y) U
theorem iteNS{c A B:Prop}[Decidable c](J:c)(h:B):if (!decide c)=d_ then A else B:=by simp_all
def aU(H H':Hp):Prop:=∀b o,H b=a_ o->H' b=a_ o
def aU.refl(H:Hp):aU H H:=λ_ _ h=>h
def aU.trans(a:aU H H1)(b:aU H1 H2):aU H H2:=λc o h=>b c o (a c o h)
theorem aU.free(e:aU H H')(h:H' l=f_):H l=f_:=by
 cases q:H l with
 |none=>rfl|some o=>
  rw[e l o q]at h
  lia
noncomputable def sF(cells:List (Gh×i_)):List (Gh×Jn)->List (Gh×i_)->List (Gh×i_)
 |[],B=>B|(x,k)::r,B=>sF cells r (if (k==Ge)=d_ then(x,(cells.lookup x).getD 0)::B else B)
theorem lt_ne(h1:a<n)(B:n<=b):a≠b:=ac
theorem sE{cells:List (Gh×i_)}{x:Gh}{c:i_}:∀(ns:List (Gh×Jn)) (B:List (Gh×i_)),(sF cells ns B).lookup x=a_ c ->
  ((x,Ge)∈ns/\c=(cells.lookup x).getD 0)\/B.lookup x=a_ c
 |[],_,h=>.inr h|(y,k)::r,B,h=>by
  unfold sF at h;rcases sE r _ h with⟨m,e⟩|q
  .simp_all
  grind
theorem qi{cells:List (Gh×i_)}{x:Gh}:∀(ns:List (Gh×Jn)) (B:List (Gh×i_)),((x,Ge)∈ns\/(B.lookup x).isSome=d_)->((sF cells ns B).lookup x).isSome=d_
 |[],_,h=>h.elim (λz=>nomatch z) id
 |(y,k)::r,B,h=>by
  unfold sF;refine qi r _ ?_
  grind
theorem lE{x:Gh}{c:i_}:∀(ns:List (Gh×Jn)) (n:Nat) (B:List (Gh×i_)),(HC n ns B).lookup x=a_ c->(n<=c/\(x,Ia)∈ns)\/B.lookup x=a_ c
 |[],_,_,h=>.inr h|(y,k)::r,n,B,h=>by
  unfold HC at h;by_cases J:(k==Ia)=d_
  .rw[u_ J]at h;rcases lE r (n+1) _ h with⟨a,m⟩|q
   .grind
   grind
  .rw[x_ J]at h;rcases lE r n B h with⟨a,m⟩|q
   .simp_all
   .exact .inr q
theorem qm:∀(ns:List (Gh×Jn)) (n:Nat) (B:List (Gh×i_)),(∀x y c,B.lookup x=a_ c->B.lookup y=a_ c->x=y)->(∀x c,B.lookup x=a_ c->c<n) ->
  ∀x y c,(HC n ns B).lookup x=a_ c->(HC n ns B).lookup y=a_ c->x=y
 |[],_,_,hi,_=>hi|(z,k)::r,n,B,hi,L=>by
  unfold HC;by_cases J:(k==Ia)=d_
  .rw[u_ J];refine qm r (n+1) _ (λx y c h1 U=>?_) (λx c h1=>?_)
   .grind
   grind
  .rw[x_ J];exact qm r n B hi L
theorem mJ{x:Gh}{c:i_}:∀(ns:List (Gh×Jn)) (h:Gr) (B:List (Gh×i_)),(HC h.objs.size ns B).lookup x=a_ c ->
  B.lookup x=a_ c\/(h.objs.size<=c/\(pushCells h ns).IsCell c f_)
 |[],_,_,e=>.inl e|(y,k)::r,h,B,e=>by
  unfold HC at e;unfold pushCells;by_cases J:(k==Ia)=d_
  .rw[u_ J]at e ⊢;have q:=mJ (x:=x) (c:=c) r (h.push {cls:=.type "cell",data:=.cell f_}) ((y,h.objs.size)::B) bi;rcases q with q|⟨q1,q2⟩
   .rw[Hx]at q;cases L:x==y with
    |true=>rw[L]at q;have e1:=G7 q;subst e1;exact .inr ⟨k_ _,Heap.IsCell.keeps ⟨_,o_ _ rfl,rfl⟩ (NA r _)⟩|false=>simp_all
   grind[Hq]
  .rw[x_ J]at e ⊢;exact mJ r h B e
theorem mP{env:Oe}(f:Gh×Jn->List (Gh×i_)->Ln (KY (List (Gh×i_))))(L:∀n k cs,f (n,k) cs=if (k==Ge)=d_ then(do let a <- cellOf env n;GU (.yield ((n,a)::cs)))else GU (.yield cs)):
  ∀(ns:List (Gh×Jn)) (B:List (Gh×i_)),(∀x∈ns,x.2=Ge->∃c,env.cells.lookup x.1=a_ c)->O4 ns B f=(GU (sF env.cells ns B):Ln _)
 |[],B,_=>by rfl|(y,k)::r,B,Y=>by
  have U:∀x∈r,x.2=Ge->∃c,env.cells.lookup x.1=a_ c:=λx d=>Y x (Hw _ d);rw[Lk,L];unfold sF;by_cases J:(k==Ge)=d_
  .rw[u_ J,u_ J];obtain⟨c,e⟩:=Y (y,k) Hu (HF J);have b:env.cells.lookup y=a_ c:=e;have e2:cellOf env y=GU c:=by unfold cellOf;rw[b]
   rw[e2,b];exact mP f L r _ U
  .rw[x_ J,x_ J];exact mP f L r _ U
def sD(B:∀x∈scope.names,x.2=Ge->∃c,env.cells.lookup x.1=a_ c):closureFor scope env=GU (sF env.cells scope.names []):=by simp only[closureFor];rw[mP (env:=env) _ (λn k cs=>by rfl) scope.names [] B];rfl
theorem DL{M:PH}{s:l_}{gl:i_}{J:List (Gh×i_)}{B:Oe}{Q:Oe->l_->Prop}(U:∀h1:Gr,(∀b o,s.heap.get? b=a_ o->h1.get? b=a_ o)->h1.Ns s.heap.objs.size (λ_=>f_) ->
   (∀x c,(HC (s.heap.objs.size+1) scope.names J).lookup x=a_ c->J.lookup x=a_ c\/(s.heap.objs.size<c/\h1.IsCell c f_)) ->
   Q {scope:=scope,locals:=s.heap.objs.size,globals:=gl,cells:=HC (s.heap.objs.size+1) scope.names J,qual:=qual,func:=f_,code:=B.code,frame:=B.frame,builtins:=B.builtins} {s with heap:=h1}):
  w_ M A (NT scope gl J [] qual f_ .none (a_ B)) Q E s:=by
 simp only[NT,Option.isSome_some,Kv];refine b_ (wpAny_alloc ?_);refine b_ (wpAny_layCells _ (λname L cells=>by rfl) _ _ _ _ ?_);rw[show({s with heap:=s.heap.push {cls:=.type "dict",data:=.dict #[]}}:l_).heap.objs.size=s.z+1 from Hq ..];rw[LI];refine b_ (g_ (g_ ?_));refine U _ (λb o e=>NA _ _ b o (e_ _ e)) ((Heap.Ns.new s.heap (.type "dict")).keeps (NA _ _)) λx c e=>?_;have q:=mJ (x:=x) (c:=c) scope.names (s.heap.push {cls:=.type "dict",data:=.dict #[]}) J bi
 grind[Hq]
theorem rq{env:Oe}{x:Gh}:∀{ns:List (Gh×Jn)},ns.lookup x=a_ .free ->
  (ns.map λ(n,k)=>if (k==Ge&&env.scope.kind==.function&&env.kindOf n==a_ .cell)then(n,Ia)else(n,k)).lookup x=a_ .cell \/
  (ns.map λ(n,k)=>if (k==Ge&&env.scope.kind==.function&&env.kindOf n==a_ .cell)then(n,Ia)else(n,k)).lookup x=a_ .free
 |[],h=>by simp at h|(n,k)::r,h=>by
  have J:=@rq env x r;rw[r_];dsimp only;by_cases L:(k==Ge&&env.scope.kind==.function&&env.kindOf n==a_ .cell)=d_
  .rw[u_ L,Hx];cases B:x==n with
   |true=>simp|false=>rw[Hx,B]at h;exact J h
  .rw[x_ L,Hx];cases B:x==n with
   |true=>rw[Hx,B]at h;have e:=G7 h;subst e;simp|false=>rw[Hx,B]at h;exact J h
theorem rA{env:Oe}{x:Gh}:∀{ns:List (Gh×Jn)},
  ((ns.map λ(n,k)=>if (k==Ge&&env.scope.kind==.function&&env.kindOf n==a_ .cell)then(n,Ia)else(n,k)).lookup x=a_ .cell \/
  (ns.map λ(n,k)=>if (k==Ge&&env.scope.kind==.function&&env.kindOf n==a_ .cell)then(n,Ia)else(n,k)).lookup x=a_ .free) ->
  ns.lookup x=a_ .cell\/ns.lookup x=a_ .free
 |[],h=>by simp at h|(n,k)::r,h=>by
  have B:=@rA env x r
  grind
def aQ(X:Cx)(N':List Gh)(sc:MY)(L:i_)(cs:List (Gh×i_))(s:l_)(H:Hp)(fp:List i_):Cx:=
 {X with
  N:=N',s₀:=s,H₀:=H,outer:=X.stack,ex:=fp,pn:=[],xe:=λ_ _=>False
  fn:=λx=> !(sc.names.any λp=>p.1==x&&p.2==Ge)
  env:={scope:=relabel sc X.env,locals:=L,globals:=X.env.globals,cells:=cs,qual:=X.env.qual,func:=f_,code:=X.env.code,frame:=X.env.frame,builtins:=X.env.builtins}}
def inS(ix:List (Option Nat))(σ:St):St:=ix.map λo=>match o with
 |none=>f_|some j=>(σ[j]?).join
def bj(N:List Gh)(B:MY)(N':List Gh)(sc:MY)(ix:List (Option Nat)):Bool:=
 A_ (ix.length=N'.length) &&
 ((FN ix.length).all λi=>match ix[i]? with
  |some (a_ j)=>(match N'[i]?,N[j]? with
   |some x,a_ y=>x==y&&sc.names.lookup x==a_ Ge|_,_=>c_)
  |_=>d_) &&
 (sc.names.all λp=>(p.2 != Ge||(B.names.lookup p.1==a_ Ia||B.names.lookup p.1==a_ Ge))&&(p.2 != NameKind.local||sc.names.lookup p.1==a_ NameKind.local)) &&
 (sc.names.all λp=>sc.names.all λq=> !(p.1==q.1)||p.2==q.2)
section
variable{s:l_}
def bj.len(ok:bj X.N X.env.scope N' sc ix=d_):ix.length=N'.length:=by unfold bj at ok;rw[t_,t_,t_]at ok;exact L5 ok.1.1.1
theorem bj.at(ok:bj X.N X.env.scope N' sc ix=d_){i j:Nat}{x:Gh}(h:ix[i]?=a_ (a_ j))(B:N'[i]?=a_ x):X.N[j]?=a_ x/\sc.names.lookup x=a_ .free:=by
 unfold bj at ok;rw[t_,t_,t_]at ok;have q:=Im.mp ok.1.1.2 i (Gs.mpr (oe.mp h).1);rw[h,B]at q;dsimp only at q;cases e:X.N[j]? with
 |none=>rw[e]at q;cases q|some y=>rw[e]at q;dsimp only at q;rw[t_]at q;exact⟨by rw[HF q.1],HF q.2⟩
theorem bj.fr(ok:bj X.N X.env.scope N' sc ix=d_)(h:(x,Ge)∈sc.names):X.env.kindOf x=a_ .cell\/X.env.kindOf x=a_ .free:=by
 unfold bj at ok;rw[t_,t_]at ok;have q:=Im.mp ok.1.2 _ h;rw[t_]at q;have q1:=q.1;rw[MR]at q1;rcases q1 with z|z
 .simp_all
 .rw[MR]at z;exact z.imp (λe=>HF e) λe=>HF e
theorem bj.loc(ok:bj X.N X.env.scope N' sc ix=d_):∀x∈sc.names,x.2=NameKind.local->sc.names.lookup x.1=a_ .local:=λx B e=>by
 unfold bj at ok
 grind
def bj.apart(ok:bj X.N X.env.scope N' sc ix=d_)(h1:(x,Ia)∈sc.names)(B:(x,Ge)∈sc.names):False:=by unfold bj at ok;rw[t_]at ok;have q:=Im.mp (Im.mp ok.2 _ h1) _ B;simp at q
def qh(I:B6 X B2 σ H s)(ok:bj X.N X.env.scope N' sc ix=d_):∀x∈sc.names,x.2=Ge->∃c,X.env.cells.lookup x.1=a_ c:=λx B e=>by obtain⟨n,k⟩:=x;have J:k=Ge:=e;subst J;exact I.ok.has n (bj.fr ok B)
theorem F7(I:B6 X B2 σ H s)(ok:bj X.N X.env.scope N' sc ix=d_){c:i_}(h:(sF X.env.cells sc.names []).lookup x=a_ c):(x,Ge)∈sc.names/\X.env.cells.lookup x=a_ c:=by
 rcases sE _ _ h with⟨m,e⟩|z
 .obtain⟨d,B⟩:=qh I ok _ m rfl
  simp_all
 simp_all
theorem comp_inv{L:i_}(I:B6 X B2 σ H s)(d:∀b∈fp,Cq X B2 H b)(W:∀b∈fp,∃o,s.heap.get? b=a_ o)(ok:bj X.N X.env.scope N' sc ix=d_)(T:sc.kind=.function)(U:s.heap.objs.size<=L)(kp:∀b o,s.heap.get? b=a_ o->h1.get? b=a_ o)(ns:h1.Ns L λ_=>f_)(Y:∀x c,(HC (L+1) sc.names (sF X.env.cells sc.names [])).lookup x=a_ c->(sF X.env.cells sc.names []).lookup x=a_ c\/(L<c/\h1.IsCell c f_)):
  B6 (aQ X N' sc L (HC (L+1) sc.names (sF X.env.cells sc.names [])) s H fp) [] (inS ix σ) H {s with heap:=h1}:=by
 have B:∀x c,(sF X.env.cells sc.names []).lookup x=a_ c->(x,Ge)∈sc.names/\X.env.cells.lookup x=a_ c/\(∃v,s.heap.IsCell c v)/\c<s.z:=λx c e=>by obtain⟨m,K⟩:=F7 I ok e;obtain⟨v,z⟩:=I.cell x c K;exact⟨m,K,⟨v,z⟩,z.lt⟩
 have a:∀b∈fp,b<s.z:=λb z=>let ⟨o,e⟩:=W b z;s_ e;have D:∀b∈fp,∀x c,(HC (L+1) sc.names (sF X.env.cells sc.names [])).lookup x=a_ c->c≠b:=λb z x c e=>by
  have J:=a b z;rcases Y x c e with q|⟨q,_⟩
  .exact(d b z).2.2.2.2.1 x c (B x c q).2.1
  .exact by
    have h1:=(C_ J U)
    lia
 have h:(aQ X N' sc L (HC (L+1) sc.names (sF X.env.cells sc.names [])) s H fp).Ok:=by
  refine⟨I.ok.mod,T,I.ok.glob,I.ok.blt,U,?_,?_,?_,I.ok.hd,I.ok.frames,.inl rfl,?_,I.bs,Cb I.ok.bsz I.sz,?_,?_,I.stack,I.CV⟩
  .refine qm sc.names (L+1) _ (λx y c e1 e2=>I.ok.inj x y c (B x c e1).2.1 (B y c e2).2.1) λx c e=>?_;exact Pu (C_ (B x c e).2.2.2 U)
  .intro x P;have n:=rA (env:=X.env) (x:=x) (ns:=sc.names) P;have q:((HC (L+1) sc.names (sF X.env.cells sc.names [])).lookup x).isSome=d_:=by
    rcases n with z|z
    .exact IX _ _ _ (.inl z)
    .exact IX _ _ _ (.inr (qi _ _ (.inl (Hj z))))
   exact Jw.mp q
  .intro x c A e;show s.z<=c;rcases Y x c e with q|⟨q,_⟩
   .have m:=(B x c q).1;have F:(!(sc.names.any λp=>p.1==x&&p.2==Ge))=d_:=A
    grind
   .exact Cb U (GP q)
  .intro b z;have J:=a b z;exact⟨FR (C_ J U),D b z⟩
  .intro b o e z;rcases(d b z).2.2.2.1 with q|q
   .exact I.ok.noex b o e q
   .exact FZ (C_ (s_ e) (Cb I.ok.bsz q)) (Jk _)
  .intro b z Q;rcases p_.mp (I.vn b Q)with q|q
   .exact(d b z).2.1 q
   .exact(d b z).2.2.1 q
 refine⟨h,rfl,I.bare,Un.kept kp,⟨_,ns,λi x v C G h3=>?_⟩,λx c e=>?_,I.hok.fresh U,λx c e=>?_,λp R=>FZ R (by simp[aQ]),I.hok.kept kp,?_⟩
 .have t:∃j,ix[i]?=a_ (a_ j)/\σ[j]?=a_ (a_ v):=by
   unfold inS at G;rw[FQ]at G;cases e:ix[i]? with
   |none=>simp_all|some o=>grind
  obtain⟨j,e1,e2⟩:=t;obtain⟨e3,e4⟩:=bj.at ok e1 C;have w:=bj.fr ok (Hj e4);obtain⟨m,hn,S⟩:=I.loc;obtain⟨u,r,l⟩:=S j x v e3 e2 (w.elim (λz=>.inr (.inl z)) λz=>.inr (.inr z));refine⟨u,r,.inr ⟨rq (env:=X.env) (x:=x) (ns:=sc.names) e4,?_⟩⟩
  rcases l with⟨k,_⟩|⟨k,c,e,z⟩
  .simp_all
  .have q1:=qi (cells:=X.env.cells) sc.names [] (.inl (Hj e4));obtain⟨c2,q2⟩:=Jw.mp q1;have E:=(B x c2 q2).2.1;rw[e]at E;cases E;have N:=IX (x:=x) sc.names (L+1) (sF X.env.cells sc.names []) (.inr q1);obtain⟨Z,g⟩:=Jw.mp N;rcases Y x Z g with f|⟨f,q7⟩
   .rw[q2]at f;cases f;exact⟨c,g,z.keeps kp⟩
   .exfalso;rcases lE _ _ _ g with⟨_,O⟩|q8
    .exact bj.apart ok O (Hj e4)
    grind
 .rcases Y x c e with q|⟨_,q⟩
  .obtain⟨v,z⟩:=(B x c q).2.2.1;exact⟨v,z.keeps kp⟩
  .exact⟨_,q⟩
 .rcases Y x c e with q|⟨q,_⟩
  .exact I.freeC x c (B x c q).2.1
  .exact I.hok.fresh (Cb U (GP q))
 .show(inS ix σ).length=N'.length;unfold inS;rw[n_];exact bj.len ok
end
def PTs(X:Cx)(ifs:List Hb)(t:TT):Prop:=
 ∀(B2:Vp) (s:l_) (σ:St) (H:Hp) (Q:Bool->Hp->Prop),B6 X B2 σ H s->t σ H Q ->
  w_ (B_ X.prog X.w) X.A (O4 ifs d_ λc r=>if r=d_ then do let ok <- O_ c X.env (Ga c X.env);GU (KP ok)else GU (KP r)) (TP X B2 σ Q) X.xe s
noncomputable def tYes:TT:=λ_ H Q=>Q d_ H
def pts_nil:PTs X [] tYes:=λ_ _ _ H _ I h=>wpAny_tests_nil ⟨H,I,h⟩
def tG{c:Hb}{t:TT}(h:PT X c t):PTs X [c] t:=λB2 s σ H Q I q=>wpAny_tests_one (h B2 s σ H Q I q)
def xn{R:Nj->l_->Prop}{s:l_}{Y B:h_}(J:Nat->l_->Prop)(L:∀n s,J n s->w_ (B_ prog w) A (JC Y) (λr s1=>match r with
   |none=>R (.ok .next) s1|some v=>w_ (B_ prog w) A (LS tg Y v) (λ_ U=>w_ (B_ prog w) A (JD tg env v) (λ_ s2=>
     w_ (B_ prog w) A (O4 ifs d_ λc r=>if r=d_ then do let ok <- O_ c env (Ga c env);GU (KP ok)else GU (KP r)) (λok a=>
      if ok=d_ then w_ (B_ prog w) A (Ga elt env) (λx e=>w_ (B_ prog w) A (Ka (.builtin "list.append") [B,x]) (λ_ d=>∃m,m<n/\J m d) (λ_ _=>False) e) (λ_ _=>False) a
      else ∃m,m<n/\J m a) (λ_ _=>False) s2) (λ_ _=>False) U) (λ_ _=>False) s1) (λ_ _=>False) s)(n:Nat)(h:J n s):JJ (B_ prog w) A (.compLoop (.ListComp elt [⟨tg,iter,ifs,0⟩] scope pos) 0 Y B env) R s:=by
 refine codeAny_loop rfl J (λn s g=>?_) n h;show w_ _ A ((compTurn (.ListComp elt [⟨tg,iter,ifs,0⟩] scope pos) 0 Y B env).onRaise (λx=>do noteFrame x env;theTreesLotGoes x)) _ _ s;refine wpAny_noted ?_;rw[compTurn_list];refine b_ (Lf (b_ (GS (L n s g) (λr s1 h1=>?_) λ_ _ z=>z.elim)));cases r with
 |none=>exact g_ h1|some v=>
  refine b_ (GS h1 (λ_ U b=>?_) λ_ _ z=>z.elim);refine b_ (GS b (λ_ s2 k=>b_ (GS k (λok a f=>?_) λ_ _ z=>z.elim)) λ_ _ z=>z.elim);cases ok with
  |false=>exact g_ ⟨rfl,f⟩|true=>exact b_ (b_ (GS f (λx e j=>b_ (GS j (λ_ d i=>g_ (g_ ⟨rfl,i⟩)) λ_ _ z=>z.elim)) λ_ _ z=>z.elim))
def jT(J:It)(ix:List (Option Nat))(g:TG)(tt:TT)(te:TE)(σ:St)(F:bp->Hp->Prop)(H:Hp):Prop:=
 ∃W:Nat->Nat->bp->Hp->Prop,(∃m,W 0 m [] H)/\∀i m ys H,W i m ys H ->
  (J.stop i H/\ys.length<=q_/\F ys H)\/(J.go i H/\ys.length<=q_/\∃N:bp->Hp->Prop,(∀L H',N L H'->∃U,U<m/\W (i+1) U L H') /\
   ∀x H',J.yld i H x H'->g x (inS ix σ) H' λB H2=>tt B H2 λb Y=>if b=d_ then te B Y λy a=>N (ys++[y]) a else N ys Y)
section
variable{s:l_}
def B6.slots0{B:St}(I:B6 X B2 B H s)(h:∀(i:Nat) v,(inS ix σ)[i]?=a_ (a_ v)->B[i]?=a_ (a_ v))(J:(inS ix σ).length=X.N.length):B6 X B2 (inS ix σ) H s:=
 I.weak (by rw[J,I.len]) h
inductive CEnd(X:Cx)(B2:Vp)(σ:St)(F:List V->Hp->Prop)(acc:h_)(L:i_):Nj->l_->Prop
 |mk {s':l_} {fl:Flow} {ys:List V} {H2:Hp} {m:Ld} (p:i_) (a:acc=.ref p) (I:B6 X B2 σ (upd H2 p (.lst ys)) s') (n:H2 p=f_) (f:F ys H2) (ns:s'.heap.Ns L m) (u:(upd H2 p (.lst ys)) L=f_) (l:L≠X.env.locals) (z:X.s₀.heap.objs.size<=L) (c:∀x c,X.env.cells.lookup x=a_ c->c≠L) (q:∀q∈X.pn++B2,q.1≠L):CEnd X B2 σ F acc L (.ok fl) s'
theorem xm{g:TG}{J:It}{it:i_}{tn:Nat->Gr->Prop}{F:bp->Hp->Prop}{E:Mq}(hc:X.calm=d_)(I:B6 X B2 σ H s)(T:Turn X.prog X.w X.K tg J fp it tn)(st:tn 0 s.heap)(hf:∀b∈fp,Cq X B2 H b)(ok:bj X.N X.env.scope N' sc ix=d_)(hk:sc.kind=.function)(hg:∀L cs s H fp,PG (aQ X N' sc L cs s H fp) tg g)(hkeep:∀x σ' H' (Q:St->Hp->Prop),g x σ' H' Q->g x σ' H' λσ2 H2=>Q σ2 H2/\∀(i:Nat) v,σ'[i]?=a_ (a_ v)->(∃j,ix[i]?=a_ (a_ j))->σ2[i]?=a_ (a_ v))(ht:∀L cs s H fp,PTs (aQ X N' sc L cs s H fp) ifs tt)(he:∀L cs s H fp,PE (aQ X N' sc L cs s H fp) elt te)(tr:jT J ix g tt te σ F H):
  w_ (B_ X.prog X.w) X.A (Qv []) (λacc s3=>w_ (B_ X.prog X.w) X.A (NT sc X.env.globals (sF X.env.cells sc.names []) [] X.env.qual f_ .none (a_ X.env)) (λR s4=>JJ (B_ X.prog X.w) X.A (.compStart (.ListComp elt [⟨tg,iter,ifs,0⟩] sc pos) 0 (.ref it) acc {R with scope:=relabel sc X.env}) (CEnd X B2 σ F acc R.locals) s4) E s3) E s:=by
 obtain⟨W,⟨m0,w0⟩,turn⟩:=tr;refine GD (DL λh1 kp ns K=>?_);dsimp only at kp ns K ⊢;generalize hH2:s.heap.push {cls:=.type "list",dict:=f_,data:=.seq ([]:bv).toArray}=N at kp ns K ⊢;have eL:N.objs.size=s.z+1:=by rw[<- hH2,Hq]
 have kp0:∀b o,s.heap.get? b=a_ o->h1.get? b=a_ o:=λb o e=>kp b o (hH2▸e_ _ e);have hD0:h1.PlainList s.z #[]:=⟨_,kp _ _ (hH2▸o_ _ rfl)⟩
 have fpo:∀b∈fp,∃o,s.heap.get? b=a_ o:=λb z=>let ⟨o,e,_⟩:=T.obj 0 _ st b z;⟨o,e⟩;have fpl:∀b∈fp,b<s.z:=λb z=>let ⟨o,e⟩:=fpo b z;s_ e;have sL:s.z<=N.objs.size:=by rw[eL];exact LP _
 have D:s.z<N.objs.size:=by rw[eL];exact K8 _
 have I0:=comp_inv (h1:=h1) I hf fpo ok hk sL kp0 ns K;generalize B:aQ X N' sc N.objs.size (HC (N.objs.size+1) sc.names (sF X.env.cells sc.names [])) s H fp=Y at I0;have t:Y.prog=X.prog:=by subst B;rfl
 have p:Y.w=X.w:=by subst B;rfl
 have eY3:Y.K=X.K:=by subst B;rfl
 have eY4:Y.calm=d_:=by subst B;exact hc
 have m:Y.A=X.A:=by subst B;rfl
 have U:Y.env={scope:=relabel sc X.env,locals:=N.objs.size,globals:=X.env.globals,cells:=HC (N.objs.size+1) sc.names (sF X.env.cells sc.names []),qual:=X.env.qual,func:=f_,code:=X.env.code,frame:=X.env.frame,builtins:=X.env.builtins}:=by subst B;rfl
 have eY7:Y.xe=λ_ _=>False:=by subst B;rfl
 have eY8:Y.pn=[]:=by subst B;rfl
 have eY9:Y.fs=frs X.stack:=by subst B;rfl
 have P:Y.s₀=s:=by subst B;rfl
 have eY11:Y.H₀=H:=by subst B;rfl
 have eY12:Y.ex=fp:=by subst B;rfl
 have eY13:Y.N=N':=by subst B;rfl
 have hgY:PG Y tg g:=by subst B;exact hg _ _ _ _ _
 have htY:PTs Y ifs tt:=by subst B;exact ht _ _ _ _ _
 have heY:PE Y elt te:=by subst B;exact he _ _ _ _ _
 have lenI:(inS ix σ).length=Y.N.length:=by rw[eY13];unfold inS;rw[n_];exact bj.len ok
 have w:∀(b:i_),b<=N.objs.size->(∀x c,X.env.cells.lookup x=a_ c->c≠b)->∀x c,Y.env.cells.lookup x=a_ c->c≠b:=λb a hx x c e=>by
  rw[U]at e;rcases K x c e with q|⟨q,_⟩
  .exact hx x c (F7 I ok q).2
  lia
 have O:∀x c,X.env.cells.lookup x=a_ c->c<s.z:=λx c e=>let ⟨v,z⟩:=I.cell x c e;z.lt;have nfs:∀b,s.z<=b->b∉frs X.stack:=λb a z=>by
  rcases p_.mp (I.vn b z)with q|q
  .exact lt_ne I.lt a q.symm
  .exact I.nofs a q
 have fpY:∀(pp:Vp) (H':Hp),(∀b∈fp,H' b=f_)->(∀q∈pp,q.1∉fp)->∀b∈fp,Cq Y pp H' b:=λpp H' hn hq b z=>by
  have hlt:=fpl b z;refine⟨hn b z,?_,?_,.inl bi,w b (GP (N7 hlt D)) ((hf b z).2.2.2.2.1),λq hq' e=>?_⟩
  .rw[U];exact lt_ne hlt sL
  .rw[eY9];intro hs;rcases p_.mp (I.vn b hs)with q|q
   .exact(hf b z).2.1 q
   .exact(hf b z).2.2.1 q
  grind
 have Dfp:s.z∉fp:=λz=>FZ (fpl _ z) (Jk _);have Dok:∀(pp:Vp) (H':Hp),H' s.z=f_->(∀q∈pp,q.1≠s.z)->Cq Y pp H' s.z:=λpp H' hn hq=>by
  refine⟨hn,?_,by rw[eY9];exact nfs _ (k_ _),.inr (by rw[P];exact k_ _),w _ sL (λx c e=>FR (O x c e)),λq hq'=>?_⟩
  .rw[U];exact FR D
  .rw[eY8]at hq';exact hq q (by simpa using hq')
 have f:JJ (B_ X.prog X.w) X.A (.compLoop (.ListComp elt [⟨tg,iter,ifs,0⟩] sc pos) 0 (.ref it) (.ref s.z) Y.env) (CEnd X B2 σ F (.ref s.z) N.objs.size) {s with heap:=h1}:=by
  refine xn (λn s'=>∃i ys its H',B6 Y [] (inS ix σ) H' s'/\tn i s'.heap/\(∀b∈fp,H' b=f_)/\H' s.z=f_/\s'.heap.PlainList s.z its/\D' ys its.toList/\W i n ys H') ?_ m0
   ⟨0,[],#[],H,I0,T.keep _ _ _ st λb _ o e=>kp0 b o e,λb z=>(hf b z).1,I.hok.fresh (k_ _),hD0,.nil,w0⟩
  rintro n s3 ⟨i,ys,its,H3,I3,st3,fr3,l,pl3,A,w3⟩;obtain⟨G,oD⟩:=pl3;have hpD:∀q∈[((s.z:i_),({cls:=.type "list",data:=.seq its G}:L7))],q.1∉fp:=λq hq=>by have:q=_:=Gj.mp hq;rw[this];exact Dfp
  have I3':B6 Y [((s.z:i_),({cls:=.type "list",data:=.seq its G}:L7))] (inS ix σ) H3 s3:=I3.tK λq hq=>by grind
  rcases turn i n ys H3 w3 with⟨stop,ln,qn⟩|⟨go,ln,NN,hNN,step⟩
  .have h1:=T.done Y t p eY3 eY4 i _ s3 _ H3 (λ_ _=>False) I3' (fpY _ H3 fr3 hpD) st3 stop;rw[m]at h1;refine GS h1 (λr s4 h=>?_) λ_ _ z=>z;obtain⟨hr,I4⟩:=h;subst hr;obtain⟨oD4,hD4,_⟩:=I4.pin ((s.z:i_),({cls:=.type "list",data:=.seq its G}:L7)) ad;obtain⟨m4,hn4,_⟩:=I4.loc;rw[U]at hn4;refine .mk s.z rfl ?_ l qn hn4 ?_ ?_ ?_ ?_ ?_
   .have C:Un (frs X.stack) fp H H3 s.heap s4.heap:=by
     have:=I4.base;rw[eY9,P,eY11,eY12]at this;exact this
    have hok4:HOk H3 s4.heap:=I4.hok;refine I.call' (ch:=fp) (by have:=I4.os;lia) ⟨C.keep,C.slot,λb o e nn hx=>?_,C.there,λb xs q=>?_,λb o u q=>?_,λb ps q=>?_⟩ (λb u e=>?_) I4.bare (λb a=>?_)
    .rw[aA (FR (s_ e))];exact C.free b o e nn hx
    .rw[aA (aM (C.tups b xs q) l)];exact C.tups b xs q
    .rw[aA (aM (C.frzs b o u q) l)];exact C.frzs b o u q
    .obtain⟨more,z⟩:=C.tbls b ps q
     grind[aA]
    .by_cases a:b=s.z
     .subst a;rw[av]at e;cases e;exact⟨ln,its.toList,G,A,by simpa using oD4⟩
     .rw[aA a]at e;exact(hok4 b u e).stay (λ_ _ _ q=>q) (λc q=>by rw[aA (aM q l)];exact q) λc xs q=>by rw[aA (aM q l)];exact q
    .obtain⟨f0,f1,f2,f3,f4,f5⟩:=hf b a;exact⟨f3,f1,f4,f5⟩
   .rw[aA (HU D)];have:=I4.free;rw[U]at this;exact this
   .exact HU (N7 I.lt D)
   .exact Cb I.sz sL
   .exact λx c e=>lt_ne (O x c e) sL
   .exact λq hq=>lt_ne (s_ (I.pin q hq).1) sL
  .have h1:=T.item Y t p eY3 eY4 i _ s3 _ H3 (λ_ _=>False) I3' (fpY _ H3 fr3 hpD) st3 go;rw[m]at h1;refine GS h1 (λr s4 h=>?_) λ_ _ z=>z;obtain⟨u,hr,h4⟩:=h;subst hr;refine GS h4 (λ_ s5 h=>?_) λ_ _ z=>z;obtain⟨x,H5,I5,r5,y5,st5,fr5⟩:=h;have I5':=I5.pinned (fpY _ H5 fr5 hpD) (T.obj _ _ st5);have h5:=hgY _ s5 _ H5 x u _ I5' r5 (hkeep x _ H5 _ (step x H5 y5));rw[t,p,m,eY7]at h5;refine GS h5 (λ_ s6 h=>?_) λ_ _ z=>z;obtain⟨σ6,H6,I6,q6,k6⟩:=h;have h6:=htY _ s6 σ6 H6 _ I6 q6;rw[t,p,m,eY7]at h6;refine GS h6 (λb s7 h=>?_) λ_ _ z=>z;obtain⟨H7,I7,q7⟩:=h;have S:∀{s8:l_} {Z:Hp},B6 Y ([((s.z:i_),({cls:=.type "list",data:=.seq its G}:L7))]++vO fp s5.heap) σ6 Z s8->B6 Y [] (inS ix σ) Z s8/\tn (i+1) s8.heap/\(∀b∈fp,Z b=f_)/\Z s.z=f_/\s8.heap.get? s.z=a_ {cls:=.type "list",data:=.seq its G}:=λ{s8 Z} I8=>by
    obtain⟨a1,a2,_⟩:=I8.pin ((s.z:i_),({cls:=.type "list",data:=.seq its G}:L7)) ad;refine⟨(I8.tK (pins':=[]) λ_ z=>nomatch z).slots0 (λk v e=>?_) lenI,T.keep _ _ _ st5 λb a o e=>(I8.pin (b,o) (FW _ (FW _ (kf a e)))).1,λb a=>?_,a2,a1⟩
    .refine k6 k v e ?_;unfold inS at e;rw[FQ]at e;cases e2:ix[k]? with
     |none=>rw[e2]at e;cases e|some o=>
      cases o with
      |none=>rw[e2]at e;cases e|some j=>exact⟨j,rfl⟩
    .obtain⟨o,e,d⟩:=T.obj _ _ st5 b a;exact(I8.pin (b,o) (FW _ (FW _ (kf a e)))).2.1
   cases b with
   |false=>rw[x_ GJ]at q7 ⊢;obtain⟨m',hm,w7⟩:=hNN _ _ q7;obtain⟨b1,b2,b3,b4,b5⟩:=S I7;exact⟨m',hm,i+1,ys,its,H7,b1,b2,b3,b4,⟨G,b5⟩,A,w7⟩
   |true=>
    rw[u_ rfl]at q7 ⊢;have h7:=heY _ s7 σ6 H7 _ I7 q7;rw[t,p,m,eY7,U]at h7;rw[U];refine GS h7 (λuu s8 h=>?_) λ_ _ z=>z;obtain⟨y,Z,I8,r8,q8⟩:=h;obtain⟨m',hm,w8⟩:=hNN _ _ q8;obtain⟨b1,b2,b3,b4,b5⟩:=S I8;have ez:its.size<=q_:=by
     have h1:=A.length;have h2:its.toList.length=its.size:=by simp
     lia
    refine wpAny_list_append_plain (hsz:=ez) ⟨G,b5⟩ λh9 pl9 sb9=>?_;obtain⟨d0,d1,d2,d3,d4,d5⟩:=Dok [] Z b4 (λ_ z=>nomatch z);refine⟨m',hm,i+1,ys++[y],its.push uu,Z,b1.turned (t':=s8.toks) (λb o a e=>(sb9.2 b a).trans e) d0 d1 d3 d4 d5,T.keep _ _ _ b2 λb a o e=>(sb9.2 b ?_).trans e,b3,b4,pl9,?_,w8⟩
    .lia
    .rw[Array.toList_push];exact A.append (.cons r8 .nil)
 rw[U]at f;exact codeAny_compStart_list f (T.self X.A 0 _ _ _ (T.keep _ _ _ st λb _ o e=>kp0 b o e) f)
end
def Bi(wi:TI)(ix:List (Option Nat))(g:TG)(tt:TT)(te:TE):TE:=λσ H Q=>wi σ H λJ H1=>jT J ix g tt te σ (λys H2=>∀p,H2 p=f_->Q (.ref p) (upd H2 p (.lst ys))) H1
def kS(ix:List (Option Nat))(g:TG):Prop:=∀x B H' (Q:St->Hp->Prop),g x B H' Q->g x B H' λJ H2=>Q J H2/\∀(i:Nat) v,B[i]?=a_ (a_ v)->(∃j,ix[i]?=a_ (a_ j))->J[i]?=a_ (a_ v)
def aG(h:ix[k]?=a_ f_):kS ix (wF k):=λx J H' Q q=>⟨q,λi v e ⟨j,B⟩=>by
 have:k≠i:=by rintro rfl;rw[h]at B;cases B
 rw[v_ this];exact e⟩
section
variable{wi:TI}{g:TG}
def Dv(N':List Gh)(ix:List (Option Nat))(u:X.calm=d_)(hi:PI X tg iter wi)(n:∀L cs s H fp,PG (aQ X N' sc L cs s H fp) tg g)(m:kS ix g)(f:∀L cs s H fp,PTs (aQ X N' sc L cs s H fp) ifs tt)(t:∀L cs s H fp,PE (aQ X N' sc L cs s H fp) elt te)(ok: ~~~(bj X.N X.env.scope N' sc ix=d_))(U: ~~~(sc.kind=.function))(i:autoParam (∀x,Ht iter X.env x=GU x) Jq3):
  PE X (.ListComp elt [⟨tg,iter,ifs,0⟩] sc pos) (Bi wi ix g tt te):=by
 intro B2 s σ H Q I h;rw[eval_ListComp];refine Om (use:=f_) rfl i (sD (qh I ok)) U (bj.loc ok) (E' (hi B2 s σ H _ I h) λv s1 h1=>E' h1 λd s2 A=>?_);obtain⟨Z,fp,R,J,H2,e,P,T,B,C,a⟩:=A;subst e;refine E' (xm u P T B C ok U n m f t a) λN W z=>E' z λY S y=>JB y λr c j=>?_;obtain⟨p,e2,O,k,q,l,K,G,F,E,D⟩:=j;subst e2;exact⟨_,l,λh' sb=>⟨.ref p,_,O.turned (t':=c.toks) (λb o w e=>(sb.2 b w).trans e) K G (.inr F) E D,rfl,q p k⟩⟩
def sX(j:Nat)(wi:TI)(ix:List (Option Nat))(g:TG)(tt:TT)(te:TE):TS:=λD σ H=>wi σ H λJ H1=>jT J ix g tt te σ (λys H2=>∀p,H2 p=f_->D.nx (σ.set j (a_ (.ref p))) (upd H2 p (.lst ys))) H1
theorem k9(N':List Gh)(ix:List (Option Nat)){y:Gh}(S:X.N.Nodup)(G:X.N[j]?=a_ y)(f:X.env.scope.names.lookup y=a_ .local)(O:X.calm=d_)(hi:PI X tg iter wi)(K:∀L cs s H fp,PG (aQ X N' sc L cs s H fp) tg g)(F:kS ix g)(u:∀L cs s H fp,PTs (aQ X N' sc L cs s H fp) ifs tt)(N:∀L cs s H fp,PE (aQ X N' sc L cs s H fp) elt te)(c: ~~~(HB (.ListComp elt [⟨tg,iter,ifs,0⟩] sc pos) (a_ (.Name y py)) spos.line X.env=GU d_))(ok: ~~~(bj X.N X.env.scope N' sc ix=d_))(i: ~~~(sc.kind=.function))(w:autoParam (∀x,Ht iter X.env x=GU x) Jq3):
  PS X (.Assign [.Name y py] (.ListComp elt [⟨tg,iter,ifs,0⟩] sc pos) spos) (sX j wi ix g tt te):=by
 intro B2 s σ H D I h;rw[exec_Assign_Name_used _ _ _ _ c];refine b_ (Lf (b_ ?_));show w_ _ X.A (do let _ <- comprehension (.ListComp elt [⟨tg,iter,ifs,0⟩] sc pos) sc X.env _ (Qv []) c_ (Ga iter X.env) (a_ (JD (.Name y py) X.env))) _ _ s;refine b_ (GS (Om (use:=a_ (JD (.Name y py) X.env)) (Q:=λ_ s'=>SP X B2 D .next s') rfl w (sD (qh I ok)) i (bj.loc ok) (E' (hi B2 s σ H _ I h) λv s1 h1=>E' h1 λt s2 h2=>?_)) (λ_ s' C=>g_ (g_ C)) λ_ _ z=>z);obtain⟨it,fp,tn,J,H2,e,I2,T,U,f2,l⟩:=h2;subst e;refine E' (xm O I2 T U f2 ok i K F u N l) λacc s3 Z=>E' Z λB s4 W=>JB W λr n A=>?_;obtain⟨p,e2,I5,d,q,E,c0,c1,c2,k,c4⟩:=A;subst e2;show w_ _ X.A (JD (.Name y py) X.env (.ref p)) _ _ n;refine Qr (vk (v:=.ref p) I5 S G (.inl f) rfl (λm I6 d=>?_) (.inr f));obtain⟨a,sb,R⟩:=d;have ea:B.locals≠a:=by
  rcases R with z|z
  .simp_all
  .exact λe=>k y a z e.symm
 refine⟨_,E.sameBut sb ea,λh' Y=>?_⟩
 exact⟨_,_,I6.turned (t':=m.toks) (λb o P e=>(Y.2 b P).trans e) c0 c1 (.inr c2) k c4,q p d⟩
end
theorem AN:∀{B:List Bool} {us:bv},D' (B.map V.bl) us->LSm.BoolsAre us B
 |[],_,.nil=>.nil|b::r,_,.cons e t=>by cases e;exact .cons b (AN t)
def call_all(j:X.calm=d_):fW X (.builtin "all") (λxs H Q=>∃(a:i_) (B:List Bool),xs=[.ref a]/\SqL X.K H a (B.map V.bl)/\Q (.bl (B.all id)) H):=by
 intro B2 s σ H xs us Q I r h;obtain⟨a,B,rfl,f,q⟩:=h;obtain⟨u,rfl,d⟩:=r.one;cases d;obtain⟨its,c,p,l⟩:=I.list f;have U:=AN c;have L:=p.isList;have J:a<s.z:=by obtain⟨_,e,_⟩:=L;exact s_ e
 refine call_all_walk (K9 L ?_);refine⟨s.z,[s.z,a],[s.z],its.toArray.size,_,_,λi=>(B[i]?).getD d_,rfl,Ot (A:=X.A.in1) (I.ok.hd j) _ a (FR J) its.toArray,
  ⟨⟨_,o_ _ rfl,rfl,rfl⟩,L.push _⟩,λi v s' m n k Y=>?_,λh' tk g=>?_⟩
 .obtain⟨b,e,rfl⟩:=U.get i v (by simpa using k);simp only[e,Mp]at Y;exact G4 Y
 .have e:((FN its.toArray.size).all λi=>(B[i]?).getD d_)=B.all id:=by
   rw[G8,U.length];exact LSm.range_all B
  rw[e];exact⟨.bl (B.all id),H,I.kept (LSm.kept_iter g),rfl,q⟩
def D'.atA(r:D' xs us)(h:j<us.toArray.size):∃x,xs[j]?=a_ x/\C' x us.toArray[j]:=by
 have B:=r.length;have J:j<xs.length:=by rw[B];simpa using h
 obtain⟨u,e1,e2⟩:=r.get (i:=j) (x:=xs[j]) ad;refine⟨xs[j],by simp[J],?_⟩
 have:us.toArray[j]=u:=by
  have h':j<us.length:=by simpa using h
  rw[y_ h']at e1;simpa using G7 e1
 rw[this];exact e2
def pe_tyN{T:String}(U:Gl X x)(L:X.mg x=f_)(B:Iu x=a_ (.type T))(J:(x≠"__name__")⁻¹)(Y:((x==("__debug__":Gh))=c_)⁻¹):PE X (.Name x pos) (tC (.ty T)):=pe_bltn (v:=.ty T) U L B rfl J Y
def pe_gint{n:Int}(J:Gl X x)(B:∃t,X.mg x=a_ (.int n t))(L:((x==("__debug__":Gh))=c_)⁻¹):PE X (.Name x pos) (tC (.int n)):=by obtain⟨t,e⟩:=B;exact pe_glob (v:=.int n) J e ⟨t,rfl⟩ L
section
variable{base:Gr}
theorem Fun.okX{st:G1}{f:i_}{sp:Sp}(F:Fun K x qual st f fd)(S:j8 N ps (aO st))(J:∀vs H Q E,sp vs H Q E->vs.length=ps.length)(B:∀(cdv:h_) (A:HQ) (outer:List Oe) (s:l_) (H:Hp) (vs:bp) (Q:VK) (E:XK),jo k (A.deeper (Lj qual (aO st) s.heap.objs.size f cdv))->sp vs H Q E ->
   ∃t,PSs (cxOf CX P w K mg base N qual (aO st) f cdv A outer s H E).nox (cR st) t/\t {nx:=λ_ H'=>Q .non H',rt:=Q} (start N vs) H):jr P w K mg base CX (k+1) f fd ps sp:=by
 obtain⟨oc,od,kV,doc,pm,an,cdv,ct,osl,rfl,Y,U⟩:=F.ex;refine fn_of Y U S J λA outer s H vs Q E a L=>?_;obtain⟨t,h,q⟩:=B cdv A outer s H vs Q E a L;exact⟨t,h.nox,q⟩
structure Def(K:Pn)(mg:Ld)(x:Gh)(st:G1)(ps:List Gh)(f:i_)(fd:IG):Prop where
 fn:Fun K x x st f fd
 mg:mg x=a_ (.ref f)
 bd:Binds K fd ps []
def def_of(J:K.In h)(G:h.Ns G6 mg){st:G1}{f:i_}(a:nsIn K G6 x=a_ (a_ (.ref f)))(l:K.lookup f=a_ ⟨oc,od,.func (Ni x x (eZ st) (cR st) (aO st) .none kV doc pm an cdv ct),osl⟩)(c:NX K cdv x=d_)(k:Kw K (.ref f)=d_)(B:∀(kV doc pm:h_) (an:Option i_) (cdv ct:h_) (us:bv),us.length=ps.length->MX (Ni x x (eZ st) (cR st) (aO st) .none kV doc pm an cdv ct) ⟨us,[]⟩=GU (ps.zip us)):
  Def K mg x st ps f (Ni x x (eZ st) (cR st) (aO st) .none kV doc pm an cdv ct):=
 ⟨Ar l c k,mg_of J G a,(Ar l c k).binds B⟩
structure Mth(K:Pn)(C:i_)(x qual:Gh)(st:G1)(ps:List Gh)(f:i_)(fd:IG):Prop where
 fn:Fun K x qual st f fd
 mt:Meth K C x f
 bd:Binds K fd ps []
structure Kls(K:Pn)(mg:Ld)(x:Gh)(C:i_):Prop where
 cl:Cls K C
 mg:mg x=a_ (.ref C)
 mks:Qy K C=d_
 kp:Kw K (.ref C)=d_
 c1:Kx K (.ref C) "__class__"=a_ (a_ (.builtin "object.__class__"))
 c2:OO K (.builtin "object.__class__") "__get__"=a_ (a_ (.builtin "getset_descriptor.__get__"))
 c3:ON K (.builtin "object.__class__")=a_ d_
 c4:Po K C (.type "object")=a_ d_
end
def pg_c{L:i_}{s:l_}(U:N'.Nodup)(hi:N'[i]?=a_ x)(B:Loc (aQ X N' sc L cs s H fp).env.scope x)(J:autoParam ((aQ X N' sc L cs s H fp).fn x=d_\/(aQ X N' sc L cs s H fp).env.scope.names.lookup x=a_ .local) Jq4):PG (aQ X N' sc L cs s H fp) (.Name x pos) (wF i):=yj U hi B J
theorem aU.upd{H:Hp}{a:i_}{o:HO}(h:H a=f_):aU H (upd H a o):=λb u e=>by rw[aA (aM e h)];exact e
section
variable{f:i_}{sp:Sp}{dvs:List V}{ds:List h_}{E:XK}{m:Gh}{p:MJ}{t:TA}
structure Stat(K:Pn)(C:i_)(mc:h_)(m:Gh)(f:i_):Prop where
 s1:OO K (.ref C) "__getattribute__"=a_ (a_ (.builtin "type.__getattribute__"))
 s2:OQ K C mc=d_
 s3:OS K (.ref C) mc m=a_ (.val (.ref f))
 s4:Kw K (.ref f)=d_
def pe_cmeth(S:Stat X.K C mc m f)(i:Gl X x)(g:X.mg x=a_ (.ref C))(F:jr X.prog X.w X.K X.mg X.base CX k f fd ps sp)(c:jo k X.A)(l:Binds X.K fd ps ds)(j:D' dvs ds)(a:Passes CX X E)(n:PA X (e::es) t)(L:((x==("__debug__":Gh))=c_)⁻¹)(B: ~~~(j_ (e::es) X.env=(c_,Ga e X.env)::j_ es X.env))(J: ~~~((Hl pos (j_ es X.env)).any (·.1)=c_))(b: ~~~(Ga (.Call (.Attribute (.Name x p) m apos) (e::es) [] pos) X.env=(do
   let U <- Ga (.Name x p) X.env
   K_ apos.atName
   let (f,first) <- IL [U] (Ml U m pl)
   PD pos f first (Hl pos (j_ (e::es) X.env)) (KR pos (Jz [] X.env))))):
  PE X (.Call (.Attribute (.Name x p) m apos) (e::es) [] pos) (tCall sp dvs E t):=by
 intro B2 s σ H Q I h;refine K4 (pl:=pl) (ud I i g ?_ L) b;refine PySem.W.method_cls I.kIn S.s1 (PySem.W.cls_value I.kIn S.s2 S.s3 rfl ?_);refine NY (first:=[]) (h₀:=X.base) I.ok.mod.kin S.s4 (E' (n pos B2 _ σ H _ (I.tok (s.toks+1)) h) λus s2 d=>?_) B J;obtain⟨vs,H2,Y,r,q2⟩:=d;refine⟨Y.kIn,?_⟩
 exact zL (us:=us) (vs:=vs) F c l j a Y r q2
end
section
variable{a:Hb}
def aU.tup{a:i_}(e:aU H H')(h:SqT K H a xs):SqT K H' a xs:=by
 rcases h with(h|⟨o,h⟩)|h
 .exact .inl (.inl (e _ _ h))
 .exact .inl (.inr ⟨o,e _ _ h⟩)
 .exact .inr h
end
set_option genSizeOf true in
set_option genInjectivity true in
inductive A' where
 |non|bl (b:Bool)|int (i:Int)|tup (ds:List A')|lst (ds:List A')|ins (C:i_) (fs:List (Gh×A'))|dic (ks:List (List Int×A'))|dil (ks:List (Int×List (List Int)))
variable{d:A'}{ds:List A'}{ks:List (List Int×A')}
noncomputable abbrev jw:=bm×i_×V
noncomputable def tHash(ks:bm):Int:=KQ (Gf (ks.map hashInt))
def rowE(x:bm×i_×h_):Hn:=⟨tHash x.1,.ref x.2.1,x.2.2⟩
def jn(p:jw)(q:bm×i_×h_):Prop:=p.1=q.1/\p.2.1=q.2.1/\C' p.2.2 q.2.2
inductive qY(h:Gr)(a:i_)(xs:List jw)(ep:Nat):Prop
 |mk (vs:List (List Int×i_×h_)) (r:J3 jn xs vs) (m:(a==HW)=c_) (z:xs.length<=q_) (n:(vs.map (·.1)).Nodup) (o:L7) (es:Array Hn) (g:h.get? a=a_ o) (x:o.ExactDict) (d:o.data=.dict es ep) (e:es.toList=vs.map rowE)
noncomputable def oM(a:i_)(xs:List jw)(ep:Nat):HO:=.ext λh=>qY h a xs ep
noncomputable abbrev LK:=Int×List bm
abbrev bT:=List LK
def lHash(k:LK):Int:=KQ (Gf [hashInt k.1,KQ (Gf (k.2.map tHash))])
def rowL(x:LK×i_):Hn:=⟨lHash x.1,.ref x.2,.bool d_⟩
inductive Cr(h:Gr)(a:i_)(xs:List (LK×i_))(ep:Nat):Prop
 |mk (m:(a==HW)=c_) (z:xs.length<=q_) (n:(xs.map (·.1)).Nodup) (o:L7) (es:Array Hn) (g:h.get? a=a_ o) (x:o.ExactDict) (d:o.data=.dict es ep) (e:es.toList=xs.map rowL)
noncomputable def xC(a:i_)(xs:List (LK×i_))(ep:Nat):HO:=.ext λh=>Cr h a xs ep
inductive kA(K:Pn)(F:Hp)(b:i_)(k:LK):Prop
 |mk (r:i_) (bs:List i_) (p:SqT K F b [V.int k.1,V.ref r]) (q:SqT K F r (bs.map V.ref)) (l:bs.length=k.2.length) (z:∀(j:Nat) (row:List Int) (c:i_),k.2[j]?=a_ row->bs[j]?=a_ c->SqT K F c (row.map V.int))
def zo(K:Pn)(F:Hp)(ks:bT)(xs:List (LK×i_)):Prop:=xs.map (·.1)=ks/\∀x∈xs,kA K F x.2 x.1
inductive AtX{α:Type}(S:i_->α->Prop)(P:α->Prop)(v:V):Prop
 |mk (a:i_) (xs:α) (e:v=.ref a) (q:S a xs) (r:P xs)
inductive CnsK(k:List Int)(S:i_->Prop)(P:V->Prop)(R:List jw->Prop)(xs:List jw):Prop
 |mk (b:i_) (v:V) (r:List jw) (e:xs=(k,b,v)::r) (t:S b) (p:P v) (z:R r)
inductive CnsF(f:Gh)(P:V->Prop)(R:List (Gh×V)->Prop)(fs:List (Gh×V)):Prop
 |mk (v:V) (r:List (Gh×V)) (e:fs=(f,v)::r) (p:P v) (t:R r)
inductive Cns{α:Type}(P:α->Prop)(R:List α->Prop)(xs:List α):Prop
 |mk (v:α) (vs:List α) (e:xs=v::vs) (p:P v) (r:R vs)
mutual
noncomputable def aY(K:Pn)(F:Hp):A'->V->Prop
 |.non,v=>v=.non|.bl b,v=>v=.bl b|.int i,v=>v=.int i|.tup ds,v=>AtX (SqT K F) (aw K F ds) v|.lst ds,v=>AtX (SqL K F) (aw K F ds) v|.ins C gs,v=>∃a dx fs,v=.ref a/\F a=a_ (.ins C dx fs)/\qZ K F gs fs
 |.dic ks,v=>AtX (λa xs=>∃ep,F a=a_ (oM a xs ep)) (cU K F ks) v
 |.dil ks,v=>AtX (λa xs=>∃ep,F a=a_ (xC a xs ep)) (zo K F ks) v
noncomputable def aw(K:Pn)(F:Hp):List A'->bp->Prop
 |[],xs=>xs=[]|d::ds,xs=>Cns (aY K F d) (aw K F ds) xs
noncomputable def qZ(K:Pn)(F:Hp):List (Gh×A')->List (Gh×V)->Prop
 |[],fs=>fs=[]|(f,d)::gs,fs=>CnsF f (aY K F d) (qZ K F gs) fs
noncomputable def cU(K:Pn)(F:Hp):List (bm×A')->List jw->Prop
 |[],xs=>xs=[]|(k,d)::ks,xs=>CnsK k (λb=>SqT K F b (k.map .int)) (aY K F d) (cU K F ks) xs
end
mutual
noncomputable def gO:A'->Bool
 |.tup ds=>mn ds|.lst _=>c_|.ins _ _=>c_|.dic _=>c_|.dil _=>c_|_=>d_
noncomputable def mn:List A'->Bool
 |[]=>d_|d::ds=>gO d&&mn ds
end
def aU.lst(e:aU H H')(h:SqL K H a xs):SqL K H' a xs:=by
 rcases h with(h|⟨o,h⟩)|h
 .exact .inl (.inl (e _ _ h))
 .exact .inl (.inr ⟨o,e _ _ h⟩)
 .exact .inr h
def kA.mono(s:aU F F'){k:LK}(h:kA K F b k):kA K F' b k:=
 let ⟨r,Y,U,L,l,J⟩:=h;⟨r,Y,s.tup U,s.tup L,l,λj B c e1 e2=>s.tup (J j B c e1 e2)⟩
theorem zo.mono{K:Pn}{F F':Hp}(s:aU F F'){ks:bT}{xs:List (LK×i_)}(h:zo K F ks xs):zo K F' ks xs:=⟨h.1,λx B=>(h.2 x B).mono s⟩
mutual
theorem aY.mono{K:Pn}{F F':Hp}(s:aU F F'):∀{d:A'} {v:V},aY K F d v->aY K F' d v
 |.non,_,h=>h|.bl _,_,h=>h|.int _,_,h=>h|.tup _,_,⟨a,xs,e,q,r⟩=>⟨a,xs,e,s.tup q,aw.mono s r⟩|.lst _,_,⟨a,xs,e,q,r⟩=>⟨a,xs,e,s.lst q,aw.mono s r⟩|.ins _ _,_,⟨a,dx,fs,e,q,r⟩=>⟨a,dx,fs,e,s _ _ q,qZ.mono s r⟩|.dic _,_,⟨a,xs,e,⟨ep,q⟩,r⟩=>⟨a,xs,e,⟨ep,s _ _ q⟩,cU.mono s r⟩|.dil _,_,⟨a,xs,e,⟨ep,q⟩,r⟩=>⟨a,xs,e,⟨ep,s _ _ q⟩,zo.mono s r⟩
theorem aw.mono{K:Pn}{F F':Hp}(s:aU F F'):∀{ds:List A'} {xs:bp},aw K F ds xs->aw K F' ds xs
 |[],_,h=>h|_::_,_,⟨v,vs,e,q,r⟩=>⟨v,vs,e,aY.mono s q,aw.mono s r⟩
theorem qZ.mono{K:Pn}{F F':Hp}(s:aU F F'):∀{gs:List (Gh×A')} {fs:List (Gh×V)},qZ K F gs fs->qZ K F' gs fs
 |[],_,h=>h|(_,_)::_,_,⟨v,r,e,q,t⟩=>⟨v,r,e,aY.mono s q,qZ.mono s t⟩
theorem cU.mono{K:Pn}{F F':Hp}(s:aU F F'):∀{ks:List (bm×A')} {xs:List jw},cU K F ks xs->cU K F' ks xs
 |[],_,h=>h|(_,_)::_,_,⟨b,v,r,e,t,q,z⟩=>⟨b,v,r,e,s.tup t,aY.mono s q,cU.mono s z⟩
end
mutual
theorem aY.flat{K:Pn}{F F':Hp}(s:∀a xs,SqT K F a xs->SqT K F' a xs):∀{d:A'} {v:V},gO d=d_->aY K F d v->aY K F' d v
 |.non,_,_,h=>h|.bl _,_,_,h=>h|.int _,_,_,h=>h|.tup ds,_,f,⟨a,xs,e,q,r⟩=>⟨a,xs,e,s _ _ q,aw.flat s (by simpa[gO] using f) r⟩|.lst _,_,f,_=>by simp_all[gO]|.ins _ _,_,f,_=>by simp_all[gO]|.dic _,_,f,_=>by simp_all[gO]|.dil _,_,f,_=>by simp_all[gO]
theorem aw.flat{K:Pn}{F F':Hp}(s:∀a xs,SqT K F a xs->SqT K F' a xs):∀{ds:List A'} {xs:bp},mn ds=d_->aw K F ds xs->aw K F' ds xs
 |[],_,_,h=>h|d::ds,_,f,⟨v,vs,e,q,r⟩=>by simp only[mn,t_]at f;exact⟨v,vs,e,aY.flat s f.1 q,aw.flat s f.2 r⟩
end
theorem aw.length{K:Pn}{F:Hp}:∀{ds:List A'} {xs:bp},aw K F ds xs->xs.length=ds.length
 |[],_,h=>by rw[show _=[]from h];rfl|_::_,_,⟨_,_,e,_,r⟩=>by rw[e,E_,E_,aw.length r]
theorem aw.get{K:Pn}{F:Hp}:∀{ds:List A'} {xs:bp} {i:Nat} {d:A'},aw K F ds xs->ds[i]?=a_ d->AtI (λv=>xs[i]?=a_ v) (aY K F d)
 |[],_,_,_,_,e=>by simp at e|_::_,_,0,_,⟨v,vs,e,q,_⟩,h=>by simp only[K2,Hv]at h;subst h e;exact⟨v,rfl,q⟩|_::_,_,i+1,_,⟨v,vs,e,_,r⟩,h=>by subst e;simp only[Hc]at h ⊢;exact aw.get r h
theorem aw.at{K:Pn}{F:Hp}{ds:List A'}{xs:bp}{i:Nat}{v:V}(r:aw K F ds xs)(h:xs[i]?=a_ v):AtI (λd=>ds[i]?=a_ d) λd=>aY K F d v:=by
 have hi:i<ds.length:=by rw[<- r.length];exact(oe.mp h).1
 obtain⟨w,e,q⟩:=r.get (i:=i) (d:=ds[i]) ad;rw[h]at e;have B:=G7 e;subst B;exact⟨ds[i],ad,q⟩
def aw.nil:aw K F [] []:=rfl
def aw.cons(q:aY K F d v)(r:aw K F ds xs):aw K F (d::ds) (v::xs):=⟨v,xs,rfl,q,r⟩
theorem aw.append{K:Pn}{F:Hp}:∀{ds es:List A'} {xs ys:bp},aw K F ds xs->aw K F es ys->aw K F (ds++es) (xs++ys)
 |[],_,_,_,h,r=>by rw[show _=[]from h];exact r|_::_,_,_,_,⟨v,vs,e,q,t⟩,r=>by subst e;exact⟨v,_,rfl,q,aw.append t r⟩
theorem aw.take{K:Pn}{F:Hp}:∀{ds:List A'} {xs:bp} (n:Nat),aw K F ds xs->aw K F (ds.take n) (xs.take n)
 |_,_,0,_=>rfl|[],_,_+1,h=>by rw[show _=[]from h];rfl|_::_,_,n+1,⟨v,vs,e,q,r⟩=>by subst e;exact⟨v,_,rfl,q,aw.take n r⟩
theorem aw.drop{K:Pn}{F:Hp}:∀{ds:List A'} {xs:bp} (n:Nat),aw K F ds xs->aw K F (ds.drop n) (xs.drop n)
 |_,_,0,h=>h|[],_,_+1,h=>by rw[show _=[]from h];rfl|_::_,_,n+1,⟨v,vs,e,q,r⟩=>by subst e;exact aw.drop n r
theorem aw.set{K:Pn}{F:Hp}{d:A'}{v:V}(q:aY K F d v):∀{ds:List A'} {xs:bp} (n:Nat),aw K F ds xs->aw K F (ds.set n d) (xs.set n v)
 |[],_,_,h=>by rw[show _=[]from h];rfl|_::_,_,0,⟨w,vs,e,_,r⟩=>by subst e;exact⟨v,_,rfl,q,r⟩|_::_,_,n+1,⟨w,vs,e,p,r⟩=>by subst e;exact⟨w,_,rfl,p,aw.set q n r⟩
theorem aw.of_get{K:Pn}{F:Hp}:∀{ds:List A'} {xs:bp},xs.length=ds.length->(∀(i:Nat) d v,ds[i]?=a_ d->xs[i]?=a_ v->aY K F d v)->aw K F ds xs
 |[],[],_,_=>rfl|[],_::_,h,_=>by simp at h|_::_,[],h,_=>by simp at h|d::ds,v::vs,h,q=>⟨v,vs,rfl,q 0 d v rfl rfl,aw.of_get bi λi e w h1 B=>q (i+1) e w bi bi⟩
structure B4(F H F' H':Hp):Prop where
 ff:aU F F'
 hh:aU H H'
 fh:aU F' H'
 nw:∀b o,F' b=a_ o->F b=a_ o\/H b=f_
theorem B4.refl{F H:Hp}(s:aU F H):B4 F H F H:=⟨aU.refl _,aU.refl _,s,λ_ _ h=>.inl h⟩
theorem B4.trans{F H F1 H1 B H2:Hp}(a:B4 F H F1 H1)(b:B4 F1 H1 B H2):B4 F H B H2:=
 ⟨a.ff.trans b.ff,a.hh.trans b.hh,b.fh,λx o h=>(b.nw x o h).elim (λz=>a.nw x o z) λz=>.inr (a.hh.free z)⟩
theorem B4.lay{p:i_}{o:HO}(s:aU F H)(B:H p=f_):B4 F H (upd F p o) (upd H p o):=
 ⟨aU.upd (s.free B),aU.upd B,λb u h=>by
  by_cases e:b=p
  .simp_all[av]
  .rw[aA e]at h ⊢;exact s b u h,λb u h=>by
  grind[aA]⟩
def B4.grow{p:i_}{o:HO}(s:aU F H)(B:H p=f_):B4 F H F (upd H p o):=
 ⟨aU.refl _,aU.upd B,s.trans (aU.upd B),λ_ _ h=>.inl h⟩
inductive OwX{α:Type}(S:i_->α->Prop)(F H0:Hp)(P:α->Prop)(v:V):Prop
 |mk (a:i_) (xs:α) (e:v=.ref a) (q:S a xs) (f:F a=f_) (z:H0 a=f_) (r:P xs)
def n6(K:Pn)(F H0 H:Hp):A'->V->Prop
 |.lst ds,v=>OwX (λa xs=>H a=a_ (.lst xs)) F H0 (aw K F ds) v|.dic ks,v=>OwX (λa xs=>∃ep,H a=a_ (oM a xs ep)) F H0 (cU K F ks) v
 |.dil ks,v=>OwX (λa xs=>∃ep,H a=a_ (xC a xs ep)) F H0 (zo K F ks) v
 |d,v=>aY K F d v
noncomputable def isO:A'->Bool
 |.lst _=>d_|.dic _=>d_|.dil _=>d_|_=>c_
noncomputable def isMu:HO->Bool
 |.lst _=>d_|.ext _=>d_|_=>c_
def n6.non(B:isO d=c_):n6 K F H0 H d v=aY K F d v:=by cases d<;>first|rfl|cases B
def n6.top(B:isO d=d_)(q:n6 K F H0 H d v):∃a o,v=.ref a/\H a=a_ o/\isMu o=d_/\F a=f_/\H0 a=f_:=by
 cases d with
 |lst ds=>obtain⟨a,xs,e,p,f,z,_⟩:=q;exact⟨a,_,e,p,rfl,f,z⟩
 |dic ks=>obtain⟨a,xs,e,⟨ep,p⟩,f,z,_⟩:=q;exact⟨a,_,e,p,rfl,f,z⟩
 |dil ks=>obtain⟨a,xs,e,⟨ep,p⟩,f,z,_⟩:=q;exact⟨a,_,e,p,rfl,f,z⟩
 |_=>cases B
def n6.re(L:isO d=d_)(q:n6 K F H0 H d (.ref a))(J:aU F F')(fa:F' a=f_)(B:∀o,H a=a_ o->H' a=a_ o):n6 K F' H0 H' d (.ref a):=by
 cases d with
 |lst ds=>obtain⟨b,xs,e,p,f,z,r⟩:=q;cases e;exact⟨a,xs,rfl,B _ p,fa,z,r.mono J⟩
 |dic ks=>obtain⟨b,xs,e,⟨ep,p⟩,f,z,r⟩:=q;cases e;exact⟨a,xs,rfl,⟨ep,B _ p⟩,fa,z,r.mono J⟩
 |dil ks=>obtain⟨b,xs,e,⟨ep,p⟩,f,z,r⟩:=q;cases e;exact⟨a,xs,rfl,⟨ep,B _ p⟩,fa,z,r.mono J⟩
 |_=>cases L
def n6.give(J:isO d=d_)(q:n6 K F H0 H d (.ref a))(B:aU F F')(fa:F' a=H a):aY K F' d (.ref a):=by
 cases d with
 |lst ds=>obtain⟨b,xs,e,p,f,z,r⟩:=q;cases e;exact⟨a,xs,rfl,SqL.of (fa.trans p),r.mono B⟩
 |dic ks=>obtain⟨b,xs,e,⟨ep,p⟩,f,z,r⟩:=q;cases e;exact⟨a,xs,rfl,⟨ep,fa.trans p⟩,r.mono B⟩
 |dil ks=>obtain⟨b,xs,e,⟨ep,p⟩,f,z,r⟩:=q;cases e;exact⟨a,xs,rfl,⟨ep,fa.trans p⟩,r.mono B⟩
 |_=>cases J
def Val(K:Pn)(own:Bool)(F H0 H:Hp)(d:A')(v:V):Prop:=if own=d_ then n6 K F H0 H d v else aY K F d v
def n6.back(s:aU H0 H1)(h:n6 K F H1 H d v):n6 K F H0 H d v:=by
 cases d with
 |lst ds=>obtain⟨a,xs,e,p,q,z,r⟩:=h;exact⟨a,xs,e,p,q,s.free z,r⟩
 |dic ks=>obtain⟨a,xs,e,p,q,z,r⟩:=h;exact⟨a,xs,e,p,q,s.free z,r⟩
 |dil ks=>obtain⟨a,xs,e,p,q,z,r⟩:=h;exact⟨a,xs,e,p,q,s.free z,r⟩
 |_=>exact h
theorem Val.back{K:Pn}{own:Bool}{F H0 H1 H:Hp}{d:A'}{v:V}(s:aU H0 H1)(h:Val K own F H1 H d v):Val K own F H0 H d v:=by
 cases own with
 |true=>exact n6.back s h|false=>exact h
theorem n6.freeze(s:aU F H)(h:n6 K F H0 H d v):∃F',aU F F'/\aU F' H/\(∀b o,F' b=a_ o->F b=a_ o\/H0 b=f_)/\aY K F' d v:=by
 cases B:isO d with
 |true=>
  obtain⟨a,u,e,p,_,q,z⟩:=h.top B;subst e;refine⟨upd F a u,aU.upd q,λb o h=>?_,λb o h=>?_,h.give B (aU.upd q) (by rw[av,p])⟩
  .by_cases e:b=a
   .simp_all[av]
   .rw[aA e]at h;exact s b o h
  grind[aA]
 |false=>rw[n6.non B]at h;exact⟨F,aU.refl _,s,λ_ _ z=>.inl z,h⟩
inductive Err where
 |stuck|exc (C:i_) (fs:List (Gh×A'))
noncomputable abbrev M:=Except Err
variable{g':A'->A'->M A'}
noncomputable abbrev ah:=List (Option A')
variable{ρ ρ':ah}{fa fb fc fe fk fx fA fv f3 f4 f5:ah->M A'}{fi fi2:ah->M (List A')}{ft ft2:ah->M Bool}{fu:ah->M (Option Int)}
structure cv where
 p:Err->Hp->Hp->Prop
 mono:∀{e:Err} {F H F' H':Hp},p e F H->B4 F H F' H'->p e F' H'
 ns:∀{F H:Hp},p .stuck F H->False
noncomputable def HH:cv:=⟨λ_ _ _=>False,λh _=>h,λh=>h⟩
def aE(K:Pn)(W:cv)(own:Bool)(F H:Hp)(r:M A')(Q:VK):Prop:=match r with
 |.ok d=>∀v F' H',B4 F H F' H'->Val K own F' H H' d v->Q v H'|.error e=>W.p e F H
def aE.step{W:cv}{own:Bool}{r:M A'}(p:aE K W own F H r Q)(s:B4 F H F1 H1):aE K W own F1 H1 r Q:=by
 cases r with
 |ok d=>exact λv F' H' t q=>p v F' H' (s.trans t) (q.back s.hh)|error e=>exact W.mono p s
def aE.frz{W:cv}{r:M A'}(p:aE K W c_ F H r Q):aE K W d_ F H r Q:=by
 cases r with
 |ok d=>intro v F' H' t q;obtain⟨B,s1,s2,n,z⟩:=n6.freeze t.fh q;exact p v B H' ⟨t.ff.trans s1,t.hh,s2,λb o h=>(n b o h).elim (λz=>t.nw b o z) .inr⟩ z
 |error e=>exact p
structure lI(K:Pn)(F:Hp)(σ:St)(ρ:ah):Prop where
 len:ρ.length=σ.length
 sl:∀(i:Nat) (d:A'),ρ[i]?=a_ (a_ d)->AtI (λv=>σ[i]?=a_ (a_ v)) (aY K F d)
theorem lI.mono{K:Pn}{F F':Hp}{σ:St}{ρ:ah}(r:lI K F σ ρ)(s:aU F F'):lI K F' σ ρ:=
 ⟨r.len,λi d e=>let ⟨v,h,q⟩:=r.sl i d e;⟨v,h,q.mono s⟩⟩
theorem lI.set{K:Pn}{F:Hp}{σ:St}{ρ:ah}{d:A'}{v:V}(r:lI K F σ ρ)(q:aY K F d v)(i:Nat):lI K F (σ.set i (a_ v)) (ρ.set i (a_ d)):=
 ⟨by rw[Gd,Gd,r.len],λj e h=>by
  by_cases B:i=j
  .subst B;have hi:i<ρ.length:=by
    have:=(oe.mp h).1;simpa using this
   rw[z_ hi]at h;cases h;exact⟨v,by rw[z_ (by rw[<- r.len];exact hi)],q⟩
  .rw[v_ B]at h;obtain⟨w,h1,J⟩:=r.sl j e h;exact⟨w,bi,J⟩⟩
inductive TDx(K:Pn)(σ:St)(H:Hp)(P:Hp->ah->Prop):Prop
 |mk (F:Hp) (ρ:ah) (r:lI K F σ ρ) (s:aU F H) (p:P F ρ)
def tD(K:Pn)(W:cv)(own:Bool)(f:ah->M A'):TE:=λσ H Q=>TDx K σ H λF ρ=>aE K W own F H (f ρ) Q
def aF{W:cv}{own:Bool}{f:ah->M A'}{R:VK}(r:lI K F σ ρ)(s:aU F H)(J:∀e,f ρ=.error e->W.p e F H)(B:∀d,f ρ=.ok d->∀v F1 H1,B4 F H F1 H1->Val K own F1 H H1 d v->R v H1):tD K W own f σ H R:=by
 refine⟨F,ρ,r,s,?_⟩
 cases e:f ρ with
 |ok d=>exact B d e|error x=>exact J x e
def tDT(K:Pn)(W:cv)(f:ah->M Bool):TT:=λσ H Q=>TDx K σ H λF ρ=>match f ρ with
 |.ok b=>∀F' H',B4 F H F' H'->Q b H'|.error e=>W.p e F H
def iN{W:cv}{f:ah->M Bool}{R:Bool->Hp->Prop}(r:lI K F σ ρ)(s:aU F H)(J:∀e,f ρ=.error e->W.p e F H)(B:∀b,f ρ=.ok b->∀F1 H1,B4 F H F1 H1->R b H1):tDT K W f σ H R:=by
 refine⟨F,ρ,r,s,?_⟩
 cases e:f ρ with
 |ok d=>exact B d e|error x=>exact J x e
def tDA(K:Pn)(W:cv)(f:ah->M (List A')):TA:=λσ H Q=>TDx K σ H λF ρ=>match f ρ with
 |.ok ds=>∀vs F' H',B4 F H F' H'->aw K F' ds vs->Q vs H'|.error e=>W.p e F H
def kT{W:cv}{f:ah->M (List A')}(r:lI K F σ ρ)(s:aU F H)(J:∀e,f ρ=.error e->W.p e F H)(B:∀ds,f ρ=.ok ds->∀vs F1 H1,B4 F H F1 H1->aw K F1 ds vs->R vs H1):tDA K W f σ H R:=by
 refine⟨F,ρ,r,s,?_⟩
 cases e:f ρ with
 |ok d=>exact B d e|error x=>exact J x e
noncomputable def ae(i:Nat):ah->M A':=λρ=>match ρ[i]? with
 |some (a_ d)=>.ok d|_=>.error .stuck
noncomputable def fC(d:A'):ah->M A':=λ_=>.ok d
noncomputable def f1(g:A'->M A')(fa:ah->M A'):ah->M A':=λρ=>(fa ρ).bind g
noncomputable def f2(g:A'->A'->M A')(fa fb:ah->M A'):ah->M A':=λρ=>(fa ρ).bind λa=>(fb ρ).bind λb=>g a b
noncomputable def au:ah->M (List A'):=λ_=>.ok []
noncomputable def aa(fa:ah->M A')(fr:ah->M (List A')):ah->M (List A'):=λρ=>(fa ρ).bind λa=>(fr ρ).bind λr=>.ok (a::r)
noncomputable def fL(g:List A'->M A')(fr:ah->M (List A')):ah->M A':=λρ=>(fr ρ).bind g
noncomputable def bG(ds:List A'):M A':=if ds.length<=q_ then .ok (.tup ds)else .error .stuck
noncomputable def bc(ds:List A'):M A':=if ds.length<=q_ then .ok (.lst ds)else .error .stuck
noncomputable def fIte(ft:ah->M Bool)(fa fb:ah->M A'):ah->M A':=λρ=>(ft ρ).bind λb=>if b=d_ then fa ρ else fb ρ
noncomputable def fAnd(ft fu:ah->M Bool):ah->M Bool:=λρ=>(ft ρ).bind λb=>if b=d_ then fu ρ else .ok c_
noncomputable def fOr(ft fu:ah->M Bool):ah->M Bool:=λρ=>(ft ρ).bind λb=>if b=d_ then .ok d_ else fu ρ
noncomputable def Cu(ft:ah->M Bool):ah->M Bool:=λρ=>(ft ρ).bind λb=>.ok (!b)
noncomputable def asB:A'->M Bool
 |.bl b=>.ok b|_=>.error .stuck
def fB(fa:ah->M A'):ah->M Bool:=λρ=>(fa ρ).bind asB
def wN(fa fb:ah->M A'):ah->M A':=λρ=>(fa ρ).bind λa=>(asB a).bind λb=>if b=d_ then fb ρ else .ok (.bl c_)
def fOrV(fa fb:ah->M A'):ah->M A':=λρ=>(fa ρ).bind λa=>(asB a).bind λb=>if b=d_ then .ok (.bl d_)else fb ρ
noncomputable def truD:A'->M Bool
 |.non=>.ok c_|.bl b=>.ok b|.int i=>.ok (i != 0)|.tup ds=>.ok (!ds.isEmpty)|.lst ds=>.ok (!ds.isEmpty)|_=>.error .stuck
def v8(fa:ah->M A'):ah->M Bool:=λρ=>(fa ρ).bind truD
def fS(g g':A'->A'->M A')(fa fb fc:ah->M A'):ah->M A':=λρ=>(fa ρ).bind λa=>(fb ρ).bind λb=>(g a b).bind λx=>(asB x).bind λk=>if k=d_ then(fc ρ).bind λc=>g' b c else .ok (.bl c_)
inductive TX2(K:Pn)(x y:V)(H:Hp)(P:Hp->A'->A'->Prop):Prop
 |mk (F:Hp) (a b:A') (s:aU F H) (q:aY K F a x) (r:aY K F b y) (p:P F a b)
inductive TX1{α β:Type}(D:Hp->α->β->Prop)(x:β)(H:Hp)(P:Hp->α->Prop):Prop
 |mk (F:Hp) (a:α) (s:aU F H) (q:D F a x) (p:P F a)
def rD2(K:Pn)(W:cv)(own:Bool)(g:A'->A'->M A'):R2:=λx y H Q=>TX2 K x y H λF a b=>aE K W own F H (g a b) Q
def rD1(K:Pn)(W:cv)(own:Bool)(g:A'->M A'):V->Hp->VK->Prop:=λx H Q=>TX1 (aY K) x H λF a=>aE K W own F H (g a) Q
def rDL(K:Pn)(W:cv)(own:Bool)(g:List A'->M A'):bp->Hp->VK->Prop:=λxs H Q=>TX1 (aw K) xs H λF ds=>aE K W own F H (g ds) Q
section
variable{W:cv}{own:Bool}
def rd_c(B:∀F,aY K F d v)(h:tD K W c_ (fC d) σ H Q):tC v σ H Q:=by obtain⟨F,ρ,r,s,p⟩:=h;exact p v F H (B4.refl s) (B F)
def aE.err{x:M A'}{e:Err}(p:aE K W own F H x Q)(h:x=.error e):W.p e F H:=by rw[h]at p;exact p
def rd_1{g:A'->M A'}(h:tD K W own (f1 g fa) σ H Q):tUn (rD1 K W own g) (tD K W c_ fa) σ H Q:=by
 obtain⟨F,ρ,r,s,p⟩:=h;refine aF r s (λe B=>p.err (by unfold f1;rw[B];rfl)) λa J x F1 H1 s1 q1=>?_;refine⟨F1,a,s1.fh,q1,?_⟩
 have e:f1 g fa ρ=g a:=by unfold f1;rw[J];rfl
 rw[e]at p;exact p.step s1
def rd_2{g:A'->A'->M A'}(h:tD K W own (f2 g fa fb) σ H Q):tOp (rD2 K W own g) (tD K W c_ fa) (tD K W c_ fb) σ H Q:=by
 obtain⟨F,ρ,r,s,p⟩:=h;refine aF r s (λe B=>p.err (by unfold f2;rw[B];rfl)) λa J x F1 H1 s1 q1=>?_;refine aF (r.mono s1.ff) s1.fh (λe B=>(p.step s1).err (by unfold f2;rw[J];show(fb ρ).bind _=_;rw[B];rfl)) λb L y U H2 s2 q2=>?_;refine⟨U,a,b,s2.fh,aY.mono s2.ff q1,q2,?_⟩
 have e:f2 g fa fb ρ=g a b:=by unfold f2;rw[J];show(fb ρ).bind _=_;rw[L];rfl
 rw[e]at p;exact p.step (s1.trans s2)
def rd_nil(h:tDA K W au σ H R):tNil σ H R:=by obtain⟨F,ρ,r,s,p⟩:=h;exact p [] F H (B4.refl s) rfl
def rd_L{g:List A'->M A'}{fr:ah->M (List A')}(h:tD K W own (fL g fr) σ H Q):tDA K W fr σ H λxs H1=>rDL K W own g xs H1 Q:=by
 obtain⟨F,ρ,r,s,p⟩:=h;refine kT r s (λe B=>p.err (by unfold fL;rw[B];rfl)) λds J xs F1 H1 s1 q1=>⟨F1,ds,s1.fh,q1,?_⟩
 have e:fL g fr ρ=g ds:=by unfold fL;rw[J];rfl
 rw[e]at p;exact p.step s1
theorem zG{f:ah->M Bool}{R:Bool->Hp->Prop}(r:lI K F σ ρ)(s1:B4 F H F1 H1)(p:match f ρ with
 |.ok b=>∀F' H',B4 F H F' H'->R b H'|.error e=>W.p e F H):tDT K W f σ H1 R:=by
 refine⟨F1,ρ,r.mono s1.ff,s1.fh,?_⟩
 cases e:f ρ with
 |ok b=>rw[e]at p;exact λF' H' t=>p F' H' (s1.trans t)|error x=>rw[e]at p;exact W.mono p s1
theorem rd_B{R:Bool->Hp->Prop}(h:tDT K W (fB fa) σ H R):tTest (tD K W c_ fa) σ H R:=by
 obtain⟨F,ρ,r,s,p⟩:=h;refine aF r s (λe B=>?_) λa J x F1 H1 s1 q1=>?_
 .have z:fB fa ρ=.error e:=by unfold fB;rw[B];rfl
  simp_all
 .have z:fB fa ρ=asB a:=by unfold fB;rw[J];rfl
  rw[z]at p;cases a with
  |bl b=>exact⟨b,q1,p F1 H1 s1⟩|_=>exact(W.ns p).elim
def tru_of{a:A'}{x:V}{b:Bool}(s:aU F H1)(q:aY K F a x)(h:truD a=.ok b):TruV K x H1 b:=by
 cases a with
 |non=>rw[show x=.non from q];exact(ID h).symm|bl c=>rw[show x=.bl c from q];exact(ID h).symm|int i=>rw[show x=.int i from q];exact(ID h).symm|tup ds=>
  obtain⟨p,xs,e,t,r⟩:=q;subst e;refine .inr ⟨xs,s.tup t,?_⟩;rw[<- ID h];cases ds with
  |nil=>rw[show xs=[]from r];rfl|cons d ds=>obtain⟨v,vs,e,_⟩:=r;rw[e];rfl
 |lst ds=>
  obtain⟨p,xs,e,t,r⟩:=q;subst e;refine .inl ⟨xs,s.lst t,?_⟩;rw[<- ID h];cases ds with
  |nil=>rw[show xs=[]from r];rfl|cons d ds=>obtain⟨v,vs,e,_⟩:=r;rw[e];rfl
 |ins C fs=>cases h|dic ks=>cases h|dil ks=>cases h
def zV{g:A'->A'->M A'}(h:tD K W c_ (fS g g' fa fb fc) σ H Q):CS (rD2 K W c_ g) (rD2 K W c_ g') (tD K W c_ fa) (tD K W c_ fb) (tD K W c_ fc) σ H Q:=by
 obtain⟨F,ρ,r,s,p⟩:=h;refine aF r s (λe J=>p.err (by unfold fS;rw[J];rfl)) λa f x F1 H1 s1 q1=>?_;refine aF (r.mono s1.ff) s1.fh (λe J=>(p.step s1).err (by unfold fS;rw[f];show(fb ρ).bind _=_;rw[J];rfl)) λb m y o H2 s2 q2=>?_;have z:fS g g' fa fb fc ρ=(g a b).bind λx=>(asB x).bind λk=>if k=d_ then(fc ρ).bind λc=>g' b c else .ok (.bl c_):=by unfold fS;rw[f];show(fb ρ).bind _=_;rw[m];rfl
 rw[z]at p;refine⟨o,a,b,s2.fh,aY.mono s2.ff q1,q2,?_⟩
 have p2:=p.step (s1.trans s2);cases e:g a b with
 |error x=>rw[e]at p2;exact p2|ok d=>
  rw[e]at p2;intro v Y U B j;have p3:aE K W c_ Y U ((asB d).bind λk=>if k=d_ then(fc ρ).bind λc=>g' b c else .ok (.bl c_)) Q:=aE.step p2 B;cases d with
  |bl k=>
   refine⟨k,j,?_⟩
   cases k with
   |false=>exact p3 (.bl c_) Y U (B4.refl B.fh) rfl|true=>
    have p4:aE K W c_ Y U ((fc ρ).bind λc=>g' b c) Q:=p3;refine aF (r.mono (s1.trans (s2.trans B)).ff) B.fh (λe J=>p4.err (by rw[J];rfl)) λc l w n q L i=>⟨n,b,c,L.fh,aY.mono (B.trans L).ff q2,i,?_⟩
    rw[l]at p4;exact p4.step L
  |_=>exact(W.ns p3).elim
end
inductive Pat where
 |nm (i:Nat)|tp (is:List Nat)
noncomputable def hG:bo->List A'->ah->ah
 |i::is,d::ds,ρ=>hG is ds (ρ.set i (a_ d))|_,_,ρ=>ρ
def dI:Pat->A'->ah->M ah
 |.nm i,d,ρ=>.ok (ρ.set i (a_ d))|.tp is,.tup ds,ρ=>if ds.length=is.length then .ok (hG is ds ρ)else .error .stuck
 |.tp _,_,_=>.error .stuck
def gd:bo->TGs
 |[]=>gNil|i::is=>gCons (wF i) (gd is)
def gP(K:Pn):Pat->TG
 |.nm i=>wF i|.tp is=>gTup K is.length (gd is)
theorem rZ{K:Pn}{F H:Hp}{R:St->Hp->Prop}:∀{is:bo} {ds:List A'} {vs:bp} {σ:St} {ρ:ah},lI K F σ ρ->aw K F ds vs->ds.length=is.length->(∀B,lI K F B (hG is ds ρ)->R B H)->gd is vs σ H R
 |[],[],_,σ,ρ,r,q,_,h=>⟨q,h σ r⟩|[],_::_,_,_,_,_,_,e,_=>by simp at e|_::_,[],_,_,_,_,_,e,_=>by simp at e|i::is,d::ds,_,σ,ρ,r,⟨v,vs,e,q,t⟩,l,h=>⟨v,vs,e,rZ (r.set q i) t bi h⟩
theorem Et{R:St->Hp->Prop}{p:Pat}(r:lI K F σ ρ)(s:aU F H)(q:aY K F d v)(e:dI p d ρ=.ok ρ')(h:∀B,lI K F B ρ'->R B H):gP K p v σ H R:=by
 cases p with
 |nm i=>have:=ID e;subst this;exact h _ (r.set q i)|tp is=>
  cases d with
  |tup ds=>
   have L:(if ds.length=is.length then GX (hG is ds ρ)else I9 Err.stuck)=GX ρ':=e;by_cases J:ds.length=is.length
   .rw[u_ J]at L;have:=ID L;subst this;obtain⟨a,xs,ev,t,z⟩:=q;exact⟨a,xs,ev,s.tup t,by rw[z.length,J],rZ r z J h⟩
   simp_all
  |_=>cases e
theorem jX{p:Pat}{e:Err}(h:dI p d ρ=.error e):e=.stuck:=by
 cases p with
 |nm i=>cases h|tp is=>
  cases d with
  |tup ds=>
   have B:(if ds.length=is.length then GX (hG is ds ρ)else I9 Err.stuck)=I9 e:=h
   lia
  |_=>cases h;rfl
structure o6(K:Pn)(F1:Hp)(J:It)(ds:List A'):Prop where
 go:∀(i:Nat) (F H:Hp),aU F1 F->aU F H->i<ds.length->J.go i H
 yl:∀(i:Nat) (F H:Hp) (x:V) (H':Hp) (d:A'),aU F1 F->aU F H->ds[i]?=a_ d->J.yld i H x H'->∃F',B4 F H F' H'/\aY K F' d x
 st:∀(F H:Hp),aU F1 F->aU F H->J.stop ds.length H
def iD(K:Pn)(W:cv)(f:ah->M (List A')):TI:=λσ H R=>TDx K σ H λF ρ=>match f ρ with
 |.ok ds=>∀J F1 H1,B4 F H F1 H1->o6 K F1 J ds->R J H1|.error e=>W.p e F H
noncomputable def kM:A'->M (List A')
 |.lst ds=>.ok ds|.tup ds=>.ok ds|_=>.error .stuck
def fIt(fa:ah->M A'):ah->M (List A'):=λρ=>(fa ρ).bind kM
def iSeq(K:Pn)(tl:TE):TI:=λσ H R=>tl σ H λx H1=>∃a,x=.ref a/\((∃xs,SqL K H1 a xs)/\R (Itl K a) H1\/(∃xs,SqT K H1 a xs)/\R (Itt K a) H1)
def wz(t:SqL K F a xs)(z:aw K F ds xs):o6 K F (Itl K a) ds where
 go:=λi F' H' s1 s2 hi=>⟨xs,xs[i]'(by rw[z.length];exact hi),s2.lst (s1.lst t),ad⟩
 yl:=λi F' H' x H2 d s1 s2 J B=>by obtain⟨e,B⟩:=B;subst e;obtain⟨v,e1,q⟩:=z.get J;have e2:=B xs (s2.lst (s1.lst t));rw[e1]at e2;cases e2;exact⟨F',B4.refl s2,q.mono s1⟩
 st:=λF' H' s1 s2=>⟨xs,s2.lst (s1.lst t),by rw[z.length];simp⟩
def iter_tup(t:SqT K F a xs)(z:aw K F ds xs):o6 K F (Itt K a) ds where
 go:=λi F' H' s1 s2 hi=>⟨xs,xs[i]'(by rw[z.length];exact hi),s2.tup (s1.tup t),ad⟩
 yl:=λi F' H' x H2 d s1 s2 J B=>by obtain⟨e,B⟩:=B;subst e;obtain⟨v,e1,q⟩:=z.get J;have e2:=B xs (s2.tup (s1.tup t));rw[e1]at e2;cases e2;exact⟨F',B4.refl s2,q.mono s1⟩
 st:=λF' H' s1 s2=>⟨xs,s2.tup (s1.tup t),by rw[z.length];simp⟩
noncomputable def aL(lo:Int)(n:Nat):List A':=(FN n).map λk:Nat=>A'.int (lo+k)
theorem rO{lo:Int}:o6 K F (Itr lo n) (aL lo n) where
 go:=λi F' H' s1 s2 hi=>by show i<n;simp_all[aL]
 yl:=λi F' H' x H2 d s1 s2 B J=>by
  obtain⟨e,J⟩:=J;subst e J;unfold aL at B;rw[FQ]at B;have hi:i<n:=by have:=(oe.mp (show((FN n).map λk:Nat=>A'.int (lo+k))[i]?=a_ d by simp_all)).1;simpa using this
  rw[Kj hi]at B;cases B;exact⟨F',B4.refl s2,rfl⟩
 st:=λF' H' s1 s2=>by show n<=_;simp[aL]
noncomputable def bg(i:Int):Bool:=A_ (-(2^62)<=i)&&A_ (i<2^62)
def nj:List A'->M (List A')
 |[.int j]=>if bg j=d_ then .ok (aL 0 j.toNat)else .error .stuck
 |_=>.error .stuck
def zS:List A'->M (List A')
 |[.int i,.int j]=>if (bg i&&bg j)=d_ then .ok (aL i (j-i).toNat)else .error .stuck
 |_=>.error .stuck
noncomputable def jv(g:List A'->M (List A'))(fr:ah->M (List A')):ah->M (List A'):=λρ=>(fr ρ).bind g
section
variable{W:cv}
def cm(ix:List (Option Nat))(ρ:ah):ah:=ix.map λo=>match o with
 |none=>f_|some j=>(ρ[j]?).join
def ay(p:Pat)(ft:ah->M Bool)(fe:ah->M A')(ρ0:ah):List A'->M (List A')
 |[]=>.ok []|d::ds=>(dI p d ρ0).bind λρ=>(ft ρ).bind λb=>if b=d_ then(fe ρ).bind λy=>(ay p ft fe ρ0 ds).bind λr=>.ok (y::r)else ay p ft fe ρ0 ds
def aZ(fi:ah->M (List A'))(ix:List (Option Nat))(p:Pat)(ft:ah->M Bool)(fe:ah->M A'):ah->M A':=λρ=>(fi ρ).bind λds=>if ds.length<=q_ then(ay p ft fe (cm ix ρ) ds).bind λr=>.ok (.lst r)else .error .stuck
noncomputable def eW:ah->M Bool:=λ_=>.ok d_
theorem lI.inS{F:Hp}{ρ:ah}(r:lI K F σ ρ)(ix:List (Option Nat)):lI K F (Lake.inS ix σ) (cm ix ρ):=
 ⟨by simp[Lake.inS,cm],λi d e=>by
  unfold cm at e;unfold Lake.inS;rw[FQ]at e ⊢;cases h:ix[i]? with
  |none=>simp_all|some o=>
   rw[h]at e;cases o with
   |none=>cases e|some j=>
    simp only[Jb,Hv]at e ⊢;have e1:ρ[j]?=a_ (a_ d):=by
     cases z:ρ[j]? with
     |none=>simp_all|some w=>simp_all
    obtain⟨v,h1,B⟩:=r.sl j d e1;exact⟨v,bi,B⟩⟩
theorem ya{p:Pat}(h:tD K W d_ (aZ fi ix p ft fe) σ H Q):
  Bi (iD K W fi) ix (gP K p) (tDT K W ft) (tD K W c_ fe) σ H Q:=by
 obtain⟨F,ρ,r,s,q⟩:=h;refine⟨F,ρ,r,s,?_⟩
 cases R:fi ρ with
 |error e=>exact q.err (by unfold aZ;rw[R];rfl)|ok ds=>
  intro J F1 H1 s1 D;have e0:aZ fi ix p ft fe ρ=if ds.length<=q_ then(ay p ft fe (cm ix ρ) ds).bind λr=>.ok (.lst r)else .error .stuck:=by unfold aZ;rw[R];rfl
  rw[e0]at q;by_cases P:ds.length<=q_
  .rw[u_ P]at q;refine⟨λi m ys H2=>m=ds.length-i/\i<=ds.length/\∃f B,B4 F1 H1 f H2/\aw K f B ys/\B.length<=i /\
    (match ay p ft fe (cm ix ρ) (ds.drop i)with
     |.ok L=>ay p ft fe (cm ix ρ) ds=.ok (B++L)|.error e=>W.p e F H),⟨ds.length,ac,Gi _,F1,[],B4.refl s1.fh,rfl,Gi _,?_⟩,?_⟩
   .rw[Jq];cases e:ay p ft fe (cm ix ρ) ds with
    |ok L=>rfl|error x=>exact q.err (by rw[e];rfl)
   .rintro i m ys H2 ⟨rfl,hi,f,B,s2,C,ly,l⟩;have w:ys.length<=q_:=by rw[C.length];lia
    by_cases g:i<ds.length
    .have ed:ds.drop i=ds[i]::ds.drop (i+1):=Gq g;rw[ed]at l;refine .inr ⟨D.go i f H2 s2.ff s2.fh g,w,λt H'=>(i+1<=ds.length/\∃f B,B4 F1 H1 f H'/\aw K f B t/\B.length<=i+1 /\
      (match ay p ft fe (cm ix ρ) (ds.drop (i+1))with
       |.ok L=>ay p ft fe (cm ix ρ) ds=.ok (B++L)|.error e=>W.p e F H)),λt H' n=>⟨ds.length-(i+1),ac,rfl,n⟩,λx H' y=>?_⟩
     obtain⟨T,k,q3⟩:=D.yl i f H2 x H' ds[i] s2.ff s2.fh ad y;have Z:lI K T (Lake.inS ix σ) (cm ix ρ):=(r.mono (s1.trans (s2.trans k)).ff).inS ix;have u:B4 F H T H':=s1.trans (s2.trans k);have ec:ay p ft fe (cm ix ρ) (ds[i]::ds.drop (i+1))=(dI p ds[i] (cm ix ρ)).bind λU=>(ft U).bind λb=>if b=d_ then(fe U).bind λy=>(ay p ft fe (cm ix ρ) (ds.drop (i+1))).bind λr=>.ok (y::r)else ay p ft fe (cm ix ρ) (ds.drop (i+1)):=by rw[ay]
     rw[ec]at l;cases A:dI p ds[i] (cm ix ρ)with
     |error e=>rw[A]at l;have:=jX A;subst this;exact(W.ns l).elim|ok U=>
      rw[A]at l;refine Et Z k.fh q3 A λX O=>?_;have c:match ((ft U).bind λb=>if b=d_ then(fe U).bind λy=>(ay p ft fe (cm ix ρ) (ds.drop (i+1))).bind λr=>.ok (y::r)else ay p ft fe (cm ix ρ) (ds.drop (i+1)))with
       |.ok L=>ay p ft fe (cm ix ρ) ds=.ok (B++L)|.error e=>W.p e F H:=l
      refine iN O k.fh (λe E=>by rw[E]at c;exact W.mono c u) λb G F5 H5 o=>?_;rw[G]at c;cases b with
      |false=>
       have Y:match ay p ft fe (cm ix ρ) (ds.drop (i+1))with
        |.ok L=>ay p ft fe (cm ix ρ) ds=.ok (B++L)|.error e=>W.p e F H:=c
       exact⟨g,F5,B,s2.trans (k.trans o),C.mono (k.trans o).ff,ac,Y⟩
      |true=>
       have Y:match ((fe U).bind λy=>(ay p ft fe (cm ix ρ) (ds.drop (i+1))).bind λr=>.ok (y::r))with
        |.ok L=>ay p ft fe (cm ix ρ) ds=.ok (B++L)|.error e=>W.p e F H:=c
       refine aF (O.mono o.ff) o.fh (λe E=>by rw[E]at Y;exact W.mono Y (u.trans o)) λd hd v F6 H6 N q6=>?_;rw[hd]at Y;refine⟨g,F6,B++[d],s2.trans (k.trans (o.trans N)),aw.append (C.mono (k.trans (o.trans N)).ff) ⟨v,[],rfl,q6,rfl⟩,by simp;lia,?_⟩
       have j:match ((ay p ft fe (cm ix ρ) (ds.drop (i+1))).bind λr=>.ok (d::r):M (List A'))with
        |.ok L=>ay p ft fe (cm ix ρ) ds=.ok (B++L)|.error e=>W.p e F H:=Y
       cases S:ay p ft fe (cm ix ρ) (ds.drop (i+1))with
       |ok L=>rw[S]at j;show _=GX ((B++[d])++L);rw[FX];exact j|error x=>rw[S]at j;exact j
    .have:i=ds.length:=ac
     subst this;rw[Il]at l;have z:ay p ft fe (cm ix ρ) ds=.ok (B++[]):=l;rw[Hf]at z;rw[z]at q;refine .inl ⟨D.st f H2 s2.ff s2.fh,w,λa I=>?_⟩;have st:B4 F H f H2:=s1.trans s2;exact q (.ref a) f _ (st.trans (B4.grow s2.fh I)) ⟨a,ys,rfl,av,s2.fh.free I,st.hh.free I,C⟩
  .rw[x_ P]at q;exact(W.ns q).elim
end
set_option genInjectivity true in
inductive B' where
 |nx (ρ:ah)|rt (d:A')|bk (ρ:ah)|ct (ρ:ah)
variable{g g2:ah->M B'}
structure Rep(K:Pn)(F0 H0 FB:Hp)(O:bo)(F H:Hp)(σ:St)(ρ:ah):Prop where
 st:B4 F0 H0 F H
 fb:aU FB F
 len:ρ.length=σ.length
 fz:∀(i:Nat) (d:A'),ρ[i]?=a_ (a_ d)->i∉O->AtI (λv=>σ[i]?=a_ (a_ v)) (aY K F d)
 ow:∀(i:Nat) (d:A'),ρ[i]?=a_ (a_ d)->i∈O->AtI (λv=>σ[i]?=a_ (a_ v)) (n6 K F H0 H d)
 ap:∀(i j:Nat) (d e:A') (a:i_),i∈O->j∈O->(ρ[i]?=a_ (a_ d)/\isO d=d_)->(ρ[j]?=a_ (a_ e)/\isO e=d_)->σ[i]?=a_ (a_ (.ref a))->σ[j]?=a_ (a_ (.ref a))->i=j
def kr(O O2:bo)(σ:St)(ρ:ah)(b:i_):Prop:=∃(i:Nat) (d:A'),i∈O/\i∉O2/\isO d=d_/\ρ[i]?=a_ (a_ d)/\σ[i]?=a_ (a_ (.ref b))
open Classical in
noncomputable def plus(F H:Hp)(A:Addr->Prop):Hp:=λb=>if A b then H b else F b
open Classical in
noncomputable def minus(F:Hp)(A:Addr->Prop):Hp:=λb=>if A b then none else F b
theorem eO{A:i_->Prop}(h:A b):plus F H A b=H b:=by simp_all[plus,u_]
theorem cW{A:i_->Prop}(h:¬A b):plus F H A b=F b:=by simp_all[plus,x_]
theorem u3{A:i_->Prop}(h:A b):minus F A b=f_:=by simp_all[minus,u_]
theorem gI{A:i_->Prop}(h:¬A b):minus F A b=F b:=by simp_all[minus,x_]
theorem Rep.own(r:Rep K F0 H0 FB O F H σ ρ)(h:kr O O2 σ ρ b):F b=f_/\H0 b=f_/\∃o,H b=a_ o/\isMu o=d_:=by
 obtain⟨i,d,hi,_,B,e1,e2⟩:=h;obtain⟨v,e3,q⟩:=r.ow i _ e1 hi;rw[e2]at e3;cases e3;obtain⟨a,o,e,p,m,f,z⟩:=q.top B
 simp_all
theorem Rep.l6(r:Rep K F0 H0 FB O F H σ ρ):aU F (plus F H (kr O O2 σ ρ)):=λb o h=>by
 by_cases B:kr O O2 σ ρ b
 .rw[(r.own B).1]at h;cases h
 simp_all[cW]
theorem Rep.eQ(r:Rep K F0 H0 FB O F H σ ρ):aU (plus F H (kr O O2 σ ρ)) H:=λb o h=>by
 by_cases B:kr O O2 σ ρ b
 .simp_all[eO]
 .rw[cW B]at h;exact r.st.fh b o h
theorem Rep.freeze(r:Rep K F0 H0 FB O F H σ ρ)(J:∀i∈O2,i∈O):Rep K F0 H0 FB O2 (plus F H (kr O O2 σ ρ)) H σ ρ where
 st:=⟨r.st.ff.trans r.l6,r.st.hh,r.eQ,λb o h=>by
  by_cases c:kr O O2 σ ρ b
  .exact .inr (r.own c).2.1
  .rw[cW c]at h;exact r.st.nw b o h⟩
 fb:=r.fb.trans r.l6
 len:=r.len
 fz:=λi d e hi=>by
  by_cases L:i∈O
  .obtain⟨v,e3,q⟩:=r.ow i d e L;refine⟨v,e3,?_⟩
   cases B:isO d with
   |true=>obtain⟨a,_,ev,_⟩:=q.top B;subst ev;exact q.give B r.l6 (eO ⟨i,d,L,hi,B,e,e3⟩)
   |false=>rw[n6.non B]at q;exact q.mono r.l6
  .obtain⟨v,e3,q⟩:=r.fz i d e L;exact⟨v,e3,q.mono r.l6⟩
 ow:=λi d e hi=>by
  obtain⟨v,e3,q⟩:=r.ow i d e (J i hi);refine⟨v,e3,?_⟩
  cases B:isO d with
  |true=>
   obtain⟨a,o,ev,p,_,f,z⟩:=q.top B;subst ev;refine q.re B r.l6 ?_ λ_ h=>h;have:¬kr O O2 σ ρ a:=λ⟨j,d',U,g,Y,l,k⟩=>by
    have:=r.ap i j d d' a (J i hi) U ⟨e,B⟩ ⟨l,Y⟩ e3 k
    simp_all
   simp_all[cW]
  |false=>rw[n6.non B]at q ⊢;exact q.mono r.l6
 ap:=λi j d e a hi U=>r.ap i j d e a (J i hi) (J j U)
def Rep.repE(r:Rep K F0 H0 FB [] F H σ ρ):lI K F σ ρ:=⟨r.len,λi d e=>r.fz i d e ad⟩
def Rep.j9(r:Rep K F0 H0 FB O F H σ ρ):lI K (plus F H (kr O [] σ ρ)) σ ρ:=(r.freeze (O2:=[]) ad).repE
noncomputable def erase:bo->ah->ah
 |[],ρ=>ρ|i::is,ρ=>erase is (ρ.set i f_)
theorem jQ:∀(O:bo) (ρ:ah),(erase O ρ).length=ρ.length
 |[],_=>rfl|i::is,ρ=>by rw[erase,jQ,Gd]
theorem wO:∀(O:bo) (ρ:ah) (i:Nat) (d:A'),(erase O ρ)[i]?=a_ (a_ d)->ρ[i]?=a_ (a_ d)/\i∉O
 |[],_,_,_,h=>⟨h,ad⟩|j::is,ρ,i,d,h=>by
  obtain⟨h1,J⟩:=wO is (ρ.set j f_) i d h;by_cases e:j=i
  .subst e;have B:j<ρ.length:=by
    have:=(oe.mp h1).1;simpa using this
   rw[z_ B]at h1;cases h1
  .rw[v_ e]at h1;exact⟨h1,by simp[J];lia⟩
def Rep.iO(r:Rep K F0 H0 FB O F H σ ρ):lI K F σ (erase O ρ):=
 ⟨by rw[jQ,r.len],λi d e=>let ⟨h1,B⟩:=wO O ρ i d e;r.fz i d h1 B⟩
theorem Rep.step(r:Rep K F0 H0 FB O F H σ ρ)(s:B4 F H F1 H1):Rep K F0 H0 FB O F1 H1 σ ρ where
 st:=r.st.trans s
 fb:=r.fb.trans s.ff
 len:=r.len
 fz:=λi d e hi=>let ⟨v,e3,q⟩:=r.fz i d e hi;⟨v,e3,q.mono s.ff⟩
 ow:=λi d e hi=>by
  obtain⟨v,e3,q⟩:=r.ow i d e hi;refine⟨v,e3,?_⟩
  cases B:isO d with
  |true=>
   obtain⟨a,u,ev,p,_,f,z⟩:=q.top B;subst ev;refine q.re B s.ff ?_ (s.hh a);cases e1:F1 a with
   |none=>rfl|some o=>
    rcases s.nw a o e1 with h|h
    .simp_all
    simp_all
  |false=>rw[n6.non B]at q ⊢;exact q.mono s.ff
 ap:=r.ap
theorem Rep.fX(r:Rep K F0 H0 FB O F H σ ρ)(s:B4 (plus F H (kr O [] σ ρ)) H F1 H1):Rep K F0 H0 FB O (minus F1 (kr O [] σ ρ)) H1 σ ρ:=by
 refine r.step ⟨λb o h=>?_,s.hh,λb o h=>?_,λb o h=>?_⟩
 .by_cases B:kr O [] σ ρ b
  .rw[(r.own B).1]at h;cases h
  .rw[gI B];exact s.ff b o (by simp_all[cW])
 .by_cases B:kr O [] σ ρ b
  .simp_all[u3]
  .rw[gI B]at h;exact s.fh b o h
 .by_cases B:kr O [] σ ρ b
  .simp_all[u3]
  .rw[gI B]at h;rcases s.nw b o h with z|z
   .simp_all[cW]
   simp_all
theorem Rep.kI(r:Rep K F0 H0 FB O F H σ ρ)(s:B4 (plus F H (kr O [] σ ρ)) H F1 H1)(a:i_)(xs:bp)(h:SqT K F1 a xs):SqT K (minus F1 (kr O [] σ ρ)) a xs:=by
 have key:∀{b:i_} {o:HO},F1 b=a_ o->isMu o=c_->minus F1 (kr O [] σ ρ) b=a_ o:=λ{b o} h n=>by
  by_cases B:kr O [] σ ρ b
  .obtain⟨_,_,u,e,m⟩:=r.own B;have:=s.ff b u (by simp_all[eO])
   simp_all
  simp_all[gI]
 rcases h with(h|⟨o,h⟩)|h
 .exact .inl (.inl (key h rfl))
 .exact .inl (.inr ⟨o,key h rfl⟩)
 .exact .inr h
theorem Rep.set{d:A'}{v:V}(r:Rep K F0 H0 FB O F H σ ρ)(q:aY K F d v)(i:Nat):Rep K F0 H0 FB (O.filter (· != i)) F H (σ.set i (a_ v)) (ρ.set i (a_ d)) where
 st:=r.st
 fb:=r.fb
 len:=by rw[Gd,Gd,r.len]
 fz:=λj e h J=>by
  by_cases B:i=j
  .subst B;have hi:i<ρ.length:=by
    have:=(oe.mp h).1;simpa using this
   rw[z_ hi]at h;cases h;exact⟨v,by rw[z_ (by rw[<- r.len];exact hi)],q⟩
  .rw[v_ B]at h;rw[v_ B];exact r.fz j e h λz=>J (GI.mpr ⟨z,by simpa using HM B⟩)
 ow:=λj e h J=>by
  obtain⟨h1,f⟩:=GI.mp J;have B:i≠j:=λz=>by simp[z]at f
  rw[v_ B]at h ⊢;exact r.ow j e h h1
 ap:=λj k ds es a J c e1 e2 e3 e4=>by
  obtain⟨b,Y⟩:=GI.mp J;obtain⟨U,k2⟩:=GI.mp c;have B:i≠j:=λz=>by simp[z]at Y
  have L:i≠k:=λz=>by simp[z]at k2
  rw[v_ B]at e1 e3;rw[v_ L]at e2 e4;exact r.ap j k ds es a b U e1 e2 e3 e4
theorem Rep.setOwn(r:Rep K F0 H0 FB O F H σ ρ)(q:n6 K F H0 H d v)(s:∀a,v=.ref a->isO d=d_->¬kr O [i] σ ρ a):Rep K F0 H0 FB (i::O.filter (· != i)) F H (σ.set i (a_ v)) (ρ.set i (a_ d)) where
 st:=r.st
 fb:=r.fb
 len:=by rw[Gd,Gd,r.len]
 fz:=λj e h U=>by simp only[p_,not_or]at U;have B:i≠j:=λz=>U.1 z.symm;rw[v_ B]at h ⊢;exact r.fz j e h λz=>U.2 (GI.mpr ⟨z,by simpa using HM B⟩)
 ow:=λj e h U=>by
  by_cases B:i=j
  .subst B;have hi:i<ρ.length:=by
    have:=(oe.mp h).1;simpa using this
   rw[z_ hi]at h;cases h;exact⟨v,by rw[z_ (by rw[<- r.len];exact hi)],q⟩
  .rw[v_ B]at h ⊢;rcases p_.mp U with z|z
   .simp_all
   .exact r.ow j e h (GI.mp z).1
 ap:=λj k ds es a U w e1 e2 e3 e4=>by
  have key:∀{k':Nat} {L J:A'},k'∈O->k'≠i->((ρ.set i (a_ d))[i]?=a_ (a_ L)/\isO L=d_)->((ρ.set i (a_ d))[k']?=a_ (a_ J)/\isO J=d_)->(σ.set i (a_ v))[i]?=a_ (a_ (.ref a))->(σ.set i (a_ v))[k']?=a_ (a_ (.ref a))->False:=by
   intro k' L J f c Y l f3 f4;have hi:i<ρ.length:=by have:=(oe.mp Y.1).1;simpa using this
   rw[z_ hi]at Y;rw[z_ (by rw[<- r.len];exact hi)]at f3;rw[v_ (HM c)]at l f4;have p:v=.ref a:=by simpa using f3
   have o:d=L:=by simpa using Y.1
   exact s a p (o▸Y.2) ⟨k',J,f,bi,l.2,l.1,f4⟩
  rcases p_.mp U with m|m
  .grind
  .obtain⟨n,u⟩:=GI.mp m;have B:i≠j:=λz=>by simp[z]at u
   rcases p_.mp w with b|b
   .subst b;exact(key n (HM B) e2 e1 e4 e3).elim
   .obtain⟨t,k2⟩:=GI.mp b;have g:i≠k:=λz=>by simp[z]at k2
    rw[v_ B]at e1 e3;rw[v_ g]at e2 e4;exact r.ap j k ds es a n t e1 e2 e3 e4
theorem Rep.eN(r:Rep K F0 H0 FB O F H σ ρ)(s:B4 (plus F H (kr O [] σ ρ)) H F1 H1):aU F (minus F1 (kr O [] σ ρ)):=λb o h=>by
 by_cases B:kr O [] σ ρ b
 .rw[(r.own B).1]at h;cases h
 .rw[gI B];exact s.ff b o (by simp_all[cW])
theorem BY(h:i∉O):O.filter (· != i)=O:=by grind[List.filter_eq_self]
theorem Rep.set'(r:Rep K F0 H0 FB O F H σ ρ)(q:aY K F d v)(hi:i∉O):Rep K F0 H0 FB O F H (σ.set i (a_ v)) (ρ.set i (a_ d)):=by
 have:=r.set q i
 simp_all[BY]
def Rep.base{B:Hp}(r:Rep K F0 H0 FB O F H σ ρ)(s:aU B FB):Rep K F0 H0 B O F H σ ρ:=⟨r.st,s.trans r.fb,r.len,r.fz,r.ow,r.ap⟩
theorem Rep.zu{d':A'}{u:HO}(r:Rep K F0 H0 FB O F H σ ρ)(hi:i∈O)(e1:ρ[i]?=a_ (a_ d))(n:isO d=d_)(e2:σ[i]?=a_ (a_ (.ref a)))(q:F a=f_->H0 a=f_->n6 K F H0 (upd H a u) d' (.ref a)):Rep K F0 H0 FB O F (upd H a u) σ (ρ.set i (a_ d')):=by
 have U:F a=f_/\H0 a=f_/\∃o,H a=a_ o/\isMu o=d_:=r.own (O2:=[]) ⟨i,d,hi,ad,n,e1,e2⟩;have Y:i<ρ.length:=(oe.mp e1).1;refine⟨⟨r.st.ff,λb o h=>?_,λb o h=>?_,r.st.nw⟩,r.fb,by rw[Gd,r.len],λj e h J=>?_,λj e h J=>?_,λj k es fs b J t y x f3 f4=>?_⟩
 .rw[aA (aM h U.2.1)];exact r.st.hh b o h
 .rw[aA (aM h U.1)];exact r.st.fh b o h
 .have B:i≠j:=λz=>J (z▸hi);rw[v_ B]at h;exact r.fz j e h J
 .by_cases B:i=j
  .subst B;rw[z_ Y]at h;cases h;exact⟨.ref a,e2,q U.1 U.2.1⟩
  .rw[v_ B]at h;obtain⟨v,e3,z⟩:=r.ow j e h J;refine⟨v,e3,?_⟩
   cases c:isO e with
   |true=>
    obtain⟨b,o,ev,p,_,f,_⟩:=z.top c;subst ev;have g:b≠a:=λz=>by subst z;exact B (r.ap i j d e b hi J ⟨e1,n⟩ ⟨h,c⟩ e2 e3)
    exact z.re c (aU.refl _) f λo h=>by rw[aA g];exact h
   |false=>simp_all[n6.non]
 .have L:∀{j:Nat} {e:A'},((ρ.set i (a_ d'))[j]?=a_ (a_ e)/\isO e=d_)->∃s,ρ[j]?=a_ (a_ s)/\isO s=d_:=λ{j e} f=>by
   grind[v_]
  obtain⟨m,w⟩:=L y;obtain⟨l,g2⟩:=L x;exact r.ap j k m l b J t w g2 f3 f4
def Rep.write{J:List A'}{B:bp}(r:Rep K F0 H0 FB O F H σ ρ)(hi:i∈O)(e1:ρ[i]?=a_ (a_ (.lst ds)))(e2:σ[i]?=a_ (a_ (.ref a)))(q:aw K F J B):Rep K F0 H0 FB O F (upd H a (.lst B)) σ (ρ.set i (a_ (.lst J))):=
 r.zu hi e1 rfl e2 λf z=>⟨a,B,rfl,av,f,z,q⟩
noncomputable def Pat.names:Pat->bo
 |.nm i=>[i]|.tp is=>is
theorem mO{R:St->Hp->Prop}:∀{is:bo} {ds:List A'} {vs:bp} {σ:St} {ρ:ah},Rep K F0 H0 FB O F H σ ρ->(∀i∈is,i∉O)->aw K F ds vs->ds.length=is.length->(∀B,Rep K F0 H0 FB O F H B (hG is ds ρ)->R B H)->gd is vs σ H R
 |[],[],_,σ,ρ,r,_,q,_,h=>⟨q,h σ r⟩|[],_::_,_,_,_,_,_,_,e,_=>by simp at e|_::_,[],_,_,_,_,_,_,e,_=>by simp at e|i::is,d::ds,_,σ,ρ,r,n,⟨v,vs,e,q,t⟩,l,h=>⟨v,vs,e,mO (r.set' q (n i ad)) (λj J=>n j (by simp[J])) t bi h⟩
theorem gP_rep{R:St->Hp->Prop}{p:Pat}(r:Rep K F0 H0 FB O F H σ ρ)(n:∀i∈p.names,i∉O)(q:aY K F d v)(e:dI p d ρ=.ok ρ')(h:∀B,Rep K F0 H0 FB O F H B ρ'->R B H):gP K p v σ H R:=by
 cases p with
 |nm i=>have:=ID e;subst this;exact h _ (r.set' q (n i (by simp[Pat.names])))|tp is=>
  cases d with
  |tup ds=>
   have L:(if ds.length=is.length then GX (hG is ds ρ)else I9 Err.stuck)=GX ρ':=e;by_cases J:ds.length=is.length
   .rw[u_ J]at L;have:=ID L;subst this;obtain⟨a,xs,ev,t,z⟩:=q;exact⟨a,xs,ev,r.st.fh.tup t,by rw[z.length,J],mO r n z J h⟩
   simp_all
  |_=>cases e
def c9(K:Pn)(W:cv)(ro:Bool)(F0 H0 FB:Hp)(OL O':bo)(D:Ends)(r:M B'):Prop:=match r with
 |.ok (.nx ρ)=>∀σ F H,Rep K F0 H0 FB O' F H σ ρ->D.nx σ H|.ok (.rt d)=>∀v F H,B4 F0 H0 F H->Val K ro F H0 H d v->D.rt v H|.ok (.bk ρ)=>∀σ F H,Rep K F0 H0 FB OL F H σ ρ->D.bk σ H|.ok (.ct ρ)=>∀σ F H,Rep K F0 H0 FB OL F H σ ρ->D.ct σ H|.error e=>W.p e F0 H0
def tS(K:Pn)(W:cv)(ro:Bool)(F0 H0:Hp)(OL O O':bo)(g:ah->M B'):TS:=λD σ H=>∃FB F ρ,Rep K F0 H0 FB O F H σ ρ/\c9 K W ro F0 H0 FB OL O' D (g ρ)
def cB:ah->M B':=λρ=>.ok (.nx ρ)
def aP(g h:ah->M B'):ah->M B':=λρ=>(g ρ).bind λfl=>match fl with
 |.nx ρ'=>h ρ'|fl=>.ok fl
noncomputable def sIf(ft:ah->M Bool)(g h:ah->M B'):ah->M B':=λρ=>(ft ρ).bind λb=>if b=d_ then g ρ else h ρ
def mQ:Bool->A'->Bool
 |true,.lst ds=>mn ds|_,d=>gO d
def xZ(own:Bool)(i:Nat)(f:ah->M A'):ah->M B':=λρ=>(f ρ).bind λd=>if mQ own d=d_ then .ok (.nx (ρ.set i (a_ d)))else .error .stuck
def aC(O:bo)(i:Nat)(f:ah->M A'):ah->M B':=λρ=>(f (erase O ρ)).bind λd=>.ok (.nx (ρ.set i (a_ d)))
def xX(O:bo)(p:Pat)(f:ah->M A'):ah->M B':=λρ=>(f (erase O ρ)).bind λd=>(dI p d ρ).bind λρ'=>.ok (.nx ρ')
noncomputable def ju(ρ:ah)(i:Nat):M (List A'):=match ρ[i]? with
 |some (a_ (.lst ds))=>.ok ds|_=>.error .stuck
def put(ρ:ah)(i:Nat)(ds:List A'):M B':=.ok (.nx (ρ.set i (a_ (.lst ds))))
def gF(O:bo)(i:Nat)(f:ah->M A'):ah->M B':=λρ=>(ju ρ i).bind λds=>(f (erase O ρ)).bind λd=>if ds.length<q_ then put ρ i (ds++[d])else .error .stuck
noncomputable def asI:A'->M Int
 |.int i=>.ok i|_=>.error .stuck
def xY(i:Nat)(fi f:ah->M A'):ah->M B':=λρ=>(f ρ).bind λd=>(ju ρ i).bind λds=>(fi ρ).bind λk=>(asI k).bind λk=>if gO d=d_ then(match ixN ds.length k with
 |some j=>put ρ i (ds.set j d)|none=>.error .stuck)else .error .stuck
def cn(f:ah->M A'):ah->M B':=λρ=>(f ρ).bind λd=>.ok (.rt d)
def bK(p:Pat)(g:ah->M B'):List A'->ah->M B'
 |[],ρ=>.ok (.nx ρ)|d::ds,ρ=>(dI p d ρ).bind λJ=>(g J).bind λfl=>match fl with
  |.nx B=>bK p g ds B|.ct B=>bK p g ds B|.bk B=>.ok (.nx B)|.rt d=>.ok (.rt d)
def jt(O:bo)(fi:ah->M (List A'))(p:Pat)(g:ah->M B'):ah->M B':=λρ=>(fi (erase O ρ)).bind λds=>bK p g ds ρ
def gC(ft:ah->M Bool)(g:ah->M B'):Nat->ah->M B'
 |0,_=>.error .stuck|n+1,ρ=>(ft ρ).bind λb=>if b=d_ then(g ρ).bind λfl=>match fl with
  |.nx B=>gC ft g n B|.ct B=>gC ft g n B|.bk B=>.ok (.nx B)|.rt d=>.ok (.rt d)else .ok (.nx ρ)
section
variable{W:cv}{own:Bool}{D:Ends}{h:ah->M B'}{f fi:ah->M A'}
def c9.err{x:M B'}{e:Err}(p:c9 K W ro F0 H0 FB OL O' D x)(h:x=.error e):W.p e F0 H0:=by rw[h]at p;exact p
def c9.eX{x:M B'}{e:Err}(p:c9 K W ro F0 H0 FB OL O' D x)(s:B4 F0 H0 F H)(h:x=.error e):W.p e F H:=W.mono (p.err h) s
theorem c9.stuck{x:M B'}{P:Prop}(p:c9 K W ro F0 H0 FB OL O' D x)(h:x=.error .stuck):P:=(W.ns (p.err h)).elim
noncomputable def aft(own:Bool)(i:Nat)(O:bo):bo:=if own=d_ then i::O.filter (· != i)else O.filter (· != i)
theorem Rep.bindV(r:Rep K F0 H0 FB O F H σ ρ)(q:Val K own F H2 H d v)(B:aU H0 H2)(J:∀a,kr O [] σ ρ a->∃o,H2 a=a_ o):Rep K F0 H0 FB (aft own i O) F H (σ.set i (a_ v)) (ρ.set i (a_ d)):=by
 cases own with
 |false=>exact r.set q i|true=>
  refine r.setOwn (n6.back B q) λa U L z=>?_;subst U;obtain⟨b,_,e,_,_,_,n⟩:=n6.top L q;cases e;obtain⟨j,es,h1,B,f,c,Y⟩:=z;obtain⟨o,g⟩:=J a ⟨j,es,h1,ad,f,c,Y⟩
  simp_all
def D3(t:tS K W ro F0 H0 OL O (aft own i O) (aC O i f) D σ H):tAsg (tD K W own f) (wF i) D σ H:=by
 obtain⟨FB,F,ρ,r,p⟩:=t;refine aF r.iO r.st.fh (λe B=>p.eX r.st (by unfold aC;rw[B];rfl)) λd J v F1 H1 s1 q=>?_;have z:aC O i f ρ=.ok (.nx (ρ.set i (a_ d))):=by unfold aC;rw[J];rfl
 rw[z]at p;exact p _ F1 H1 ((r.step s1).bindV q r.st.hh λa L=>let ⟨_,_,_,e,_⟩:=r.own L;⟨_,e⟩)
theorem Rep.flatV(r:Rep K F0 H0 FB O F H σ ρ)(s:B4 (plus F H (kr O [] σ ρ)) H F1 H1)(q:Val K own F1 H H1 d v)(fl:mQ own d=d_):Val K own (minus F1 (kr O [] σ ρ)) H H1 d v:=by
 have B:∀{a:i_},F1 a=f_->minus F1 (kr O [] σ ρ) a=f_:=λ{a} h=>by
  by_cases J:kr O [] σ ρ a
  .exact u3 J
  simp_all[gI]
 cases own with
 |false=>exact aY.flat (r.kI s) (by cases d<;>exact fl) q
 |true=>
  cases d with
  |lst ds=>obtain⟨a,xs,e,p,n,z,t⟩:=q;exact⟨a,xs,e,p,B n,z,t.flat (r.kI s) fl⟩
  |non=>exact q|bl b=>exact q|int i=>exact q|tup ds=>exact aY.flat (d:=.tup ds) (r.kI s) fl q|ins C fs=>exact aY.flat (d:=.ins C fs) (r.kI s) fl q|dic ks=>cases fl|dil ks=>cases fl
def rs_setA(t:tS K W ro F0 H0 OL O (aft own i O) (xZ own i f) D σ H):tAsg (tD K W own f) (wF i) D σ H:=by
 obtain⟨FB,F,ρ,r,p⟩:=t;refine aF r.j9 r.eQ (λe J=>p.eX (r.freeze (O2:=[]) ad).st (by unfold xZ;rw[J];rfl)) λd L v F1 H1 s1 q=>?_;have z:xZ own i f ρ=if mQ own d=d_ then .ok (.nx (ρ.set i (a_ d)))else .error .stuck:=by unfold xZ;rw[L];rfl
 rw[z]at p;by_cases B:mQ own d=d_
 .rw[u_ B]at p;exact p _ _ H1 ((r.fX s1).bindV (r.flatV s1 q B) r.st.hh λa U=>let ⟨_,_,_,e,_⟩:=r.own U;⟨_,e⟩)
 .rw[x_ B]at p;exact p.stuck rfl
def kl(h:ju ρ i=.ok ds):ρ[i]?=a_ (a_ (.lst ds)):=by
 unfold ju at h;split at h
 .cases h;assumption
 .cases h
def pB{e:Err}(h:ju ρ i=.error e):e=.stuck:=by
 unfold ju at h;split at h
 .cases h
 .cases h;rfl
def Rep.DV(r:Rep K F0 H0 FB O F H σ ρ)(hi:i∈O)(e:ρ[i]?=a_ (a_ (.lst ds))):∃a xs,σ[i]?=a_ (a_ (.ref a))/\H a=a_ (.lst xs)/\aw K F ds xs:=by obtain⟨v,e3,a,xs,ev,p,_,_,t⟩:=r.ow i _ e hi;subst ev;exact⟨a,xs,e3,p,t⟩
def tApp(K:Pn)(i:Nat)(te:TE):TS:=tDrop (tBM K "list" De (tVar i) (qz te tNil))
def rs_setI(hi:i∈O)(t:tS K W ro F0 H0 OL O O (xY i fi f) D σ H):tAsg (tD K W c_ f) (gSub (tVar i) (tD K W c_ fi) rSetL) D σ H:=by
 obtain⟨FB,F,ρ,r,p⟩:=t;refine aF r.j9 r.eQ (λe Y=>p.eX (r.freeze (O2:=[]) ad).st (by unfold xY;rw[Y];rfl)) λd g v F1 H1 s1 q=>?_;have l:xY i fi f ρ=(ju ρ i).bind λds=>(fi ρ).bind λk=>(asI k).bind λk=>if gO d=d_ then(match ixN ds.length k with
  |some j=>put ρ i (ds.set j d)|none=>.error .stuck)else .error .stuck:=by unfold xY;rw[g];rfl
 rw[l]at p;cases J:ju ρ i with
 |error e=>have:=pB J;subst this;exact p.stuck (by rw[J];rfl)|ok ds=>
  rw[J]at p;have p:c9 K W ro F0 H0 FB OL O D ((fi ρ).bind λk=>(asI k).bind λk=>if gO d=d_ then(match ixN ds.length k with
   |some j=>put ρ i (ds.set j d)|none=>.error .stuck)else .error .stuck):=p
  have B:=r.fX s1;obtain⟨a,xs,e2,h,z⟩:=B.DV hi (kl J);refine⟨.ref a,e2,?_⟩
  refine aF B.j9 B.eQ (λe Y=>p.eX (B.freeze (O2:=[]) ad).st (by rw[Y];rfl)) λk c w m H2 s2 q2=>?_;rw[c]at p;cases k with
  |int k=>
   have p:c9 K W ro F0 H0 FB OL O D (if gO d=d_ then(match ixN ds.length k with
    |some j=>put ρ i (ds.set j d)|none=>.error .stuck)else .error .stuck):=p
   by_cases U:gO d=d_
   .rw[u_ U]at p;cases L:ixN ds.length k with
    |none=>rw[L]at p;exact p.stuck rfl|some j=>
     rw[L]at p;refine⟨a,xs,k,j,rfl,q2,s2.hh _ _ h,by rw[z.length];exact L,?_⟩
     have b:aY K (minus F1 (kr O [] σ ρ)) d v:=aY.flat (r.kI s1) U q;exact p σ _ _ ((B.fX s2).write hi (kl J) e2 (aw.set (b.mono (B.eN s2)) j (z.mono (B.eN s2))))
   .rw[x_ U]at p;exact p.stuck rfl
  |_=>exact p.stuck rfl
end
noncomputable def stk:M α:=.error .stuck
def cL:A'->A'->M A'
 |.int i,.int j=>.ok (.int (i+j))|.lst xs,.lst ys=>if xs.length+ys.length<=q_ then .ok (.lst (xs++ys))else stk
 |.tup xs,.tup ys=>if xs.length+ys.length<=q_ then .ok (.tup (xs++ys))else stk
 |_,_=>stk
def vj:A'->A'->M A'
 |.int i,.int j=>.ok (.int (i-j))|_,_=>stk
noncomputable def dS(i:Int):Bool:=A_ (-(2^64)<i)&&A_ (i<2^64)
def tY:A'->A'->M A'
 |.int i,.int j=>if (dS i||dS j)=d_ then .ok (.int (i*j))else stk
 |_,_=>stk
def dr:A'->A'->M A'
 |.int i,.int j=>if (A_ (0<j)&&A_ (j<18446744073709551616))=d_ then .ok (.int (i/j))else stk
 |_,_=>stk
def gV:A'->A'->M A'
 |.int i,.int j=>if 0<j then .ok (.int (i%j))else stk
 |_,_=>stk
def v5:A'->A'->M A'
 |.int i,.int j=>if (A_ (0<=j)&&A_ (j<=1000000)&&A_ (i.natAbs<2^64))=d_ then .ok (.int (i^j.toNat))else stk
 |_,_=>stk
def yv:A'->M A'
 |.int i=>.ok (.int (-i))|_=>stk
def ltD:A'->A'->M A'
 |.int i,.int j=>.ok (.bl (A_ (i<j)))|_,_=>stk
def leD:A'->A'->M A'
 |.int i,.int j=>.ok (.bl (A_ (i<=j)))|_,_=>stk
def gtD:A'->A'->M A'
 |.int i,.int j=>.ok (.bl (A_ (j<i)))|_,_=>stk
def geD:A'->A'->M A'
 |.int i,.int j=>.ok (.bl (A_ (j<=i)))|_,_=>stk
noncomputable def b2z(b:Bool):Int:=if b then 1 else 0
mutual
noncomputable def eqD:A'->A'->Bool
 |.non,.non=>d_|.bl a,.bl b=>a==b|.bl a,.int b=>b2z a==b|.int a,.bl b=>a==b2z b|.int a,.int b=>a==b|.tup xs,.tup ys=>Aw xs ys|.lst xs,.lst ys=>Aw xs ys|_,_=>c_
noncomputable def Aw:List A'->List A'->Bool
 |[],[]=>d_|d::ds,e::es=>eqD d e&&Aw ds es|_,_=>c_
end
mutual
noncomputable def H8:A'->Nat->Bool
 |.tup ds,n=>(match n with
  |0=>c_|n+1=>lh ds n)
 |.lst ds,n=>(match n with
  |0=>c_|n+1=>lh ds n)
 |.ins _ _,_=>c_|.dic _,_=>c_|.dil _,_=>c_|.non,_=>d_|.bl _,_=>d_|.int _,_=>d_
noncomputable def lh:List A'->Nat->Bool
 |[],_=>d_|d::ds,n=>H8 d n&&lh ds n
end
def eqM(a b:A'):M A':=if (H8 a 40&&H8 b 40)=d_ then .ok (.bl (eqD a b))else stk
def neM(a b:A'):M A':=if (H8 a 40&&H8 b 40)=d_ then .ok (.bl (!eqD a b))else stk
def w9(a b:A'):M A':=(kM b).bind λds=>if (H8 a 40&&lh ds 40)=d_ then .ok (.bl (!ds.any λd=>eqD d a))else stk
def isND:A'->A'->M A'
 |.non,.non=>.ok (.bl d_)|_,.non=>.ok (.bl c_)|_,_=>stk
def vZ:A'->A'->M A'
 |.non,.non=>.ok (.bl c_)|_,.non=>.ok (.bl d_)|_,_=>stk
def iL(ds:List A')(i:Int):M A':=match atI ds i with
 |some d=>.ok d|none=>stk
def ixD:A'->A'->M A'
 |.lst ds,.int i=>iL ds i|.tup ds,.int i=>iL ds i|_,_=>stk
def kJ:List A'->M A'
 |[.lst ds]=>.ok (.int ds.length)|[.tup ds]=>.ok (.int ds.length)|_=>stk
def fU:List A'->M (List Bool)
 |[]=>.ok []|d::ds=>(asB d).bind λb=>(fU ds).bind λr=>.ok (b::r)
def bM:List A'->M bm
 |[]=>.ok []|d::ds=>(asI d).bind λb=>(bM ds).bind λr=>.ok (b::r)
def allD:List A'->M A'
 |[.lst ds]=>(fU ds).bind λB=>.ok (.bl (B.all id))|_=>stk
def sumD:List A'->M A'
 |[.lst ds]=>(bM ds).bind λis=>.ok (.int is.sum)|_=>stk
def gL:List A'->M A'
 |[.lst ds]=>.ok (.lst ds)|[.tup ds]=>.ok (.lst ds)|_=>stk
def nc:List A'->M A'
 |[.lst ds]=>.ok (.tup ds)|[.tup ds]=>.ok (.tup ds)|_=>stk
noncomputable def dR(i j:Int):Int:=if j>i then j else i
noncomputable def kx(i j:Int):Int:=if j<i then j else i
def maxL:bm->M A'
 |[]=>stk|i::is=>.ok (.int (is.foldl dR i))
def minL:bm->M A'
 |[]=>stk|i::is=>.ok (.int (is.foldl kx i))
def maxD:List A'->M A'
 |[.int i,.int j]=>.ok (.int (dR i j))|[.lst ds]=>(bM ds).bind maxL|_=>stk
def minD:List A'->M A'
 |[.int i,.int j]=>.ok (.int (kx i j))|[.lst ds]=>(bM ds).bind minL|_=>stk
def oE:A'->M A'
 |.int _=>.ok (.bl d_)|.bl _=>.ok (.bl d_)|.ins _ _=>stk|.dic _=>stk|.dil _=>stk|_=>.ok (.bl c_)
def mf:A'->M A'
 |.bl _=>.ok (.bl d_)|.ins _ _=>stk|.dic _=>stk|.dil _=>stk|_=>.ok (.bl c_)
def md:A'->M A'
 |.lst _=>.ok (.bl d_)|.ins _ _=>stk|.dic _=>stk|.dil _=>stk|_=>.ok (.bl c_)
def fLR(fr:ah->M (List A')):ah->M A':=λρ=>(fr ρ).bind bc
noncomputable def eY:Nat->List A'->List A'
 |_,[]=>[]|k,d::ds=>.tup [.int k,d]::eY (k+1) ds
noncomputable def kL:A'->M (List A')
 |.lst ds=>.ok ds|_=>.error .stuck
def C0(fa:ah->M A'):ah->M (List A'):=λρ=>(fa ρ).bind λd=>(kL d).bind λds=>.ok (eY 0 ds)
noncomputable def kB:List A'->List A'->List A'
 |d::ds,e::es=>.tup [d,e]::kB ds es|_,_=>[]
def fZip(fa fb:ah->M A'):ah->M (List A'):=λρ=>(fa ρ).bind λa=>(fb ρ).bind λb=>(kL a).bind λds=>(kL b).bind λes=>.ok (kB ds es)
def bq(nN n:Nat)(g:ah->M B')(ds:List A'):M A':=if ds.length=n then(g (ds.map a_++Gz (nN-ds.length) f_)).bind λfl=>match fl with
 |.nx _=>.ok .non|.rt d=>.ok d|_=>stk else stk
@[simp] theorem ai{α β:Type}(a:α)(f:α->M β):Qp (GX a:M α) f=f a:=id rfl
@[simp]def j5{α β:Type}(e:Err)(f:α->M β):Qp (I9 e:M α) f=.error e:=id rfl
@[simp] theorem dv:∀is:bm,bM (is.map A'.int)=.ok is
 |[]=>rfl|i::is=>by simp[bM,asI,dv is]
@[simp] theorem Cj:∀is:List Bool,fU (is.map A'.bl)=.ok is
 |[]=>rfl|i::is=>by simp[fU,asB,Cj is]
@[simp] theorem DB(n:Nat):∀is:bm,lh (is.map A'.int) n=d_
 |[]=>by rfl|i::is=>by simp[lh,H8,DB n is]
theorem ko(h:k<ds.length):iL ds (k:Int)=.ok ds[k]:=by simp_all[iL,atI,ixN,u_]
theorem getI_int{k:Int}(h0:0<=k)(h:k<is.length):iL (is.map A'.int) k=.ok (.int (is[k.toNat]'(by omega))):=by
 have B:k.toNat<(is.map A'.int).length:=by simp;lia
 have e:k=(k.toNat:Int):=ac
 have:=ko B;rw[<- e]at this;rw[this];simp
theorem ic{p:Pat}{g:ah->M B'}(P:Nat->ah->Prop):∀(ds:List A') (k:Nat) (ρ:ah),P k ρ ->
  (∀(i:Nat) (d:A') (ρ:ah),ds[i]?=a_ d->P (k+i) ρ->∃J,dI p d ρ=.ok J/\∃B,(g J=.ok (.nx B)\/g J=.ok (.ct B))/\P (k+i+1) B)->∃ρ',bK p g ds ρ=.ok (.nx ρ')/\P (k+ds.length) ρ'
 |[],k,ρ,h,_=>⟨ρ,rfl,h⟩|d::ds,k,ρ,h,st=>by
  obtain⟨J,e1,B,e2,L⟩:=st 0 d ρ rfl h;obtain⟨ρ',e3,a⟩:=ic P ds (k+1) B L λi d' ρ Y U=>by have:=st (i+1) d' ρ bi ac;rw[show k+(i+1)+1=k+1+i+1 by lia]at this;exact this
  grind[bK,ai]
theorem fT{p:Pat}{fe:ah->M A'}{ρ0:ah}(f:A'->A'):∀(ds:List A'),(∀d∈ds,∃ρ,dI p d ρ0=.ok ρ/\fe ρ=.ok (f d))->ay p eW fe ρ0 ds=.ok (ds.map f)
 |[],_=>rfl|d::ds,h=>by obtain⟨ρ,e1,e2⟩:=h d ad;rw[ay,e1];simp only[ai,eW,e2,fT f ds λx B=>h x (by simp[B])];simp
@[simp]def vq(i:Int):dS i=(A_ (-(2^64)<i)&&A_ (i<2^64)):=id rfl
@[simp]def small_def2(i:Int):bg i=(A_ (-(2^62)<=i)&&A_ (i<2^62)):=id rfl
@[simp]def eqDs_nilR(ds:List A'):Aw ds []=ds.isEmpty:=by cases ds<;>rfl
section
variable{fr:ah->M (List A')}{fu:ah->M Bool}{h:ah->M B'}
@[simp]def e_var0(d:A')(r:ah):ae 0 (a_ d::r)=.ok d:=id rfl
@[simp]def e_varS(i:Nat)(o:Option A')(r:ah):ae (i+1) (o::r)=ae i r:=by rfl
@[simp]def e_c(d:A'):fC d ρ=.ok d:=id rfl
@[simp]def e_1(k:A'->M A'):f1 k fa ρ=(fa ρ).bind k:=id rfl
@[simp]def e_2(k:A'->A'->M A'):f2 k fa fb ρ=(fa ρ).bind λa=>(fb ρ).bind λb=>k a b:=id rfl
@[simp]def e_nil:au ρ=.ok []:=id rfl
@[simp]def e_cons:aa fa fr ρ=(fa ρ).bind λa=>(fr ρ).bind λr=>.ok (a::r):=id rfl
@[simp]def e_L(k:List A'->M A'):fL k fr ρ=(fr ρ).bind k:=id rfl
@[simp]def e_ite:fIte ft fa fb ρ=(ft ρ).bind λb=>if b=d_ then fa ρ else fb ρ:=id rfl
@[simp]def e_and:fAnd ft fu ρ=(ft ρ).bind λb=>if b=d_ then fu ρ else .ok c_:=id rfl
@[simp]def e_or:fOr ft fu ρ=(ft ρ).bind λb=>if b=d_ then .ok d_ else fu ρ:=id rfl
@[simp]def e_not:Cu ft ρ=(ft ρ).bind λb=>.ok (!b):=id rfl
@[simp]def e_B:fB fa ρ=(fa ρ).bind asB:=id rfl
@[simp]def e_andV:wN fa fb ρ=(fa ρ).bind λa=>(asB a).bind λb=>if b=d_ then fb ρ else .ok (.bl c_):=id rfl
@[simp]def e_orV:fOrV fa fb ρ=(fa ρ).bind λa=>(asB a).bind λb=>if b=d_ then .ok (.bl d_)else fb ρ:=id rfl
@[simp]def e_tru:v8 fa ρ=(fa ρ).bind truD:=id rfl
@[simp]def e_chain(k k':A'->A'->M A'):fS k k' fa fb fc ρ=(fa ρ).bind λa=>(fb ρ).bind λb=>(k a b).bind λx=>(asB x).bind λz=>if z=d_ then(fc ρ).bind λc=>k' b c else .ok (.bl c_):=id rfl
@[simp]def e_yes:eW ρ=.ok d_:=id rfl
@[simp]def e_it:fIt fa ρ=(fa ρ).bind kM:=id rfl
@[simp]def e_rng(k:List A'->M (List A')):jv k fr ρ=(fr ρ).bind k:=id rfl
@[simp]def e_LR:fLR fr ρ=(fr ρ).bind bc:=id rfl
@[simp]def e_enum:C0 fa ρ=(fa ρ).bind λd=>(kL d).bind λds=>.ok (eY 0 ds):=id rfl
@[simp]def e_zip:fZip fa fb ρ=(fa ρ).bind λa=>(fb ρ).bind λb=>(kL a).bind λds=>(kL b).bind λes=>.ok (kB ds es):=id rfl
@[simp]def e_comp(fi:ah->M (List A'))(ix:List (Option Nat))(p:Pat):aZ fi ix p ft fa ρ=(fi ρ).bind λds=>if ds.length<=q_ then(ay p ft fa (cm ix ρ) ds).bind λr=>.ok (.lst r)else .error .stuck:=id rfl
@[simp]def e_asB(b:Bool):asB (.bl b)=.ok b:=id rfl
@[simp]def e_asI(b:Int):asI (.int b)=.ok b:=id rfl
@[simp]def e_itemsL(ds:List A'):kM (.lst ds)=.ok ds:=id rfl
@[simp]def e_itL(ds:List A'):kL (.lst ds)=.ok ds:=id rfl
@[simp]def e_itemsT(ds:List A'):kM (.tup ds)=.ok ds:=id rfl
@[simp]def e_truB(b:Bool):truD (.bl b)=.ok b:=id rfl
@[simp]def e_truL(ds:List A'):truD (.lst ds)=.ok (!ds.isEmpty):=id rfl
@[simp]def e_addI(i j:Int):cL (.int i) (.int j)=.ok (.int (i+j)):=id rfl
@[simp]def e_subI(i j:Int):vj (.int i) (.int j)=.ok (.int (i-j)):=id rfl
@[simp]def e_negI(i:Int):yv (.int i)=.ok (.int (-i)):=id rfl
@[simp]def e_ltI(i j:Int):ltD (.int i) (.int j)=.ok (.bl (A_ (i<j))):=id rfl
@[simp]def e_leI(i j:Int):leD (.int i) (.int j)=.ok (.bl (A_ (i<=j))):=id rfl
@[simp]def e_gtI(i j:Int):gtD (.int i) (.int j)=.ok (.bl (A_ (j<i))):=id rfl
@[simp]def e_geI(i j:Int):geD (.int i) (.int j)=.ok (.bl (A_ (j<=i))):=id rfl
@[simp]def e_ixL(ds:List A')(i:Int):ixD (.lst ds) (.int i)=iL ds i:=id rfl
@[simp]def e_ixT(ds:List A')(i:Int):ixD (.tup ds) (.int i)=iL ds i:=id rfl
@[simp]def e_lenL(ds:List A'):kJ [.lst ds]=.ok (.int ds.length):=id rfl
@[simp]def e_lenT(ds:List A'):kJ [.tup ds]=.ok (.int ds.length):=id rfl
@[simp]def e_all(ds:List A'):allD [.lst ds]=(fU ds).bind λB=>.ok (.bl (B.all id)):=id rfl
@[simp]def e_listL(ds:List A'):gL [.lst ds]=.ok (.lst ds):=id rfl
@[simp]def e_listT(ds:List A'):gL [.tup ds]=.ok (.lst ds):=id rfl
@[simp]def e_tupleL(ds:List A'):nc [.lst ds]=.ok (.tup ds):=id rfl
@[simp]def e_max2(i j:Int):maxD [.int i,.int j]=.ok (.int (dR i j)):=id rfl
@[simp]def e_min2(i j:Int):minD [.int i,.int j]=.ok (.int (kx i j)):=id rfl
@[simp]def wU(ds:List A'):maxD [.lst ds]=(bM ds).bind maxL:=id rfl
@[simp]def e_isiBI(i:Int):mf (.int i)=.ok (.bl c_):=id rfl
@[simp]def e_isiII(i:Int):oE (.int i)=.ok (.bl d_):=id rfl
@[simp]def e_isiLL(ds:List A'):md (.lst ds)=.ok (.bl d_):=id rfl
@[simp]def e_notN(d:A'):vZ d .non=.ok (.bl (match d with|.non=>c_|_=>d_)):=by cases d<;>rfl
@[simp]def e_next:cB ρ=.ok (.nx ρ):=id rfl
@[simp] theorem e_seq:aP g h ρ=(g ρ).bind λfl=>match fl with
 |.nx ρ'=>h ρ'|fl=>.ok fl:=id rfl
@[simp]def e_if:sIf ft g h ρ=(ft ρ).bind λb=>if b=d_ then g ρ else h ρ:=id rfl
@[simp]def e_setB(O:bo)(i:Nat):aC O i fa ρ=(fa (erase O ρ)).bind λd=>.ok (.nx (ρ.set i (a_ d))):=id rfl
@[simp]def e_setA(own:Bool)(i:Nat):xZ own i fa ρ=(fa ρ).bind λd=>if mQ own d=d_ then .ok (.nx (ρ.set i (a_ d)))else .error .stuck:=id rfl
@[simp]def e_ret:cn fa ρ=(fa ρ).bind λd=>.ok (.rt d):=id rfl
@[simp]def e_for(O:bo)(fi:ah->M (List A'))(p:Pat):jt O fi p g ρ=(fi (erase O ρ)).bind λds=>bK p g ds ρ:=id rfl
@[simp]def e_unpB(O:bo)(p:Pat):xX O p fa ρ=(fa (erase O ρ)).bind λd=>(dI p d ρ).bind λρ'=>.ok (.nx ρ'):=id rfl
@[simp]def e_appB(O:bo)(i:Nat):gF O i fa ρ=(ju ρ i).bind λds=>(fa (erase O ρ)).bind λd=>if ds.length<q_ then put ρ i (ds++[d])else .error .stuck:=id rfl
@[simp] theorem e_setI(i:Nat):xY i fb fa ρ=(fa ρ).bind λd=>(ju ρ i).bind λds=>(fb ρ).bind λk=>(asI k).bind λk=>if gO d=d_ then(match ixN ds.length k with
 |some j=>put ρ i (ds.set j d)|none=>.error .stuck)else .error .stuck:=id rfl
@[simp]def e_put(i:Nat)(ds:List A'):put ρ i ds=.ok (.nx (ρ.set i (a_ (.lst ds)))):=id rfl
@[simp]def e_lst0(ds:List A')(r:ah):ju (a_ (.lst ds)::r) 0=.ok ds:=id rfl
@[simp]def e_lstS(i:Nat)(o:Option A')(r:ah):ju (o::r) (i+1)=ju r i:=by rfl
@[simp]def e_er0:erase [] ρ=ρ:=id rfl
@[simp]def e_erS(i:Nat)(O:bo):erase (i::O) ρ=erase O (ρ.set i f_):=id rfl
@[simp]def iI(i:Nat)(d:A'):dI (.nm i) d ρ=.ok (ρ.set i (a_ d)):=id rfl
@[simp]def e_btp(is:bo)(ds:List A'):dI (.tp is) (.tup ds) ρ=if ds.length=is.length then .ok (hG is ds ρ)else .error .stuck:=id rfl
@[simp]def e_sa0(ds:List A'):hG [] ds ρ=ρ:=by rfl
@[simp]def e_saS(i:Nat)(is:bo)(d:A')(ds:List A'):hG (i::is) (d::ds) ρ=hG is ds (ρ.set i (a_ d)):=id rfl
@[simp]def e_in0:cm [] ρ=[]:=id rfl
@[simp]def e_inN(ix:List (Option Nat)):cm (f_::ix) ρ=f_::cm ix ρ:=id rfl
@[simp]def e_inS(j:Nat)(ix:List (Option Nat)):cm (a_ j::ix) ρ=(ρ[j]?).join::cm ix ρ:=id rfl
@[simp]def e_tup(ds:List A'):bG ds=if ds.length<=q_ then .ok (.tup ds)else .error .stuck:=id rfl
@[simp]def e_lst(ds:List A'):bc ds=if ds.length<=q_ then .ok (.lst ds)else .error .stuck:=id rfl
@[simp]def e_line:q_=16777216:=JW
@[simp] theorem e_run(a b:Nat)(ds:List A'):bq a b g ds=if ds.length=b then(g (ds.map a_++Gz (a-ds.length) f_)).bind λfl=>match fl with
 |.nx _=>.ok .non|.rt d=>.ok d|_=>stk else stk:=id rfl
@[simp] theorem e_rng1{j:Int}(h:bg j=d_):nj [.int j]=.ok (aL 0 j.toNat):=by show(if bg j=d_ then _ else _)=_;lia
@[simp] theorem e_rng2{i j:Int}(h:bg i=d_)(B:bg j=d_):zS [.int i,.int j]=.ok (aL i (j-i).toNat):=by show(if (bg i&&bg j)=d_ then _ else _)=_;lia
@[simp]def pX{i j:Int}(h:0<j):gV (.int i) (.int j)=.ok (.int (i%j)):=by simp[gV,h]
@[simp] theorem e_fdiv{i j:Int}(h:0<j)(B:j<18446744073709551616):dr (.int i) (.int j)=.ok (.int (i/j)):=by simp_all[dr]
@[simp] theorem EB{i j:Int}(h:dS j=d_):tY (.int i) (.int j)=.ok (.int (i*j)):=by show(if (dS i||dS j)=d_ then _ else _)=_;lia
@[simp] theorem EC{i j:Int}(h:dS i=d_):tY (.int i) (.int j)=.ok (.int (i*j)):=by show(if (dS i||dS j)=d_ then _ else _)=_;lia
end
section
variable{W:cv}{own:Bool}{a b c:Hb}{rest:List Hb}{p:MJ}{f:ah->M A'}{fr:ah->M (List A')}{fu:ah->M Bool}
def PE.imp{t t':TE}(h:PE X e t)(q:∀σ H Q,t' σ H Q->t σ H Q):PE X e t':=λB2 s σ H Q I z=>h B2 s σ H Q I (q σ H Q z)
def PT.imp{t t':TT}(h:PT X e t)(q:∀σ H Q,t' σ H Q->t σ H Q):PT X e t':=λB2 s σ H Q I z=>h B2 s σ H Q I (q σ H Q z)
def PW.imp{t t':TT}(h:PW X e t)(q:∀σ H Q,t' σ H Q->t σ H Q):PW X e t':=λB B2 s σ H Q I z=>h B B2 s σ H Q I (q σ H Q z)
def PA.imp{t t':TA}(h:PA X es t)(q:∀σ H Q,t' σ H Q->t σ H Q):PA X es t':=λps B2 s σ H Q I z=>h ps B2 s σ H Q I (q σ H Q z)
def PI.imp{t t':TI}(h:PI X tg e t)(q:∀σ H Q,t' σ H Q->t σ H Q):PI X tg e t':=λB2 s σ H Q I z=>h B2 s σ H Q I (q σ H Q z)
def PS.imp{st:G1}{t t':TS}(h:PS X st t)(q:∀D σ H,t' D σ H->t D σ H):PS X st t':=λB2 s σ H D I z=>h B2 s σ H D I (q D σ H z)
def PSs.imp{st:List G1}{t t':TS}(h:PSs X st t)(q:∀D σ H,t' D σ H->t D σ H):PSs X st t':=λB2 s σ H D I z=>h B2 s σ H D I (q D σ H z)
abbrev DE(K:Pn)(W:cv)(own:Bool)(X:Cx)(e:Hb)(f:ah->M A'):Prop:=PE X e (tD K W own f)
abbrev DT(K:Pn)(W:cv)(X:Cx)(e:Hb)(f:ah->M Bool):Prop:=PT X e (tDT K W f)
abbrev DW(K:Pn)(W:cv)(X:Cx)(e:Hb)(f:ah->M Bool):Prop:=PW X e (tDT K W f)
abbrev DA(K:Pn)(W:cv)(X:Cx)(es:List Hb)(f:ah->M (List A')):Prop:=PA X es (tDA K W f)
abbrev DI(K:Pn)(W:cv)(X:Cx)(tg e:Hb)(f:ah->M (List A')):Prop:=PI X tg e (iD K W f)
abbrev DG(K:Pn)(X:Cx)(tg:Hb)(p:Pat):Prop:=PG X tg (gP K p)
abbrev DS(K:Pn)(W:cv)(ro:Bool)(X:Cx)(OL O O':bo)(st:G1)(g:ah->M B'):Prop:=∀F0 H0:Hp,PS X st (tS K W ro F0 H0 OL O O' g)
abbrev DSs(K:Pn)(W:cv)(ro:Bool)(X:Cx)(OL O O':bo)(st:List G1)(g:ah->M B'):Prop:=∀F0 H0:Hp,PSs X st (tS K W ro F0 H0 OL O O' g)
abbrev Op2(K:Pn)(W:cv)(own:Bool)(X:Cx)(o:h_->h_->Ln h_)(g:A'->A'->M A'):Prop:=OpR X o (rD2 K W own g)
abbrev n8(K:Pn)(W:cv)(own:Bool)(X:Cx)(v:h_)(g:List A'->M A'):Prop:=fW X v (rDL K W own g)
def ag(i:Nat)(U: ~~~(X.N[i]?=a_ x))(J:autoParam (Vis X.env.scope x) Jq5)(L:((x==("__debug__":Gh))=c_)⁻¹)(B:((x==("__classdict__":Gh))=c_)⁻¹):DE K W c_ X (.Name x pos) (ae i):=(pv i U J L B).imp λ_ H _=>by
    intro h;obtain⟨F,ρ,r,s,p⟩:=h;unfold ae at p
    match e:ρ[i]? with
    |some (a_ d)=>rw[e]at p;obtain⟨v,e1,q⟩:=r.sl i d e;exact⟨v,e1,p v F H (B4.refl s) q⟩
    |some f_=>rw[e]at p;exact(W.ns p).elim|none=>rw[e]at p;exact(W.ns p).elim
def ab{i:Int}{j}:DE K W c_ X (.Constant (.int i) j pos) (fC (.int i)):=pe_int.imp λ_ _ _=>rd_c λ_=>rfl
def lB{k:Bool}{j}:DE K W c_ X (.Constant (.bool k) j pos) (fC (.bl k)):=pe_bl.imp λ_ _ _=>rd_c λ_=>rfl
def mr{j}:DE K W c_ X (.Constant .none j pos) (fC .non):=pe_non.imp λ_ _ _=>rd_c λ_=>rfl
def yQ{n:Int}(B:∃t,X.mg x=a_ (.int n t))(J: ~~~(Gl X x))(L:((x==("__debug__":Gh))=c_)⁻¹):DE K W c_ X (.Name x pos) (fC (.int n)):=(pe_gint J B L).imp λ_ _ _=>rd_c λ_=>rfl
def ao(h:DE K W d_ X e f):DE K W c_ X e f:=PE.imp h λ_ _ _ ⟨F,ρ,r,s,p⟩=>⟨F,ρ,r,s,p.frz⟩
def aq{op:Operator}{g:A'->A'->M A'}(B:Op2 K W own X (Io op) g)(L:DE K W c_ X a fa)(J:DE K W c_ X b fb):DE K W own X (.BinOp a op b pos) (f2 g fa fb):=(pe_op B L J).imp λ_ _ _=>rd_2
def xa{op:UnaryOp}{g:A'->M A'}(B:UnR X (Qs op) (rD1 K W own g))(J:DE K W c_ X a fa):DE K W own X (.UnaryOp op a pos) (f1 g fa):=(pe_un B J).imp λ_ _ _=>rd_1
def nE{g:A'->A'->M A'}(B:Op2 K W c_ X (Gy op) g)(U:DE K W c_ X a fa)(L:DE K W c_ X b fb)(J:autoParam (Km op b=c_) Jq10):DE K W c_ X (.Compare a [op] [b] pos) (f2 g fa fb):=
 (pe_cmpR B U L J).imp λ_ _ _=>rd_2
def bL{g:A'->A'->M A'}(B:Op2 K W c_ X (Gy op) g)(U:DE K W c_ X a fa)(L:DE K W c_ X b fb)(J:autoParam (Km op b=c_) Jq10):DT K W X (.Compare a [op] [b] pos) (fB (f2 g fa fb)):=
 (Di B U L J).imp λσ H Q h=>by have q:=rd_B h;exact rd_2 (own:=c_) q
def de_chain{g:A'->A'->M A'}(J:Op2 K W c_ X (Gy op) g)(B:Op2 K W c_ X (Gy op') g')(d:DE K W c_ X a fa)(Y:DE K W c_ X b fb)(U:DE K W c_ X c fc)(L:autoParam (OG [op,op'] [b,c]=c_) Jq7):DE K W c_ X (.Compare a [op,op'] [b,c] pos) (fS g g' fa fb fc):=(pe_chain J B d Y U L).imp λ_ _ _=>zV
def oH{g:A'->A'->M A'}(J:Op2 K W c_ X (Gy op) g)(B:Op2 K W c_ X (Gy op') g')(d:DE K W c_ X a fa)(Y:DE K W c_ X b fb)(U:DE K W c_ X c fc)(L:autoParam (OG [op,op'] [b,c]=c_) Jq7):DT K W X (.Compare a [op,op'] [b,c] pos) (fB (fS g g' fa fb fc)):=(pt_chain J B d Y U L).imp λσ H Q h=>by have q:=rd_B h;exact zV q
theorem jk(L:DE K W c_ X a fa)(U: ~~~(X.K=K))(J:autoParam (∀B,O_ a X.env B=(do let v <- B;K_ a.pos;IL [v] (truthy v))) Jq3):DT K W X a (v8 fa):=by
 subst U;exact(pt_truth L J).imp λ_ _ H1=>by
   intro h;obtain⟨F,ρ,r,s,p⟩:=h;refine aF r s (λe J=>?_) λa L x F1 H1 s1 q1=>?_
   .have z:v8 fa ρ=.error e:=by unfold v8;rw[J];rfl
    simp_all
   .have z:v8 fa ρ=truD a:=by unfold v8;rw[L];rfl
    rw[z]at p;cases e:truD a with
    |ok b=>rw[e]at p;exact⟨b,tru_of s1.fh q1 e,p F1 H1 s1⟩|error x=>
     rw[e]at p;have:x=.stuck:=by
      cases a with
      |ins C fs=>cases e;rfl|dic ks=>cases e;rfl|dil ks=>cases e;rfl|_=>cases e
     subst this;exact(W.ns p).elim
theorem su(L:DT K W X a ft):DT K W X (.UnaryOp .Not a pos) (Cu ft):=(pt_not L).imp λ_ _ _=>by
  intro h;obtain⟨F,ρ,r,s,p⟩:=h;refine iN r s (λe B=>?_) λb J F1 H1 s1=>?_
  .have z:Cu ft ρ=.error e:=by unfold Cu;rw[B];rfl
   simp_all
  .have z:Cu ft ρ=.ok (!b):=by unfold Cu;rw[J];rfl
   rw[z]at p;exact p F1 H1 s1
def yK(B:DT K W X a ft):DW K W X (.BoolOp .And [a] pos) ft:=by
  intro J B2 s σ H Q I h;refine isTrue_and (E' (B B2 s σ H Q I h) λc s1 e=>?_);cases c with
  |true=>exact isTrue_and_nil e|false=>exact e
def dw_or1(B:DT K W X a ft):DW K W X (.BoolOp .Or [a] pos) ft:=by
  intro J B2 s σ H Q I h;refine isTrue_or (E' (B B2 s σ H Q I h) λc s1 e=>?_);cases c with
  |false=>exact isTrue_or_nil e|true=>exact e
theorem ED(L:DT K W X a ft)(B:DW K W X (.BoolOp .And (b::rest) pos) fu):DW K W X (.BoolOp .And (a::b::rest) pos) (fAnd ft fu):=(pw_and L B).imp λ_ _ _=>by
  intro h;obtain⟨F,ρ,r,s,p⟩:=h;refine iN r s (λe J=>?_) λb B F1 H1 s1=>?_
  .have z:fAnd ft fu ρ=.error e:=by unfold fAnd;rw[J];rfl
   simp_all
  .have z:fAnd ft fu ρ=if b=d_ then fu ρ else .ok c_:=by unfold fAnd;rw[B];rfl
   rw[z]at p;cases b with
   |true=>exact zG r s1 p|false=>exact p F1 H1 s1
theorem dw_or(L:DT K W X a ft)(B:DW K W X (.BoolOp .Or (b::rest) pos) fu):DW K W X (.BoolOp .Or (a::b::rest) pos) (fOr ft fu):=(pw_or L B).imp λ_ _ _=>by
  intro h;obtain⟨F,ρ,r,s,p⟩:=h;refine iN r s (λe J=>?_) λb B F1 H1 s1=>?_
  .have z:fOr ft fu ρ=.error e:=by unfold fOr;rw[J];rfl
   simp_all
  .have z:fOr ft fu ρ=if b=d_ then .ok d_ else fu ρ:=by unfold fOr;rw[B];rfl
   rw[z]at p;cases b with
   |false=>exact zG r s1 p|true=>exact p F1 H1 s1
def EN{op}(h:DE K W c_ X a f):DE K W c_ X (.BoolOp op [a] pos) f:=λB2 s σ H Q I hw=>BoolOp_one (h B2 s σ H Q I hw)
def EV(B:DE K W c_ X a fa)(L:DE K W c_ X (.BoolOp .And (b::rest) pos) fb):DE K W c_ X (.BoolOp .And (a::b::rest) pos) (wN fa fb):=(pe_and B L).imp λ_ _ _=>by
  intro h;obtain⟨F,ρ,r,s,p⟩:=h;refine aF r s (λe J=>p.err (by unfold wN;rw[J];rfl)) λa B x F1 H1 s1 q1=>?_;have z:wN fa fb ρ=(asB a).bind λb=>if b=d_ then fb ρ else .ok (.bl c_):=by unfold wN;rw[B];rfl
  rw[z]at p;cases a with
  |bl b=>
   refine⟨b,q1,?_⟩
   cases b with
   |true=>exact⟨F1,ρ,r.mono s1.ff,s1.fh,aE.step (own:=c_) (r:=fb ρ) p s1⟩|false=>exact p (.bl c_) F1 H1 s1 rfl
  |_=>exact(W.ns p).elim
def de_or(B:DE K W c_ X a fa)(L:DE K W c_ X (.BoolOp .Or (b::rest) pos) fb):DE K W c_ X (.BoolOp .Or (a::b::rest) pos) (fOrV fa fb):=(pe_or B L).imp λ_ _ _=>by
  intro h;obtain⟨F,ρ,r,s,p⟩:=h;refine aF r s (λe J=>p.err (by unfold fOrV;rw[J];rfl)) λa B x F1 H1 s1 q1=>?_;have z:fOrV fa fb ρ=(asB a).bind λb=>if b=d_ then .ok (.bl d_)else fb ρ:=by unfold fOrV;rw[B];rfl
  rw[z]at p;cases a with
  |bl b=>
   refine⟨b,q1,?_⟩
   cases b with
   |false=>exact⟨F1,ρ,r.mono s1.ff,s1.fh,aE.step (own:=c_) (r:=fb ρ) p s1⟩|true=>exact p (.bl d_) F1 H1 s1 rfl
  |_=>exact(W.ns p).elim
def de_ite(L:DT K W X c ft)(U:DE K W own X a fa)(B:DE K W own X b fb):DE K W own X (.IfExp c a b pos) (fIte ft fa fb):=(pe_ifExp L U B).imp λ_ _ _=>by
  intro h;obtain⟨F,ρ,r,s,p⟩:=h;refine iN r s (λe J=>p.err (by unfold fIte;rw[J];rfl)) λb B F1 H1 s1=>?_;have e:fIte ft fa fb ρ=if b=d_ then fa ρ else fb ρ:=by unfold fIte;rw[B];rfl
  rw[e]at p;cases b with
  |true=>exact⟨F1,ρ,r.mono s1.ff,s1.fh,p.step s1⟩|false=>exact⟨F1,ρ,r.mono s1.ff,s1.fh,p.step s1⟩
def bC:DA K W X [] au:=fJ.imp λ_ _ _=>rd_nil
theorem bA(B:DE K W c_ X e fa)(U:DA K W X es fr)(L: ~~~(j_ (e::es) X.env=(c_,Ga e X.env)::j_ es X.env)):DA K W X (e::es) (aa fa fr):=(bR B U L).imp λ_ _ _=>by
  intro h;obtain⟨F,ρ,r,s,p⟩:=h;refine aF r s (λe J=>?_) λa B x F1 H1 s1 q1=>kT (r.mono s1.ff) s1.fh (λe J=>?_) λds Y xs b H2 s2 q2=>?_
  .have z:aa fa fr ρ=.error e:=by unfold aa;rw[J];rfl
   simp_all
  .have z:aa fa fr ρ=.error e:=by unfold aa;rw[B];show(fr ρ).bind _=_;rw[J];rfl
   rw[z]at p;exact W.mono p s1
  .have z:aa fa fr ρ=.ok (a::ds):=by unfold aa;rw[B];show(fr ρ).bind _=_;rw[Y];rfl
   rw[z]at p;exact p (x::xs) b H2 (s1.trans s2) ⟨x,xs,rfl,aY.mono s2.ff q1,q2⟩
theorem c5{L}(h:DA K W X es fr):DE K W own X (.Tuple es L pos) (fL bG fr):=(pe_tup h).imp λ_ _ _=>by
  intro h;obtain⟨F,ρ,r,s,p⟩:=rd_L h;refine⟨F,ρ,r,s,?_⟩
  cases e:fr ρ with
  |error x=>simp_all|ok ds=>
   rw[e]at p;intro vs F' H' t q;obtain⟨F1,es,s1,q1,z⟩:=p vs F' H' t q;unfold bG at z;by_cases B:es.length<=q_
   .rw[u_ B]at z;refine⟨by rw[q1.length];exact B,λa J=>z (.ref a) _ _ (B4.lay s1 J) ?_⟩
    have:aY K (upd F1 a (.tup vs)) (.tup es) (.ref a):=⟨a,vs,rfl,SqT.of av,q1.mono (aU.upd (s1.free J))⟩
    cases own with
    |true=>exact this|false=>exact this
   .rw[x_ B]at z;exact(W.ns z).elim
theorem aV(h:DA K W X es fr):DE K W d_ X (.List es pos) (fL bc fr):=(pe_lst h).imp λ_ _ _=>by
  intro h;obtain⟨F,ρ,r,s,p⟩:=rd_L h;refine⟨F,ρ,r,s,?_⟩
  cases e:fr ρ with
  |error x=>simp_all|ok ds=>
   rw[e]at p;intro vs F' H' t q;obtain⟨F1,es,s1,q1,z⟩:=p vs F' H' t q;unfold bc at z;by_cases B:es.length<=q_
   .rw[u_ B]at z;exact⟨by rw[q1.length];exact B,λa J=>z (.ref a) F1 _ (B4.grow s1 J) ⟨a,vs,rfl,av,s1.free J,J,q1⟩⟩
   .rw[x_ B]at z;exact(W.ns z).elim
def az{id:String}{g:List A'->M A'}(c:n8 K W own X (.builtin id) g)(a:X.mg x=f_)(U:Iu x=a_ (.builtin id))(d:DA K W X (e::es) fr)(b: ~~~(Gl X x))(Y:(x≠"__name__")⁻¹)(L:((x==("__debug__":Gh))=c_)⁻¹)(B: ~~~(j_ (e::es) X.env=(c_,Ga e X.env)::j_ es X.env))(J: ~~~((Hl pos (j_ es X.env)).any (·.1)=c_)):DE K W own X (.Call (.Name x p) (e::es) [] pos) (fL g fr):=
 (lW c b a U d Y L B J).imp λ_ _ _=>rd_L
def cu{T:String}{g:List A'->M A'}(c:n8 K W own X (.type T) g)(a:X.mg x=f_)(U:Iu x=a_ (.type T))(d:DA K W X (e::es) fr)(b: ~~~(Gl X x))(Y:(x≠"__name__")⁻¹)(L:((x==("__debug__":Gh))=c_)⁻¹)(B: ~~~(j_ (e::es) X.env=(c_,Ga e X.env)::j_ es X.env))(J: ~~~((Hl pos (j_ es X.env)).any (·.1)=c_)):DE K W own X (.Call (.Name x p) (e::es) [] pos) (fL g fr):=
 (p6 c b a U d Y L B J).imp λ_ _ _=>rd_L
def aK{g:A'->A'->M A'}(J:IxR X (rD2 K W own g))(U:DE K W c_ X a fa)(L:DE K W c_ X b fb)(B:autoParam (uX b) Jq8):DE K W own X (.Subscript a b pos) (f2 g fa fb):=(pe_ix J U L B).imp λ_ _ _=>rd_2
def gX(L:X.N.Nodup)(hi: ~~~(X.N[i]?=a_ x))(B:autoParam (Loc X.env.scope x) Jq6)(J:autoParam (X.fn x=d_\/X.env.scope.names.lookup x=a_ .local) Jq4):DG K X (.Name x pos) (.nm i):=yj L hi B J
theorem bJ(f:DE K W c_ X e fa)(j: ~~~(X.K=K)):DI K W X tg e (fIt fa):=by
 subst j;refine PI.imp (t:=iSeq X.K (tD X.K W c_ fa)) ?_ λ_ _ _=>by
   intro h;obtain⟨F,ρ,r,s,p⟩:=h;refine aF r s (λe g=>?_) λa i x F1 H1 s1 q1=>?_
   .have z:fIt fa ρ=.error e:=by unfold fIt;rw[g];rfl
    simp_all
   .have z:fIt fa ρ=kM a:=by unfold fIt;rw[i];rfl
    rw[z]at p;cases a with
    |lst ds=>obtain⟨b,xs,e,t,z⟩:=q1;exact⟨b,e,.inl ⟨⟨xs,s1.fh.lst t⟩,p _ F1 H1 s1 (wz t z)⟩⟩
    |tup ds=>obtain⟨b,xs,e,t,z⟩:=q1;exact⟨b,e,.inr ⟨⟨xs,s1.fh.tup t⟩,p _ F1 H1 s1 (iter_tup t z)⟩⟩
    |_=>exact(W.ns p).elim
 intro B2 s σ H R I h;refine E' (f B2 s σ H _ I h) λv s1 d=>?_;obtain⟨y,H1,B,Y,q1⟩:=d;obtain⟨l,e1,q⟩:=q1;subst e1;cases Y;rcases q with⟨⟨xs,J⟩,q⟩|⟨⟨xs,J⟩,q⟩
 .obtain⟨its,U,p,c⟩:=B.list J;refine K9 p.isList ?_;refine⟨s1.z,[s1.z],_,_,H1,rfl,B.kept (t':=s1.toks) λb o e=>e_ _ e,vd l _,⟨_,o_ _ rfl,rfl,rfl⟩,λb L=>?_,q⟩
  have e:b=s1.z:=by simpa using L
  subst e;exact B.fpOk (k_ _) (B.hok.fresh (k_ _))
 .obtain⟨its,U,p,c⟩:=B.tuple J;refine JP (show s1.heap.IsTuple l its.toArray from p) ?_;refine⟨s1.z,[s1.z],_,_,H1,rfl,B.kept (t':=s1.toks) λb o e=>e_ _ e,Bc l _,⟨_,o_ _ rfl,rfl,rfl⟩,λb L=>?_,q⟩
  have e:b=s1.z:=by simpa using L
  subst e;exact B.fpOk (k_ _) (B.hok.fresh (k_ _))
def e9(U:X.mg "range"=f_)(f:DA K W X [a] fr)(Y: ~~~(Gl X "range"))(L: ~~~(j_ [a] X.env=[(c_,Ga a X.env)])):DI K W X tg (.Call (.Name "range" p) [a] [] pos) (jv nj fr):=(Dq Y U f L).imp λ_ H R=>by
  intro h;obtain⟨F,ρ,r,s,p⟩:=h;refine kT r s (λe b=>?_) λds c xs F1 H1 s1 q1=>?_
  .have z:jv nj fr ρ=.error e:=by unfold jv;rw[b];rfl
   rw[z]at p;exact p
  .have z:jv nj fr ρ=nj ds:=by unfold jv;rw[c];rfl
   rw[z]at p;cases ds with
   |nil=>exact(W.ns p).elim|cons d ds=>
    cases d with
    |int j=>
     cases ds with
     |cons _ _=>exact(W.ns p).elim|nil=>
      obtain⟨v,vs,e,q,t⟩:=q1;have p':match (if bg j=d_ then GX (aL 0 j.toNat)else I9 Err.stuck:M (List A'))with
       |.ok ds=>∀J F1 H1,B4 F H F1 H1->o6 K F1 J ds->R J H1|.error e=>W.p e F H:=p
      by_cases B:bg j=d_
      .rw[u_ B]at p';unfold bg at B;simp only[t_,FO]at B;exact⟨j,by rw[e,show v=.int j from q,show vs=[]from t],B.1,B.2,p' _ F1 H1 s1 rO⟩
      .rw[x_ B]at p';exact(W.ns p').elim
    |_=>exact(W.ns p).elim
theorem di_rng2(f:X.mg "range"=f_)(m:DA K W X [a,b] fr)(g: ~~~(Gl X "range"))(d: ~~~(j_ [a,b] X.env=[(c_,Ga a X.env),(c_,Ga b X.env)]))(Y: ~~~(j_ [b] X.env=[(c_,Ga b X.env)])):
  DI K W X tg (.Call (.Name "range" p) [a,b] [] pos) (jv zS fr):=(Dp g f m d Y).imp λ_ H R=>by
    intro h;obtain⟨F,ρ,r,s,p⟩:=h;refine kT r s (λe k=>?_) λds l xs F1 H1 s1 q1=>?_
    .have z:jv zS fr ρ=.error e:=by unfold jv;rw[k];rfl
     simp_all
    .have z:jv zS fr ρ=zS ds:=by unfold jv;rw[l];rfl
     rw[z]at p;by_cases L:∃i j,ds=[.int i,.int j]
     .obtain⟨i,j,rfl⟩:=L;obtain⟨v,vs,e,q,c,U,e2,q2,t⟩:=q1;have p':match (if (bg i&&bg j)=d_ then GX (aL i (j-i).toNat)else I9 Err.stuck:M (List A'))with
       |.ok ds=>∀J F1 H1,B4 F H F1 H1->o6 K F1 J ds->R J H1|.error e=>W.p e F H:=p
      by_cases B:(bg i&&bg j)=d_
      .rw[u_ B]at p';unfold bg at B;simp only[t_,FO]at B;exact⟨i,j,by rw[e,show v=.int i from q,e2,show c=.int j from q2,show U=[]from t],⟨B.1.1,B.1.2,B.2.1,B.2.2⟩,p' _ F1 H1 s1 rO⟩
      .rw[x_ B]at p';exact(W.ns p').elim
     .have:zS ds=.error .stuck:=by
       unfold zS;split
       .exact FZ ⟨_,_,rfl⟩ L
       .rfl
      rw[this]at p;exact(W.ns p).elim
variable{st:G1}{h:ah->M B'}
def bh:DSs K W ro X OL O O [] cB:=λ_ _=>Dj.imp λ_ σ H=>by intro t;obtain⟨FB,F,ρ,r,p⟩:=t;exact p σ F H r
def af(h1:DS K W ro X OL O O' st g)(J:DSs K W ro X OL O' O2 sts h):DSs K W ro X OL O O2 (st::sts) (aP g h):=λF0 H0=>(iP (h1 F0 H0) (J F0 H0)).imp λ_ _ _=>by
  intro t;obtain⟨FB,F,ρ,r,p⟩:=t;refine⟨FB,F,ρ,r,?_⟩
  unfold aP at p;cases e:g ρ with
  |error x=>exact p.err (by rw[e];rfl)|ok fl=>
   rw[e]at p;cases fl with
   |nx ρ'=>exact λB F' H' r'=>⟨FB,F',ρ',r',p⟩|rt d=>exact p|bk ρ'=>exact p|ct ρ'=>exact p
def aj(h1:DS K W ro X OL O O' st g):DSs K W ro X OL O O' [st] g:=λF0 H0=>yi (h1 F0 H0)
def aW(h1:DSs K W ro X OL O2 O' sts g)(B:(∀i∈O2,i∈O)⁻¹):DSs K W ro X OL O O' sts g:=λF0 H0=>PSs.imp (h1 F0 H0) λ_ _ _=>by intro t;obtain⟨FB,F,ρ,r,p⟩:=t;exact⟨FB,_,ρ,r.freeze B,p⟩
def cK{sa sb:List G1}(L:DT K W X c ft)(U:DSs K W ro X OL O O' sa g)(B:DSs K W ro X OL O O' sb h):DS K W ro X OL O O' (.If c sa sb pos) (sIf ft g h):=λF0 H0=>(ps_if L (U F0 H0) (B F0 H0)).imp λ_ _ _=>by
  intro t;obtain⟨FB,F,ρ,r,p⟩:=t;refine iN r.j9 r.eQ (λe J=>p.eX (r.freeze (O2:=[]) ad).st (by unfold sIf;rw[J];rfl)) λb B F1 H1 s1=>?_;have z:sIf ft g h ρ=if b=d_ then g ρ else h ρ:=by unfold sIf;rw[B];rfl
  rw[z]at p;cases b with
  |true=>exact⟨FB,_,ρ,r.fX s1,p⟩|false=>exact⟨FB,_,ρ,r.fX s1,p⟩
def yL(Y:X.N.Nodup)(U:DE K W own X e f)(hi: ~~~(X.N[i]?=a_ x))(B:autoParam (Loc X.env.scope x) Jq6)(J: ~~~(HB e (a_ (.Name x pos')) pos.line X.env=GU c_))(L:autoParam (X.fn x=d_\/X.env.scope.names.lookup x=a_ .local) Jq4):
  DS K W ro X OL O (aft own i O) (.Assign [.Name x pos'] e pos) (aC O i f):=λF0 H0=>(ps_set Y hi B U J L).imp λ_ _ _=>D3
def ax(B:DE K W ro X e f):DS K W ro X OL O O' (.Return (a_ e) pos) (cn f):=λF0 H0=>(ps_ret B).imp λ_ _ _=>by
  intro t;obtain⟨FB,F,ρ,r,p⟩:=t;have J:=r.freeze (O2:=[]) ad;refine aF r.j9 r.eQ (λe B=>p.eX J.st (by unfold cn;rw[B];rfl)) λd L v F1 H1 s1 q=>?_;have z:cn f ρ=.ok (.rt d):=by unfold cn;rw[L];rfl
  rw[z]at p;exact p v F1 H1 (J.st.trans s1) (q.back r.st.hh)
theorem bB{fs:ah->M (List A')}{pt:Pat}(hi:DI K W X tg iter fs)(C:DG K X tg pt)(G:DSs K W ro X O O O body g)(n:(∀i∈pt.names,i∉O)⁻¹)(A:autoParam (OT (B_ X.prog X.w) X.A X.env X.xe) Jq11)(E: ~~~(X.calm=d_))(w:autoParam (∀x,Ht iter X.env x=GU x) Jq3):DS K W ro X OL O O (.For tg iter body [] pos) (jt O fs pt g):=λF0 H0=>(ps_for A E hi C (G F0 H0) w).imp λD σ H=>by
    intro t;obtain⟨FB,F,ρ,r,p⟩:=t;refine⟨F,erase O ρ,r.iO,r.st.fh,?_⟩
    cases e:fs (erase O ρ)with
    |error x=>exact p.eX r.st (by unfold jt;rw[e];rfl)|ok ds=>
     have z:jt O fs pt g ρ=bK pt g ds ρ:=by unfold jt;rw[e];rfl
     rw[z]at p;intro J F1 H1 s1 k;refine⟨λi m σ H=>∃F ρ,Rep K F0 H0 F1 O F H σ ρ/\i<=ds.length/\m=ds.length-i/\c9 K W ro F0 H0 FB OL O D (bK pt g (ds.drop i) ρ),⟨ds.length,F1,ρ,?_,Gi _,ac,bi⟩,?_⟩
     .have c:=r.step s1;exact⟨c.st,aU.refl _,c.len,c.fz,c.ow,c.ap⟩
     .rintro i m h H2 ⟨f,B,Y,hi,rfl,p2⟩;by_cases b:i<ds.length
      .have N:ds.drop i=ds[i]::ds.drop (i+1):=Gq b;rw[N]at p2;refine .inr ⟨k.go i f H2 Y.fb Y.st.fh b,λL H'=>(∃F ρ,Rep K F0 H0 F1 O F H' L ρ/\c9 K W ro F0 H0 FB OL O D (bK pt g (ds.drop (i+1)) ρ)),λL H' ⟨F,ρ,r,p⟩=>⟨ds.length-(i+1),ac,F,ρ,r,b,rfl,p⟩,λx H' y=>?_⟩;obtain⟨P,s,v⟩:=k.yl i f H2 x H' ds[i] Y.fb Y.st.fh ad y;have I:bK pt g (ds[i]::ds.drop (i+1)) B=(dI pt ds[i] B).bind λj=>(g j).bind λfl=>match fl with
        |.nx B=>bK pt g (ds.drop (i+1)) B|.ct B=>bK pt g (ds.drop (i+1)) B|.bk B=>.ok (.nx B)|.rt d=>.ok (.rt d):=by rw[bK]
       rw[I]at p2;cases eb:dI pt ds[i] B with
       |error x=>have:=jX eb;subst this;exact p2.stuck (by rw[eb];rfl)|ok a=>
        rw[eb]at p2;have p2:c9 K W ro F0 H0 FB OL O D ((g a).bind λfl=>match fl with
         |.nx B=>bK pt g (ds.drop (i+1)) B|.ct B=>bK pt g (ds.drop (i+1)) B|.bk B=>.ok (.nx B)|.rt d=>.ok (.rt d)):=p2
        refine gP_rep (Y.step s) n v eb λq u=>⟨F1,P,a,u,?_⟩
        have l:aU FB F1:=(r.step s1).fb;cases o:g a with
        |error x=>exact p2.err (by rw[o];rfl)|ok fl=>
         rw[o]at p2;cases fl with
         |nx U=>exact λL F' H' r'=>⟨F',U,r',p2⟩|ct U=>exact λL F' H' r'=>⟨F',U,r',p2⟩|bk U=>exact λL F' H' r'=>p2 L F' H' (r'.base l)|rt d=>exact p2
      .have:i=ds.length:=ac
       subst this;rw[Il]at p2;exact .inl ⟨k.st f H2 Y.fb Y.st.fh,p2 h f H2 (Y.base (r.step s1).fb)⟩
def ds_while(i:DT K W X c ft)(U:DSs K W ro X O O O body g)(f:autoParam (OT (B_ X.prog X.w) X.A X.env X.xe) Jq11):DS K W ro X OL O O (.While c body [] pos) (gC ft g m):=λF0 H0=>(ps_while f i (U F0 H0)).imp λD σ H=>by
  intro t;refine⟨λm σ H=>tS K W ro F0 H0 OL O O (gC ft g m) D σ H,⟨m,t⟩,?_⟩
  rintro m σ H ⟨FB,F,ρ,r,p⟩;cases m with
  |zero=>exact p.stuck rfl|succ m=>
   have j:gC ft g (m+1) ρ=(ft ρ).bind λb=>if b=d_ then(g ρ).bind λfl=>match fl with
    |.nx B=>gC ft g m B|.ct B=>gC ft g m B|.bk B=>.ok (.nx B)|.rt d=>.ok (.rt d)else .ok (.nx ρ):=by rw[gC]
   rw[j]at p;refine iN r.j9 r.eQ (λe h=>p.eX (r.freeze (O2:=[]) ad).st (by rw[h];rfl)) λb U F1 H1 s1=>?_;rw[U]at p;have Y:=r.fX s1;cases b with
   |false=>exact p σ _ H1 Y|true=>
    have p:c9 K W ro F0 H0 FB OL O D ((g ρ).bind λfl=>match fl with
     |.nx B=>gC ft g m B|.ct B=>gC ft g m B|.bk B=>.ok (.nx B)|.rt d=>.ok (.rt d)):=p
    refine⟨λJ H'=>tS K W ro F0 H0 OL O O (gC ft g m) D J H',λJ H' n=>⟨m,K8 _,n⟩,FB,_,ρ,Y,?_⟩
    cases a:g ρ with
    |error x=>exact p.err (by rw[a];rfl)|ok fl=>
     rw[a]at p;cases fl with
     |nx L=>exact λJ F' H' r'=>⟨FB,F',L,r',p⟩|ct L=>exact λJ F' H' r'=>⟨FB,F',L,r',p⟩|bk L=>exact λJ F' H' r'=>p J F' H' r'|rt d=>exact p
def dG(h:DE K W c_ X e f)(l:(i∈O)⁻¹)(o: ~~~(X.N[i]?=a_ x))(n:autoParam (Vis X.env.scope x) Jq5)(j:((x==("__debug__":Gh))=c_)⁻¹)(k:((x==("__classdict__":Gh))=c_)⁻¹)(s: ~~~(X.K=K))(Y: ~~~(j_ [e] X.env=[(c_,Ga e X.env)]))(L: ~~~(IW (.Name x p) "append" X.env (Ga (.Name x p) X.env)=Ga (.Name x p) X.env))(b: ~~~(((Hl q (j_ [e] X.env)).all (λx=> !x.1)&&(KR q (Jz [] X.env)).all (λx=>x.1.isSome)&&A_ ([e].length+([]:List Lb).length+(if ([]:List Lb).isEmpty then 0 else 1)<30))=d_))(B: ~~~((Hl q (j_ [] X.env)).any (·.1)=c_))(J: ~~~((apos.endLine==q.line)=d_))(c: ~~~(HB (.Call (.Attribute (.Name x p) "append" apos) [e] [] q) f_ pos.line X.env=GU c_)):
  DS K W ro X OL O O (.Expr (.Call (.Attribute (.Name x p) "append" apos) [e] [] q) pos) (gF O i f):=λF0 H0=>by
 subst s;exact PS.imp (tH (pe_bm M6 N0 PySem.F.type_list_append DN (pv i o n j k) (bR h fJ Y) L b J Y B) c) λ_ σ _=>by
   intro t;obtain⟨FB,F,ρ,r,p⟩:=t;cases U:ju ρ i with
   |error e=>have:=pB U;subst this;exact p.stuck (by unfold gF;rw[U];rfl)|ok ds=>
    obtain⟨a,xs,e2,m,z⟩:=r.DV l (kl U);refine⟨.ref a,e2,⟨rfl,_,_,rfl,SqL.of m⟩,?_⟩
    refine aF r.iO r.st.fh (λe h=>p.eX r.st (by unfold gF;rw[U];show(f (erase O ρ)).bind _=_;rw[h];rfl)) λd j v F1 H1 s1 q=>?_;have u:gF O i f ρ=if ds.length<q_ then put ρ i (ds++[d])else .error .stuck:=by unfold gF;rw[U];show(f (erase O ρ)).bind _=_;rw[j];rfl
    rw[u]at p;by_cases g:ds.length<q_
    .rw[u_ g]at p;exact⟨a,xs,v,rfl,rfl,s1.hh _ _ m,by rw[z.length];exact g,p σ F1 _ ((r.step s1).write l (kl U) e2 (aw.append (z.mono s1.ff) ⟨v,[],rfl,q,rfl⟩))⟩
    .rw[x_ g]at p;exact p.stuck rfl
end
section
variable{W:cv}{own:Bool}
def OpR.imp{f:h_->h_->Ln h_}{r r':R2}(h:OpR X f r)(q:∀x y H Q,r' x y H Q->r x y H Q):OpR X f r':=λB2 s σ H x y v u Q I J B z=>h B2 s σ H x y v u Q I J B (q x y H Q z)
def UnR.imp{f:h_->Ln h_}{r r':V->Hp->VK->Prop}(h:UnR X f r)(q:∀x H Q,r' x H Q->r x H Q):UnR X f r':=λB2 s σ H x v Q I B z=>h B2 s σ H x v Q I B (q x H Q z)
def fW.imp{f:h_}{r r':bp->Hp->VK->Prop}(h:fW X f r)(q:∀x H Q,r' x H Q->r x H Q):fW X f r':=λB2 s σ H x v Q I B z=>h B2 s σ H x v Q I B (q x H Q z)
def IxR.imp{r r':R2}(h:IxR X r)(q:∀x y H Q,r' x y H Q->r x y H Q):IxR X r':=λB sl B2 s σ H x y v u Q I L J z e=>h B sl B2 s σ H x y v u Q I L J (q x y H Q z) e
def aE.stuck{P:Prop}(p:aE K W own F H (stk) Q):P:=(W.ns p).elim
theorem aE.int{F H:Hp}{Q:VK}{i:Int}(p:aE K W own F H (.ok (.int i)) Q)(s:aU F H):Q (.int i) H:=p _ F H (B4.refl s) (by cases own<;>rfl)
theorem aE.bl{F H:Hp}{Q:VK}{b:Bool}(p:aE K W own F H (.ok (.bl b)) Q)(s:aU F H):Q (.bl b) H:=p _ F H (B4.refl s) (by cases own<;>rfl)
theorem aE.tup{F H:Hp}{Q:VK}{ds:List A'}{xs:bp}{a:i_}(p:aE K W own F H (.ok (.tup ds)) Q)(s:aU F H)(q:aw K F ds xs)(B:H a=f_):Q (.ref a) (upd H a (.tup xs)):=
 p _ _ _ (B4.lay s B) (by
  have:aY K (upd F a (.tup xs)) (.tup ds) (.ref a):=⟨a,xs,rfl,SqT.of av,q.mono (aU.upd (s.free B))⟩
  cases own<;>exact this)
def aE.same(p:aE K W own F H (.ok (.tup ds)) Q)(s:aU F H)(q:aY K F (.tup ds) v):Q v H:=p _ F H (B4.refl s) (by cases own<;>exact q)
theorem aE.lst{F H:Hp}{Q:VK}{ds:List A'}{xs:bp}{a:i_}(p:aE K W d_ F H (.ok (.lst ds)) Q)(s:aU F H)(q:aw K F ds xs)(B:H a=f_):Q (.ref a) (upd H a (.lst xs)):=
 p _ F _ (B4.grow s B) ⟨a,xs,rfl,av,s.free B,B,q⟩
def gg{g:A'->A'->M A'}(L:∀a b,(∃i j,a=.int i/\b=.int j)\/g a b=stk){x:V}(h:rD2 K W own g x y H Q):∃F i j,aU F H/\x=.int i/\y=.int j/\aE K W own F H (g (.int i) (.int j)) Q:=by
 obtain⟨F,a,b,s,J,B,p⟩:=h;rcases L a b with⟨i,j,rfl,rfl⟩|e
 .exact⟨F,i,j,s,J,B,p⟩
 .rw[e]at p;exact p.stuck
def nT:Op2 K W own X (Io .Sub) vj:=op_sub.imp λx y H Q h=>by obtain⟨F,i,j,s,e1,e2,p⟩:=gg (λa b=>by cases a<;>cases b<;>first|exact .inr rfl|simp) h;exact⟨i,j,e1,e2,p.int s⟩
def lY:Op2 K W own X (Io .Mult) tY:=op_mul.imp λx y H Q h=>by
 obtain⟨F,i,j,s,e1,e2,p⟩:=gg (λa b=>by cases a<;>cases b<;>first|exact .inr rfl|simp) h;have p':aE K W own F H (if (dS i||dS j)=d_ then .ok (.int (i*j))else stk) Q:=p;by_cases B:(dS i||dS j)=d_
 .rw[u_ B]at p';refine⟨i,j,e1,e2,?_,p'.int s⟩
  unfold dS at B;simp only[MR,t_,FO]at B;exact B
 .rw[x_ B]at p';exact p'.stuck
theorem Dy:OpR X (Io .FloorDiv) (rI (λ_ j=>0<j/\j<18446744073709551616) λi j=>.int (i/j)):=opI λi j _ _ _ _ _ B q=>by
 obtain⟨L,J⟩:=B;exact floordiv_int ac (by rw[Int.fdiv_eq_ediv_of_nonneg i ac];exact q) (.inl (PyProof.noPylong_of_log2 (by
   have a:j.natAbs<2^64:=ac
   have b:=(Nat.log2_lt (n:=j.natAbs) (k:=64) ac).mpr a;lia)))
def bU:Op2 K W own X (Io .FloorDiv) dr:=Dy.imp λx y H Q h=>by
 obtain⟨F,i,j,s,e1,e2,p⟩:=gg (λa b=>by cases a<;>cases b<;>first|exact .inr rfl|simp) h;have p':aE K W own F H (if (A_ (0<j)&&A_ (j<18446744073709551616))=d_ then .ok (.int (i/j))else stk) Q:=p;by_cases B:(A_ (0<j)&&A_ (j<18446744073709551616))=d_
 .rw[u_ B]at p';simp only[t_,FO]at B;exact⟨i,j,e1,e2,B,p'.int s⟩
 .rw[x_ B]at p';exact p'.stuck
def cb:Op2 K W own X (Io .Mod) gV:=op_mod.imp λx y H Q h=>by
 obtain⟨F,i,j,s,e1,e2,p⟩:=gg (λa b=>by cases a<;>cases b<;>first|exact .inr rfl|simp) h;have p':aE K W own F H (if 0<j then .ok (.int (i%j))else stk) Q:=p;by_cases B:0<j
 .rw[u_ B]at p';exact⟨i,j,e1,e2,B,p'.int s⟩
 .rw[x_ B]at p';exact p'.stuck
def kv:Op2 K W own X (Io .Pow) v5:=op_pow.imp λx y H Q h=>by
 obtain⟨F,i,j,s,e1,e2,p⟩:=gg (λa b=>by cases a<;>cases b<;>first|exact .inr rfl|simp) h;have p':aE K W own F H (if (A_ (0<=j)&&A_ (j<=1000000)&&A_ (i.natAbs<2^64))=d_ then .ok (.int (i^j.toNat))else stk) Q:=p;by_cases B:(A_ (0<=j)&&A_ (j<=1000000)&&A_ (i.natAbs<2^64))=d_
 .rw[u_ B]at p';simp only[t_,FO]at B;exact⟨i,j,e1,e2,⟨B.1.1,B.1.2,B.2⟩,p'.int s⟩
 .rw[x_ B]at p';exact p'.stuck
def vY:UnR X (Qs .USub) (rD1 K W own yv):=un_neg.imp λx H Q h=>by
 obtain⟨F,a,s,B,p⟩:=h;cases a with
 |int i=>exact⟨i,B,aE.int (own:=own) p s⟩|_=>exact aE.stuck p
def o_lt:Op2 K W own X (Gy .Lt) ltD:=op_lt.imp λx y H Q h=>by obtain⟨F,i,j,s,e1,e2,p⟩:=gg (λa b=>by cases a<;>cases b<;>first|exact .inr rfl|simp) h;exact⟨i,j,e1,e2,p.bl s⟩
def o_le:Op2 K W own X (Gy .LtE) leD:=op_le.imp λx y H Q h=>by obtain⟨F,i,j,s,e1,e2,p⟩:=gg (λa b=>by cases a<;>cases b<;>first|exact .inr rfl|simp) h;exact⟨i,j,e1,e2,p.bl s⟩
def o_gt:Op2 K W own X (Gy .Gt) gtD:=op_gt.imp λx y H Q h=>by obtain⟨F,i,j,s,e1,e2,p⟩:=gg (λa b=>by cases a<;>cases b<;>first|exact .inr rfl|simp) h;exact⟨i,j,e1,e2,p.bl s⟩
def o_ge:Op2 K W own X (Gy .GtE) geD:=op_ge.imp λx y H Q h=>by obtain⟨F,i,j,s,e1,e2,p⟩:=gg (λa b=>by cases a<;>cases b<;>first|exact .inr rfl|simp) h;exact⟨i,j,e1,e2,p.bl s⟩
theorem op_catL:OpR X (Io .Add) (λx y H Q=>∃l b xs Y,x=.ref l/\y=.ref b/\SqL X.K H l xs/\SqL X.K H b Y/\xs.length+Y.length<=q_/\∀p,H p=f_->Q (.ref p) (upd H p (.lst (xs++Y)))):=by
 intro B2 s σ H x y v u Q I o m h;obtain⟨l,b,xs,Y,rfl,rfl,w,z,F,q⟩:=h;cases o;cases m;obtain⟨its,r,p1,G⟩:=I.list w;obtain⟨B,e,p2,t⟩:=I.list z;have E:=r.length;have D:=e.length;obtain⟨⟨C,A,j,sl⟩,f,i,n,g⟩:=id p1.isList;obtain⟨⟨k,c,d,a⟩,J,U,n2,L⟩:=id p2.isList;simp only at i g U L;subst i g U L;refine MV ⟨_,f,rfl⟩ ⟨_,J,rfl⟩ noFill_list_add seq_list_add PySem.F.slot_list_add PySem.F.entry_list_add (PySem.F.args_list_add_2 _ _) (list_addW l b its.toArray B.toArray n n2 A c sl a bi) ⟨f,J,?_⟩;have ea:its.toArray++B.toArray=(its++B).toArray:=by simp
 rw[ea];exact⟨.ref _,_,I.lnew (t':=s.toks) (r.append e) bi,rfl,q _ I.fresh⟩
def op_cat3:OpR X (Io .Add) (λx y H Q=>∃a b xs ys,x=.ref a/\y=.ref b/\SqT X.K H a xs/\SqT X.K H b ys/\xs.length+ys.length<=q_/\(xs=[]->Q (.ref b) H)/\(ys=[]->Q (.ref a) H)/\∀p,H p=f_->Q (.ref p) (upd H p (.tup (xs++ys)))):=by
 intro B2 s σ H x y v u Q I g f h;obtain⟨a,b,xs,ys,rfl,rfl,o,m,z,q1,q2,w⟩:=h;by_cases i:xs=[]
 .subst i;cases g;cases f;obtain⟨its,t,p1,_⟩:=I.tuple o;obtain⟨B,E,p2,_⟩:=I.tuple m;cases t;obtain⟨⟨D,C,q,sl⟩,j,l,n,k⟩:=id p1;obtain⟨⟨r,c,d,Y⟩,J,U,n2,L⟩:=id p2;simp only at l k U L;subst l k U L;exact MV ⟨_,j,rfl⟩ ⟨_,J,rfl⟩ Nh Oo KU KA (Ky _ _)
   (tuple_addW0 a b #[] B.toArray n n2 C c sl Y rfl) ⟨j,J,⟨.ref b,H,I,rfl,q1 rfl⟩⟩
 .exact op_catT B2 s σ H _ _ v u Q I g f ⟨a,b,xs,ys,rfl,rfl,o,m,i,z,λe=>q2 e,λ_ p A=>w p A⟩
def bF(g: ~~~(X.K=K)):Op2 K W d_ X (Io .Add) cL:=by
 subst g;refine(op_add.or (op_catL.or op_cat3)).imp λx y H Q h=>?_;obtain⟨F,a,b,s,d,c,p⟩:=h;cases a with
 |int i=>
  cases b with
  |int j=>exact .inl ⟨i,j,d,c,p.int s⟩|_=>exact aE.stuck p
 |lst ds=>
  cases b with
  |lst es=>
   obtain⟨a,xs,e1,Y,J⟩:=d;obtain⟨b,ys,e2,U,B⟩:=c;have p':aE X.K W d_ F H (if ds.length+es.length<=q_ then .ok (.lst (ds++es))else stk) Q:=p;by_cases L:ds.length+es.length<=q_
   .rw[u_ L]at p';exact .inr (.inl ⟨a,b,xs,ys,e1,e2,s.lst Y,s.lst U,by rw[J.length,B.length];exact L,λl f=>p'.lst s (J.append B) f⟩)
   .rw[x_ L]at p';exact p'.stuck
  |_=>exact aE.stuck p
 |tup ds=>
  cases b with
  |tup es=>
   obtain⟨a,xs,e1,Y,J⟩:=d;obtain⟨b,ys,e2,U,B⟩:=c;have p':aE X.K W d_ F H (if ds.length+es.length<=q_ then .ok (.tup (ds++es))else stk) Q:=p;by_cases L:ds.length+es.length<=q_
   .rw[u_ L]at p';refine .inr (.inr ⟨a,b,xs,ys,e1,e2,s.tup Y,s.tup U,by rw[J.length,B.length];exact L,λe=>?_,λe=>?_,λl f=>p'.tup s (J.append B) f⟩)
    .have z:ds=[]:=by have:=J.length;rw[e]at this;exact HZ.mp this.symm
     subst z;exact p'.same s ⟨b,ys,rfl,U,B⟩
    .have z:es=[]:=by have:=B.length;rw[e]at this;exact HZ.mp this.symm
     subst z;rw[Hf]at p';exact p'.same s ⟨a,xs,rfl,Y,J⟩
   .rw[x_ L]at p';exact p'.stuck
  |_=>exact aE.stuck p
 |_=>exact aE.stuck p
def o_isN:Op2 K W own X (Gy .Is) isND:=op_isN.imp λx y H Q h=>by
 obtain⟨F,a,b,s,B,J,p⟩:=h;have key:∀{k:Bool},isND a b=.ok (.bl k)->b=.non->(A_ (x=V.non)=k)->y=V.non/\Q (.bl (A_ (x=V.non))) H:=λ{k} e1 e2 e3=>by subst e2;rw[e1]at p;rw[e3];exact⟨J,p.bl s⟩
 cases b with
 |non=>
  cases a with
  |non=>exact key rfl rfl (by rw[show x=.non from B];rfl)|bl k=>exact key rfl rfl (by rw[show x=.bl k from B];rfl)|int k=>exact key rfl rfl (by rw[show x=.int k from B];rfl)|tup ds=>obtain⟨l,xs,e,_⟩:=B;exact key rfl rfl (by rw[e];rfl)
  |lst ds=>obtain⟨l,xs,e,_⟩:=B;exact key rfl rfl (by rw[e];rfl)
  |ins C fs=>obtain⟨l,dx,xs,e,_⟩:=B;exact key rfl rfl (by rw[e];rfl)
  |dic ks=>obtain⟨l,xs,e,_⟩:=B;exact key rfl rfl (by rw[e];rfl)
  |dil ks=>obtain⟨l,xs,e,_⟩:=B;exact key rfl rfl (by rw[e];rfl)
 |_=>cases a<;>exact aE.stuck p
def o_notN:Op2 K W own X (Gy .IsNot) vZ:=op_notN.imp λx y H Q h=>by
 obtain⟨F,a,b,s,B,J,p⟩:=h;have key:∀{k:Bool},vZ a b=.ok (.bl k)->b=.non->((!decide (x=V.non))=k)->y=V.non/\Q (.bl (!decide (x=V.non))) H:=λ{k} e1 e2 e3=>by subst e2;rw[e1]at p;rw[e3];exact⟨J,p.bl s⟩
 cases b with
 |non=>
  cases a with
  |non=>exact key rfl rfl (by rw[show x=.non from B];rfl)|bl k=>exact key rfl rfl (by rw[show x=.bl k from B];rfl)|int k=>exact key rfl rfl (by rw[show x=.int k from B];rfl)|tup ds=>obtain⟨l,xs,e,_⟩:=B;exact key rfl rfl (by rw[e];rfl)
  |lst ds=>obtain⟨l,xs,e,_⟩:=B;exact key rfl rfl (by rw[e];rfl)
  |ins C fs=>obtain⟨l,dx,xs,e,_⟩:=B;exact key rfl rfl (by rw[e];rfl)
  |dic ks=>obtain⟨l,xs,e,_⟩:=B;exact key rfl rfl (by rw[e];rfl)
  |dil ks=>obtain⟨l,xs,e,_⟩:=B;exact key rfl rfl (by rw[e];rfl)
 |_=>cases a<;>exact aE.stuck p
theorem Er{i:Int}(p:aE K W c_ F H (iL ds i) Q)(s:aU F H)(r:aw K F ds xs):∃v,atI xs i=a_ v/\Q v H:=by
 unfold iL at p;cases e:atI ds i with
 |none=>rw[e]at p;exact aE.stuck p|some d=>
  rw[e]at p;unfold atI at e;cases B:ixN ds.length i with
  |none=>simp_all|some j=>
   rw[B]at e;obtain⟨v,e1,q⟩:=r.get (show ds[j]?=a_ d from e);refine⟨v,?_,p v F H (B4.refl s) q⟩
   unfold atI;rw[r.length,B];exact e1
def cE(Y: ~~~(X.K=K)):IxR X (rD2 K W c_ ixD):=by
 subst Y;refine Ak.imp λx y H Q h=>?_;obtain⟨F,a,b,s,U,L,p⟩:=h;cases a with
 |lst ds=>
  cases b with
  |int i=>obtain⟨a,xs,e1,B,J⟩:=U;obtain⟨v,e2,q⟩:=Er p s J;exact .inl ⟨a,xs,i,v,e1,L,s.lst B,e2,q⟩
  |_=>exact aE.stuck p
 |tup ds=>
  cases b with
  |int i=>obtain⟨a,xs,e1,B,J⟩:=U;obtain⟨v,e2,q⟩:=Er p s J;exact .inr ⟨a,xs,i,v,e1,L,s.tup B,e2,q⟩
  |_=>exact aE.stuck p
 |_=>exact aE.stuck p
def gY(B: ~~~(X.K=K)):n8 K W own X (.builtin "len") kJ:=by
 subst B;refine jV.imp λxs H Q h=>?_;obtain⟨F,ds,s,q,p⟩:=h;cases ds with
 |nil=>exact aE.stuck p|cons d ds=>
  cases ds with
  |cons _ _=>cases d<;>exact aE.stuck p
  |nil=>
   obtain⟨v,vs,e,q,e2⟩:=q;cases d with
   |lst es=>
    obtain⟨a,ys,e1,t,r⟩:=q;refine⟨a,ys,by rw[e,e1,show vs=[]from e2],.inl (s.lst t),?_⟩
    rw[r.length];exact aE.int (own:=own) p s
   |tup es=>
    obtain⟨a,ys,e1,t,r⟩:=q;refine⟨a,ys,by rw[e,e1,show vs=[]from e2],.inr (s.tup t),?_⟩
    rw[r.length];exact aE.int (own:=own) p s
   |_=>exact aE.stuck p
end
section
variable{W:cv}{own:Bool}
def l8{g:List A'->M A'}(B:∀ds,(∃d,ds=[d])\/g ds=stk)(h:rDL K W own g xs H Q):∃F d x,aU F H/\xs=[x]/\aY K F d x/\aE K W own F H (g [d]) Q:=by
 obtain⟨F,ds,s,q,p⟩:=h;rcases B ds with⟨d,rfl⟩|e
 .obtain⟨v,vs,e,q1,e2⟩:=q;exact⟨F,d,v,s,by rw[e,show vs=[]from e2],q1,p⟩
 .rw[e]at p;exact p.stuck
def CI{g:List A'->M A'}(J:∀ds,(∃d,ds=[d])\/(∃d e,ds=[d,e])\/g ds=stk)(h:rDL K W own g xs H Q):(∃F d x,aU F H/\xs=[x]/\aY K F d x/\aE K W own F H (g [d]) Q)\/∃F d e x y,aU F H/\xs=[x,y]/\aY K F d x/\aY K F e y/\aE K W own F H (g [d,e]) Q:=by
 obtain⟨F,ds,s,q,p⟩:=h;rcases J ds with⟨d,rfl⟩|⟨d,e,rfl⟩|e
 .obtain⟨v,vs,e,q1,e2⟩:=q;exact .inl ⟨F,d,v,s,by rw[e,show vs=[]from e2],q1,p⟩
 .obtain⟨v,vs,e1,q1,w,B,e2,q2,e3⟩:=q;exact .inr ⟨F,d,e,v,w,s,by rw[e1,e2,show B=[]from e3],q1,q2,p⟩
 .rw[e]at p;exact p.stuck
theorem sJ{F:Hp}:∀{ds:List A'} {xs:bp} {B:List Bool},aw K F ds xs->fU ds=.ok B->xs=B.map V.bl
 |[],_,_,q,e=>by cases e;exact q|d::ds,_,B,⟨v,vs,e1,q,r⟩,e=>by
  cases d with
  |bl b=>
   cases e2:fU ds with
   |error x=>simp_all[fU,asB,ai,j5]|ok cs=>simp only[fU,asB,ai,e2]at e;cases e;rw[e1,show v=.bl b from q,sJ r e2];rfl
  |_=>cases e
theorem sM:∀{ds:List A'} {e:Err},fU ds=.error e->e=.stuck
 |[],_,h=>by cases h|d::ds,e,h=>by
  cases d with
  |bl b=>
   cases e2:fU ds with
   |error x=>simp only[fU,asB,ai,e2,j5]at h;cases h;exact sM e2|ok cs=>simp_all[fU,asB,ai]
  |_=>cases h;rfl
theorem cP{F:Hp}:∀{ds:List A'} {xs:bp} {B:bm},aw K F ds xs->bM ds=.ok B->xs=B.map V.int
 |[],_,_,q,e=>by cases e;exact q|d::ds,_,B,⟨v,vs,e1,q,r⟩,e=>by
  cases d with
  |int b=>
   cases e2:bM ds with
   |error x=>simp_all[bM,asI,ai,j5]|ok cs=>simp only[bM,asI,ai,e2]at e;cases e;rw[e1,show v=.int b from q,cP r e2];rfl
  |_=>cases e
theorem fP:∀{ds:List A'} {e:Err},bM ds=.error e->e=.stuck
 |[],_,h=>by cases h|d::ds,e,h=>by
  cases d with
  |int b=>
   cases e2:bM ds with
   |error x=>simp only[bM,asI,ai,e2,j5]at h;cases h;exact fP e2|ok cs=>simp_all[bM,asI,ai]
  |_=>cases h;rfl
def Fo(J:X.calm=d_)(L: ~~~(X.K=K)):n8 K W own X (.builtin "all") allD:=by
 subst L;refine(call_all J).imp λxs H Q h=>?_;obtain⟨F,d,x,s,e,q,p⟩:=l8 (λds=>by match ds with|[d]=>simp|[]=>exact .inr rfl|a::b::c=>exact .inr (by cases a<;>rfl)) h;cases d with
 |lst ds=>
  obtain⟨a,ys,e1,t,r⟩:=q;have p':aE X.K W own F H ((fU ds).bind λB=>.ok (.bl (B.all id))) Q:=p;cases eb:fU ds with
  |error z=>rw[eb]at p';have:=sM eb;subst this;exact aE.stuck p'|ok B=>
   rw[eb]at p';refine⟨a,B,by rw[e,e1],?_,aE.bl (own:=own) p' s⟩
   rw[<- sJ r eb];exact s.lst t
 |_=>exact aE.stuck p
def qo(J: ~~~(X.K=K)):n8 K W d_ X (.type "list") gL:=by
 subst J;refine xo.imp λxs H Q h=>?_;obtain⟨F,d,x,s,e,q,p⟩:=l8 (λds=>by match ds with|[d]=>simp|[]=>exact .inr rfl|a::b::c=>exact .inr (by cases a<;>rfl)) h;cases d with
 |lst ds=>obtain⟨a,ys,e1,t,r⟩:=q;exact⟨a,ys,by rw[e,e1],.inl (s.lst t),λl B=>aE.lst p s r B⟩
 |tup ds=>obtain⟨a,ys,e1,t,r⟩:=q;exact⟨a,ys,by rw[e,e1],.inr (s.tup t),λl B=>aE.lst p s r B⟩
 |_=>exact aE.stuck p
def uJ(J: ~~~(X.K=K)):n8 K W own X (.type "tuple") nc:=by
 subst J;refine uH.imp λxs H Q h=>?_;obtain⟨F,d,x,s,e,q,p⟩:=l8 (λds=>by match ds with|[d]=>simp|[]=>exact .inr rfl|a::b::c=>exact .inr (by cases a<;>rfl)) h;cases d with
 |lst ds=>obtain⟨a,ys,e1,t,r⟩:=q;exact⟨a,ys,by rw[e,e1],.inl ⟨s.lst t,λl B=>aE.tup p s r B⟩⟩
 |tup ds=>obtain⟨a,ys,e1,t,r⟩:=q;subst e1;exact⟨a,ys,e,.inr ⟨s.tup t,aE.same (own:=own) p s ⟨a,ys,rfl,t,r⟩⟩⟩
 |_=>exact aE.stuck p
theorem fold_max:∀(is:bm) (i:Int),(is.foldl dR i=i\/is.foldl dR i∈is)/\i<=is.foldl dR i/\∀a∈is,a<=is.foldl dR i
 |[],i=>⟨.inl rfl,Gg _,λ_ h=>nomatch h⟩
 |j::is,i=>by
  obtain⟨h1,J,B⟩:=fold_max is (dR i j);have z:(dR i j=i\/dR i j=j)/\i<=dR i j/\j<=dR i j:=by unfold dR;split<;>(refine⟨?_,?_,?_⟩<;>first|exact .inl rfl|exact .inr rfl|lia)
  grind
theorem fold_min:∀(is:bm) (i:Int),(is.foldl kx i=i\/is.foldl kx i∈is)/\is.foldl kx i<=i/\∀a∈is,is.foldl kx i<=a
 |[],i=>⟨.inl rfl,Gg _,λ_ h=>nomatch h⟩
 |j::is,i=>by
  obtain⟨h1,J,B⟩:=fold_min is (kx i j);have z:(kx i j=i\/kx i j=j)/\kx i j<=i/\kx i j<=j:=by unfold kx;split<;>(refine⟨?_,?_,?_⟩<;>first|exact .inl rfl|exact .inr rfl|lia)
  grind
theorem yG{i m:Int}(h1:m∈i::is)(B:∀a∈i::is,a<=m):is.foldl dR i=m:=by
 obtain⟨L,g2,J⟩:=fold_max is i
 grind
theorem pS{i m:Int}(h1:m∈i::is)(B:∀a∈i::is,m<=a):is.foldl kx i=m:=by
 obtain⟨L,g2,J⟩:=fold_min is i
 grind
theorem Fh(g:X.calm=d_):fW X (.builtin "max") (λxs H Q=>∃a i is,xs=[.ref a]/\SqL X.K H a ((i::is).map V.int)/\Q (.int (is.foldl dR i)) H):=by
 intro B2 s σ H xs us Q I r h;obtain⟨a,i,is,rfl,c,q⟩:=h;obtain⟨u,rfl,Y⟩:=r.one;cases Y;obtain⟨its,U,p,n⟩:=I.list c;have hi:=intsAre_of U;obtain⟨xs,e⟩:=hi.allInts.items;have B:i::is=xs.toList.map (·.1):=by rw[<- hi.numsOf,<- MC,<- e]
 have hsz:0<xs.size:=by have k:=IV JE B;simp at k;lia
 have J:=p.isList;rw[e]at J;refine max_intList (I.ok.hd g) J hsz λv h' tk b d=>?_;obtain⟨t,rfl⟩:=Mb b;obtain⟨h1,l⟩:=argBest_gt (La xs) (xs.size-1);refine⟨.int _,H,I.kept d,⟨t,rfl⟩,?_⟩
 have:=yG (is:=is) (i:=i) (m:=La xs (Kn (λi j=>A_ (La xs i>La xs j)) (xs.size-1))) (by
   rw[B,MU];exact getD_mem (by rw[n_,GF];lia)) (λa L=>by
   rw[B]at L;obtain⟨j,f,rfl⟩:=mem_getD L;rw[n_,GF]at f;rw[<- MU];exact l j ac)
 rw[<- this];exact q
theorem Fe(g:X.calm=d_):fW X (.builtin "min") (λxs H Q=>∃a i is,xs=[.ref a]/\SqL X.K H a ((i::is).map V.int)/\Q (.int (is.foldl kx i)) H):=by
 intro B2 s σ H xs us Q I r h;obtain⟨a,i,is,rfl,c,q⟩:=h;obtain⟨u,rfl,Y⟩:=r.one;cases Y;obtain⟨its,U,p,n⟩:=I.list c;have hi:=intsAre_of U;obtain⟨xs,e⟩:=hi.allInts.items;have B:i::is=xs.toList.map (·.1):=by rw[<- hi.numsOf,<- MC,<- e]
 have hsz:0<xs.size:=by have k:=IV JE B;simp at k;lia
 have J:=p.isList;rw[e]at J;refine min_intList (I.ok.hd g) J hsz λv h' tk b d=>?_;obtain⟨t,rfl⟩:=Mb b;obtain⟨h1,l⟩:=argBest_lt (La xs) (xs.size-1);refine⟨.int _,H,I.kept d,⟨t,rfl⟩,?_⟩
 have:=pS (is:=is) (i:=i) (m:=La xs (Kn (λi j=>A_ (La xs i<La xs j)) (xs.size-1))) (by
   rw[B,MU];exact getD_mem (by rw[n_,GF];lia)) (λa L=>by
   rw[B]at L;obtain⟨j,f,rfl⟩:=mem_getD L;rw[n_,GF]at f;rw[<- MU];exact l j ac)
 simp_all
def zf(B:X.calm=d_)(L: ~~~(X.K=K)):n8 K W own X (.builtin "max") maxD:=by
 subst L;refine((Fi B).or (Fh B)).imp λxs H Q h=>?_;rcases CI (λds=>by match ds with|[d]=>exact .inl ⟨d,rfl⟩|[d,e]=>exact .inr (.inl ⟨d,e,rfl⟩)|[]=>exact .inr (.inr rfl)|a::b::c::d=>exact .inr (.inr (by cases a<;>cases b<;>rfl))) h with⟨F,d,x,s,e,q,p⟩|⟨F,d,J,x,y,s,e,q,q2,p⟩
 .cases d with
  |lst ds=>
   obtain⟨a,ys,e1,t,r⟩:=q;have p':aE X.K W own F H ((bM ds).bind maxL) Q:=p;cases eb:bM ds with
   |error z=>rw[eb]at p';have:=fP eb;subst this;exact aE.stuck p'|ok is=>
    rw[eb]at p';cases is with
    |nil=>exact aE.stuck p'|cons i is=>refine .inr ⟨a,i,is,by rw[e,e1],?_,aE.int (own:=own) p' s⟩;rw[<- cP r eb];exact s.lst t
  |_=>exact aE.stuck p
 .cases d with
  |int i=>
   cases J with
   |int j=>exact .inl ⟨i,j,by rw[e,show x=.int i from q,show y=.int j from q2],aE.int (own:=own) p s⟩|_=>exact aE.stuck p
  |_=>cases J<;>exact aE.stuck p
def c_min(B:X.calm=d_)(L: ~~~(X.K=K)):n8 K W own X (.builtin "min") minD:=by
 subst L;refine((Fg B).or (Fe B)).imp λxs H Q h=>?_;rcases CI (λds=>by match ds with|[d]=>exact .inl ⟨d,rfl⟩|[d,e]=>exact .inr (.inl ⟨d,e,rfl⟩)|[]=>exact .inr (.inr rfl)|a::b::c::d=>exact .inr (.inr (by cases a<;>cases b<;>rfl))) h with⟨F,d,x,s,e,q,p⟩|⟨F,d,J,x,y,s,e,q,q2,p⟩
 .cases d with
  |lst ds=>
   obtain⟨a,ys,e1,t,r⟩:=q;have p':aE X.K W own F H ((bM ds).bind minL) Q:=p;cases eb:bM ds with
   |error z=>rw[eb]at p';have:=fP eb;subst this;exact aE.stuck p'|ok is=>
    rw[eb]at p';cases is with
    |nil=>exact aE.stuck p'|cons i is=>refine .inr ⟨a,i,is,by rw[e,e1],?_,aE.int (own:=own) p' s⟩;rw[<- cP r eb];exact s.lst t
  |_=>exact aE.stuck p
 .cases d with
  |int i=>
   cases J with
   |int j=>exact .inl ⟨i,j,by rw[e,show x=.int i from q,show y=.int j from q2],aE.int (own:=own) p s⟩|_=>exact aE.stuck p
  |_=>cases J<;>exact aE.stuck p
end
theorem SqL.inj{B2:Vp}{σ:St}{H:Hp}{s:l_}{a:i_}{xs ys:bp}(I:B6 X B2 σ H s)(h:SqL X.K H a xs)(h':SqL X.K H a ys):xs=ys:=by
 obtain⟨Y,L,p1,_⟩:=I.list h;obtain⟨U,J,p2,_⟩:=I.list h';obtain⟨o,n,e,_,_,d⟩:=p1;obtain⟨o',b,B,_,_,d'⟩:=p2;rw[e]at B;cases B;rw[d]at d';injection d' with d1 _
 have:Y=U:=by simpa using IV Mi d1
 subst this;exact L.inj J
theorem SqT.inj{B2:Vp}{σ:St}{H:Hp}{s:l_}{a:i_}{xs ys:bp}(I:B6 X B2 σ H s)(h:SqT X.K H a xs)(h':SqT X.K H a ys):xs=ys:=by
 obtain⟨Y,L,p1,_⟩:=I.tuple h;obtain⟨U,J,p2,_⟩:=I.tuple h';obtain⟨o,e,_,n,d⟩:=p1;obtain⟨o',B,_,b,d'⟩:=p2;rw[e]at B;cases B;rw[d]at d';injection d' with d1 _
 have:Y=U:=by simpa using IV Mi d1
 subst this;exact L.inj J
theorem aw.all_eq{F:Hp}(e:Nat->Bool):∀{ds es:List A'},ds.length=es.length->(∀(j:Nat) a b,ds[j]?=a_ a->es[j]?=a_ b->e j=eqD a b)->(FN ds.length).all e=Aw ds es:=by
 intro ds
 induction ds generalizing e with
 |nil=>intro es h _;cases es with
  |nil=>rfl|cons _ _=>simp at h
 |cons d ds B=>
  intro es h q;cases es with
  |nil=>simp at h|cons b es=>simp_all[E_,Ig,List.all_cons,List.all_map,Aw]
theorem oF:∀{ds es:List A'},ds.length≠es.length->Aw ds es=c_
 |[],[],h=>FZ rfl h|[],_::_,_=>rfl|_::_,[],_=>rfl|d::ds,e::es,h=>by rw[Aw,oF (ds:=ds) (es:=es) (λz=>h (by simp[z])),Nf]
theorem Av(e:Nat->Bool):∀{ds es:List A'},(∀(j:Nat) a b,ds[j]?=a_ a->es[j]?=a_ b->e j=eqD a b)->((FN (NG ds.length es.length)).all e&&ds.length==es.length)=Aw ds es:=by
 intro ds es q;by_cases B:ds.length=es.length
 .have e1:NG ds.length es.length=ds.length:=ac
  rw[e1,aw.all_eq (F:=λ_=>f_) e B q,B,beq_self_eq_true,Bool.and_true]
 simp_all[oF,Nf]
mutual
theorem oG:∀{d:A'} {n:Nat},H8 d n=d_->eqD d d=d_
 |.non,_,_=>rfl|.bl b,_,_=>by simp[eqD]|.int i,_,_=>by simp[eqD]|.tup ds,0,h=>by simp_all[H8]|.tup ds,n+1,h=>by simp only[H8]at h;simp only[eqD];exact pV h|.lst ds,0,h=>by simp_all[H8]|.lst ds,n+1,h=>by simp only[H8]at h;simp only[eqD];exact pV h|.ins _ _,_,h=>by simp_all[H8]|.dic _,_,h=>by simp_all[H8]|.dil _,_,h=>by simp_all[H8]
theorem pV:∀{ds:List A'} {n:Nat},lh ds n=d_->Aw ds ds=d_
 |[],_,_=>rfl|d::ds,n,h=>by simp only[lh,t_]at h;simp only[Aw,oG h.1,pV h.2,Bool.and_self]
end
theorem tW:∀{ds:List A'} {n i:Nat} {d:A'},lh ds n=d_->ds[i]?=a_ d->H8 d n=d_
 |[],_,_,_,_,h=>by simp at h|_::_,_,0,_,h,e=>by simp_all[lh,t_]|_::_,_,i+1,_,h,e=>by simp only[lh,t_]at h;exact tW h.2 (by simpa using e)
def ky(ds es:List A')(j:Nat):Bool:=match ds[j]?,es[j]? with
 |some a,a_ b=>eqD a b|_,_=>d_
inductive Sh(s:l_):A'->h_->Prop
 |non:Sh s .non .none
 |bl (b:Bool):Sh s (.bl b) (.bool b)
 |int (i:Int) (t:Nat):Sh s (.int i) (.int i t)
 |tup {ds:List A'} {l:i_} {is:Array h_} (p:s.heap.IsTuple l is):Sh s (.tup ds) (.ref l)
 |lst {ds:List A'} {l:i_} {is:Array h_} (p:s.heap.IsList l is):Sh s (.lst ds) (.ref l)
noncomputable def sq:A'->A'->Bool
 |.tup _,.tup _=>d_|.lst _,.lst _=>d_|_,_=>c_
def vo{a b:A'}(h:sq a b=d_):(∃ds es,a=.tup ds/\b=.tup es)\/∃ds es,a=.lst ds/\b=.lst es:=by
 unfold sq at h;split at h
 .exact .inl ⟨_,_,rfl,rfl⟩
 .exact .inr ⟨_,_,rfl,rfl⟩
 .cases h
def eqAt_U{s:l_}{a b:A'}{v:h_}(U:Sh s a u)(L:Sh s b v)(B:A.units<G3):sq a b=d_\/K5 A s u v (eqD a b):=match U,L with
 |.non,.non=>.inr (.same _)|.non,.bl b=>.inr (.none_bool b)|.non,.int b J=>.inr (.none_int b J)|.non,.tup q=>.inr (.none_tuple q B)|.non,.lst q=>.inr (.none_list q B)|.bl a,.non=>.inr (.bool_none a)|.bl a,.bl b=>.inr (.bool_bool a b)|.bl a,.int b J=>.inr (.bool_int a b J)|.bl a,.tup q=>.inr (.bool_tuple a q B)|.bl a,.lst q=>.inr (.bool_list a q B)|.int a t,.non=>.inr (.int_none a t)|.int a t,.bl b=>.inr (.int_bool a t b)|.int a t,.int b J=>.inr (.int_int a t b J)|.int a t,.tup q=>.inr (.int_tuple a t q B)|.int a t,.lst q=>.inr (.int_list a t q B)|.tup p,.non=>.inr (.tuple_none p B)|.tup p,.bl b=>.inr (.tuple_bool b p B)|.tup p,.int b J=>.inr (.tuple_int b J p B)|.tup _,.tup _=>.inl rfl|.tup p,.lst q=>.inr (.tuple_list p q B)|.lst p,.non=>.inr (.list_none p B)|.lst p,.bl b=>.inr (.list_bool b p B)|.lst p,.int b J=>.inr (.list_int b J p B)|.lst p,.tup q=>.inr (.list_tuple p q B)|.lst _,.lst _=>.inl rfl
def rcAt_U{s:l_}{a b:A'}{v:h_}(U:Sh s a u)(L:Sh s b v)(B:A.units<G3):sq a b=d_\/Oz A s u v (eqD a b):=match U,L with
 |.non,.non=>.inr (.none_none)|.non,.bl b=>.inr (.none_bool b)|.non,.int b J=>.inr (.none_int b J)|.non,.tup q=>.inr (.none_tuple q B)|.non,.lst q=>.inr (.none_list q B)|.bl a,.non=>.inr (.bool_none a)|.bl a,.bl b=>.inr (.bool_bool a b)|.bl a,.int b J=>.inr (.bool_int a b J)|.bl a,.tup q=>.inr (.bool_tuple a q B)|.bl a,.lst q=>.inr (.bool_list a q B)|.int a t,.non=>.inr (.int_none a t)|.int a t,.bl b=>.inr (.int_bool a t b)|.int a t,.int b J=>.inr (.int_int a t b J)|.int a t,.tup q=>.inr (.int_tuple a t q B)|.int a t,.lst q=>.inr (.int_list a t q B)|.tup p,.non=>.inr (.tuple_none p B)|.tup p,.bl b=>.inr (.tuple_bool b p B)|.tup p,.int b J=>.inr (.tuple_int b J p B)|.tup _,.tup _=>.inl rfl|.tup p,.lst q=>.inr (.tuple_list p q B)|.lst p,.non=>.inr (.list_none p B)|.lst p,.bl b=>.inr (.list_bool b p B)|.lst p,.int b J=>.inr (.list_int b J p B)|.lst p,.tup q=>.inr (.list_tuple p q B)|.lst _,.lst _=>.inl rfl
def rcNeAt_U{s:l_}{a b:A'}{v:h_}(U:Sh s a u)(L:Sh s b v)(B:A.units<G3):sq a b=d_\/ND A s u v (!eqD a b):=match U,L with
 |.non,.non=>.inr (.none_none)|.non,.bl b=>.inr (.none_bool b)|.non,.int b J=>.inr (.none_int b J)|.non,.tup q=>.inr (.none_tuple q B)|.non,.lst q=>.inr (.none_list q B)|.bl a,.non=>.inr (.bool_none a)|.bl a,.bl b=>.inr (.bool_bool a b)|.bl a,.int b J=>.inr (.bool_int a b J)|.bl a,.tup q=>.inr (.bool_tuple a q B)|.bl a,.lst q=>.inr (.bool_list a q B)|.int a t,.non=>.inr (.int_none a t)|.int a t,.bl b=>.inr (.int_bool a t b)|.int a t,.int b J=>.inr (.int_int a t b J)|.int a t,.tup q=>.inr (.int_tuple a t q B)|.int a t,.lst q=>.inr (.int_list a t q B)|.tup p,.non=>.inr (.tuple_none p B)|.tup p,.bl b=>.inr (.tuple_bool b p B)|.tup p,.int b J=>.inr (.tuple_int b J p B)|.tup _,.tup _=>.inl rfl|.tup p,.lst q=>.inr (.tuple_list p q B)|.lst p,.non=>.inr (.list_none p B)|.lst p,.bl b=>.inr (.list_bool b p B)|.lst p,.int b J=>.inr (.list_int b J p B)|.lst p,.tup q=>.inr (.list_tuple p q B)|.lst _,.lst _=>.inl rfl
section
variable{s:l_}
def vv(I:B6 X B2 σ H s)(B:aU F H){x:V}(o:H8 d n=d_)(q:aY X.K F d x)(r:C' x u):Sh s d u:=by
 cases d with
 |non=>cases(show x=.non from q);cases r;exact .non|bl b=>cases(show x=.bl b from q);cases r;exact .bl b|int i=>cases(show x=.int i from q);obtain⟨t,rfl⟩:=r;exact .int i t
 |tup ds=>obtain⟨l,xs,e,t,_⟩:=q;subst e;cases r;obtain⟨is,_,p,_⟩:=I.tuple (B.tup t);exact .tup (show s.heap.IsTuple l is.toArray from p)
 |lst ds=>obtain⟨l,xs,e,t,_⟩:=q;subst e;cases r;obtain⟨is,_,p,_⟩:=I.list (B.lst t);exact .lst p.isList
 |_=>simp[H8]at o
theorem pZ{n:Nat}(L:∀(d e:A') {v:V},aY X.K F d v->aY X.K F e v->H8 d n=d_->H8 e n=d_->d=e):∀(ds es:List A') {xs:bp},aw X.K F ds xs->aw X.K F es xs->lh ds n=d_->lh es n=d_->ds=es
 |[],[],_,_,_,_,_=>rfl|[],_::_,_,q,⟨_,_,e,_,_⟩,_,_=>by rw[show _=[]from q]at e;cases e|_::_,[],_,⟨_,_,e,_,_⟩,q,_,_=>by rw[show _=[]from q]at e;cases e|d::ds,e::es,_,⟨v,vs,e1,q1,Y⟩,⟨w,a,e2,q2,U⟩,J,B=>by rw[e1]at e2;cases e2;simp only[lh,t_]at J B;rw[L d e q1 q2 J.1 B.1,pZ L ds es Y U J.2 B.2]
def ux{e:A'}(L:sq d d=c_)(q:aY X.K F d v)(r:aY X.K F e v)(J:H8 d n=d_)(B:H8 e n=d_):d=e:=by
 cases d<;>first|(cases L;done)|(simp[H8]at J;done)|(simp only[aY]at q;subst q)
 all_goals cases e<;>first|(simp[H8]at B;done)|(simp only[aY]at r;first|(obtain⟨_,_,z,_⟩:=r;cases z;done)|(cases r<;>rfl))
theorem uy(I:B6 X B2 σ H s)(J:aU F H):∀(n:Nat) (d e:A') {v:V},aY X.K F d v->aY X.K F e v->H8 d n=d_->H8 e n=d_->d=e
 |n,.tup ds,e,v,⟨l,xs,e1,h1,a⟩,r,B,L=>by
  subst e1;cases n with
  |zero=>simp_all[H8]|succ n=>
   cases e with
   |tup es=>obtain⟨b,ys,e2,U,Y⟩:=r;cases e2;cases SqT.inj I (J.tup h1) (J.tup U);rw[pZ (uy I J n) _ _ a Y (by simp_all[H8]) (by simp_all[H8])]
   |lst es=>obtain⟨b,ys,e2,U,Y⟩:=r;cases e2;obtain⟨f,_,p1,_⟩:=I.list (J.lst U);obtain⟨c,_,p2,_⟩:=I.tuple (J.tup h1);exact FZ rfl (NC p1.isList (show s.heap.IsTuple l c.toArray from p2))
   |_=>first|(simp[H8]at L;done)|(simp only[aY]at r;cases r)
 |n,.lst ds,e,v,⟨l,xs,e1,h1,a⟩,r,B,L=>by
  subst e1;cases n with
  |zero=>simp_all[H8]|succ n=>
   cases e with
   |lst es=>obtain⟨b,ys,e2,U,Y⟩:=r;cases e2;cases SqL.inj I (J.lst h1) (J.lst U);rw[pZ (uy I J n) _ _ a Y (by simp_all[H8]) (by simp_all[H8])]
   |tup es=>obtain⟨b,ys,e2,U,Y⟩:=r;cases e2;obtain⟨f,_,p1,_⟩:=I.list (J.lst h1);obtain⟨c,_,p2,_⟩:=I.tuple (J.tup U);exact FZ rfl (NC p1.isList (show s.heap.IsTuple l c.toArray from p2))
   |_=>first|(simp[H8]at L;done)|(simp only[aY]at r;cases r)
 |_,.non,_,_,q,r,B,L=>ux rfl q r B L|_,.bl _,_,_,q,r,B,L=>ux rfl q r B L|_,.int _,_,_,q,r,B,L=>ux rfl q r B L|_,.ins _ _,_,_,_,_,B,_=>by simp_all[H8]|_,.dic _,_,_,_,_,B,_=>by simp_all[H8]|_,.dil _,_,_,_,_,B,_=>by simp_all[H8]
termination_by n=>n
theorem rcAt_S{a b:A'}{x:V}{v:h_}(I:B6 X B2 σ H s)(g:aU F H)(Q:sq a b=d_)(z:aY X.K F a x)(w:aY X.K F b y)(t:C' x u)(r:C' y v)(m:A.units<G3)(E:∀(ds es:List A') (j:Nat) (L J:A') (x y:V) (u v:h_),(a=.tup ds/\b=.tup es\/a=.lst ds/\b=.lst es)->ds[j]?=a_ L->es[j]?=a_ J->aY X.K F L x->aY X.K F J y->C' x u->C' y v->K5 A.in1 s u v (eqD L J)):Oz A s u v (eqD a b):=by
 rcases vo Q with⟨ds,es,rfl,rfl⟩|⟨ds,es,rfl,rfl⟩
 .skip;obtain⟨D,xs,e1,h1,d⟩:=z;subst e1;cases t;obtain⟨is,Y,p1,_⟩:=I.tuple (g.tup h1);obtain⟨C,ys,e2,B,c⟩:=w;subst e2;cases r;obtain⟨js,U,p2,_⟩:=I.tuple (g.tup B);have N:=Y.length;have K:=U.length;have P:=d.length;have O:=c.length;have q:=SeqAt.RcAt.tuples (A:=A) (e:=ky ds es) (show s.heap.IsTuple D is.toArray from p1) (show s.heap.IsTuple C js.toArray from p2) m (λj h1 B=>by
   obtain⟨i,p,n⟩:=Y.atA h1;obtain⟨h,o,g2⟩:=U.atA B;obtain⟨L,f,l⟩:=d.at p;obtain⟨J,k2,k⟩:=c.at o;rw[show ky ds es j=eqD L J by simp only[ky,f,k2]];exact E ds es j L J i h _ _ (.inl ⟨rfl,rfl⟩) f k2 l k n g2)
  rw[show is.toArray.size=ds.length by simp_all,show js.toArray.size=es.length by simp_all,Av _ (λj a b h1 B=>by simp_all[ky])]at q;exact q
 .skip;obtain⟨D,xs,e1,h1,d⟩:=z;subst e1;cases t;obtain⟨is,Y,p1,_⟩:=I.list (g.lst h1);obtain⟨C,ys,e2,B,c⟩:=w;subst e2;cases r;obtain⟨js,U,p2,_⟩:=I.list (g.lst B);have N:=Y.length;have K:=U.length;have P:=d.length;have O:=c.length;by_cases G:ds.length=es.length
  .have q:=SeqAt.RcAt.lists (A:=A) (e:=ky ds es) p1.isList p2.isList bi m (λj h1 B=>by
   obtain⟨i,p,n⟩:=Y.atA h1;obtain⟨h,o,g2⟩:=U.atA B;obtain⟨L,f,l⟩:=d.at p;obtain⟨J,k2,k⟩:=c.at o;rw[show ky ds es j=eqD L J by simp only[ky,f,k2]];exact E ds es j L J i h _ _ (.inr ⟨rfl,rfl⟩) f k2 l k n g2)
   rw[show is.toArray.size=ds.length by grind,aw.all_eq (F:=F) _ G (λj a b h1 B=>by simp_all[ky])]at q;exact q
  .rw[show eqD (.lst ds) (.lst es)=c_ from oF G];exact SeqAt.RcAt.lists_lengths (A:=A) p1.isList p2.isList bi m
theorem rcNeAt_S{a b:A'}{x:V}{v:h_}(I:B6 X B2 σ H s)(g:aU F H)(Q:sq a b=d_)(z:aY X.K F a x)(w:aY X.K F b y)(t:C' x u)(r:C' y v)(m:A.units<G3)(E:∀(ds es:List A') (j:Nat) (L J:A') (x y:V) (u v:h_),(a=.tup ds/\b=.tup es\/a=.lst ds/\b=.lst es)->ds[j]?=a_ L->es[j]?=a_ J->aY X.K F L x->aY X.K F J y->C' x u->C' y v->K5 A.in1 s u v (eqD L J)):ND A s u v (!eqD a b):=by
 rcases vo Q with⟨ds,es,rfl,rfl⟩|⟨ds,es,rfl,rfl⟩
 .skip;obtain⟨D,xs,e1,h1,d⟩:=z;subst e1;cases t;obtain⟨is,Y,p1,_⟩:=I.tuple (g.tup h1);obtain⟨C,ys,e2,B,c⟩:=w;subst e2;cases r;obtain⟨js,U,p2,_⟩:=I.tuple (g.tup B);have N:=Y.length;have K:=U.length;have P:=d.length;have O:=c.length;have q:=SeqAt.RcNeAt.tuples (A:=A) (e:=ky ds es) (show s.heap.IsTuple D is.toArray from p1) (show s.heap.IsTuple C js.toArray from p2) m (λj h1 B=>by
   obtain⟨i,p,n⟩:=Y.atA h1;obtain⟨h,o,g2⟩:=U.atA B;obtain⟨L,f,l⟩:=d.at p;obtain⟨J,k2,k⟩:=c.at o;rw[show ky ds es j=eqD L J by simp only[ky,f,k2]];exact E ds es j L J i h _ _ (.inl ⟨rfl,rfl⟩) f k2 l k n g2)
  rw[show is.toArray.size=ds.length by simp_all,show js.toArray.size=es.length by simp_all,Av _ (λj a b h1 B=>by simp_all[ky])]at q;exact q
 .skip;obtain⟨D,xs,e1,h1,d⟩:=z;subst e1;cases t;obtain⟨is,Y,p1,_⟩:=I.list (g.lst h1);obtain⟨C,ys,e2,B,c⟩:=w;subst e2;cases r;obtain⟨js,U,p2,_⟩:=I.list (g.lst B);have N:=Y.length;have K:=U.length;have P:=d.length;have O:=c.length;by_cases G:ds.length=es.length
  .have q:=SeqAt.RcNeAt.lists (A:=A) (e:=ky ds es) p1.isList p2.isList (by simp;lia) m (λj h1 B=>by
   obtain⟨i,p,n⟩:=Y.atA h1;obtain⟨h,o,g2⟩:=U.atA B;obtain⟨L,f,l⟩:=d.at p;obtain⟨J,k2,k⟩:=c.at o;rw[show ky ds es j=eqD L J by simp only[ky,f,k2]];exact E ds es j L J i h _ _ (.inr ⟨rfl,rfl⟩) f k2 l k n g2)
   rw[show is.toArray.size=ds.length by simp;lia,aw.all_eq (F:=F) _ G (λj a b h1 B=>by simp_all[ky])]at q;exact q
  .rw[show eqD (.lst ds) (.lst es)=c_ from oF G];exact SeqAt.RcNeAt.lists_lengths (A:=A) p1.isList p2.isList (by simp;lia) m
theorem ok_sub{a b U L:A'}{es:List A'}(J:H8 a n=d_)(B:H8 b n=d_)(h:a=.tup ds/\b=.tup es\/a=.lst ds/\b=.lst es)(Y:ds[j]?=a_ U)(k2:es[j]?=a_ L):∃m,n=m+1/\H8 U m=d_/\H8 L m=d_:=by
 cases n with
 |zero=>grind[H8]|succ m=>exact⟨m,rfl,by rcases h with⟨rfl,rfl⟩|⟨rfl,rfl⟩<;>simp only[H8]at J B<;>exact⟨tW J Y,tW B k2⟩⟩
theorem eqAt_N(I:B6 X B2 σ H s)(c:aU F H):∀(n:Nat) (a b:A') {x y:V} {u v:h_} {A:HQ},H8 a n=d_->H8 b n=d_->aY X.K F a x->aY X.K F b y->C' x u->C' y v->A.units+n<G3->K5 A s u v (eqD a b):=by
 intro n
 induction n with
 |zero=>intro a b x y u v A J d B Y U L k;refine(eqAt_U (vv I c J B U) (vv I c d Y L) ac).resolve_left λh=>?_;rcases vo h with⟨ds,es,rfl,rfl⟩|⟨ds,es,rfl,rfl⟩<;>simp[H8]at J
 |succ n K=>
  intro a b x y u v A J d B Y U L k;rcases eqAt_U (A:=A) (vv I c J B U) (vv I c d Y L) ac with h|h
  .by_cases f:x=y
   .subst f;cases(show a=b from uy I c (n+1) a b B Y J d);rw[oG J];rcases vo h with⟨ds,es,rfl,_⟩|⟨ds,es,rfl,_⟩<;>(obtain⟨g,xs,e1,_⟩:=B;subst e1;cases U;cases L;exact SeqAt.EqAt.same _)
   .have q:=rcAt_S (A:=A) I c h B Y U L ac λds es j P O p o t r l i k2 E D N g2=>by
     obtain⟨m,e,C,w⟩:=ok_sub J d l i k2
     grind
    rcases vo h with⟨ds,es,rfl,rfl⟩|⟨ds,es,rfl,rfl⟩<;>(obtain⟨g,xs,e1,_⟩:=B;obtain⟨G,ys,e2,_⟩:=Y;subst e1;subst e2;cases U;cases L;exact SeqAt.EqAt.of_refs (λz=>f (by rw[z])) q)
  simp_all
def eqAt_D(I:B6 X B2 σ H s)(e:aU F H)(a b:A'){x:V}{v:h_}(c:H8 a n=d_)(Y:H8 b n=d_)(U:aY X.K F a x)(L:aY X.K F b y)(J:C' x u)(B:C' y v)(d:A.units+n<G3):K5 A s u v (eqD a b):=eqAt_N I e n a b c Y U L J B d
theorem eqAt_I(I:B6 X B2 σ H s)(h:aU F H){a b:A'}(U:H8 a n=d_)(L:H8 b n=d_)(k:A.units+n<G3)(ds es:List A')(j:Nat)(J B:A')(x y:V)(u v:h_)(g:a=.tup ds/\b=.tup es\/a=.lst ds/\b=.lst es)(f:ds[j]?=a_ J)(k2:es[j]?=a_ B)(e:aY X.K F J x)(d:aY X.K F B y)(i:C' x u)(g2:C' y v):K5 A.in1 s u v (eqD J B):=by obtain⟨m,rfl,c,Y⟩:=ok_sub U L g f k2;exact eqAt_D I h J B c Y e d i g2 ac
theorem rcAt_D(I:B6 X B2 σ H s)(B:aU F H)(a b:A'){x:V}{v:h_}(d:H8 a n=d_)(c:H8 b n=d_)(Y:aY X.K F a x)(U:aY X.K F b y)(L:C' x u)(J:C' y v)(e:A.units+n<G3):Oz A s u v (eqD a b):=
 (rcAt_U (vv I B d Y L) (vv I B c U J) ac).elim (λh=>rcAt_S I B h Y U L J ac (eqAt_I I B d c e)) id
theorem rcNeAt_D(I:B6 X B2 σ H s)(B:aU F H)(a b:A'){x:V}{v:h_}(d:H8 a n=d_)(c:H8 b n=d_)(Y:aY X.K F a x)(U:aY X.K F b y)(L:C' x u)(J:C' y v)(e:A.units+n<G3):ND A s u v (!eqD a b):=
 (rcNeAt_U (vv I B d Y L) (vv I B c U J) ac).elim (λh=>rcNeAt_S I B h Y U L J ac (eqAt_I I B d c e)) id
end
section
variable{W:cv}{own:Bool}
def aE.blS{s:l_}{b:Bool}(p:aE K W own F H (.ok (.bl b)) Q)(s1:aU F H)(I:B6 X B2 σ H s):EP X B2 σ Q (.bool b) s:=⟨.bl b,H,I,rfl,p.bl s1⟩
theorem A7(d:X.A.units+64<G3)(c: ~~~(X.K=K)):Op2 K W own X (Gy .Eq) eqM:=by
 subst c;intro B2 s σ H x y v u Q I L J h;obtain⟨F,a,b,s1,Y,U,p⟩:=h;unfold eqM at p;by_cases B:(H8 a 40&&H8 b 40)=d_
 .rw[u_ B]at p;simp only[t_]at B;exact rcAt_D I s1 a b B.1 B.2 Y U L J ac _ _ _ _ (p.blS s1 I)
 .rw[x_ B]at p;exact p.stuck
theorem o_ne(d:X.A.units+64<G3)(c: ~~~(X.K=K)):Op2 K W own X (Gy .NotEq) neM:=by
 subst c;intro B2 s σ H x y v u Q I L J h;obtain⟨F,a,b,s1,Y,U,p⟩:=h;unfold neM at p;by_cases B:(H8 a 40&&H8 b 40)=d_
 .rw[u_ B]at p;simp only[t_]at B;exact rcNeAt_D I s1 a b B.1 B.2 Y U L J ac _ _ _ _ (p.blS s1 I)
 .rw[x_ B]at p;exact p.stuck
end
section
variable{s:l_}
theorem B6.sS{t':Nat}{T:i_}(I:B6 X B2 σ H s)(a:∀b∈ch,Cq X B2 H b)(k:∀b o,b∉ch->s.heap.get? b=a_ o->h'.get? b=a_ o)(d:s.heap.objs.size<=T)(Y:xs.length<=q_/\∃its:bv,D' xs its/\N5 h' T its.toArray):B6 X B2 σ (upd H T (.tup xs)) {s with heap:=h',toks:=t'}:=by
 have B:H T=f_:=I.hok.fresh d;have f:∀b u,H b=a_ u->b∉ch:=λb u e z=>by rw[(a b z).1]at e;lia
 have U:∀{b:i_} {o:L7},s.heap.get? b=a_ o->b≠T:=λ{b o} e=>FR (C_ (s_ e) d);refine I.step (g':=s.gens) (d':=s.drawn) (ch:=ch) (λb L=>?_) (λb o _ _ J e _=>k b o J e) (λb o _ _ J e _=>⟨o.slots,k b o J e⟩) (λb o _ e n=>by rw[aA (U e)];exact n)
  (λb o J e=>⟨o,k b o J e⟩) (λb ys e=>by rw[aA (aM e B)];exact e) (λb o u e=>by rw[aA (aM e B)];exact e) (λb ps e=>⟨#[],by rw[aA (aM e B),e];simp⟩) (λm h=>?_) (λb u e=>?_) I.bare
 .obtain⟨l,i,j,f3,f4,f5⟩:=a b L;exact⟨f3,i,f4,f5⟩
 .obtain⟨o,es,ep,g,r⟩:=h;exact⟨o,es,ep,k _ o (λz=>(a _ z).2.1 rfl) g,r⟩
 .by_cases L:b=T
  .subst L;rw[av]at e;cases e;exact Y
  .rw[aA L]at e;refine(I.hok b u e).stay (λc v J q=>k c v ?_ q) (λc q=>?_) λc ys q=>?_
   .grind
   .rw[aA (aM q B)];exact q
   grind[aA]
theorem B6.sT{t':Nat}(I:B6 X B2 σ H s)(J:∀b∈ch,Cq X B2 H b)(k:∀b o,b∉ch->s.heap.get? b=a_ o->h'.get? b=a_ o):B6 X B2 σ H {s with heap:=h',toks:=t'}:=by
 have L:∀b u,H b=a_ u->b∉ch:=λb u e z=>by rw[(J b z).1]at e;lia
 refine I.step (g':=s.gens) (d':=s.drawn) (ch:=ch) (λb a=>?_) (λb o _ _ B e _=>k b o B e) (λb o _ _ B e _=>⟨o.slots,k b o B e⟩) (λb o _ e n=>n)
  (λb o B e=>⟨o,k b o B e⟩) (λb ys e=>e) (λb o u e=>e) (λb ps e=>⟨#[],bi⟩) (λm Y=>?_) (λb u e=>?_) I.bare
 .obtain⟨g,d,f,f3,f4,f5⟩:=J b a;exact⟨f3,d,f4,f5⟩
 .obtain⟨o,es,ep,U,r⟩:=Y;exact⟨o,es,ep,k _ o (λz=>(J _ z).2.1 rfl) U,r⟩
 .refine(I.hok b u e).stay (λc v B q=>k c v ?_ q) (λ_ q=>q) λ_ _ q=>q
  grind
end
def Ite(K:Pn)(a:i_):It:=
 ⟨λi H=>∃xs x,SqL K H a xs/\xs[i]?=a_ x,λi H x H'=>∃T y,H T=f_/\x=.ref T/\H'=upd H T (.tup [.int i,y])/\∀xs,SqL K H a xs->xs[i]?=a_ y,λi H=>∃xs,SqL K H a xs/\xs.length<=i⟩
theorem ve(a e U:i_)(j:e≠U):Turn P w K (.Tuple elts k pos) (Ite K a) [e,U] e (λi h=>(∃B,IsEnum h e U i B)/\h.IsListIter U a i) where
 mem:=by simp
 obj:=λi h st b L=>by
  obtain⟨⟨B,Y⟩,o,e1,c,d⟩:=st
  grind
 keep:=λi h h' st G=>by obtain⟨⟨B,Y⟩,J⟩:=st;exact⟨⟨B,G e ad _ Y⟩,J.at λo x=>G U ad o x⟩
 item:=by
  intro X D hw F N i B2 s σ H E I n st A;subst D hw F;obtain⟨⟨B,Y⟩,J⟩:=st;obtain⟨xs,x,m,t⟩:=A;obtain⟨its,r,p,R⟩:=I.list m;obtain⟨u,hu,Q⟩:=r.get t;refine wpAny_pyNext_enum_item Y J p.isList (x:=u) bi j λh1 T g hT hsz W=>?_;refine⟨_,rfl,NS T λO C f=>?_⟩
  have v:e<s.z:=s_ Y;have l:s.z≠e:=HU v;have I1:B6 X B2 σ (upd H s.z (.tup [.int i,x])) {s with heap:=O,toks:=s.toks+1}:=I.sS (ch:=[e,U]) n (λb o L q=>by have h3:=W b o (λz=>L (by simp[z])) (λz=>L (by simp[z])) q;exact(f.2 b (λz=>L (by simp[z]))).trans h3) (k_ _) ⟨ad,[.int i s.toks,u],.cons ⟨_,rfl⟩ (.cons Q .nil),⟨_,(f.2 _ l).trans hT,rfl,0,rfl⟩⟩
  refine⟨.ref s.z,_,I1,rfl,⟨s.z,x,I.hok.fresh (k_ _),rfl,rfl,λys S=>by rw[I.oz S m];exact t⟩,⟨⟨u,by simpa using C⟩,g.at λo y=>(f.2 U j.symm).trans y⟩,λb L=>?_⟩
  have Z:=(n b L).1;have:b≠s.z:=by
   rcases p_.mp L with rfl|L
   .exact l.symm
   .have:b=U:=by simpa using L
    subst this;obtain⟨o,e1,_⟩:=J;exact FR (s_ e1)
  simp_all[aA]
 done:=by intro X D hw F N i B2 s σ H E I n st A;subst D hw F;obtain⟨⟨B,Y⟩,J⟩:=st;obtain⟨xs,m,t⟩:=A;obtain⟨its,r,p,R⟩:=I.list m;have hl:=r.length;exact wpAny_pyNext_enum_end (I.ok.hd N) Y J p.isList (Ja bi) λO eb=>⟨rfl,I.sT (t':=s.toks) (ch:=[e,U]) n λb o L q=>eb b o (λz=>L (by simp[z])) q⟩
 self:=λ_ _ _ _ _ st h=>by obtain⟨⟨B,Y⟩,_⟩:=st;exact J2 Y h
theorem pW:∀(ds:List A') (k i:Nat),(eY k ds)[i]?=(ds[i]?).map λd=>.tup [.int ((k+i:Nat):Int),d]
 |[],k,i=>by rfl|d::ds,k,0=>by rfl|d::ds,k,i+1=>by
  rw[eY,Hc,pW ds (k+1) i,Hc]
  lia
theorem jR:∀(ds:List A') (k:Nat),(eY k ds).length=ds.length
 |[],_=>rfl|d::ds,k=>by rw[eY,E_,jR ds,E_]
theorem wA(t:SqL K F a xs)(z:aw K F ds xs):o6 K F (Ite K a) (eY 0 ds) where
 go:=λi F' H' s1 s2 hi=>⟨xs,xs[i]'(by rw[z.length];simp_all[jR]),s2.lst (s1.lst t),ad⟩
 yl:=λi F' H' x H2 d s1 s2 J L=>by
  obtain⟨T,y,U,ex,Y,L⟩:=L;subst ex Y;rw[pW]at J;cases B:ds[i]? with
  |none=>simp_all|some d'=>
   rw[B]at J;simp at J;subst J;obtain⟨v,e1,q⟩:=z.get B;have e2:=L xs (s2.lst (s1.lst t));rw[e1]at e2;cases e2;refine⟨upd F' T (.tup [.int i,y]),B4.lay s2 U,T,_,rfl,SqT.of av,?_⟩
   exact⟨.int i,[y],rfl,rfl,y,[],rfl,(q.mono s1).mono (aU.upd (s2.free U)),rfl⟩
 st:=λF' H' s1 s2=>⟨xs,s2.lst (s1.lst t),by rw[z.length,jR];simp⟩
section
variable{W:cv}{own:Bool}{a b:Hb}{p:MJ}{f:ah->M A'}{fr:ah->M (List A')}
def iEnum(K:Pn)(tl:TE):TI:=λσ H R=>tl σ H λx H1=>∃a,x=.ref a/\(∃xs,SqL K H1 a xs)/\R (Ite K a) H1
def pi_enum(m:Gl X "enumerate")(g:X.mg "enumerate"=f_)(i:PE X a tl)(Y: ~~~(j_ [a] X.env=[(c_,Ga a X.env)])):
  PI X (.Tuple elts k q) (.Call (.Name "enumerate" p) [a] [] pos) (iEnum X.K tl):=by
 intro B2 s σ H R I h;have n:PA X [a] (qz tl tNil):=bR i fJ Y;refine OZ (jd I m g boot_enumerate (GB (E' (n pos B2 s σ H (λvs H1=>match vs with
  |[x]=>∃a,x=.ref a/\(∃xs,SqL X.K H1 a xs)/\R (Ite X.K a) H1
  |_=>False) I h) λus s1 ⟨vs,H1,J,e,q1⟩=>?_) Y rfl))
 rcases vs with _|⟨x,_|⟨_,_⟩⟩
 .exact GG q1
 rotate_left
 .exact GG q1
 .obtain⟨l,e1,⟨xs,f⟩,q⟩:=q1;subst e1;obtain⟨u,rfl,d⟩:=e.one;cases d;obtain⟨its,t,pl,v⟩:=J.list f;refine P0 pl.isList λo c L hsz j=>?_;have r:B6 X B2 σ H1 {s1 with heap:=o}:=J.kept (t':=s1.toks) j;refine J2 c ?_;refine⟨s1.z+1,[s1.z+1,s1.z],_,_,H1,rfl,r,ve l _ _ (MK _),⟨⟨_,c⟩,L⟩,λb U=>?_,q⟩
  have B:s1.z<=b:=by
   rcases p_.mp U with rfl|U
   .simp
   .have:b=s1.z:=by simpa using U
    exact JT this.symm
  exact J.fpOk B (J.hok.fresh B)
theorem di_enum(J:X.mg "enumerate"=f_)(L:DE K W c_ X a fa)(U: ~~~(Gl X "enumerate"))(B: ~~~(j_ [a] X.env=[(c_,Ga a X.env)]))(c: ~~~(X.K=K)):
  DI K W X (.Tuple elts k q) (.Call (.Name "enumerate" p) [a] [] pos) (C0 fa):=by
 subst c;exact(pi_enum U J L B).imp λ_ _ _=>by
   intro h;obtain⟨F,ρ,r,s,p⟩:=h;refine aF r s (λe f=>?_) λd Y v F1 H1 s1 q1=>?_
   .simp_all[C0]
   .have z:C0 fa ρ=(kL d).bind λds=>.ok (eY 0 ds):=by unfold C0;rw[Y];rfl
    rw[z]at p;cases d with
    |lst ds=>obtain⟨b,xs,e,t,z⟩:=q1;exact⟨b,e,⟨xs,s1.fh.lst t⟩,p _ F1 H1 s1 (wA t z)⟩
    |_=>exact(W.ns p).elim
def bS:PTs X [] (tDT K W eW):=λB2 s σ H Q I h=>pts_nil B2 s σ H Q I (by obtain⟨F,ρ,r,s1,q⟩:=h;exact q F H (B4.refl s1))
def cC:PGs X [] (gd []):=by intro B2 s σ H vs us Q I r h;obtain⟨e,h⟩:=h;subst e;cases r;exact assignInOrder_nil ⟨σ,H,I,h⟩
def aH{is:bo}(U:X.N.Nodup)(Y:PGs X es (gd is))(hi: ~~~(X.N[i]?=a_ x))(B:autoParam (Loc X.env.scope x) Jq6)(L:autoParam (X.fn x=d_\/X.env.scope.names.lookup x=a_ .local) Jq4)(J: ~~~((Ha (.Name x p::es) X.env).map (·.2)=JD (.Name x p) X.env::(Ha es X.env).map (·.2))):PGs X (.Name x p::es) (gd (i::is)):=A0 (yj U hi B L) Y J
theorem jS{is:bo}(f:X.calm=d_)(h:PGs X es (gd is))(c: ~~~((Ha es X.env).length=is.length))(B: ~~~((Ha es X.env).findIdx? (·.1)=f_))(g: ~~~(X.K=K)):DG K X (.Tuple es k pos) (.tp is):=by subst g;intro B2 s σ H v u Q I r hw;obtain⟨a,xs,e1,Y,d,hw⟩:=hw;subst e1;cases r;obtain⟨its,J,U,j⟩:=I.tuple Y;refine assign_Tuple_tuple (I.ok.hd f) U (by simp[c,<- d,J.length]) B λh' L=>?_;have i:B6 X B2 σ H {s with heap:=h'}:=I.kept (t':=s.toks) λb o e=>L b o (FR (s_ e)) e;exact h B2 _ σ H xs _ Q i bi hw
theorem nk{ix:List (Option Nat)}:∀{is:bo},(∀i∈is,ix[i]?=a_ f_)->∀vs J H' (Q:St->Hp->Prop),gd is vs J H' Q->gd is vs J H' λB H2=>Q B H2/\∀(i:Nat) v,J[i]?=a_ (a_ v)->(∃j,ix[i]?=a_ (a_ j))->B[i]?=a_ (a_ v)
 |[],_,vs,J,H',Q,⟨e,q⟩=>⟨e,q,λ_ _ h _=>h⟩|i::is,c,vs,J,H',Q,⟨v,r,e,q⟩=>by
  refine⟨v,r,e,?_⟩
  have:=nk (ix:=ix) (is:=is) (λj f=>c j (by simp[f])) r (J.set i (a_ v)) H' Q q;have U:∀{is:bo} {vs:bp} {L:St} {H1:Hp} {Q Y:St->Hp->Prop},(∀B H2,Q B H2->Y B H2)->gd is vs L H1 Q->gd is vs L H1 Y:=by
   intro is
   induction is with
   |nil=>rintro vs L H1 Q Y m ⟨e,q⟩;exact⟨e,m _ _ q⟩
   |cons i is b=>rintro vs L H1 Q Y m ⟨v,r,e,q⟩;exact⟨v,r,e,b m q⟩
  refine U (λB H2 a=>?_) this;obtain⟨q1,q2⟩:=a;refine⟨q1,λj w h a=>?_⟩
  obtain⟨l,d⟩:=a;refine q2 j w ?_ ⟨l,d⟩
  grind
def jG{is:bo}(h:∀i∈is,ix[i]?=a_ f_):kS ix (gP K (.tp is)):=λx B H' Q ⟨a,xs,e,t,l,q⟩=>⟨a,xs,e,t,l,nk h xs B H' Q q⟩
def dQ{L:i_}{s:l_}(U:N'.Nodup)(hi: ~~~(N'[i]?=a_ x))(B:autoParam (Loc (aQ X N' sc L cs s H fp).env.scope x) Jq6)(J:autoParam ((aQ X N' sc L cs s H fp).fn x=d_\/(aQ X N' sc L cs s H fp).env.scope.names.lookup x=a_ .local) Jq4):DG K (aQ X N' sc L cs s H fp) (.Name x pos) (.nm i):=pg_c U hi B J
variable{pt:Pat}
def cS(N':List Gh)(ix:List (Option Nat))(hi:DI K W X tg iter fi)(a:∀L cs s H fp,DG K (aQ X N' sc L cs s H fp) tg pt)(U:kS ix (gP K pt))(B:∀L cs s H fp,PTs (aQ X N' sc L cs s H fp) ifs (tDT K W ft))(b:∀L cs s H fp,DE K W c_ (aQ X N' sc L cs s H fp) elt fe)(c: ~~~(X.calm=d_))(ok: ~~~(bj X.N X.env.scope N' sc ix=d_))(Y: ~~~(sc.kind=.function))(J:autoParam (∀x,Ht iter X.env x=GU x) Jq3):
  DE K W d_ X (.ListComp elt [⟨tg,iter,ifs,0⟩] sc pos) (aZ fi ix pt ft fe):=(Dv N' ix c hi a U B b ok Y J).imp λ_ _ _=>ya
def tD_fr(h:tD K W own f σ H Q):tD K W d_ f σ H Q:=by
 cases own with
 |true=>exact h|false=>obtain⟨F,ρ,r,s,p⟩:=h;exact⟨F,ρ,r,s,p.frz⟩
def oI(own:Bool)(N':List Gh)(ix:List (Option Nat))(g:X.N.Nodup)(hi:DI K W X tg iter fi)(d:∀L cs s H fp,DG K (aQ X N' sc L cs s H fp) tg pt)(a:kS ix (gP K pt))(U:∀L cs s H fp,PTs (aQ X N' sc L cs s H fp) ifs (tDT K W ft))(e:∀L cs s H fp,DE K W c_ (aQ X N' sc L cs s H fp) elt fe)(c: ~~~(X.N[i]?=a_ x))(J: ~~~(X.env.scope.names.lookup x=a_ .local))(f: ~~~(X.calm=d_))(B: ~~~(HB (.ListComp elt [⟨tg,iter,ifs,0⟩] sc pos) (a_ (.Name x py)) spos.line X.env=GU d_))(ok: ~~~(bj X.N X.env.scope N' sc ix=d_))(b: ~~~(sc.kind=.function))(Y:autoParam (∀x,Ht iter X.env x=GU x) Jq3):
  DS K W ro X OL O (aft own i O) (.Assign [.Name x py] (.ListComp elt [⟨tg,iter,ifs,0⟩] sc pos) spos) (aC O i (aZ fi ix pt ft fe)):=λF0 H0=>
 (k9 N' ix g c J f hi d a U e B ok b Y).imp λD σ H t=>ya (tD_fr (D3 t))
def ds_compA(own:Bool)(N':List Gh)(ix:List (Option Nat))(g:X.N.Nodup)(hi:DI K W X tg iter fi)(d:∀L cs s H fp,DG K (aQ X N' sc L cs s H fp) tg pt)(a:kS ix (gP K pt))(U:∀L cs s H fp,PTs (aQ X N' sc L cs s H fp) ifs (tDT K W ft))(e:∀L cs s H fp,DE K W c_ (aQ X N' sc L cs s H fp) elt fe)(c: ~~~(X.N[i]?=a_ x))(J: ~~~(X.env.scope.names.lookup x=a_ .local))(f: ~~~(X.calm=d_))(B: ~~~(HB (.ListComp elt [⟨tg,iter,ifs,0⟩] sc pos) (a_ (.Name x py)) spos.line X.env=GU d_))(ok: ~~~(bj X.N X.env.scope N' sc ix=d_))(b: ~~~(sc.kind=.function))(Y:autoParam (∀x,Ht iter X.env x=GU x) Jq3):
  DS K W ro X OL O (aft own i O) (.Assign [.Name x py] (.ListComp elt [⟨tg,iter,ifs,0⟩] sc pos) spos) (xZ own i (aZ fi ix pt ft fe)):=λF0 H0=>
 (k9 N' ix g c J f hi d a U e B ok b Y).imp λD σ H t=>ya (tD_fr (rs_setA t))
def ds_setI{r:MJ}(d:DE K W c_ X e f)(c:DE K W c_ X b fk)(a:(i∈O)⁻¹)(j: ~~~(X.N[i]?=a_ x))(U:autoParam (Vis X.env.scope x) Jq5)(g:((x==("__debug__":Gh))=c_)⁻¹)(L:((x==("__classdict__":Gh))=c_)⁻¹)(h:autoParam (∀v,JD (.Subscript (.Name x p) b q) X.env v=(do
   let B <- IL [v] (Ga (.Name x p) X.env)
   let J <- IL [v,B] (Ga b X.env)
   K_ q
   IL [v,B,J] (O7 B J v)
   Qu [v,B,J] [])) Jq3)(Y: ~~~(Kk [.Subscript (.Name x p) b q] e r.line X.env=GU c_))(hw: ~~~(Kl [.Subscript (.Name x p) b q] e X.env=GU f_))(h1: ~~~((Ha [.Subscript (.Name x p) b q] X.env).map (·.2)=[JD (.Subscript (.Name x p) b q) X.env])):
  DS K W ro X OL O O (.Assign [.Subscript (.Name x p) b q] e r) (xY i fk f):=λF0 H0=>(vN d (Dr (pv i j U g L) c set_list h) Y hw h1).imp λ_ _ _=>rs_setI a
def EE{pt:Pat}(J:DE K W c_ X e f)(U:DG K X tg pt)(n:(∀i∈pt.names,i∉O)⁻¹)(L: ~~~(Kk [tg] e pos.line X.env=GU c_))(hw: ~~~(Kl [tg] e X.env=GU f_))(h1: ~~~((Ha [tg] X.env).map (·.2)=[JD tg X.env])):DS K W ro X OL O O (.Assign [tg] e pos) (xX O pt f):=λF0 H0=>(vN J U L hw h1).imp λ_ _ _=>by
    intro t;obtain⟨FB,F,ρ,r,p⟩:=t;refine aF r.iO r.st.fh (λe J=>p.eX r.st (by unfold xX;rw[J];rfl)) λd Y v F1 H1 s1 q=>?_;have z:xX O pt f ρ=(dI pt d ρ).bind λρ'=>.ok (.nx ρ'):=by unfold xX;rw[Y];rfl
    rw[z]at p;cases e:dI pt d ρ with
    |error x=>have:=jX e;subst this;exact p.stuck (by rw[e];rfl)|ok ρ'=>rw[e]at p;exact gP_rep (r.step s1) n q e λB r'=>p B F1 H1 r'
inductive SpD(K:Pn)(vs:List V)(H:Hp)(n:Nat)(P:Hp->List A'->Prop):Prop
 |mk (F:Hp) (ds:List A') (s:aU F H) (q:aw K F ds vs) (l:ds.length=n) (p:P F ds)
def spF(K:Pn)(ro:Bool)(g:List A'->M A')(n:Nat):Sp:=λvs H Q _=>SpD K vs H n λF ds=>aE K HH ro F H (g ds) Q
theorem zM(h:ds.length≠n):bq nN n g ds=stk:=by simp_all[bq,x_]
theorem EU(F:jr X.prog X.w X.K X.mg X.base CX0 k fad fd ps (spF K ro (bq nN n g) n))(a:jo k X.A)(b:X.mg x=a_ (.ref fad))(c:Kw X.K (.ref fad)=d_)(f:Binds X.K fd ps [])(i:DA K HH X (e::es) fr)(d: ~~~(Gl X x))(U:((x==("__debug__":Gh))=c_)⁻¹)(J: ~~~(j_ (e::es) X.env=(c_,Ga e X.env)::j_ es X.env))(L: ~~~((Hl pos (j_ es X.env)).any (·.1)=c_)):
  DE K HH ro X (.Call (.Name x p) (e::es) [] pos) (fL (bq nN n g) fr):=by
 refine PE.imp (ym F a d b c f .nil vQ i U J L) λσ H Q h=>?_;obtain⟨F,ρ,r,s,p⟩:=rd_L h;refine⟨F,ρ,r,s,?_⟩
 cases e1:fr ρ with
 |error z=>simp_all|ok ds=>
  rw[e1]at p;intro vs F' H' st q;obtain⟨F1,B,s1,q1,z⟩:=p vs F' H' st q;show spF K ro (bq nN n g) n (vs++[]) H' Q E0;rw[Hf];by_cases Y:B.length=n
  .exact⟨F1,B,s1,q1,Y,z⟩
  .rw[zM Y]at z;exact aE.stuck z
end
section
variable{base:Gr}
theorem CW{vs:bp}(q:aw K F ds vs)(h:(ds.map a_++Gz (N.length-ds.length) f_)[i]?=a_ (a_ d)):AtI (λv=>(start N vs)[i]?=a_ (a_ v)) (aY K F d):=by
 have hi:i<ds.length:=by
  by_cases hi:i<ds.length
  .exact hi
  .simp_all[Ir,NH]
 rw[GC bi,FQ]at h;cases e:ds[i]? with
 |none=>rw[e]at h;cases h|some d'=>
  rw[e]at h;cases h;obtain⟨v,e1,q1⟩:=q.get e;refine⟨v,?_,q1⟩
  unfold start;rw[GC (by rw[n_,q.length];exact hi),FQ,e1];rfl
theorem fn_D{st:G1}{f:i_}(F:Fun K x qual st f fd)(S:j8 N ps (aO st))(ro:Bool)(g:ah->M B')(U:∀(cdv:h_) (A:HQ) (outer:List Oe) (s:l_) (H:Hp) (E:XK),jo k (A.deeper (Lj qual (aO st) s.heap.objs.size f cdv)) ->
   DSs K HH ro (cxOf CX0 P w K mg base N qual (aO st) f cdv A outer s H E).nox [] [] O' (cR st) g):jr P w K mg base CX0 (k+1) f fd ps (spF K ro (bq N.length ps.length g) ps.length):=by
 have J:ps.length<=N.length:=by have:=IV JE S.pre;rw[GL]at this;lia
 refine F.okX S (λvs H Q E ⟨F,ds,s,q,l,p⟩=>by rw[q.length,l]) λcdv A outer s H vs Q E B L=>?_;obtain⟨F1,ds,s1,q,l,p⟩:=L;refine⟨_,U cdv A outer s H E B F1 H,F1,F1,ds.map a_++Gz (N.length-ds.length) f_,?_,?_⟩
 .refine⟨B4.refl s1,aU.refl _,?_,λi d e _=>CW q e,(λi d e h=>nomatch h),(λi j ds es a h=>nomatch h)⟩
  unfold start;rw[FK,FK,n_,n_,N9,N9,q.length]
 .have e1:bq N.length ps.length g ds=(g (ds.map a_++Gz (N.length-ds.length) f_)).bind λfl=>match fl with
   |.nx _=>.ok .non|.rt d=>.ok d|_=>stk:=by unfold bq;exact u_ l
  rw[e1]at p;cases e2:g (ds.map a_++Gz (N.length-ds.length) f_)with
  |error z=>rw[e2]at p;exact p|ok fl=>
   rw[e2]at p;cases fl with
   |nx ρ=>exact λσ F H r=>p .non F H r.st (by cases ro<;>rfl)
   |rt d=>exact λv F H st q=>p v F H st q|bk ρ=>exact aE.stuck p|ct ρ=>exact aE.stuck p
def spLaw(K:Pn):Sp:=λvs H Q _=>∃(a:i_) (ns:bm),vs=[.ref a]/\SqL K H a (ns.map V.int)/\ns.length<=63/\∀H',Q (.bl d_) H'
theorem kq{F:Hp}:∀is:bm,aw K F (is.map A'.int) (is.map V.int)
 |[]=>rfl|i::is=>⟨.int i,is.map V.int,rfl,rfl,kq is⟩
theorem law_ok{f:i_}{mlaw:Nat->List A'->M A'}(F:∀n,jr P w K mg base CX0 k f fd [x] (spF K ro (mlaw n) 1))(h:∀ns:bm,ns.length<=63->∃n,mlaw n [.lst (ns.map .int)]=.ok (.bl d_)):jr P w K mg base CX0 k f fd [x] (spLaw K):=by
 refine⟨λvs H Q E ⟨a,ns,e,_⟩=>by rw[e];rfl,λA outer s H B us vs Q E L c d J ⟨a,ns,e,U,b,q⟩=>?_⟩
 obtain⟨n,Y⟩:=h ns b;refine(F n).run A outer s H B us vs Q E L c d J ⟨H,[.lst (ns.map .int)],aU.refl _,⟨.ref a,[],e,⟨a,_,rfl,U,kq ns⟩,rfl⟩,rfl,?_⟩;rw[Y];intro v F' H' st z;have:v=.bl d_:=by cases ro<;>exact z
 simp_all
end
structure Kit(K:Pn):Prop where
 Df:Js K (.type "int") (.type "int")=a_ d_
 By:Js K (.type "bool") (.type "int")=a_ d_
 Bv:Js K (.type "list") (.type "int")=a_ c_
 yc:Js K (.type "tuple") (.type "int")=a_ c_
 qE:Js K (.type "NoneType") (.type "int")=a_ c_
 Bx:Js K (.type "int") (.type "bool")=a_ c_
 yh:Js K (.type "bool") (.type "bool")=a_ d_
 yf:Js K (.type "list") (.type "bool")=a_ c_
 vK:Js K (.type "tuple") (.type "bool")=a_ c_
 oZ:Js K (.type "NoneType") (.type "bool")=a_ c_
 Bw:Js K (.type "int") (.type "list")=a_ c_
 yg:Js K (.type "bool") (.type "list")=a_ c_
 ye:Js K (.type "list") (.type "list")=a_ d_
 vJ:Js K (.type "tuple") (.type "list")=a_ c_
 oY:Js K (.type "NoneType") (.type "list")=a_ c_
section
variable{W:cv}{own:Bool}{a b:Hb}{p:MJ}{fr:ah->M (List A')}
def isi_D{s:l_}{T:String}{x:V}{Y a bl L U:Bool}{Q:Mq}(I:B6 X B2 σ H s)(J:aU F H)(q:aY X.K F d x)(r:C' x u)(hi:Js X.K (.type "int") (.type T)=a_ Y)(n:Js X.K (.type "bool") (.type T)=a_ a)(m:Js X.K (.type "list") (.type T)=a_ bl)(g:Js X.K (.type "tuple") (.type T)=a_ L)(j:Js X.K (.type "NoneType") (.type T)=a_ U)(h:∀k tk,(match d with|.int _=>k=Y|.bl _=>k=a|.lst _=>k=bl|.tup _=>k=L|.non=>k=U|.ins _ _=>False|.dic _=>False|.dil _=>False)->Q (.bool k) {s with toks:=tk})(b:∀C fs,d≠.ins C fs)(f:∀ks,d≠.dic ks)(c:∀ks,d≠.dil ks):
  w_ (B_ X.prog X.w) X.A (Ka (.builtin "isinstance") [u,.type T]) Q X.xe s:=by
 cases d with
 |non=>cases(show x=.non from q);cases r;exact Pc PySem.W.kitx_none I.kIn JY j (λz=>nomatch z) λtk=>h _ tk rfl
 |bl y=>cases(show x=.bl y from q);cases r;exact Pc PySem.W.kitx_bool I.kIn JY n (λz=>nomatch z) λtk=>h _ tk rfl
 |int i=>cases(show x=.int i from q);obtain⟨t,rfl⟩:=r;exact Pc PySem.W.kitx_int I.kIn JY hi (λz=>nomatch z) λtk=>h _ tk rfl
 |lst ds=>obtain⟨l,xs,e,t,_⟩:=q;subst e;cases r;obtain⟨its,_,pl,_⟩:=I.list (J.lst t);obtain⟨o,h1,B,_⟩:=pl.isList;exact Pc PySem.W.kitx_list I.kIn ⟨o,h1,B⟩ m (λz=>nomatch z) λtk=>h _ tk rfl
 |tup ds=>obtain⟨l,xs,e,t,_⟩:=q;subst e;cases r;obtain⟨its,_,pl,_⟩:=I.tuple (J.tup t);obtain⟨o,h1,B,_⟩:=pl;exact Pc PySem.W.kitx_tuple I.kIn ⟨o,h1,B⟩ g (λz=>nomatch z) λtk=>h _ tk rfl
 |ins C fs=>exact FZ rfl (b C fs)|dic ks=>exact FZ rfl (f ks)|dil ks=>exact FZ rfl (c ks)
theorem ES{T:String}{y:Gh}{g:A'->M A'}(j:fW X (.builtin "isinstance") (λxs H Q=>∃v,xs=[v,.ty T]/\rD1 K W own g v H Q))(e:X.mg "isinstance"=f_)(U:X.mg y=f_)(J:Iu y=a_ (.type T))(k:DE K W c_ X a fa)(f: ~~~(Gl X "isinstance"))(Y: ~~~(Gl X y))(c:(y≠"__name__")⁻¹)(i:((y==("__debug__":Gh))=c_)⁻¹)(b: ~~~(j_ [a,.Name y p2] X.env=[(c_,Ga a X.env),(c_,Ga (.Name y p2) X.env)]))(B: ~~~(j_ [.Name y p2] X.env=[(c_,Ga (.Name y p2) X.env)]))(L: ~~~((Hl pos (j_ [.Name y p2] X.env)).any (·.1)=c_)):
  DE K W own X (.Call (.Name "isinstance" p) [a,.Name y p2] [] pos) (f1 g fa):=
 (lW j f e boot_isinstance (bR k (bR (pe_tyN (pos:=p2) Y U J c i) fJ B) bi) am am bi L).imp λσ H Q h=>by
  obtain⟨F,ρ,r,s,q⟩:=rd_1 h;refine⟨F,ρ,r,s,?_⟩
  cases e1:fa ρ with
  |error z=>rw[e1]at q;exact q|ok d=>rw[e1]at q;exact λv F' H' st z=>⟨v,rfl,q v F' H' st z⟩
theorem Fn(B:Kit K)(a: ~~~(X.K=K)):fW X (.builtin "isinstance") (λxs H Q=>∃v,xs=[v,.ty "int"]/\rD1 K W own oE v H Q):=by
 subst a;intro B2 s σ H xs us Q I r h;obtain⟨v,rfl,F,d,s1,q,p⟩:=h;obtain⟨u,w,rfl,U,J⟩:=r.two;cases(show w=HD "int" from J);by_cases hi:(∃C fs,d=.ins C fs)\/(∃ks,d=.dic ks)\/∃ks,d=.dil ks
 .rcases hi with⟨C,fs,rfl⟩|⟨ks,rfl⟩|⟨ks,rfl⟩<;>exact aE.stuck p
 .refine isi_D I s1 q U B.Df B.By B.Bv B.yc B.qE (λk tk Y=>⟨.bl k,H,I.tok tk,rfl,?_⟩) (λC fs e=>hi (.inl ⟨C,fs,e⟩)) (λks e=>hi (.inr (.inl ⟨ks,e⟩))) (λks e=>hi (.inr (.inr ⟨ks,e⟩)));cases d<;>first|(have L:k=_:=Y;subst L;exact aE.bl (own:=own) p s1)|exact FZ (.inl ⟨_,_,rfl⟩) hi|exact FZ (.inr (.inl ⟨_,rfl⟩)) hi|simp_all
def C6(J:Kit K)(c:X.mg "isinstance"=f_)(Y:X.mg "int"=f_)(e:DE K W c_ X a fa)(f: ~~~(X.K=K))(d: ~~~(Gl X "isinstance"))(b: ~~~(Gl X "int"))(L: ~~~(j_ [a,.Name "int" p2] X.env=[(c_,Ga a X.env),(c_,Ga (.Name "int" p2) X.env)]))(B: ~~~(j_ [.Name "int" p2] X.env=[(c_,Ga (.Name "int" p2) X.env)]))(U: ~~~((Hl pos (j_ [.Name "int" p2] X.env)).any (·.1)=c_)):
  DE K W own X (.Call (.Name "isinstance" p) [a,.Name "int" p2] [] pos) (f1 oE fa):=ES (Fn J f) c Y (by rfl) e d b am am L B U
theorem Cg(B:Kit K)(a: ~~~(X.K=K)):fW X (.builtin "isinstance") (λxs H Q=>∃v,xs=[v,.ty "bool"]/\rD1 K W own mf v H Q):=by
 subst a;intro B2 s σ H xs us Q I r h;obtain⟨v,rfl,F,d,s1,q,p⟩:=h;obtain⟨u,w,rfl,U,J⟩:=r.two;cases(show w=HD "bool" from J);by_cases hi:(∃C fs,d=.ins C fs)\/(∃ks,d=.dic ks)\/∃ks,d=.dil ks
 .rcases hi with⟨C,fs,rfl⟩|⟨ks,rfl⟩|⟨ks,rfl⟩<;>exact aE.stuck p
 .refine isi_D I s1 q U B.Bx B.yh B.yf B.vK B.oZ (λk tk Y=>⟨.bl k,H,I.tok tk,rfl,?_⟩) (λC fs e=>hi (.inl ⟨C,fs,e⟩)) (λks e=>hi (.inr (.inl ⟨ks,e⟩))) (λks e=>hi (.inr (.inr ⟨ks,e⟩)));cases d<;>first|(have L:k=_:=Y;subst L;exact aE.bl (own:=own) p s1)|exact FZ (.inl ⟨_,_,rfl⟩) hi|exact FZ (.inr (.inl ⟨_,rfl⟩)) hi|simp_all
def yP(J:Kit K)(c:X.mg "isinstance"=f_)(Y:X.mg "bool"=f_)(e:DE K W c_ X a fa)(f: ~~~(X.K=K))(d: ~~~(Gl X "isinstance"))(b: ~~~(Gl X "bool"))(L: ~~~(j_ [a,.Name "bool" p2] X.env=[(c_,Ga a X.env),(c_,Ga (.Name "bool" p2) X.env)]))(B: ~~~(j_ [.Name "bool" p2] X.env=[(c_,Ga (.Name "bool" p2) X.env)]))(U: ~~~((Hl pos (j_ [.Name "bool" p2] X.env)).any (·.1)=c_)):
  DE K W own X (.Call (.Name "isinstance" p) [a,.Name "bool" p2] [] pos) (f1 mf fa):=ES (Cg J f) c Y (by rfl) e d b am am L B U
theorem Cf(B:Kit K)(a: ~~~(X.K=K)):fW X (.builtin "isinstance") (λxs H Q=>∃v,xs=[v,.ty "list"]/\rD1 K W own md v H Q):=by
 subst a;intro B2 s σ H xs us Q I r h;obtain⟨v,rfl,F,d,s1,q,p⟩:=h;obtain⟨u,w,rfl,U,J⟩:=r.two;cases(show w=HD "list" from J);by_cases hi:(∃C fs,d=.ins C fs)\/(∃ks,d=.dic ks)\/∃ks,d=.dil ks
 .rcases hi with⟨C,fs,rfl⟩|⟨ks,rfl⟩|⟨ks,rfl⟩<;>exact aE.stuck p
 .refine isi_D I s1 q U B.Bw B.yg B.ye B.vJ B.oY (λk tk Y=>⟨.bl k,H,I.tok tk,rfl,?_⟩) (λC fs e=>hi (.inl ⟨C,fs,e⟩)) (λks e=>hi (.inr (.inl ⟨ks,e⟩))) (λks e=>hi (.inr (.inr ⟨ks,e⟩)));cases d<;>first|(have L:k=_:=Y;subst L;exact aE.bl (own:=own) p s1)|exact FZ (.inl ⟨_,_,rfl⟩) hi|exact FZ (.inr (.inl ⟨_,rfl⟩)) hi|simp_all
def yO(J:Kit K)(c:X.mg "isinstance"=f_)(Y:X.mg "list"=f_)(e:DE K W c_ X a fa)(f: ~~~(X.K=K))(d: ~~~(Gl X "isinstance"))(b: ~~~(Gl X "list"))(L: ~~~(j_ [a,.Name "list" p2] X.env=[(c_,Ga a X.env),(c_,Ga (.Name "list" p2) X.env)]))(B: ~~~(j_ [.Name "list" p2] X.env=[(c_,Ga (.Name "list" p2) X.env)]))(U: ~~~((Hl pos (j_ [.Name "list" p2] X.env)).any (·.1)=c_)):
  DE K W own X (.Call (.Name "isinstance" p) [a,.Name "list" p2] [] pos) (f1 md fa):=ES (Cf J f) c Y (by rfl) e d b am am L B U
def tRng(ta:TA)(lo hi:bp->Option Int):TE:=λσ H Q=>ta σ H λvs H1=>∃i j,lo vs=a_ i/\hi vs=a_ j/\(-(2^62)<=i/\i<2^62/\ -(2^62)<=j/\j<2^62)/\∀r,H1 r=f_->Q (.ref r) (upd H1 r (.rng i j))
noncomputable def lo1:bp->Option Int
 |[.int _]=>a_ 0|_=>f_
noncomputable def hi1:bp->Option Int
 |[.int j]=>a_ j|_=>f_
noncomputable def lo2:bp->Option Int
 |[.int i,.int _]=>a_ i|_=>f_
noncomputable def hi2:bp->Option Int
 |[.int _,.int j]=>a_ j|_=>f_
def zR{s:l_}{lo hi:Int}{t u v:Tok}{tk:Nat}(I:B6 X B2 σ H s):B6 X B2 σ (upd H s.heap.objs.size (.rng lo hi)) {s with heap:=s.heap.push {cls:=.type "range",data:=.fields #[.int lo t,.int hi u,.int 1 v]},toks:=tk}:=
 I.laid (λb o e=>e_ _ e) (k_ _) ⟨t,u,v,o_ _ rfl⟩
def pe_rng1{ta:TA}(b:Gl X "range")(Y:X.mg "range"=f_)(c:PA X [a] ta)(L: ~~~(j_ [a] X.env=[(c_,Ga a X.env)])):PE X (.Call (.Name "range" p) [a] [] pos) (tRng ta lo1 hi1):=by
 intro B2 s σ H Q I h;refine OZ (jd I b Y N2 (GB (E' (c pos B2 s σ H _ I h) λus s1 U=>?_) L rfl));obtain⟨vs,H1,J,B,q1⟩:=U;obtain⟨i,j,e1,e2,d,q⟩:=q1
 match vs,B,e1,e2 with
 |[.int k],B,e1,e2=>cases e1;cases e2;obtain⟨u,rfl,t,rfl⟩:=B.one;exact call_range_1 ⟨.ref _,_,zR J,rfl,q _ J.fresh⟩
theorem pe_rng2{ta:TA}(c:Gl X "range")(Y:X.mg "range"=f_)(d:PA X [a,b] ta)(e: ~~~(j_ [a,b] X.env=[(c_,Ga a X.env),(c_,Ga b X.env)]))(J: ~~~(j_ [b] X.env=[(c_,Ga b X.env)])):PE X (.Call (.Name "range" p) [a,b] [] pos) (tRng ta lo2 hi2):=by
 intro B2 s σ H Q I h;refine OZ (jd I c Y N2 (GB (E' (d pos B2 s σ H _ I h) λus s1 U=>?_) bi (by rw[J];rfl)));obtain⟨vs,H1,L,B,q1⟩:=U;obtain⟨i,j,e1,e2,f,q⟩:=q1
 match vs,B,e1,e2 with
 |[.int k,.int m],B,e1,e2=>cases e1;cases e2;obtain⟨u,w,rfl,⟨t,rfl⟩,t',rfl⟩:=B.two;exact call_range_2 ⟨.ref _,_,zR L,rfl,q _ L.fresh⟩
theorem D'.of_get:∀{xs:bp} {us:bv},xs.length=us.length->(∀(i:Nat) v u,xs[i]?=a_ v->us[i]?=a_ u->C' v u)->D' xs us
 |[],[],_,_=>.nil|[],_::_,h,_=>by simp at h|_::_,[],h,_=>by simp at h|x::xs,u::us,h,q=>.cons (q 0 x u rfl rfl) (D'.of_get bi λi v w h1 B=>q (i+1) v w bi bi)
def rQ{lo:Int}:∀{n:Nat} {B:bv},B.length=n->(∀(i:Nat) v,B[i]?=a_ v->∃t,v=.int (lo+i) t)->D' ((FN n).map λk:Nat=>V.int (lo+k)) B:=by
 intro n B J h;refine D'.of_get (by simp[J]) λi v u e1 e2=>?_;obtain⟨t,rfl⟩:=h i u e2;have hi:i<n:=by have:=(oe.mp e1).1;simpa using this
 rw[FQ,Kj hi]at e1;cases e1;exact⟨t,rfl⟩
theorem uI(a:X.calm=d_):fW X (.type "list") (λxs H Q=>∃r lo hi,xs=[.ref r]/\H r=a_ (.rng lo hi)/\(-(2^62)<=lo/\lo<2^62/\ -(2^62)<=hi/\hi<2^62)/\(hi-lo).toNat<=q_/\∀l,H l=f_->Q (.ref l) (upd H l (.lst ((FN (hi-lo).toNat).map λk:Nat=>V.int (lo+k))))):=by
 intro B2 s σ H xs us Q I U h;obtain⟨r,lo,hi,rfl,b,⟨j,g,f,d⟩,m,q⟩:=h;obtain⟨u,rfl,L⟩:=U.one;cases L;obtain⟨t,u,v,e⟩:=(show ∃t u v,s.heap.get? r=a_ {cls:=.type "range",data:=.fields #[.int lo t,.int hi u,.int 1 v]}from I.hok r _ b)
 refine call_list_range (n:=(hi-lo).toNat) (I.ok.hd a) e (QF j g f d) (by grind[Oq]) bi λh' tk B c kp e2 J=>?_;have Y:D' ((FN (hi-lo).toNat).map λk:Nat=>V.int (lo+k)) B.toList:=rQ (by rw[GF];exact J.1) λi v hi=>by
  obtain⟨t,e⟩:=J.2 i v (by simpa using hi)
  simp_all
 exact⟨.ref _,_,I.laid (t':=tk) kp (k_ _) (show gZ _ h' _ (.lst _)from⟨bi,B.toList,c,Y,bi⟩),rfl,q _ I.fresh⟩
def pY(lo:Int)(n:Nat):aw K F (aL lo n) ((FN n).map λk:Nat=>V.int (lo+k)):=by
 refine aw.of_get (by simp[aL]) λi d v h1 B=>?_;have hi:i<n:=by have:=(oe.mp B).1;simpa using this
 unfold aL at h1;rw[FQ,Kj hi]at h1 B;cases h1;cases B;rfl
theorem lrng_end{i j:Int}(p:aE K W d_ F H1 (bc (aL i (j-i).toNat)) Q)(s:aU F H1)(L:H1 r=f_):
  (j-i).toNat<=q_/\∀l,upd H1 r (.rng i j) l=f_->Q (.ref l) (upd (upd H1 r (.rng i j)) l (.lst ((FN (j-i).toNat).map λk:Nat=>V.int (i+k)))):=by
 unfold bc at p;by_cases J:(aL i (j-i).toNat).length<=q_
 .rw[u_ J]at p;refine⟨by simp_all[aL],λl B=>?_⟩
  have s2:B4 F H1 F (upd H1 r (.rng i j)):=B4.grow s L;have e:H1 l=f_:=s2.hh.free B;exact p _ F _ (s2.trans (B4.grow s2.fh B)) ⟨l,_,rfl,av,s.free e,e,pY i _⟩
 .rw[x_ J]at p;exact(W.ns p).elim
theorem de_lrng2(d:X.mg "list"=f_)(q:X.mg "range"=f_)(x:DA K W X [a,b] fr)(w: ~~~(X.calm=d_))(t: ~~~(Gl X "range"))(f: ~~~(Gl X "list"))(o: ~~~(j_ [a,b] X.env=[(c_,Ga a X.env),(c_,Ga b X.env)]))(Y: ~~~(j_ [b] X.env=[(c_,Ga b X.env)]))(J: ~~~(j_ [.Call (.Name "range" q1) [a,b] [] q2] X.env=[(c_,Ga (.Call (.Name "range" q1) [a,b] [] q2) X.env)])):DE K W d_ X (.Call (.Name "list" p) [.Call (.Name "range" q1) [a,b] [] q2] [] pos) (fLR (jv zS fr)):=by
 refine PE.imp (p6 (uI w) f d G_ (bR (pe_rng2 t q x o Y) fJ J) am am J rfl) λσ H Q h=>?_;obtain⟨F,ρ,r,s,p⟩:=h;refine kT r s (λe y=>p.err (by simp_all[fLR,jv])) λds u xs F1 H1 s1 q1=>?_;have e1:fLR (jv zS fr) ρ=(zS ds).bind bc:=by unfold fLR jv;rw[u];rfl
 rw[e1]at p;have p1:=p.step s1;by_cases L:∃i j,ds=[.int i,.int j]
 .obtain⟨i,j,rfl⟩:=L;obtain⟨v,vs,e2,q2,l,U,e3,n,e4⟩:=q1;have p2:aE K W d_ F1 H1 ((if (bg i&&bg j)=d_ then GX (aL i (j-i).toNat)else I9 Err.stuck:M (List A')).bind bc) Q:=p1;by_cases B:(bg i&&bg j)=d_
  .rw[u_ B]at p2;unfold bg at B;simp only[t_,FO]at B;have e5:xs=[.int i,.int j]:=by rw[e2,show v=.int i from q2,e3,show l=.int j from n,show U=[]from e4]
   subst e5;refine⟨i,j,rfl,rfl,⟨B.1.1,B.1.2,B.2.1,B.2.2⟩,λm c=>?_⟩
   obtain⟨k,g⟩:=lrng_end p2 s1.fh c;exact⟨m,i,j,rfl,av,⟨B.1.1,B.1.2,B.2.1,B.2.2⟩,k,g⟩
  .rw[x_ B]at p2;exact(W.ns p2).elim
 .have:zS ds=.error .stuck:=by
   unfold zS;split
   .exact FZ ⟨_,_,rfl⟩ L
   .rfl
  rw[this]at p1;exact(W.ns p1).elim
end
section
variable{p:MJ}
def bZ{L:i_}{s:l_}{is:bo}(Y:N'.Nodup)(a:PGs (aQ X N' sc L cs s H fp) es (gd is))(hi: ~~~(N'[i]?=a_ x))(B:autoParam (Loc (aQ X N' sc L cs s H fp).env.scope x) Jq6)(U:autoParam ((aQ X N' sc L cs s H fp).fn x=d_\/(aQ X N' sc L cs s H fp).env.scope.names.lookup x=a_ .local) Jq4)(J: ~~~((Ha (.Name x p::es) (aQ X N' sc L cs s H fp).env).map (·.2)=JD (.Name x p) (aQ X N' sc L cs s H fp).env::(Ha es (aQ X N' sc L cs s H fp).env).map (·.2))):PGs (aQ X N' sc L cs s H fp) (.Name x p::es) (gd (i::is)):=A0 (pg_c Y hi B U) a J
end
section
open PySem.W
variable{key:Nat->Int}
noncomputable def ltK(key:Nat->Int)(i j:Nat):Bool:=A_ (key i<key j)
end
section
open PySem.W
variable{key:Nat->Int}
def Cv(prog:GH)(w:Hz)(A:HQ)(key:Nat->Int)(vs:bv)(s':l_):Prop:=
 w_ (B_ prog w) A (keyKind' vs.toArray) (fun κ s2=>s2=s'/\∀i j (C:Bool->l_->Prop),i<vs.length->j<vs.length->C (ltK key i j) s'->NL prog w A κ vs i j C s') (λ_ _=>False) s'
end
noncomputable def insL{α:Type}(lt:α->α->Bool)(x:α):List α->List α
 |[]=>[x]|y::ys=>if lt y x=d_ then y::insL lt x ys else x::y::ys
def cZ{α:Type}(lt:α->α->Bool):List α->List α
 |[]=>[]|x::xs=>insL lt x (cZ lt xs)
noncomputable def ltZ(a b:Int):Bool:=A_ (a<b)
noncomputable def rK:bm->bm->Bool
 |[],[]=>c_|[],_::_=>d_|_::_,[]=>c_|a::as,b::B=>if a=b then rK as B else A_ (a<b)
def ba(t:bm):A':=.tup (t.map .int)
def tupD:A'->M bm
 |.tup ds=>bM ds|_=>stk
def fH:List A'->M (List bm)
 |[]=>.ok []|d::ds=>(tupD d).bind λt=>(fH ds).bind λr=>.ok (t::r)
section
variable{lt:α->α->Bool}
structure Ord(lt:α->α->Bool):Prop where
 irr:∀a,lt a a=c_
 tr:∀a b c,lt a b=d_->lt b c=d_->lt a c=d_
 tot:∀a b,lt a b=c_->lt b a=c_->a=b
theorem ordZ:Ord ltZ:=⟨λa=>by simp[ltZ],λa b c h1 B=>by grind[ltZ],λa b h1 B=>by grind[ltZ]⟩
theorem Dw:Ord rK:=by
 refine⟨λa=>?_,λa b c=>?_,λa b=>?_⟩
 .induction a with
  |nil=>rfl|cons x xs J=>simp[rK,J]
 .induction a generalizing b c with
  |nil=>
   cases b with
   |nil=>simp|cons y ys=>
    intro _ B;cases c with
    |nil=>simp_all[rK]|cons z L=>rfl
  |cons x xs J=>
   intro h1 B;cases b with
   |nil=>simp_all[rK]|cons y ys=>
    cases c with
    |nil=>simp_all[rK]|cons z L=>
     simp only[rK]at h1 B ⊢
     grind
 .induction a generalizing b with
  |nil=>
   cases b with
   |nil=>simp|cons y ys=>simp[rK]
  |cons x xs J=>
   cases b with
   |nil=>simp[rK]|cons y ys=>
    intro h1 B;simp only[rK]at h1 B
    grind
theorem pM(x:α):∀l:List α,(insL lt x l).Perm (x::l)
 |[]=>HN _|y::ys=>by
  rw[insL];split
  .exact((pM x ys).cons y).trans (List.Perm.swap x y ys)
  rfl
theorem cz:∀l:List α,(cZ lt l).Perm l
 |[]=>HN _|x::xs=>(pM x _).trans ((cz xs).cons x)
theorem Ord.le_trans(o:Ord lt){a b c:α}(h1:lt b a=c_)(J:lt c b=c_):lt c a=c_:=by
 cases h:lt c a with
 |false=>rfl|true=>
  cases B:lt b c with
  |true=>rw[o.tr b c a B h]at h1;lia|false=>
   have:=o.tot c b J B
   simp_all
theorem Ord.asym(o:Ord lt){a b:α}(h:lt a b=d_):lt b a=c_:=by
 cases B:lt b a with
 |false=>rfl|true=>have:=o.tr a b a h B;rw[o.irr]at this;simp_all
theorem pL(o:Ord lt)(x:α):∀l:List α,l.Pairwise (λa b=>lt b a=c_)->(insL lt x l).Pairwise (λa b=>lt b a=c_)
 |[],_=>by simp[insL]|y::ys,h=>by
  rw[insL];rw[GR]at h;split
  .rename_i J;rw[GR];refine⟨λb L=>?_,pL o x ys h.2⟩
   rcases p_.mp ((pM x ys).mem_iff.mp L)with e|e
   .rw[e];exact o.asym J
   simp_all
  .rename_i J;have B:lt y x=c_:=by simpa using J
   rw[GR,GR];refine⟨λb L=>?_,h⟩
   rcases p_.mp L with e|e
   .simp_all
   .exact o.le_trans B (h.1 b e)
theorem i6(o:Ord lt):∀l:List α,(cZ lt l).Pairwise (λa b=>lt b a=c_)
 |[]=>HL|x::xs=>pL o x _ (i6 o xs)
theorem p5(o:Ord lt):∀{l m:List α},l.Perm m->l.Pairwise (λa b=>lt b a=c_)->m.Pairwise (λa b=>lt b a=c_)->l=m
 |[],m,h,_,_=>(List.Perm.nil_eq h)|a::l,m,h,h1,B=>by
  cases m with
  |nil=>simp_all|cons b m=>
   rw[GR]at h1 B;have e:a=b:=by
    rcases p_.mp (h.mem_iff.mp Hu)with e|e
    .exact e
    .rcases p_.mp (h.mem_iff.mpr Hu)with e2|e2
     .simp_all
     .exact o.tot a b (B.1 a e) (h1.1 b e2)
   subst e;rw[p5 o (List.Perm.cons_inv h) h1.2 B.2]
end
section
open PySem.W
variable{lt:α->α->Bool}
def getD_get{l:List α}{d:α}(h:i<l.length):l.getD i d=l[i]:=by simp[h]
noncomputable def rk(lt:α->α->Bool)(B:List α)(d:α)(i:Nat):Int:=((B.filter λz=>lt z (B.getD i d)).length:Int)
theorem filter_lt{p q:α->Bool}(h:∀z,p z=d_->q z=d_):∀l:List α,(l.filter p).length<=(l.filter q).length/\((∃z∈l,p z=c_/\q z=d_)->(l.filter p).length<(l.filter q).length)
 |[]=>⟨k_ _,λ⟨_,h,_⟩=>nomatch h⟩
 |x::xs=>by
  obtain⟨J,B⟩:=filter_lt h xs
  grind[NI,NJ]
theorem D8(o:Ord lt){B:List α}{d:α}(hi:i<B.length)(L:j<B.length):ltK (rk lt B d) i j=lt (B.getD i d) (B.getD j d):=by
 unfold ltK rk;have Y:B.getD i d∈B:=by rw[getD_get hi];exact GA hi
 have a:B.getD j d∈B:=by rw[getD_get L];exact GA L
 cases h:lt (B.getD i d) (B.getD j d)with
 |true=>refine Jr ?_;have:=(filter_lt (p:=λz=>lt z (B.getD i d)) (q:=λz=>lt z (B.getD j d)) (λz J=>o.tr _ _ _ J h) B).2 ⟨_,Y,o.irr _,h⟩;lia|false=>
  refine IF ?_;have:=(filter_lt (p:=λz=>lt z (B.getD j d)) (q:=λz=>lt z (B.getD i d)) (λz J=>by
   cases U:lt z (B.getD i d)with
   |true=>rfl|false=>
    have e:=o.le_trans h U
    lia) B).1
  lia
theorem vals_map(r:D' xs us)(ps:bo)(J:∀i∈ps,i<xs.length):D' (ps.map λi=>xs.getD i .non) (ps.map λi=>us.getD i .none):=by
 refine D'.of_get ad λk v u h1 B=>?_;rw[FQ]at h1 B;cases e:ps[k]? with
 |none=>simp_all|some i=>rw[e]at h1 B;simp only[Jb,Hv]at h1 B;have hi:=J i (Gn e);have U:=r.length;obtain⟨L,e1,q⟩:=r.get (i:=i) (x:=xs[i]) ad;rw[getD_get hi]at h1;rw[m_,e1]at B;rw[<- h1,<- B];exact q
def rk_ints(is:bm)(i j:Nat)(hi:i<is.length)(B:j<is.length):ltK (rk ltZ is 0) i j=A_ (is.getD i 0<is.getD j 0):=D8 ordZ hi B
theorem Fw{s':l_}(hi:KC its is)(U:2<=its.length):Cv prog w A (rk ltZ is 0) its s':=by
 have d:=hi.length;obtain⟨L,J,rest,rfl⟩:∃L J rest,its=L::J::rest:=by
  match its,U with
  |L::J::rest,_=>lia
 unfold Cv;rw[keyKind_ints hi];refine g_ ⟨rfl,λi j C h1 U Y=>?_⟩;unfold NL;obtain⟨b,e1⟩:=B hi i h1;obtain⟨a,e2⟩:=B hi j U;rw[e1,e2];rw[rk_ints is i j ac ac]at Y;exact kat_lt_int Y
where
 B {vs:bv} {ns:bm} (h:KC vs ns) (i:Nat) (hi:i<vs.length):∃t,vs.getD i Gu=.int (ns.getD i 0) t:=by
  induction h generalizing i with
  |nil=>simp_all|cons n t r c=>
   cases i with
   |zero=>exact⟨t,rfl⟩|succ i=>simp_all
def lexF(f:Bool):bm->bm->Bool
 |a::as,b::B=>if a=b then lexF f as B else A_ (a<b)
 |_,_=>f
theorem Ae:∀as B:bm,lexF (A_ (as.length<B.length)) as B=rK as B
 |[],[]=>rfl|[],_::_=>by rfl|_::_,[]=>by rfl|a::as,b::B=>by
  have:=Ae as B
  simp_all[lexF,rK,E_,Nat.add_lt_add_iff_right]
theorem pI{prog:GH}{w:Hz}{A:HQ}{s':l_}{f:Bool}{Q:Bool->l_->Prop}:∀{us vs:bv} {as B:bm} (i:Nat),KC us as->KC vs B->Q (lexF f as B) s'->KatLex prog w A d_ f Q (us.zip vs) i s'
 |_,_,_,B,_,.nil,_,h=>kat_nil (by cases B<;>exact h)
 |_,_,_,_,_,.cons a t r,.nil,h=>kat_nil h|_,_,_,_,i,.cons a t r,.cons b u r',h=>by
  show KatLex prog w A d_ f Q ((.int a t,.int b u)::(_:List (h_×h_))) i s';refine kat_cons (SeqAt.EqAt.int_int a t b u _ _ _ _ ?_);by_cases e:a=b
  .rw[show(a==b)=d_ by simpa using e];rw[lexF,u_ e]at h;exact kat_yes (pI (i+1) r r' h)
  .rw[show(a==b)=c_ by simp_all];rw[lexF,x_ e]at h;refine kat_no ?_;cases J:(d_&&i==0)with
   |true=>exact oneLt_int h|false=>exact kat_one _ _ (OY h)
theorem Fv{s:l_}{B:List bm}(I:B6 X B2 σ H s)(P:aU F H)(r:aw X.K F (B.map ba) xs)(g:(B.all λt=> !t.isEmpty)=d_)(p:D' xs its)(h2:2<=its.length)(kp:∀b o,s.heap.get? b=a_ o->h1.get? b=a_ o):Cv X.prog X.w A (rk rK B []) its {s with heap:=h1}:=by
 have l1:=p.length;have E:=r.length;rw[n_]at E;have J:∀i,i<its.length->∃(l:i_) (L:L7) (us:bv) (n:Nat),its.getD i Gu=.ref l/\h1.get? l=a_ L/\L.cls=.type "tuple"/\L.data=.seq us.toArray n/\KC us (B.getD i []):=λi hi=>by obtain⟨v,e1,l,ys,e2,y,D⟩:=r.get (i:=i) (d:=ba (B[i]'(by omega))) (by simp[show i<B.length by lia]);subst e2;obtain⟨u,e3,Y⟩:=p.get e1;cases Y;obtain⟨us,Y,pl,_⟩:=I.tuple (P.tup y);obtain⟨L,S,R,n,Q⟩:=pl;have e4:ys=(B[i]'(by omega)).map V.int:=cP D (dv _);rw[e4]at Y;exact⟨l,L,us,n,bi,kp _ _ S,R,Q,by rw[getD_get (show i<B.length by lia)];exact intsAre_of Y⟩
 have U:∀(k:Nat),k<=its.length->∃fs,KatTups h1 (its.drop (its.length-k)) fs/\fs.length=k/\∀v∈fs,∃i t,v=KS i t:=by
  intro k
  induction k with
  |zero=>intro _;exact⟨[],by rw[N6,Il];exact P2,rfl,λ_ h=>nomatch h⟩
  |succ k G=>
   intro hk;obtain⟨fs,q1,q2,a⟩:=G ac;have hi:its.length-(k+1)<its.length:=ac
   obtain⟨l,L,us,n,e1,e2,e3,e4,e5⟩:=J _ hi;have K:(B.getD (its.length-(k+1)) [])≠[]:=by rw[getD_get (show its.length-(k+1)<B.length by lia)];have:=Im.mp g _ (GA (show its.length-(k+1)<B.length by lia));simpa using this
   obtain⟨z,Z⟩:∃z,B.getD (its.length-(k+1)) []=z:=⟨_,rfl⟩
   rw[Z]at e5 K;obtain⟨f,fr,ef,O⟩:∃f fr,us=f::fr/\∃i t,f=KS i t:=by
    cases e5 with
    |nil=>simp_all|cons m t r=>exact⟨_,_,rfl,_,_,rfl⟩
   refine⟨f::fs,?_,by simp[q2],λv c=>?_⟩
   .rw[Gq hi];rw[show its.length-(k+1)+1=its.length-k by lia];rw[getD_get hi]at e1;rw[e1];exact PF e2 e3 e4 (by rw[ef];rfl) q1
   .rcases p_.mp c with e|e
    .rw[e];exact O
    .exact a v e
 obtain⟨fs,q1,q2,a⟩:=U its.length (k_ _);rw[JS,Jq]at q1;unfold Cv;refine kat_kind (s:={s with heap:=h1}) (T:=.type "int") q1 ac (λv c=>?_) rfl ⟨rfl,λi j C hi N q=>?_⟩
 .obtain⟨i,t,e⟩:=a v c;rw[e];exact P1 rfl
 .unfold NL;obtain⟨x1,o1,us,n1,e1,W,_,d1,x⟩:=J i hi;obtain⟨x2,o2,vs,n2,e2,g2,_,d2,w⟩:=J j N;rw[e1,e2];rw[D8 Dw (show i<B.length by lia) (show j<B.length by lia)]at q;refine kat_lt (s:={s with heap:=h1}) W d1 g2 d2 (pI 0 x w ?_);rw[G8,G8,x.length,w.length,Ae];exact q
theorem zx{F:Hp}{t:bm}(h:tupD d=.ok t):d=ba t:=by
 cases d with
 |tup ds=>
  have:∀{ds:List A'} {t:bm},bM ds=.ok t->ds=t.map .int:=by
   intro ds
   induction ds with
   |nil=>intro t h;cases h;rfl|cons d ds B=>
    intro t h;cases d with
    |int i=>
     cases e:bM ds with
     |error x=>simp_all[bM,asI,ai,j5]|ok r=>grind[bM,asI,ai]
    |_=>cases h
  unfold ba;rw[this h]
 |_=>cases h
theorem Ek:∀{ds:List A'} {t:bm},bM ds=.ok t->ds=t.map .int:=λ{ds t} h=>by
 have:=zx (F:=λ_=>f_) (d:=.tup ds) (t:=t) h
 simp_all[ba]
theorem lL:∀{ds:List A'} {B:List bm},fH ds=.ok B->ds=B.map ba
 |[],_,h=>by cases h;rfl|d::ds,B,h=>by
  cases e:tupD d with
  |error x=>simp_all[fH,j5]|ok t=>
   cases e2:fH ds with
   |error x=>simp_all[fH,ai,j5]|ok r=>simp only[fH,e,ai,e2]at h;cases h;rw[zx (F:=λ_=>f_) e,lL e2];rfl
theorem lM:∀{ds:List A'} {e:Err},fH ds=.error e->e=.stuck
 |[],_,h=>by cases h|d::ds,e,h=>by
  cases e1:tupD d with
  |error x=>
   simp only[fH,e1,j5]at h;cases h;cases d with
   |tup ds=>exact fP e1|_=>cases e1;rfl
  |ok t=>
   cases e2:fH ds with
   |error x=>simp only[fH,e1,ai,e2,j5]at h;cases h;exact lM e2|ok r=>simp_all[fH,ai]
end
noncomputable def cX(n d:Nat):Option Int->Nat
 |none=>d|some v=>if v<0 then(v+(n:Int)).toNat else NG v.toNat n
def yZ(xs:List α)(lo hi:Option Int):List α:=(xs.drop (cX xs.length 0 lo)).take (cX xs.length xs.length hi-cX xs.length 0 lo)
def dT:A'->Option Int->Option Int->M A'
 |.lst ds,lo,hi=>.ok (.lst (yZ ds lo hi))|.tup ds,lo,hi=>if (A_ (cX ds.length 0 lo=0)&&A_ (cX ds.length ds.length hi=ds.length))=d_ then stk else .ok (.tup (yZ ds lo hi))
 |_,_,_=>stk
noncomputable def nP:ah->M (Option Int):=λ_=>.ok f_
def l7(f:ah->M A'):ah->M (Option Int):=λρ=>(f ρ).bind λd=>(asI d).bind λi=>.ok (a_ i)
noncomputable def fSl(g:A'->Option Int->Option Int->M A')(fa:ah->M A')(fl fu:ah->M (Option Int)):ah->M A':=λρ=>(fa ρ).bind λa=>(fl ρ).bind λl=>(fu ρ).bind λu=>g a l u
def extD(ρ:ah)(i:Nat)(ds:List A'):A'->M B'
 |.lst es=>if ds.length+es.length<=q_ then put ρ i (ds++es)else stk
 |_=>stk
def sExt(O:bo)(i:Nat)(f:ah->M A'):ah->M B':=λρ=>(ju ρ i).bind λds=>(f (erase O ρ)).bind λd=>extD ρ i ds d
def notBD:A'->A'->M A'
 |.bl a,.bl b=>.ok (.bl (a != b))|.non,.bl _=>.ok (.bl d_)|.int _,.bl _=>.ok (.bl d_)|.lst _,.bl _=>.ok (.bl d_)|.tup _,.bl _=>.ok (.bl d_)|_,_=>stk
section
variable{W:cv}{own:Bool}{a b d:Hb}{lo hi:Option Hb}{y:Gh}{p r t u:MJ}{f:ah->M A'}{fl:ah->M (Option Int)}
def tDO(K:Pn)(W:cv)(f:ah->M (Option Int)):TO:=λσ H Q=>TDx K σ H λF ρ=>match f ρ with
 |.ok o=>∀F' H',B4 F H F' H'->Q o H'|.error e=>W.p e F H
def CQ{R:Option Int->Hp->Prop}(r:lI K F σ ρ)(s:aU F H)(J:∀e,fl ρ=.error e->W.p e F H)(B:∀o,fl ρ=.ok o->∀F1 H1,B4 F H F1 H1->R o H1):tDO K W fl σ H R:=by
 refine⟨F,ρ,r,s,?_⟩
 cases e:fl ρ with
 |ok d=>exact B d e|error x=>exact J x e
abbrev DP(K:Pn)(W:cv)(X:Cx)(e:Option Hb)(f:ah->M (Option Int)):Prop:=PO X e (tDO K W f)
def PO.imp{t t':TO}(h:PO X lo t)(q:∀σ H Q,t' σ H Q->t σ H Q):PO X lo t':=λB2 s σ H Q I z=>h B2 s σ H Q I (q σ H Q z)
def mV:DP K W X f_ nP:=po_none.imp λσ H Q ⟨F,ρ,r,s,p⟩=>p F H (B4.refl s)
theorem mU(h:DE K W c_ X e f):DP K W X (a_ e) (l7 f):=(po_some h).imp λσ H Q ⟨F,ρ,r,s,p⟩=>by
 refine aF r s (λe J=>?_) λd B v F1 H1 s1 q1=>?_
 .simp_all[l7]
 .have z:l7 f ρ=(asI d).bind λi=>.ok (a_ i):=by unfold l7;rw[B];rfl
  rw[z]at p;cases d with
  |int i=>exact⟨i,q1,p F1 H1 s1⟩|_=>exact(W.ns p).elim
def rDS(K:Pn)(W:cv)(own:Bool)(g:A'->Option Int->Option Int->M A'):V->Option Int->Option Int->Hp->VK->Prop:=λx lo hi H Q=>TX1 (aY K) x H λF a=>aE K W own F H (g a lo hi) Q
theorem C5{g:A'->Option Int->Option Int->M A'}(b:SlR X (rDS K W own g))(U:DE K W c_ X a fa)(L:DP K W X lo fl)(J:DP K W X hi fu):DE K W own X (.Subscript a (.Slice lo hi f_ p2) pos) (fSl g fa fl fu):=(pe_slice b U L J).imp λ_ _ _=>by
  intro h;obtain⟨F,ρ,r,s,p⟩:=h;refine aF r s (λe Y=>p.err (by simp_all[fSl])) λa U x F1 H1 s1 q1=>?_;refine CQ (r.mono s1.ff) s1.fh (λe Y=>(p.step s1).err (by simp_all[fSl])) λl L f H2 s2=>?_;refine CQ ((r.mono s1.ff).mono s2.ff) s2.fh (λe Y=>(p.step (s1.trans s2)).err (by simp_all[fSl])) λu J c d B=>?_;refine⟨c,a,B.fh,aY.mono (s2.trans B).ff q1,?_⟩
  have e:fSl g fa fl fu ρ=g a l u:=by unfold fSl;rw[U];show(fl ρ).bind _=_;rw[L];show(fu ρ).bind _=_;rw[J];rfl
  rw[e]at p;exact p.step ((s1.trans s2).trans B)
def AM(n d:Nat)(o:Option Int):cX n d o=HT.sIx n d o:=by rfl
def aw.cut{l u:Option Int}(h:aw K F ds xs):aw K F (yZ ds l u) (cutV xs l u):=by unfold yZ cutV;rw[AM,AM,h.length];exact aw.take _ (aw.drop _ h)
theorem x_sl(f: ~~~(X.K=K)):SlR X (rDS K W d_ dT):=by
 subst f;intro B2 s σ H x v Y U lo hi sl Q I b d pl c h;refine(SlR.or sl_list sl_tup) B2 s σ H x v Y U lo hi sl Q I b d pl c ?_;obtain⟨F,a,s1,L,p⟩:=h;cases a with
 |lst ds=>obtain⟨l,xs,e,t,z⟩:=L;exact .inl ⟨l,xs,e,s1.lst t,λr B=>aE.lst p s1 z.cut B⟩
 |tup ds=>
  obtain⟨l,xs,e,t,z⟩:=L;have p':aE X.K W d_ F H (if (A_ (cX ds.length 0 lo=0)&&A_ (cX ds.length ds.length hi=ds.length))=d_ then stk else .ok (.tup (yZ ds lo hi))) Q:=p;by_cases J:(A_ (cX ds.length 0 lo=0)&&A_ (cX ds.length ds.length hi=ds.length))=d_
  .rw[u_ J]at p';exact p'.stuck
  .rw[x_ J]at p';refine .inr ⟨l,xs,e,s1.tup t,λhw=>J ?_,λr B=>aE.tup p' s1 z.cut B⟩;rw[AM,AM,<- z.length]
   simp_all
 |_=>exact aE.stuck p
def o_notB:Op2 K W own X (Gy .IsNot) notBD:=by
 intro B2 s σ H x y v u Q I B L h;obtain⟨F,a,b,s1,J,U,p⟩:=h;cases b with
 |bl k=>
  cases(show y=.bl k from U);cases L;cases a with
  |bl j=>cases(show x=.bl j from J);cases B;exact isnot_bool (ig I (aE.bl p s1) rfl)|non=>cases(show x=.non from J);cases B;exact g_ (ig I (aE.bl p s1) rfl)|int j=>cases(show x=.int j from J);obtain⟨t,rfl⟩:=B;exact g_ (ig I (aE.bl p s1) rfl)
  |lst ds=>obtain⟨l,xs,e,_⟩:=J;subst e;cases B;exact g_ (ig I (aE.bl p s1) rfl)
  |tup ds=>obtain⟨l,xs,e,_⟩:=J;subst e;cases B;exact g_ (ig I (aE.bl p s1) rfl)
  |ins C fs=>exact aE.stuck p|dic ks=>exact aE.stuck p|dil ks=>exact aE.stuck p
 |_=>cases a<;>exact aE.stuck p
theorem ds_ext(n:DE K W d_ X e f)(m:(i∈O)⁻¹)(y: ~~~(X.N[i]?=a_ x))(u:autoParam (Vis X.env.scope x) Jq5)(j:((x==("__debug__":Gh))=c_)⁻¹)(k:((x==("__classdict__":Gh))=c_)⁻¹)(A: ~~~(X.K=K))(U: ~~~(j_ [e] X.env=[(c_,Ga e X.env)]))(L: ~~~(IW (.Name x p) "extend" X.env (Ga (.Name x p) X.env)=Ga (.Name x p) X.env))(Y: ~~~(((Hl q (j_ [e] X.env)).all (λx=> !x.1)&&(KR q (Jz [] X.env)).all (λx=>x.1.isSome)&&A_ ([e].length+([]:List Lb).length+(if ([]:List Lb).isEmpty then 0 else 1)<30))=d_))(B: ~~~((Hl q (j_ [] X.env)).any (·.1)=c_))(J: ~~~((apos.endLine==q.line)=d_))(g: ~~~(HB (.Call (.Attribute (.Name x p) "extend" apos) [e] [] q) f_ pos.line X.env=GU c_)):
  DS K W ro X OL O O (.Expr (.Call (.Attribute (.Name x p) "extend" apos) [e] [] q) pos) (sExt O i f):=λF0 H0=>by
 subst A;exact PS.imp (tH (pe_bm M6 NZ PySem.F.type_list_extend DM (pv i y u j k) (bR n fJ U) L Y J U B) g) λ_ σ _=>by
   intro t;obtain⟨FB,F,ρ,r,p⟩:=t;cases c:ju ρ i with
   |error e=>have:=pB c;subst this;exact p.stuck (by simp_all[sExt])|ok ds=>
    obtain⟨a,xs,e2,o,z⟩:=r.DV m (kl c);refine⟨.ref a,e2,⟨rfl,_,_,rfl,SqL.of o⟩,?_⟩
    refine aF r.iO r.st.fh (λe n=>p.eX r.st (by simp_all[sExt])) λd j v F1 H1 s1 q=>?_;have C:sExt O i f ρ=extD ρ i ds d:=by unfold sExt;rw[c];show(f (erase O ρ)).bind _=_;rw[j];rfl
    rw[C]at p;cases d with
    |lst es=>
     obtain⟨b,s,e3,w,_,_,l⟩:=q;by_cases h:ds.length+es.length<=q_
     .have ep:extD ρ i ds (.lst es)=put ρ i (ds++es):=u_ h;rw[ep]at p;exact⟨a,b,xs,s,rfl,by rw[e3],s1.hh _ _ o,w,by rw[z.length,l.length];exact h,p σ F1 _ ((r.step s1).write m (kl c) e2 (aw.append (z.mono s1.ff) l))⟩
     .exact p.stuck (x_ h)
    |_=>exact p.stuck rfl
end
section
variable{fl:ah->M (Option Int)}
@[simp]def e_pNone:nP ρ=.ok f_:=id rfl
@[simp]def e_pSome:l7 fa ρ=(fa ρ).bind λd=>(asI d).bind λi=>.ok (a_ i):=id rfl
@[simp]def e_slF(k:A'->Option Int->Option Int->M A'):fSl k fa fl fu ρ=(fa ρ).bind λa=>(fl ρ).bind λl=>(fu ρ).bind λu=>k a l u:=id rfl
@[simp]def e_sliceL(ds:List A')(lo hi:Option Int):dT (.lst ds) lo hi=.ok (.lst (yZ ds lo hi)):=id rfl
@[simp]def e_extD(i:Nat)(ds es:List A'):extD ρ i ds (.lst es)=if ds.length+es.length<=q_ then put ρ i (ds++es)else stk:=id rfl
@[simp]def e_ext(O:bo)(i:Nat):sExt O i fa ρ=(ju ρ i).bind λds=>(fa (erase O ρ)).bind λd=>extD ρ i ds d:=id rfl
@[simp]def e_notBB(a b:Bool):notBD (.bl a) (.bl b)=.ok (.bl (a != b)):=id rfl
@[simp] theorem e_pow{i j:Int}(h0:0<=j)(h1:j<=1000000)(B:i.natAbs<2^64):v5 (.int i) (.int j)=.ok (.int (i^j.toNat)):=by
 show(if (A_ (0<=j)&&A_ (j<=1000000)&&A_ (i.natAbs<2^64))=d_ then _ else _)=_
 simp_all
@[simp]def e_eqII(i j:Int):eqM (.int i) (.int j)=.ok (.bl (A_ (i=j))):=by rfl
@[simp]def e_neII(i j:Int):neM (.int i) (.int j)=.ok (.bl (!decide (i=j))):=by rfl
@[simp] theorem cut_take{α:Type}(xs:List α){j:Int}(h:0<=j):yZ xs f_ (a_ j)=xs.take j.toNat:=by
 unfold yZ cX
 simp_all[x_,Jq,N6,Kh,PQ,IT,G5]
@[simp] theorem uG{α:Type}(xs:List α){j:Int}(h:0<=j):yZ xs (a_ j) f_=xs.drop j.toNat:=by simp_all[yZ,cX,x_,Kh,G5,PQ,Le,Il]
end
def qW(Cs:List i_)(x:Gh):A'->M A'
 |.ins C fs=>if Cs.contains C=d_ then(match fs.lookup x with
  |some d=>.ok d|none=>stk)else stk
 |_=>stk
def isC(C:i_)(m:Gh):A'->Bool
 |.ins D fs=>(D==C)&&(fs.lookup m).isNone|_=>c_
def mS(C:i_)(m:Gh)(g:List A'->M A')(fo:ah->M A')(fr:ah->M (List A')):ah->M A':=λρ=>(fo ρ).bind λo=>if isC C m o=d_ then(fr ρ).bind λas=>g (o::as)else stk
def eK(C C2:i_)(m:Gh)(g g2:List A'->M A')(fo:ah->M A')(fr:ah->M (List A')):ah->M A':=λρ=>(fo ρ).bind λo=>if isC C m o=d_ then(fr ρ).bind λas=>g (o::as)else if isC C2 m o=d_ then(fr ρ).bind λas=>g2 (o::as)else stk
def newR(C:i_)(g:List A'->M A'):List A'->M A'
 |[d]=>(g [d]).bind λr=>.ok (.ins C [("gaps",r)])|_=>stk
noncomputable def twoL:A'->A'->Bool
 |.lst xs,.lst ys=>A_ (xs.length=ys.length)|_,_=>c_
def newP(C:i_)(g:List A'->M A'):List A'->M A'
 |[d,e]=>(g [d]).bind λr=>(g [e]).bind λB=>if twoL r B=d_ then .ok (.ins C [("gaps",r),("beside",B)])else stk
 |_=>stk
def sStk:ah->M B':=λ_=>stk
section
variable{W:cv}{own:Bool}{o a b c d:Hb}{y m:Gh}{p:MJ}{f fo:ah->M A'}{fr:ah->M (List A')}{C2:i_}{Cs:List i_}
def EF{st:G1}:DS K W ro X OL O O' st sStk:=λF0 H0 B2 s σ H D I h=>by obtain⟨FB,F,ρ,r,p⟩:=h;exact p.stuck rfl
theorem qZ.at{F:Hp}{x:Gh}:∀{gs:List (Gh×A')} {fs:List (Gh×V)},qZ K F gs fs->(∀d,gs.lookup x=a_ d->∃v,fs.lookup x=a_ v/\aY K F d v)/\(gs.lookup x=f_->fs.lookup x=f_)
 |[],fs,h=>by cases(show fs=[]from h);simp|(g,d)::gs,fs,h=>by
  obtain⟨v,r,rfl,h1,J⟩:=h;have B:=qZ.at (x:=x) J;rw[Hx,Hx];cases e:x==g with
  |true=>exact⟨λd' h'=>by cases h';exact⟨v,rfl,h1⟩,λh'=>by cases h'⟩|false=>exact B
theorem xb(g:∀C∈Cs,Cls K C/\jq K C y)(J:DE K W c_ X e fa)(b: ~~~(IW e y X.env (Ga e X.env)=Ga e X.env))(f: ~~~(X.K=K)):DE K W c_ X (.Attribute e y pos) (f1 (qW Cs y) fa):=by
 subst f;refine(Du J b).imp λσ H Q h=>?_;obtain⟨F,ρ,r,s,p⟩:=h;refine aF r s (λe J=>p.err (by simp_all[f1])) λa c x F1 H1 s1 q1=>?_;have j:f1 (qW Cs y) fa ρ=qW Cs y a:=by unfold f1;rw[c];rfl
 rw[j]at p;cases a with
 |ins C gs=>
  obtain⟨l,dx,fs,e1,ea,k⟩:=q1;have p':aE X.K W c_ F H (if Cs.contains C=d_ then(match gs.lookup y with
   |some d=>.ok d|none=>stk)else stk) Q:=p
  by_cases L:Cs.contains C=d_
  .rw[u_ L]at p';obtain⟨h1,i⟩:=g C bi;cases B:gs.lookup y with
   |none=>rw[B]at p';exact aE.stuck p'|some d=>rw[B]at p';obtain⟨v,U,Y⟩:=k.at.1 d B;exact⟨l,C,dx,fs,v,e1,s1.fh _ _ ea,h1,i,U,(p'.step s1) v F1 H1 (B4.refl s1.fh) Y⟩
  .rw[x_ L]at p';exact aE.stuck p'
 |_=>exact aE.stuck p
def PE.or{J B:TE}(h1:PE X e J)(L:PE X e B):PE X e (λσ H Q=>J σ H Q\/B σ H Q):=λB2 s σ H Q I h=>h.elim (h1 B2 s σ H Q I) (L B2 s σ H Q I)
def Dc(h:tD K HH ro (mS C m (bq nN n g) fo fr) σ H Q):tMeth C m (spF K ro (bq nN n g) n) [] E0 (tD K HH c_ fo) (tDA K HH fr) σ H Q:=by
 obtain⟨F,ρ,r,s,p⟩:=h;refine aF r s (λe L=>p.err (by unfold mS;rw[L];rfl)) λo c x F1 H1 s1 q1=>?_;have f:mS C m (bq nN n g) fo fr ρ=if isC C m o=d_ then(fr ρ).bind λas=>bq nN n g (o::as)else stk:=by unfold mS;rw[c];rfl
 rw[f]at p;by_cases J:isC C m o=d_
 .rw[u_ J]at p;cases o with
  |ins D gs=>
   obtain⟨l,dx,fs,e1,ea,i⟩:=id q1;have B:((D==C)&&(gs.lookup m).isNone)=d_:=J;rw[t_]at B;obtain⟨Y,d⟩:=B;have Y:D=C:=by simpa using Y
   subst Y;refine⟨l,dx,fs,e1,s1.fh _ _ ea,i.at.2 (by simpa using d),?_⟩
   have p:=p.step s1;refine kT (r.mono s1.ff) s1.fh (λe L=>p.err (by rw[L];rfl)) λas U vs j H2 s2 b=>?_;rw[U]at p;have p:aE K HH ro F1 H1 (bq nN n g (.ins D gs::as)) Q:=p;have p:=p.step s2;show spF K ro (bq nN n g) n (x::(vs++[])) H2 Q E0;rw[Hf];by_cases a:(A'.ins D gs::as).length=n
   .exact⟨j,.ins D gs::as,s2.fh,⟨x,vs,rfl,aY.mono s2.ff q1,b⟩,a,p⟩
   .rw[zM a]at p;exact aE.stuck p
  |_=>cases J
 .rw[x_ J]at p;exact aE.stuck p
theorem zU(h:tD K HH ro (eK C C2 m (bq nN n g) (bq nN2 n2 g2) fo fr) σ H Q):
  tD K HH ro (mS C m (bq nN n g) fo fr) σ H Q\/tD K HH ro (mS C2 m (bq nN2 n2 g2) fo fr) σ H Q:=by
 obtain⟨F,ρ,r,s,p⟩:=h;cases B:fo ρ with
 |error e=>
  refine .inl ⟨F,ρ,r,s,?_⟩
  simp_all[eK,mS]
 |ok o=>
  have e1:eK C C2 m (bq nN n g) (bq nN2 n2 g2) fo fr ρ=if isC C m o=d_ then(fr ρ).bind λas=>bq nN n g (o::as)else if isC C2 m o=d_ then(fr ρ).bind λas=>bq nN2 n2 g2 (o::as)else stk:=by unfold eK;rw[B];rfl
  have e2:mS C m (bq nN n g) fo fr ρ=if isC C m o=d_ then(fr ρ).bind λas=>bq nN n g (o::as)else stk:=by unfold mS;rw[B];rfl
  have e3:mS C2 m (bq nN2 n2 g2) fo fr ρ=if isC C2 m o=d_ then(fr ρ).bind λas=>bq nN2 n2 g2 (o::as)else stk:=by unfold mS;rw[B];rfl
  rw[e1]at p;by_cases J:isC C m o=d_
  .rw[u_ J]at p e2;exact .inl ⟨F,ρ,r,s,by rw[e2];exact p⟩
  .rw[x_ J]at p;exact .inr ⟨F,ρ,r,s,by rw[e3];exact p⟩
def B0(X:Cx)(o:Hb)(m:Gh)(apos:MJ)(es:List Hb)(pos:MJ)(pl:Ln Bool):Prop:=Ga (.Call (.Attribute o m apos) es [] pos) X.env=(do let B <- Ga o X.env;K_ apos.atName;let (f,first) <- IL [B] (Ml B m pl);PD pos f first (Hl pos (j_ es X.env)) (KR pos (Jz [] X.env)))
section
variable{fad2:i_}{fd2:IG}
def A1(c:Cls X.K C)(M:Meth X.K C m fad)(F:jr X.prog X.w X.K X.mg X.base CX0 k fad fd ps (spF X.K ro (bq nN n g) n))(U:jo k X.A)(a:Binds X.K fd ps [])(Y:DE X.K HH c_ X o fo)(b:DA X.K HH X (e::es) fr)(B:j_ (e::es) X.env=(c_,Ga e X.env)::j_ es X.env)(J:(Hl pos (j_ es X.env)).any (·.1)=c_)(L:B0 X o m apos (e::es) pos pl):DE X.K HH ro X (.Call (.Attribute o m apos) (e::es) [] pos) (mS C m (bq nN n g) fo fr):=
 (pe_meth (pl:=pl) Y c M F U a .nil vQ b B J L).imp λ_ _ _=>Dc
def vP(c:Cls X.K C)(M:Meth X.K C m fad)(F:jr X.prog X.w X.K X.mg X.base CX0 k fad fd ps (spF X.K ro (bq nN n g) n))(J:jo k X.A)(U:Binds X.K fd ps [])(L:DE X.K HH c_ X o fo)(B:B0 X o m apos [] pos pl):DE X.K HH ro X (.Call (.Attribute o m apos) [] [] pos) (mS C m (bq nN n g) fo au):=
 (pe_meth0 (pl:=pl) L c M F J U .nil vQ B).imp λσ H Q h=>by
  obtain⟨F,ρ,r,s,z⟩:=Dc h;refine⟨F,ρ,r,s,?_⟩
  cases e1:fo ρ with
  |error d=>rw[e1]at z;exact z|ok od=>rw[e1]at z;intro v F' H' st q;obtain⟨l,dx,fs,h1,b,a,Y⟩:=z v F' H' st q;exact⟨l,dx,fs,h1,b,a,rd_nil Y⟩
def de_meth2(c:Cls K C)(M:Meth K C m fad)(F:jr X.prog X.w X.K X.mg X.base CX0 k fad fd ps (spF K ro (bq nN n g) n))(d:jo k X.A)(f:Binds X.K fd ps [])(i:Cls K C2)(j:Meth K C2 m fad2)(l:jr X.prog X.w X.K X.mg X.base CX0 k2 fad2 fd2 ps2 (spF K ro (bq nN2 n2 g2) n2))(L:jo k2 X.A)(U:Binds X.K fd2 ps2 [])(a:DE K HH c_ X o fo)(b:DA K HH X (e::es) fr)(h: ~~~(X.K=K))(B: ~~~(j_ (e::es) X.env=(c_,Ga e X.env)::j_ es X.env))(J: ~~~((Hl pos (j_ es X.env)).any (·.1)=c_))(Y: ~~~(B0 X o m apos (e::es) pos pl)):
  DE K HH ro X (.Call (.Attribute o m apos) (e::es) [] pos) (eK C C2 m (bq nN n g) (bq nN2 n2 g2) fo fr):=by
 subst h;exact(PE.or (A1 c M F d f a b B J Y) (A1 i j l L U a b B J Y)).imp λ_ _ _=>zU
def mv(c:Cls K C)(M:Meth K C m fad)(F:jr X.prog X.w X.K X.mg X.base CX0 k fad fd ps (spF K ro (bq nN n g) n))(Y:jo k X.A)(a:Binds X.K fd ps [])(d:Cls K C2)(e:Meth K C2 m fad2)(f:jr X.prog X.w X.K X.mg X.base CX0 k2 fad2 fd2 ps2 (spF K ro (bq nN2 n2 g2) n2))(B:jo k2 X.A)(J:Binds X.K fd2 ps2 [])(U:DE K HH c_ X o fo)(b: ~~~(X.K=K))(L: ~~~(B0 X o m apos [] pos pl)):
  DE K HH ro X (.Call (.Attribute o m apos) [] [] pos) (eK C C2 m (bq nN n g) (bq nN2 n2 g2) fo au):=by
 subst b;exact(PE.or (vP c M F Y a U L) (vP d e f B J U L)).imp λ_ _ _=>zU
end
def spI1(K:Pn)(C:i_)(g:List A'->M A'):Sp:=λvs H Q _=>∃p dx v F d,vs=[.ref p,v]/\H p=a_ (.ins C dx [])/\F p=f_/\aU F H/\aY K F d v/\(match g [d]with
 |.ok r=>∀w F' H',aU F F'->aU F' H'->F' p=f_->(∀b o,F' b=a_ o->F b=a_ o\/H b=f_)->(∀c o,H c=a_ o->c≠p->H' c=a_ o)->H' p=a_ (.ins C dx [("gaps",w)])->aY K F' r w->Q .non H'|.error e=>HH.p e F H)
def spI2(K:Pn)(C:i_)(g:List A'->M A'):Sp:=λvs H Q _=>∃p dx v L F d U,vs=[.ref p,v,L]/\H p=a_ (.ins C dx [])/\F p=f_/\aU F H/\aY K F d v/\aY K F U L/\(match (g [d]).bind λr=>(g [U]).bind λB=>if twoL r B=d_ then .ok (r,B)else stk with
 |.ok (r,B)=>∀w J F' H',aU F F'->aU F' H'->F' p=f_->(∀b o,F' b=a_ o->F b=a_ o\/H b=f_)->(∀c o,H c=a_ o->c≠p->H' c=a_ o)->H' p=a_ (.ins C dx [("gaps",w),("beside",J)])->aY K F' r w->aY K F' B J->Q .non H'|.error e=>HH.p e F H)
theorem B4.born{x dx:i_}{fs:List (Gh×V)}(s:aU F H)(a:H x=f_)(J:H dx=f_)(B:dx≠x)(h1:aU F F')(Y:aU F' H')(U:F' x=f_)(g:∀b o,F' b=a_ o->F b=a_ o\/upd (upd H dx (.own x)) x (.ins C dx []) b=f_)(f:∀c o,upd (upd H dx (.own x)) x (.ins C dx []) c=a_ o->c≠x->H' c=a_ o)(d:H' x=a_ (.ins C dx fs)):B4 F H (upd F' x (.ins C dx fs)) H' where
 ff:=h1.trans (aU.upd U)
 hh:=λc o e=>by grind[aA]
 fh:=λc o e=>by
  by_cases L:c=x
  .simp_all[av]
  .rw[aA L]at e;exact Y _ _ e
 nw:=λc o e=>by grind[aA]
theorem de_newR{g:List A'->M A'}(j:Mk X.K C fI)(T:jr X.prog X.w X.K X.mg X.base CX0 k fI fdI ps (spI1 K C g))(t:jo (k+1) X.A)(y:X.mg x=a_ (.ref C))(G:Binds X.K fdI ps [])(I:DA K HH X [e] fr)(A: ~~~(Gl X x))(f:((x==("__debug__":Gh))=c_)⁻¹)(Y: ~~~(j_ [e] X.env=(c_,Ga e X.env)::j_ [] X.env))(a: ~~~((Hl pos (j_ [] X.env)).any (·.1)=c_)):
  DE K HH c_ X (.Call (.Name x p) [e] [] pos) (fL (newR C g) fr):=by
 refine PE.imp (Dt j T t A y G .nil vQ I f Y a) λσ H Q h=>?_;obtain⟨F,ρ,r,s,p⟩:=rd_L h;refine⟨F,ρ,r,s,?_⟩
 cases e1:fr ρ with
 |error z=>simp_all|ok ds=>
  rw[e1]at p;intro vs F1 H1 st q;obtain⟨m,i,s1,q1,z⟩:=p vs F1 H1 st q;rcases i with _|⟨d,_|⟨_,_⟩⟩
  .exact aE.stuck z
  rotate_left
  .exact aE.stuck z
  .obtain⟨v,L,rfl,n,u⟩:=q1;cases(show L=[]from u);intro x dx U J b;refine⟨x,dx,v,m,d,rfl,av,s1.free U,λc o e=>?_,n,?_⟩
   .have E:c≠x:=λh=>by rw[h,s1.free U]at e;lia
    have D:c≠dx:=λh=>by rw[h,s1.free J]at e;lia
    rw[aA E,aA D];exact s1 _ _ e
   .have z:aE K HH c_ m H1 ((g [d]).bind λr=>.ok (.ins C [("gaps",r)])) Q:=z;cases B:g [d]with
    |error e=>rw[B]at z;exact GG z|ok r=>
     rw[B]at z;intro w F' H' h1 S l R P O N;refine⟨rfl,z (.ref x) (upd F' x (.ins C dx [("gaps",w)])) H' (B4.born s1 U J b h1 S l R P O) ?_⟩
     exact⟨x,dx,_,rfl,av,w,[],rfl,aY.mono (aU.upd l) N,rfl⟩
theorem de_newP{g:List A'->M A'}(A:Mk X.K C fI)(FI:jr X.prog X.w X.K X.mg X.base CX0 k fI fdI ps (spI2 K C g))(O:jo (k+1) X.A)(R:X.mg x=a_ (.ref C))(Z:Binds X.K fdI ps [])(ha:DA K HH X [e,a] fr)(S: ~~~(Gl X x))(n:((x==("__debug__":Gh))=c_)⁻¹)(j: ~~~(j_ [e,a] X.env=(c_,Ga e X.env)::j_ [a] X.env))(l: ~~~((Hl pos (j_ [a] X.env)).any (·.1)=c_)):
  DE K HH c_ X (.Call (.Name x p) [e,a] [] pos) (fL (newP C g) fr):=by
 refine PE.imp (Dt A FI O S R Z .nil vQ ha n j l) λσ H Q h=>?_;obtain⟨F,ρ,r,s,p⟩:=rd_L h;refine⟨F,ρ,r,s,?_⟩
 cases e1:fr ρ with
 |error z=>simp_all|ok ds=>
  rw[e1]at p;intro vs F1 H1 st q;obtain⟨E,u,s1,q1,z⟩:=p vs F1 H1 st q;rcases u with _|⟨d,_|⟨y,_|⟨_,_⟩⟩⟩
  .exact aE.stuck z
  .exact aE.stuck z
  rotate_left
  .exact aE.stuck z
  .obtain⟨v,G,rfl,N,I,Y,rfl,b,P⟩:=q1;cases(show Y=[]from P);intro x dx f L m;refine⟨x,dx,v,I,E,d,y,rfl,av,s1.free f,λc o e=>?_,N,b,?_⟩
   .have W:c≠x:=λh=>by rw[h,s1.free f]at e;lia
    have T:c≠dx:=λh=>by rw[h,s1.free L]at e;lia
    rw[aA W,aA T];exact s1 _ _ e
   .have z:aE K HH c_ E H1 ((g [d]).bind λr=>(g [y]).bind λU=>if twoL r U=d_ then .ok (.ins C [("gaps",r),("beside",U)])else stk) Q:=z;cases J:g [d]with
    |error e=>rw[J]at z;exact GG z|ok r=>
     rw[J,ai]at z;cases B:g [y]with
     |error e=>rw[B]at z;exact GG z|ok U=>
      rw[B,ai]at z;by_cases i:twoL r U=d_
      .rw[u_ i]at z;rw[ai,ai,u_ i];intro w D F' H' h1 h2 t h4 h5 h6 h7 h8;refine⟨rfl,z (.ref x) (upd F' x (.ins C dx [("gaps",w),("beside",D)])) H' (B4.born s1 f L m h1 h2 t h4 h5 h6) ?_⟩
       exact⟨x,dx,_,rfl,av,w,_,rfl,aY.mono (aU.upd t) h7,D,[],rfl,aY.mono (aU.upd t) h8,rfl⟩
      .rw[x_ i]at z;exact aE.stuck z
end
section
variable{W:cv}{own:Bool}
theorem Fd(m:X.calm=d_):fW X (.builtin "sum") (λxs H Q=>∃(a:i_) (is:bm),xs=[.ref a]/\SqL X.K H a (is.map V.int)/\Q (.int is.sum) H):=by
 intro B2 s σ H xs us Q I r h;obtain⟨a,is,rfl,i,q⟩:=h;obtain⟨u,rfl,f⟩:=r.one;cases f;obtain⟨its,d,p,t⟩:=I.list i;have hi:=intsAre_of d;obtain⟨xs,e⟩:=hi.allInts.items;have j:is=xs.toList.map (·.1):=by rw[<- hi.numsOf,<- MC,<- e]
 have c:=p.isList;rw[e]at c;refine Qx (iter_intList c λY e2 st U L=>?_);subst e2;refine⟨_,_,_,_,_,_,_,La xs,rfl,(Ot (A:=X.A.in1) (I.ok.hd m) _ a L (Lw xs)).toS,st,U,(λ_ _=>Mb),λs' t' B=>?_⟩
 obtain⟨h',g',d',J,g⟩:=s';have e1:=B.gens;have e2:=B.drawn;have e3:=B.os;have e4:=B.heap;simp only at e1 e2 e3;subst e1 e2 e3;have k:=old_kept (s:=s) (l:=a) (h':=h') λb o n e=>e4 b o n e;refine⟨.int _,H,I.kept (t':=J) k,⟨t',rfl⟩,?_⟩
 simp_all[preSum_eq,G5,Lw]
def c_sum(U:X.calm=d_)(Y: ~~~(X.K=K)):n8 K W own X (.builtin "sum") sumD:=by
 subst Y;refine(Fd U).imp λxs H Q h=>?_;obtain⟨F,ds,s,q,p⟩:=h;rcases ds with _|⟨d,_|⟨_,_⟩⟩
 .exact aE.stuck p
 .obtain⟨v,vs,rfl,B,L⟩:=q;cases(show vs=[]from L);cases d with
  |lst ds=>
   obtain⟨a,xs,e,t,z⟩:=B;have p':aE X.K W own F H ((bM ds).bind λis=>.ok (.int is.sum)) Q:=p;cases hi:bM ds with
   |error e=>rw[hi]at p';have:=fP hi;subst this;exact aE.stuck p'|ok is=>rw[hi]at p';have J:xs=is.map V.int:=cP z hi;subst J;exact⟨a,is,by rw[e],s.lst t,aE.int p' s⟩
  |_=>exact aE.stuck p
 .cases d<;>exact aE.stuck p
end
def Itz(K:Pn)(a b:i_):It:=
 ⟨λi H=>∃xs ys x y,SqL K H a xs/\SqL K H b ys/\xs[i]?=a_ x/\ys[i]?=a_ y,λi H v H'=>∃T x y,H T=f_/\v=.ref T/\H'=upd H T (.tup [x,y])/\(∀xs,SqL K H a xs->xs[i]?=a_ x)/\∀ys,SqL K H b ys->ys[i]?=a_ y,λi H=>∃xs ys,SqL K H a xs/\SqL K H b ys/\(xs.length<=i\/ys.length<=i)⟩
theorem turn_zip{U f d Y N G:i_}(D:JG z U f d Y N G):
  Turn P w K (.Tuple elts k pos) (Itz K N G) [z,U,f,d,Y] z (λi h=>IsZip h z U f .none/\Lh h U (.ref d) (.ref Y)/\(∃a b,Lh h f a b)/\h.IsListIter d N i/\h.IsListIter Y G i) where
 mem:=by simp
 obj:=λi h st b L=>by
  obtain⟨j,B,⟨a,c,J⟩,⟨o1,e1,c1,d1⟩,⟨o2,e2,c2,d2⟩⟩:=st
  grind
 keep:=λi h h' st n=>by obtain⟨j,B,⟨a,c,J⟩,h1,l⟩:=st;exact⟨n z ad _ j,n U ad _ B,⟨a,c,n f ad _ J⟩,h1.at λo x=>n d ad o x,l.at λo x=>n Y ad o x⟩
 item:=by
  intro X R hw S hc i B2 s σ H E I A st Q;subst R hw S;obtain⟨j,B,⟨a,c,J⟩,h1,l⟩:=st;obtain⟨xs,ys,x,y,v,t,gx,gy⟩:=Q;obtain⟨its,C,p,_⟩:=I.list v;obtain⟨r,g,p2,_⟩:=I.list t;obtain⟨u,hu,ru⟩:=C.get gx;obtain⟨W,hu2,F⟩:=g.get gy;refine wpAny_pyNext_zip_item D j B J h1 l p.isList p2.isList (x:=u) (y:=W) bi bi λh' a1 a2 a3 a4 a5 a6 a7=>?_;refine⟨_,rfl,Oc a1 λT b1 m=>?_⟩
  have lz:z<s.z:=s_ j;have lTI:U<s.z:=s_ B;have lTO:f<s.z:=s_ J;have li1:d<s.z:=by obtain⟨o,e,_⟩:=h1;exact s_ e
  have li2:Y<s.z:=by obtain⟨o,e,_⟩:=l;exact s_ e
  have I1:B6 X B2 σ (upd H s.z (.tup [x,y])) {s with heap:=T,toks:=s.toks}:=I.sS (ch:=[z,U,f,d,Y]) A (λb o L q=>by simp only[p_,Gv,Mv,not_or]at L;exact(m.2 b L.1).trans (a7 b o L.1 L.2.2.1 L.2.2.2.1 L.2.2.2.2 q)) (k_ _) ⟨ad,[u,W],.cons ru (.cons F .nil),⟨_,(m.2 _ (HU lz)).trans a5,rfl,0,rfl⟩⟩
  refine⟨.ref s.z,_,I1,rfl,⟨s.z,x,y,I.hok.fresh (k_ _),rfl,rfl,λzs O=>by rw[I.oz O v];exact gx,λzs O=>by rw[I.oz O t];exact gy⟩,
   ⟨b1,(m.2 _ D.TIz).trans (a7 U _ D.TIz D.TITO D.TIi1 D.TIi2 B),⟨_,_,(m.2 _ D.TOz).trans a2⟩,a3.at λo q=>(m.2 _ D.i1z).trans q,a4.at λo q=>(m.2 _ D.i2z).trans q⟩,λb L=>?_⟩
  have hbn:=(A b L).1;have:b≠s.z:=by simp only[p_,Gv,Mv]at L;rcases L with rfl|rfl|rfl|rfl|rfl<;>exact FR (by assumption)
  simp_all[aA]
 done:=by
  intro X R hw S hc i B2 s σ H E I A st Q;subst R hw S;obtain⟨j,B,⟨a,c,J⟩,h1,l⟩:=st;obtain⟨xs,ys,v,t,Z⟩:=Q;obtain⟨its,C,p,_⟩:=I.list v;obtain⟨r,g,p2,_⟩:=I.list t;have e1:=C.length;have e2:=g.length;refine wpAny_pyNext_zip_end (I.ok.hd hc) D j B J h1 l p.isList p2.isList ?_ λh' hk=>⟨rfl,I.sT (t':=s.toks) (ch:=[z,U,f,d,Y]) A λb o L q=>?_⟩
  .simp_all
  simp_all
 self:=λ_ _ _ _ _ st h=>Lu st.1 h
theorem sQ:∀(ds es:List A') (i:Nat),(kB ds es)[i]?=(ds[i]?).bind λd=>(es[i]?).map λe=>.tup [d,e]
 |[],es,i=>by rfl|d::ds,[],i=>by simp[kB]|d::ds,e::es,0=>by rfl|d::ds,e::es,i+1=>by rw[kB,Hc,sQ ds es i,Hc,Hc]
theorem lJ:∀(ds es:List A'),(kB ds es).length=NG ds.length es.length
 |[],es=>by rfl|d::ds,[]=>by rfl|d::ds,e::es=>by rw[kB,E_,lJ ds es,E_,E_];lia
theorem iter_zip{ys:bp}{es:List A'}(t:SqL K F a xs)(z:aw K F ds xs)(c:SqL K F b ys)(U:aw K F es ys):o6 K F (Itz K a b) (kB ds es) where
 go:=λi F' H' s1 s2 hi=>by rw[lJ]at hi;exact⟨xs,ys,xs[i]'(by rw[z.length];lia),ys[i]'(by rw[U.length];lia),s2.lst (s1.lst t),s2.lst (s1.lst c),y_ _,y_ _⟩
 yl:=λi F' H' x H2 d s1 s2 L g=>by
  obtain⟨T,f,Y,e,ex,j,h1,h⟩:=g;subst ex j;rw[sQ]at L;cases J:ds[i]? with
  |none=>simp_all|some m=>
   cases B:es[i]? with
   |none=>simp_all|some l=>
    rw[J,B]at L;simp at L;subst L;obtain⟨v,e1,q⟩:=z.get J;obtain⟨k,e2,q2⟩:=U.get B;have e3:=h1 xs (s2.lst (s1.lst t));have e4:=h ys (s2.lst (s1.lst c));rw[e1]at e3;rw[e2]at e4;cases e3;cases e4;refine⟨upd F' T (.tup [f,Y]),B4.lay s2 e,T,_,rfl,SqT.of av,?_⟩
    exact⟨f,[Y],rfl,(q.mono s1).mono (aU.upd (s2.free e)),Y,[],rfl,(q2.mono s1).mono (aU.upd (s2.free e)),rfl⟩
 st:=λF' H' s1 s2=>⟨xs,ys,s2.lst (s1.lst t),s2.lst (s1.lst c),by rw[z.length,U.length,lJ];lia⟩
section
variable{W:cv}{a b:Hb}{p:MJ}
def iZip(K:Pn)(ta tb:TE):TI:=λσ H R=>ta σ H λx H1=>tb σ H1 λy H2=>∃a b,x=.ref a/\y=.ref b/\(∃xs,SqL K H2 a xs)/\(∃ys,SqL K H2 b ys)/\R (Itz K a b) H2
theorem pi_zip(C:Gl X "zip")(z:X.mg "zip"=f_)(D:PE X a ta)(Y:PE X b tb)(P:j_ [a,b] X.env=[(c_,Ga a X.env),(c_,Ga b X.env)])(J:j_ [b] X.env=[(c_,Ga b X.env)]):
  PI X (.Tuple elts k q) (.Call (.Name "zip" p) [a,b] [] pos) (iZip X.K ta tb):=by
 intro B2 s σ H R I h;have E:PA X [a,b] (qz ta (qz tb tNil)):=bR D (bR Y fJ J) bi;refine OZ (jd I C z boot_zip (GB (E' (E pos B2 s σ H (λvs H1=>match vs with
  |[x,y]=>∃a b,x=.ref a/\y=.ref b/\(∃xs,SqL X.K H1 a xs)/\(∃ys,SqL X.K H1 b ys)/\R (Itz X.K a b) H1
  |_=>False) I h) λus s1 ⟨vs,H1,U,t,q1⟩=>?_) bi (by rw[J];rfl)))
 rcases vs with _|⟨x,_|⟨y,_|⟨_,_⟩⟩⟩
 .exact GG q1
 .exact GG q1
 rotate_left
 .exact GG q1
 .obtain⟨l,v,e1,e2,⟨xs,w⟩,⟨ys,d⟩,q⟩:=q1;subst e1 e2;obtain⟨u,N,rfl,r,c⟩:=t.two;cases r;cases c;obtain⟨its,O,pl,_⟩:=U.list w;obtain⟨m,o,B,_⟩:=U.list d;have G:l<s1.z:=by obtain⟨_,e,_⟩:=pl.isList;exact s_ e
  have F:v<s1.z:=by obtain⟨_,e,_⟩:=B.isList;exact s_ e
  refine call_zip_2 pl.isList B.isList λh' n j i g f hsz A=>?_;have K:B6 X B2 σ H1 {s1 with heap:=h'}:=U.kept (t':=s1.toks) A;refine Lu n ?_;refine⟨s1.z+4,[s1.z+4,s1.z+2,s1.z+3,s1.z,s1.z+1],_,_,H1,rfl,K,turn_zip (zipApart_new G F),⟨n,j,⟨_,_,i⟩,g,f⟩,λb Y=>?_,q⟩
  have L:s1.z<=b:=by
   simp only[p_,Gv,Mv]at Y;rcases Y with rfl|rfl|rfl|rfl|rfl
   .simp
   .simp
   .simp
   .simp
   .simp
  exact U.fpOk L (U.hok.fresh L)
theorem di_zip(j:X.mg "zip"=f_)(n:DE K W c_ X a fa)(m:DE K W c_ X b fb)(l: ~~~(Gl X "zip"))(i: ~~~(j_ [a,b] X.env=[(c_,Ga a X.env),(c_,Ga b X.env)]))(J: ~~~(j_ [b] X.env=[(c_,Ga b X.env)]))(o: ~~~(X.K=K)):
  DI K W X (.Tuple elts k q) (.Call (.Name "zip" p) [a,b] [] pos) (fZip fa fb):=by
 subst o;exact(pi_zip l j n m i J).imp λ_ _ _=>by
   intro h;obtain⟨F,ρ,r,s,p⟩:=h;refine aF r s (λe Y=>?_) λd c v F1 H1 s1 q1=>?_
   .simp_all[fZip]
   .refine aF (r.mono s1.ff) s1.fh (λe Y=>?_) λf L x w H2 s2 q2=>?_
    .have z:fZip fa fb ρ=.error e:=by unfold fZip;rw[c,ai,Y];rfl
     rw[z]at p;exact W.mono p s1
    .have z:fZip fa fb ρ=(kL d).bind λds=>(kL f).bind λes=>.ok (kB ds es):=by unfold fZip;rw[c,ai,L,ai]
     rw[z]at p;cases d with
     |lst ds=>
      cases f with
      |lst es=>obtain⟨b,xs,e,t,g⟩:=q1;obtain⟨u,ys,e2,U,B⟩:=q2;have t':=s2.ff.lst t;exact⟨b,u,e,e2,⟨xs,s2.fh.lst t'⟩,⟨ys,s2.fh.lst U⟩,p _ w H2 (s1.trans s2) (iter_zip t' (g.mono s2.ff) U B)⟩
      |_=>exact(W.ns p).elim
     |_=>exact(W.ns p).elim
end
noncomputable def dK(d:h_):List (Gh×h_):=[(HS "default",d)]
abbrev LsAt(h:Gr)(S:i_)(xs:Array h_)(c:Nat):Prop:=h.get? S=a_ {cls:=.type "list",dict:=f_,data:=.seq xs c,slots:=#[]}
section
variable{s:l_}
noncomputable abbrev newL:L7:={cls:=.type "list",data:=.seq ([]:bv).toArray}
def ze{Q:bv->l_->Prop}{a b:Int}{t u v:Tok}(y:A.handled=f_)(p:IsRange s.heap r a b 1 t u v)(Y:KV a b 1=d_)(x:Jp a b 1=n)(L:n<=2^24)(D:∀g tk (B:Array h_),(∀c o,s.heap.get? c=a_ o->g.get? c=a_ o)->ItemsOf (λi v=>∃t,v=.int (a+i*1) t) B n->Q B.toList {s with heap:=g,toks:=tk}):w_ (B_ prog w) A (Qw (.ref r)) Q E s:=by
 unfold Qw;refine b_ (wpAny_runValue (Ii OW ?_))
 (rw[Hd OV _];show w_ _ A.in1 (Qv [] >>=λl=>again (.builtin "list.__iadd__" ⟨[l,.ref r],[]⟩)) _ _ s)
 refine b_ (GD (g_ ⟨Jo K1 _,Ii P5 ?_⟩))
 (rw[Hd K1 _];show w_ _ A.in1 (Builtin.List.listExtendWith (.ref s.z) (.ref r) (.ref s.z)) _ _ _)
 have C:(s.heap.push newL).get? s.z=a_ {cls:=.type "list",data:=.seq #[] 0}:=o_ _ rfl;refine GS (wpAny_extend_range (A:=A) (R:=λJ z=>J=.ok (.ret (.ref s.z))/\∃(B:Array h_) (c:Nat),z.heap.get? s.z=a_ {cls:=.type "list",dict:=f_,data:=.seq B c,slots:=#[]}/\Q B.toList z) (s:={s with heap:=s.heap.push newL}) y (e_ _ p) Y x L s.z _ 0 C λg tk B c kp U j=>?_) (λd z h=>?_) λe z h=>FZ h.1 ad
 .exact⟨rfl,B,c,U,D g tk B (λz o e=>kp z o (FR (s_ e)) (e_ _ e)) j⟩
 .cases d with
  |done f=>obtain⟨e,B,c,U,q⟩:=h;cases e;exact b_ (m:=load s.z) (MG U (g_ q))
  |again G=>
   refine⟨h.1,JB h.2 λJ z k=>?_⟩
   obtain⟨rfl,B,c,U,q⟩:=k;exact b_ (m:=load s.z) (MG U (g_ q))
theorem sU{a b:Int}{t u v:Tok}(U:KV a b 1=d_)(q:Jp a b 1=n)(J:n<=2^24):
  MeetsIn prog w (Builtin.«tuple.__new__» ⟨[.type "tuple",.ref r],[]⟩)
   (λA R s=>A.handled=f_/\IsRange s.heap r a b 1 t u v/\∀(g:Gr) (tk:Nat) (B:Array h_),(∀c o,s.heap.get? c=a_ o->g.get? c=a_ o)->ItemsOf (λi v=>∃t,v=.int (a+i*1) t) B n->R (.ok (.ret (.ref g.objs.size))) {s with heap:=g.push {cls:=.type "tuple",data:=.seq B},toks:=tk}):=
 .of_wp λA R s h=>by
  obtain⟨p,g,d,tk,l⟩:=s;obtain⟨y,Y,h⟩:=h;have k:=sub_tuple_self;have f:=init_tuple_lookup;have x:=madeHere_tuple;have z:LJ ⟨p,g,d,tk,l⟩ (.ref r) "range":=⟨_,Y,rfl⟩
  wp_walk using wpAny_loadPart' Y,MS z,ze (A:=A.in1) (n:=n) y Y U q J
  intro g2 L B kp j;show w_ _ _ (Kb B.toList.toArray >>=λv=>ret v) _ _ _;unfold Kb;have m:B.toList.toArray.size<=q_:=by rw[JW];have:=j.1;simp;lia
  refine b_ (GD (g_ ⟨_,rfl,?_⟩) m);have e:B.toList.toArray=B:=by simp
  rw[e];exact h g2 L B kp j
end
section
variable{s:l_}
theorem nZ{Q:Mq}{a b:Int}{t u v:Tok}(f:A.handled=f_)(d:IsRange s.heap r a b 1 t u v)(U:KV a b 1=d_)(e:Jp a b 1=n)(J:n<=2^24)(h:∀(g:Gr) (tk:Nat) (B:Array h_),(∀c o,s.heap.get? c=a_ o->g.get? c=a_ o)->ItemsOf (λi v=>∃t,v=.int (a+i*1) t) B n->Q (.ref g.objs.size) {s with heap:=g.push {cls:=.type "tuple",data:=.seq B},toks:=tk}):
  w_ (B_ prog w) A (Ka (.type "tuple") [.ref r]) Q E s:=
 callType_newIn F.called_tuple am (F.typeCall_tuple_1 _) (F.newCall_tuple_1 _) (λL=>NF L _) F.entry_tuple_new
  (sU (t:=t) (u:=u) (v:=v) U e J) ⟨f,d,λg tk B kp Y=>⟨⟨_,o_ _ rfl,rfl⟩,h g tk B kp Y⟩⟩
end
section
variable{W:cv}{own:Bool}{a b:Hb}{p:MJ}{fr:ah->M (List A')}
theorem qU(c:X.calm=d_):fW X (.type "tuple") (λxs H Q=>∃r lo hi,xs=[.ref r]/\H r=a_ (.rng lo hi)/\(-(2^62)<=lo/\lo<2^62/\ -(2^62)<=hi/\hi<2^62)/\(hi-lo).toNat<=q_/\∀l,H l=f_->Q (.ref l) (upd H l (.tup ((FN (hi-lo).toNat).map λk:Nat=>V.int (lo+k))))):=by
 intro B2 s σ H xs us Q I Y h;obtain⟨r,lo,hi,rfl,d,⟨p,m,j,f⟩,w,q⟩:=h;obtain⟨u,rfl,U⟩:=Y.one;cases U;obtain⟨t,u,v,e⟩:=(show ∃t u v,s.heap.get? r=a_ {cls:=.type "range",data:=.fields #[.int lo t,.int hi u,.int 1 v]}from I.hok r _ d)
 refine nZ (n:=(hi-lo).toNat) (I.ok.hd c) e (QF p m j f) (by grind[Oq]) bi λg tk B kp J=>?_;have a:D' ((FN (hi-lo).toNat).map λk:Nat=>V.int (lo+k)) B.toList:=rQ (by rw[GF];exact J.1) λi v hi=>by
  obtain⟨t,e⟩:=J.2 i v (by simpa using hi)
  simp_all
 have L:B6 X B2 σ H {s with heap:=g,toks:=tk}:=I.kept kp;exact⟨.ref _,_,L.laid (t':=tk) (λb o e=>e_ _ e) (k_ _) (show gZ _ (g.push {cls:=.type "tuple",data:=.seq B}) _ (.tup _)from⟨bi,B.toList,a,⟨_,o_ _ rfl,rfl,0,ad⟩⟩),rfl,q _ L.fresh⟩
def fTR(fr:ah->M (List A')):ah->M A':=λρ=>(fr ρ).bind bG
theorem trng_end{i j:Int}(p:aE K W own F H1 (bG (aL i (j-i).toNat)) Q)(s:aU F H1)(U:H1 r=f_):
  (j-i).toNat<=q_/\∀l,upd H1 r (.rng i j) l=f_->Q (.ref l) (upd (upd H1 r (.rng i j)) l (.tup ((FN (j-i).toNat).map λk:Nat=>V.int (i+k)))):=by
 unfold bG at p;by_cases J:(aL i (j-i).toNat).length<=q_
 .rw[u_ J]at p;refine⟨by simp_all[aL],λl B=>?_⟩
  have s2:B4 F H1 F (upd H1 r (.rng i j)):=B4.grow s U;have L:=B4.lay (o:=.tup ((FN (j-i).toNat).map λk:Nat=>V.int (i+k))) s2.fh B;refine p _ _ _ (s2.trans L) ?_;cases own<;>exact⟨l,_,rfl,SqT.of av,pY i _⟩
 .rw[x_ J]at p;exact(W.ns p).elim
theorem AG(U:X.mg "tuple"=f_)(i:X.mg "range"=f_)(n:DA K W X [a] fr)(m: ~~~(X.calm=d_))(k: ~~~(Gl X "range"))(Y: ~~~(Gl X "tuple"))(g: ~~~(j_ [a] X.env=[(c_,Ga a X.env)]))(J: ~~~(j_ [.Call (.Name "range" q1) [a] [] q2] X.env=[(c_,Ga (.Call (.Name "range" q1) [a] [] q2) X.env)])):DE K W own X (.Call (.Name "tuple" p) [.Call (.Name "range" q1) [a] [] q2] [] pos) (fTR (jv nj fr)):=by
 refine PE.imp (p6 (qU m) Y U IE (bR (pe_rng1 k i n g) fJ J) am am J rfl) λσ H Q h=>?_;obtain⟨F,ρ,r,s,p⟩:=h;refine kT r s (λe o=>p.err (by simp_all[fTR,jv])) λds l xs F1 H1 s1 q1=>?_;have e1:fTR (jv nj fr) ρ=(nj ds).bind bG:=by unfold fTR jv;rw[l];rfl
 rw[e1]at p;have p1:=p.step s1;by_cases b:∃j,ds=[.int j]
 .obtain⟨j,rfl⟩:=b;obtain⟨v,vs,e2,q2,e3⟩:=q1;have p2:aE K W own F1 H1 ((if bg j=d_ then GX (aL 0 j.toNat)else I9 Err.stuck:M (List A')).bind bG) Q:=p1;by_cases B:bg j=d_
  .rw[u_ B]at p2;unfold bg at B;simp only[t_,FO]at B;have e4:xs=[.int j]:=by rw[e2,show v=.int j from q2,show vs=[]from e3]
   subst e4;refine⟨0,j,rfl,rfl,⟨am,am,B.1,B.2⟩,λf L=>?_⟩
   have p3:aE K W own F1 H1 (bG (aL 0 (j-0).toNat)) Q:=by rw[Int.sub_zero];exact p2
   obtain⟨d,c⟩:=trng_end p3 s1.fh L;exact⟨f,0,j,rfl,av,⟨am,am,B.1,B.2⟩,d,c⟩
  .rw[x_ B]at p2;exact(W.ns p2).elim
 .have:nj ds=.error .stuck:=by
   unfold nj;split
   .lia
   .rfl
  rw[this]at p1;exact(W.ns p1).elim
@[simp]def e_TR{ρ:ah}:fTR fr ρ=(fr ρ).bind bG:=id rfl
end
def fn_stk{base:Gr}{f:i_}:jr P w K mg base CX0 k f fd ps (spF K ro (bq nN ps.length λ_=>stk) ps.length) where
 len:=λvs H Q E ⟨F,ds,s,q,l,p⟩=>by rw[q.length,l]
 run:=λA outer s H B us vs Q E L U Y J ⟨F,ds,s1,q,l,p⟩=>by
  have e:bq nN ps.length (λ_=>stk) ds=stk:=by unfold bq;rw[u_ l];rfl
  rw[e]at p;exact aE.stuck p
theorem A5{n:Nat}:∀{ds:List A'} {d:A'},lh ds n=d_->d∈ds->H8 d n=d_
 |[],d,_,h=>by simp at h|a::ds,d,h,B=>by
  unfold lh at h;simp only[t_]at h;rcases p_.mp B with e|e
  .simp_all
  .exact A5 h.2 e
section
variable{W:cv}{own:Bool}
open Classical in
theorem has_D{s:Shared}(I:B6 X B2 σ H s)(hF:aU F H){a:A'}{x:V}(od:lh ds 40=true)(oa:H8 a 40=true)(qs:aw X.K F ds xs)(rv:D' xs its)(qa:aY X.K F a x)(ra:C' x u)(hu:A.units+40<cLine):
  ∃e:Value->Bool,(∀y,y∈its.toArray->SeqAt.EqAt A s y u (e y))/\its.toArray.any e=ds.any λd=>eqD d a:=by
 have each:∀(i:Nat) (y:Value),its[i]?=some y->∃d,ds[i]?=some d/\SeqAt.EqAt A s y u (eqD d a):=λi y hy=>by
  have hi:i<its.length:=(List.getElem?_eq_some_iff.mp hy).1;have h1:i<xs.length:=by rw[rv.length];exact hi
  have h2:i<ds.length:=by rw[<- qs.length];exact h1
  obtain⟨v,e1,q1⟩:=qs.get (List.getElem?_eq_getElem h2);obtain⟨w,e2,r2⟩:=rv.get e1;rw[hy]at e2;cases e2;exact⟨_,List.getElem?_eq_getElem h2,eqAt_D I hF _ a (A5 od (List.getElem_mem h2)) oa q1 qa r2 ra hu⟩
 refine⟨λy=>decide (∃(i:Nat) (d:A'),its[i]?=some y/\ds[i]?=some d/\eqD d a=true),λy hy=>?_,?_⟩
 .by_cases h:∃(i:Nat) (d:A'),its[i]?=some y/\ds[i]?=some d/\eqD d a=true
  .obtain⟨i,d,h1,h2,h3⟩:=h;obtain⟨d',h4,h5⟩:=each i y h1;rw[h2]at h4;cases h4;rw[h3]at h5;have:decide (∃(i:Nat) (d:A'),its[i]?=some y/\ds[i]?=some d/\eqD d a=true)=true:=decide_eq_true ⟨i,d,h1,h2,h3⟩
   simp_all
  .have hm:y∈its:=by simpa using hy
   obtain⟨i,hi⟩:=List.getElem?_of_mem hm
   grind[decide_eq_false]
 .rw[Bool.eq_iff_iff];simp only[List.any_toArray,List.any_eq_true,decide_eq_true_eq];constructor
  .rintro⟨y,hy,i,d,h1,h2,h3⟩;exact⟨d,List.mem_of_getElem? h2,h3⟩
  .rintro⟨d,hd,h3⟩;obtain⟨i,hi⟩:=List.getElem?_of_mem hd;have h2:i<ds.length:=(List.getElem?_eq_some_iff.mp hi).1;have h4:i<its.length:=by rw[<- rv.length,qs.length];exact h2
   exact⟨its[i],List.getElem_mem h4,i,d,List.getElem?_eq_getElem h4,hi,h3⟩
theorem o_notIn(k:X.A.units+64<G3)(j: ~~~(X.K=K)):Op2 K W own X (Gy .NotIn) w9:=by
 subst j;intro B2 s σ H x y v u Q I f c h;obtain⟨F,a,b,s1,i,g,p⟩:=h;have J:X.A.in1.units+40<G3:=by show X.A.units+1+40<G3;lia
 cases b with
 |lst ds=>
  obtain⟨l,xs,e,t,z⟩:=g;subst e;cases c;have p':aE X.K W own F H (if (H8 a 40&&lh ds 40)=d_ then .ok (.bl (!ds.any λd=>eqD d a))else stk) Q:=p;by_cases B:(H8 a 40&&lh ds 40)=d_
  .rw[u_ B]at p';simp only[t_]at B;obtain⟨its,L,pl,_⟩:=I.list (s1.lst t);obtain⟨e,U,Y⟩:=has_D (A:=X.A.in1) I s1 B.2 B.1 z L i f J;refine SeqAt.notIn_listAt e pl.isList U ?_;rw[Y];exact p'.blS s1 I
  .rw[x_ B]at p';exact p'.stuck
 |tup ds=>
  obtain⟨l,xs,e,t,z⟩:=g;subst e;cases c;have p':aE X.K W own F H (if (H8 a 40&&lh ds 40)=d_ then .ok (.bl (!ds.any λd=>eqD d a))else stk) Q:=p;by_cases B:(H8 a 40&&lh ds 40)=d_
  .rw[u_ B]at p';simp only[t_]at B;obtain⟨its,L,pl,_⟩:=I.tuple (s1.tup t);obtain⟨e,U,Y⟩:=has_D (A:=X.A.in1) I s1 B.2 B.1 z L i f J;refine SeqAt.notIn_tupleAt e (show s.heap.IsTuple l its.toArray from pl) U ?_;rw[Y];exact p'.blS s1 I
  .rw[x_ B]at p';exact p'.stuck
 |_=>exact aE.stuck p
end
abbrev ZRec(h:Gr)(z p q:i_)(m k:h_):Prop:=h.get? z=a_ {cls:=.type "zip",dict:=f_,data:=.fields #[m,k,.bool c_,.ref p,.ref q],slots:=#[]}
def Off(z q u v:i_)(h h':Gr):Prop:=∀c o,c≠z->c≠q->c≠u->c≠v->h.get? c=a_ o->h'.get? c=a_ o
section
variable{q u v:i_}{a b:h_}{g:Gr}
def Off.then(A:Off z q u v h h')(B:Off z q u v h' g):Off z q u v h g:=λc o a b d e x=>B c o a b d e (A c o a b d e x)
def Off.byZ(A:Hm z h h'):Off z q u v h h':=λc o a _ _ _ x=>A c o a x
def Off.byQ(A:Hm q h h'):Off z q u v h h':=λc o _ a _ _ x=>A c o a x
def Off.byU(A:Hm u h h'):Off z q u v h h':=λc o _ _ a _ x=>A c o a x
def Off.byV(A:Hm v h h'):Off z q u v h h':=λc o _ _ _ a x=>A c o a x
def Off.new{o:L7}:Off z q u v h (h.push o):=λ_ _ _ _ _ _ x=>e_ _ x
end
section
variable{s:l_}{p q:i_}{r k:h_}
def Cw{c:i_}(U:ZRec s.heap z p q r k)(a:∃o,s.heap.get? c=a_ o/\o.cls=.type "StopIteration")(b:∀h',Hm z s.heap h'->(∃o,h'.get? c=a_ o/\o.cls=.type "StopIteration")->T () {s with heap:=h'}):w_ (B_ P w) A (MT (.ref z) 0 .none) T E s:=by
 obtain⟨o,e,t⟩:=a;have Y:c≠z:=by intro J;have L:=e.symm.trans (J▸U);rw[G7 L]at t;exact FZ t ad
 exact Qc U (show 0<5 by decide) λh' _ B=>b h' B.extBut ⟨o,B.extBut _ _ Y e,t⟩
end
theorem B4.stays{o:HO}(s:B4 F H F' H')(n:F a=f_)(h:H a=a_ o):F' a=f_:=by
 cases e:F' a with
 |none=>rfl|some u=>
  rcases s.nw a u e with z|z
  .simp_all
  simp_all
structure sO(K:Pn)(F G H:Hp)(ds:List A')(vs:bp):Prop where
 len:vs.length=ds.length
 get:∀(k:Nat) (d:A'),ds[k]?=a_ d->∃a xs es,vs[k]?=a_ (.ref a)/\d=.lst es/\H a=a_ (.lst xs)/\F a=f_/\G a=f_/\aw K F es xs
 ap:∀(j k:Nat) (a:i_),vs[j]?=a_ (.ref a)->vs[k]?=a_ (.ref a)->j=k
section
variable{G:Hp}{vs:List V}
def sO.nil:sO K F G H [] []:=⟨rfl,λk d e=>by simp at e,λj k a e=>by simp⟩
def sO.step(o:sO K F G H ds vs)(s:B4 F H F' H'):sO K F' G H' ds vs where
 len:=o.len
 get:=λk d e=>by obtain⟨a,xs,es,h1,Y,B,U,L,J⟩:=o.get k d e;exact⟨a,xs,es,h1,Y,s.hh _ _ B,s.stays U B,L,J.mono s.ff⟩
 ap:=o.ap
def sO.back{B:Hp}(o:sO K F G H ds vs)(s:aU B G):sO K F B H ds vs where
 len:=o.len
 get:=λk d e=>by obtain⟨a,xs,es,h1,b,Y,U,L,J⟩:=o.get k d e;exact⟨a,xs,es,h1,b,Y,U,s.free L,J⟩
 ap:=o.ap
theorem sO.at(o:sO K F G H ds vs)(h:vs[k]?=a_ (.ref a)):∃xs es,ds[k]?=a_ (.lst es)/\H a=a_ (.lst xs)/\F a=f_/\G a=f_/\aw K F es xs:=by
 have B:k<ds.length:=by rw[<- o.len];exact(oe.mp h).1
 obtain⟨b,xs,es,h1,c,Y,U,L,J⟩:=o.get k ds[k] ad
 simp_all
theorem sO.add(o:sO K F G H ds vs){es:List A'}(L:∀k:Nat,vs[k]?≠a_ (.ref a))(f:H a=a_ (.lst xs))(c:F a=f_)(Y:G a=f_)(U:aw K F es xs):sO K F G H (ds++[.lst es]) (vs++[.ref a]) where
 len:=by simp[o.len]
 get:=λk d e=>by
  rcases Pt k ds.length with z|z|z
  .rw[GC z]at e;obtain⟨b,ys,fs,g,g2⟩:=o.get k d e;exact⟨b,ys,fs,by rw[GC (by rw[o.len];exact z)];exact g,g2⟩
  .subst z;simp at e;refine⟨a,xs,es,?_,e.symm,f,c,Y,U⟩
   rw[<- o.len];simp
  .have:=(oe.mp e).1;simp at this;lia
 ap:=λj k b e1 e2=>by
  have key:∀m,(vs++[V.ref a])[m]?=a_ (.ref b)->(m<vs.length/\vs[m]?=a_ (.ref b))\/(m=vs.length/\b=a):=λm e=>by
   rcases Pt m vs.length with z|z|z
   .rw[GC z]at e;exact .inl ⟨z,e⟩
   .subst z;simp at e;exact .inr ⟨rfl,e.symm⟩
   .have:=(oe.mp e).1;simp at this;lia
  rcases key j e1 with⟨_,J⟩|⟨J,i⟩<;>rcases key k e2 with⟨_,B⟩|⟨B,h⟩
  .exact o.ap j k b J B
  .grind
  .grind
  lia
end
section
variable{W:cv}
theorem rd_turns{p:Pat}(r:lI K F σ ρ)(s:aU F H)(hL:∀ρ d,fe ρ=.ok d->∃es,d=.lst es)(C:∀e,aZ fi ix p ft fe ρ=.error e->W.p e F H)(Z:∀P,aZ fi ix p ft fe ρ=.ok (.lst P)->∀ys c H2,B4 F H c H2->sO K c H H2 P ys->R ys H2):iD K W fi σ H λJ H1=>jT J ix (gP K p) (tDT K W ft) (tD K W d_ fe) σ R H1:=by
 refine⟨F,ρ,r,s,?_⟩
 cases T:fi ρ with
 |error e=>exact C e (by unfold aZ;rw[T];rfl)|ok ds=>
  intro J F1 H1 s1 G;have D:aZ fi ix p ft fe ρ=if ds.length<=q_ then(ay p ft fe (cm ix ρ) ds).bind λr=>.ok (.lst r)else .error .stuck:=by unfold aZ;rw[T];rfl
  by_cases S:ds.length<=q_
  .rw[u_ S]at D;rw[D]at C Z;refine⟨λi m ys H2=>m=ds.length-i/\i<=ds.length/\∃c B,B4 F1 H1 c H2/\sO K c H1 H2 B ys/\B.length<=i /\
    (match ay p ft fe (cm ix ρ) (ds.drop i)with
     |.ok L=>ay p ft fe (cm ix ρ) ds=.ok (B++L)|.error e=>W.p e F H),⟨ds.length,ac,Gi _,F1,[],B4.refl s1.fh,sO.nil,Gi _,?_⟩,?_⟩
   .rw[Jq];cases e:ay p ft fe (cm ix ρ) ds with
    |ok L=>rfl|error x=>exact C x (by rw[e];rfl)
   .rintro i m ys H2 ⟨rfl,hi,c,B,s2,E,ly,o⟩;have u:ys.length<=q_:=by rw[E.len];lia
    by_cases h:i<ds.length
    .have ed:ds.drop i=ds[i]::ds.drop (i+1):=Gq h;rw[ed]at o;refine .inr ⟨G.go i c H2 s2.ff s2.fh h,u,λq H'=>(i+1<=ds.length/\∃c B,B4 F1 H1 c H'/\sO K c H1 H' B q/\B.length<=i+1 /\
      (match ay p ft fe (cm ix ρ) (ds.drop (i+1))with
       |.ok L=>ay p ft fe (cm ix ρ) ds=.ok (B++L)|.error e=>W.p e F H)),λq H' n=>⟨ds.length-(i+1),ac,rfl,n⟩,λx H' y=>?_⟩
     obtain⟨F3,g,q3⟩:=G.yl i c H2 x H' ds[i] s2.ff s2.fh ad y;have r3:lI K F3 (Lake.inS ix σ) (cm ix ρ):=(r.mono (s1.trans (s2.trans g)).ff).inS ix;have t:B4 F H F3 H':=s1.trans (s2.trans g);have ec:ay p ft fe (cm ix ρ) (ds[i]::ds.drop (i+1))=(dI p ds[i] (cm ix ρ)).bind λU=>(ft U).bind λb=>if b=d_ then(fe U).bind λy=>(ay p ft fe (cm ix ρ) (ds.drop (i+1))).bind λr=>.ok (y::r)else ay p ft fe (cm ix ρ) (ds.drop (i+1)):=by rw[ay]
     rw[ec]at o;cases A:dI p ds[i] (cm ix ρ)with
     |error e=>rw[A]at o;have:=jX A;subst this;exact(W.ns o).elim|ok U=>
      rw[A]at o;refine Et r3 g.fh q3 A λσ2 Q=>?_;have f:match ((ft U).bind λb=>if b=d_ then(fe U).bind λy=>(ay p ft fe (cm ix ρ) (ds.drop (i+1))).bind λr=>.ok (y::r)else ay p ft fe (cm ix ρ) (ds.drop (i+1)))with
       |.ok L=>ay p ft fe (cm ix ρ) ds=.ok (B++L)|.error e=>W.p e F H:=o
      refine iN Q g.fh (λe I=>by rw[I]at f;exact W.mono f t) λb N F5 H5 l=>?_;rw[N]at f;cases b with
      |false=>
       have Y:match ay p ft fe (cm ix ρ) (ds.drop (i+1))with
        |.ok L=>ay p ft fe (cm ix ρ) ds=.ok (B++L)|.error e=>W.p e F H:=f
       exact⟨h,F5,B,s2.trans (g.trans l),E.step (g.trans l),ac,Y⟩
      |true=>
       have Y:match ((fe U).bind λy=>(ay p ft fe (cm ix ρ) (ds.drop (i+1))).bind λr=>.ok (y::r))with
        |.ok L=>ay p ft fe (cm ix ρ) ds=.ok (B++L)|.error e=>W.p e F H:=f
       refine aF (Q.mono l.ff) l.fh (λe I=>by rw[I]at Y;exact W.mono Y (t.trans l)) λd X v F6 H6 O q6=>?_;rw[X]at Y;obtain⟨es,rfl⟩:=hL _ _ X;obtain⟨a,xs,ev,g1,g2,g3,g4⟩:=q6;subst ev;have d5:=E.step (g.trans l);refine⟨h,F6,B++[.lst es],s2.trans (g.trans (l.trans O)),(d5.step O).add (λk hk=>?_) g1 g2 ((s2.trans (g.trans l)).hh.free g3) g4,by simp;lia,?_⟩
       .obtain⟨_,_,_,z,_⟩:=d5.at hk;rw[g3]at z;cases z
       .have j:match ((ay p ft fe (cm ix ρ) (ds.drop (i+1))).bind λr=>.ok (A'.lst es::r):M (List A'))with
         |.ok L=>ay p ft fe (cm ix ρ) ds=.ok (B++L)|.error e=>W.p e F H:=Y
        cases e7:ay p ft fe (cm ix ρ) (ds.drop (i+1))with
        |ok L=>rw[e7]at j;show _=GX ((B++[A'.lst es])++L);rw[FX];exact j|error x=>rw[e7]at j;exact j
    .have:i=ds.length:=ac
     subst this;rw[Il]at o;have w:ay p ft fe (cm ix ρ) ds=.ok (B++[]):=o;rw[Hf]at w;exact .inl ⟨G.st c H2 s2.ff s2.fh,u,Z B (by rw[w];rfl) ys c H2 (s1.trans s2) (E.back s1.hh)⟩
  .rw[x_ S]at D;exact(W.ns (C .stuck D)).elim
end
noncomputable def yw:A'->M (List A')
 |.lst ds=>.ok ds|_=>.error .stuck
def rowAt(B:List A')(a:Int):M (Nat×List A'):=match ixN B.length a with
 |some j=>(match B[j]? with
  |some (.lst es)=>.ok (j,es)|_=>.error .stuck)
 |none=>.error .stuck
def kD(J:List A')(B:Nat×List A')(b:Int)(x:A'):M (List A'):=match ixN B.2.length b with
 |some k=>.ok (J.set B.1 (.lst (B.2.set k x)))|none=>.error .stuck
def vG(i:Nat)(J:List A')(x:A')(L:Nat×List A')(fB:ah->M A')(ρ:ah):M B':=(fB (ρ.set i f_)).bind λb=>(asI b).bind λb=>(kD J L b x).bind λB=>.ok (.nx (ρ.set i (a_ (.lst B))))
def qD(i:Nat)(B:List A')(x:A')(fA fB:ah->M A')(ρ:ah):M B':=(fA (ρ.set i f_)).bind λa=>(asI a).bind λa=>(rowAt B a).bind λJ=>vG i B x J fB ρ
def D7(i:Nat)(B:List A')(fx fA fB:ah->M A')(ρ:ah):M B':=(fx (ρ.set i f_)).bind λx=>qD i B x fA fB ρ
def y0(i:Nat)(fc fx fA fB:ah->M A'):ah->M B':=λρ=>(fc ρ).bind λd=>(yw d).bind λB=>D7 i B fx fA fB ρ
def kz(g:ah->M B')(m:M B'):M B':=m.bind λfl=>match fl with
 |.nx ρ'=>g ρ'|fl=>.ok fl
def bx{m:M B'}{e:Err}(h:m=.error e):kz g m=.error e:=by rw[h];rfl
section
variable{W:cv}{D:Ends}
theorem rs_rows{p:Pat}{fB:ah->M A'}(hL:∀ρ d,fe ρ=.ok d->∃es,d=.lst es)(hi:i<σ.length)(t:tS K W ro F0 H0 OL [] O' (aP (y0 i (aZ fi ix p ft fe) fx fA fB) g) D σ H):
  tSeq (sX i (iD K W fi) ix (gP K p) (tDT K W ft) (tD K W d_ fe)) (tSeq (tAsg (tD K W c_ fx) (gSub (tOp (rIx K) (tVar i) (tD K W c_ fA)) (tD K W c_ fB) rSetL)) (tS K W ro F0 H0 OL [] O' g)) D σ H:=by
 obtain⟨FB,F,ρ,r,q⟩:=t;have rE:=r.repE;have q0:c9 K W ro F0 H0 FB OL O' D (kz g (y0 i (aZ fi ix p ft fe) fx fA fB ρ)):=q;refine rd_turns rE r.st.fh hL (λe he=>q0.eX r.st (bx (by unfold y0;rw[he];rfl))) λB hrs ys F2 H2 s2 ow a ha=>?_;have q1:c9 K W ro F0 H0 FB OL O' D (kz g (D7 i B fx fA fB ρ)):=by unfold y0 at q0;rw[hrs]at q0;exact q0
 have r2:lI K F2 (σ.set i (a_ (.ref a))) (ρ.set i f_):=⟨by rw[Gd,Gd,r.len],λj d e=>by
  by_cases S:i=j
  .subst S;rw[z_ (by rw[r.len];exact hi)]at e;cases e
  .rw[v_ S]at e;obtain⟨v,h1,h2⟩:=rE.sl j d e;exact⟨v,bi,h2.mono s2.ff⟩⟩
 have sg:B4 F2 H2 F2 (upd H2 a (.lst ys)):=B4.grow s2.fh ha;have f:=s2.trans sg;refine aF r2 sg.fh (λe he=>q1.eX (r.st.trans f) (bx (by simp_all[D7]))) λx hx v F3 H3 U qx=>?_;have q2:c9 K W ro F0 H0 FB OL O' D (kz g (qD i B x fA fB ρ)):=by unfold D7 at q1;rw[hx]at q1;exact q1
 refine⟨.ref a,bi,?_⟩
 refine aF (r2.mono U.ff) U.fh (λe he=>q2.eX (r.st.trans (f.trans U)) (bx (by simp_all[qD]))) λda X va F4 H4 l qa=>?_;cases da with
 |int ka=>
  have s:c9 K W ro F0 H0 FB OL O' D (kz g ((rowAt B ka).bind λje=>vG i B x je fB ρ)):=by unfold qD at q2;rw[X]at q2;exact q2
  have h3a:H3 a=a_ (.lst ys):=U.hh _ _ av;have h4a:=l.hh _ _ h3a;have P:=((ow.step sg).step U).step l;have N:=f.trans (U.trans l);cases hj:ixN B.length ka with
  |none=>exact s.stuck (bx (by simp_all[rowAt]))|some j=>
   have Q:=(uh hj).2.1;obtain⟨b,xs,es,g1,g2,g3,g4,g5,g6⟩:=P.get j B[j] ad;have erj:B[j]?=a_ (.lst es):=by rw[<- g2];simp[Q]
   have O:c9 K W ro F0 H0 FB OL O' D (kz g (vG i B x (j,es) fB ρ)):=by
    unfold rowAt at s;rw[hj]at s;have s:c9 K W ro F0 H0 FB OL O' D (kz g (((match B[j]? with
     |some (.lst es)=>.ok (j,es)|_=>.error .stuck):M (Nat×List A')).bind λje=>vG i B x je fB ρ)):=s
    rw[erj]at s;exact s
   refine .inl ⟨a,ys,ka,.ref b,rfl,qa,SqL.of h4a,?_,?_⟩
   .unfold atI;rw[ow.len,hj];exact g1
   refine aF (r2.mono (U.trans l).ff) l.fh (λe he=>O.eX (r.st.trans N) (bx (by simp_all[vG]))) λdb T vb J G L qb=>?_;cases db with
   |int kb=>
    have q5:c9 K W ro F0 H0 FB OL O' D (kz g ((kD B (j,es) kb x).bind λrs'=>.ok (.nx (ρ.set i (a_ (.lst rs')))))):=by unfold vG at O;rw[T]at O;exact O
    cases hk:ixN es.length kb with
    |none=>exact q5.stuck (bx (by simp_all[kD]))|some k=>
     have q6:c9 K W ro F0 H0 FB OL O' D (g (ρ.set i (a_ (.lst (B.set j (.lst (es.set k x))))))):=by unfold kD at q5;rw[show((j,es):Nat×List A').2=es from rfl,hk]at q5;exact q5
     have h5a:=L.hh _ _ h4a;have h5b:=L.hh _ _ g3;have y:=P.step L;have st:B4 F H J G:=N.trans L;refine⟨b,xs,kb,k,rfl,qb,h5b,by rw[g6.length];exact hk,?_⟩
     have ma:H a=f_:=s2.hh.free ha;have fa2:F2 a=f_:=s2.fh.free ha;have f5a:J a=f_:=(U.trans (l.trans L)).stays fa2 (av (H:=H2) (a:=a) (o:=.lst ys));have nab:a≠b:=λz=>by
      obtain⟨_,_,_,w,_⟩:=ow.at (k:=j) (a:=b) g1
      simp_all
     have inA:∀c,(c=a\/∃m:Nat,ys[m]?=a_ (.ref c))->J c=f_/\H c=f_:=λc h=>by
      rcases h with z|⟨m,z⟩
      .simp_all
      .obtain⟨_,_,_,_,z1,z2,_⟩:=y.at z;exact⟨z1,z2⟩
     have Ab:b=a\/∃m:Nat,ys[m]?=a_ (.ref b):=.inr ⟨j,g1⟩;have I:aU J (plus J (upd G b (.lst (xs.set k v))) λc=>c=a\/∃m:Nat,ys[m]?=a_ (.ref c)):=λc o h=>by grind[cW]
     have fh:aU (plus J (upd G b (.lst (xs.set k v))) λc=>c=a\/∃m:Nat,ys[m]?=a_ (.ref c)) (upd G b (.lst (xs.set k v))):=λc o h=>by
      by_cases Z:c=a\/∃m:Nat,ys[m]?=a_ (.ref c)
      .simp_all[eO]
      .rw[cW Z]at h;have:c≠b:=λz=>Z (by rw[z];exact Ab);rw[aA this];exact L.fh c o h
     have C:aU F3 (plus J (upd G b (.lst (xs.set k v))) λc=>c=a\/∃m:Nat,ys[m]?=a_ (.ref c)):=(l.trans L).ff.trans I;have A:aU F4 (plus J (upd G b (.lst (xs.set k v))) λc=>c=a\/∃m:Nat,ys[m]?=a_ (.ref c)):=L.ff.trans I;refine⟨FB,plus J (upd G b (.lst (xs.set k v))) (λc=>c=a\/∃m:Nat,ys[m]?=a_ (.ref c)),ρ.set i (a_ (.lst (B.set j (.lst (es.set k x))))),?_,q6⟩
     have Y:=r.st.trans st;refine⟨⟨Y.ff.trans I,λc o h=>?_,fh,λc o h=>?_⟩,r.fb.trans (st.ff.trans I),by rw[Gd,Gd,r.len],λm d e _=>?_,(λm d e h=>nomatch h),(λm n d1 d2 c h=>nomatch h)⟩
     .have:c≠b:=λz=>by
       rw[z]at h;have:=r.st.hh _ _ h
       lia
      rw[aA this];exact Y.hh c o h
     .by_cases Z:c=a\/∃m:Nat,ys[m]?=a_ (.ref c)
      .exact .inr (r.st.hh.free (inA c Z).2)
      .rw[cW Z]at h;exact Y.nw c o h
     .by_cases R:i=m
      .subst R;rw[z_ (by rw[r.len];exact hi)]at e;cases e;refine⟨.ref a,bi,a,ys,rfl,SqL.of ?_,?_⟩
       .simp_all[eO,aA]
       .refine aw.of_get (by rw[Gd];exact ow.len) λm d u e1 e2=>?_;by_cases E:j=m
        .subst E;rw[z_ Q]at e1;cases e1;rw[g1]at e2;cases e2;exact⟨b,xs.set k v,rfl,SqL.of (by rw[eO Ab,av]),aw.set (aY.mono C qx) k (g6.mono A)⟩
        .rw[v_ E]at e1;obtain⟨c,ws,fs,k1,k2,k3,k4,k5,k6⟩:=y.get m d e1;rw[k1]at e2;cases e2;subst k2;have ncb:c≠b:=λz=>E (y.ap j m b g1 bi);exact⟨c,ws,rfl,SqL.of (by rw[eO (.inr ⟨m,k1⟩),aA ncb];exact k3),k6.mono I⟩
      .rw[v_ R]at e;obtain⟨u,h1,h2⟩:=rE.sl m d e;exact⟨u,bi,h2.mono (st.ff.trans I)⟩
   |_=>exact O.stuck (bx (by unfold vG;rw[T];rfl))
 |_=>exact q2.stuck (bx (by unfold qD;rw[X];rfl))
end
theorem wm{fr:ah->M (List A')}:∀ρ d,fL gL fr ρ=.ok d->∃es,d=.lst es:=λρ d h=>by
 unfold fL at h;cases e:fr ρ with
 |error x=>simp_all|ok ds=>
  rw[e]at h;have h:gL ds=.ok d:=h;unfold gL at h;split at h
  all_goals first
   |(cases h;done)
   |(split at h<;>first|(cases h;done)|(cases h;exact⟨_,rfl⟩))
   |(cases h;exact⟨_,rfl⟩)
section
variable{W:cv}{pt:Pat}{fB:ah->M A'}
def ds_rows(N':List Gh)(ix:List (Option Nat))(w:X.N.Nodup)(hi:DI K W X tg iter fi)(p:∀L cs s H fp,DG K (aQ X N' sc L cs s H fp) tg pt)(n:kS ix (gP K pt))(k:∀L cs s H fp,PTs (aQ X N' sc L cs s H fp) ifs (tDT K W ft))(q:∀L cs s H fp,DE K W d_ (aQ X N' sc L cs s H fp) elt fe)(y:∀ρ d,fe ρ=.ok d->∃es,d=.lst es)(h:DE K W c_ X ex fx)(E:DE K W c_ X ea fA)(C:DE K W c_ X eb fB)(m:DSs K W ro X OL [] O' sts g)(b: ~~~(X.N[i]?=a_ x))(f: ~~~(X.env.scope.names.lookup x=a_ .local))(t: ~~~(X.calm=d_))(A: ~~~(X.K=K))(U: ~~~(HB (.ListComp elt [⟨tg,iter,ifs,0⟩] sc pos) (a_ (.Name x py)) spos.line X.env=GU d_))(ok: ~~~(bj X.N X.env.scope N' sc ix=d_))(o: ~~~(sc.kind=.function))(l:autoParam (∀x,Ht iter X.env x=GU x) Jq3)(j:autoParam (Vis X.env.scope x) Jq5)(r:((x==("__debug__":Gh))=c_)⁻¹)(e:((x==("__classdict__":Gh))=c_)⁻¹)(a:autoParam (uX ea) Jq8)(u:autoParam (∀v,JD (.Subscript (.Subscript (.Name x p1) ea p2) eb p3) X.env v=(do
   let B <- IL [v] (Ga (.Subscript (.Name x p1) ea p2) X.env)
   let J <- IL [v,B] (Ga eb X.env)
   K_ p3
   IL [v,B,J] (O7 B J v)
   Qu [v,B,J] [])) Jq3)(Y: ~~~(Kk [.Subscript (.Subscript (.Name x p1) ea p2) eb p3] ex p4.line X.env=GU c_))(hw: ~~~(Kl [.Subscript (.Subscript (.Name x p1) ea p2) eb p3] ex X.env=GU f_))(h1: ~~~((Ha [.Subscript (.Subscript (.Name x p1) ea p2) eb p3] X.env).map (·.2)=[JD (.Subscript (.Subscript (.Name x p1) ea p2) eb p3) X.env])):
  DSs K W ro X OL [] O' (.Assign [.Name x py] (.ListComp elt [⟨tg,iter,ifs,0⟩] sc pos) spos::.Assign [.Subscript (.Subscript (.Name x p1) ea p2) eb p3] ex p4::sts) (aP (y0 i (aZ fi ix pt ft fe) fx fA fB) g):=by
 subst A;intro F0 H0 B2 s σ H D I z;have c:i<σ.length:=by rw[I.len];exact(oe.mp b).1
 refine iP (k9 N' ix w b f t hi p n k q U ok o l) (iP (vN h (Dr (pe_ix Ak (pv i b j r e) E a) C set_list u) Y hw h1) (m F0 H0)) B2 s σ H D I ?_;exact rs_rows y c z
end
section
variable{s:l_}
theorem kc{q:i_}{xs:Array h_}{v:h_}{Q:Mq}(st:s.heap.IsTupleIter q a i)(J:s.heap.IsTuple a xs)(B:xs[i]?=a_ v)(k:∀h',h'.IsTupleIter q a (i+1)->Ju q s.heap h'->Q v {s with heap:=h'}):w_ (B_ prog w) A (IY (.ref q)) Q E s:=by obtain⟨U,e1,e2,e3⟩:=id st;obtain⟨Y,L,_,b,f3⟩:=J;have ty:=st.typeIs;unfold IY;refine b_ (G2 (name:=HS "__next__") ty IC (Gx IC ty LU ?_ (LM _)));show w_ _ _ (field (.ref q) 0 >>= _) _ _ s;refine b_ (H_ e1 e3 (x:=.ref a) rfl ?_);show w_ _ _ (if (FJ a==Gu)=d_ then _ else _) _ _ s;rw[x_ (show ¬((FJ a==Gu)=d_)from GJ)];show w_ _ _ (field (.ref q) 1 >>= _) _ _ s;refine b_ (H_ e1 e3 (x:=.int i 0) rfl ?_);show w_ _ _ (Ng (.ref a) >>= _) _ _ s;refine b_ (Hg L f3 ?_);simp only[IQ,B];refine b_ (J1 e1 e3 ad (g_ ⟨v,rfl,g_ (k _ ?_ (IB ..))⟩));exact⟨_,Iv _ e1 (Ly (Jd e3 _)),(Mw ..).trans e2,by simp_all[Jd,Jc]⟩
def pj{q:i_}{xs:Array h_}{Q:Mq}(hh:A.handled=f_)(st:s.heap.IsTupleIter q a i)(J:s.heap.IsTuple a xs)(B:xs[i]?=f_)(k:∀h' e,Hm q s.heap h'->(∃o,h'.get? e=a_ o/\o.cls=.type "StopIteration")->E (.ref e) {s with heap:=h'}):w_ (B_ prog w) A (IY (.ref q)) Q E s:=by
 obtain⟨U,e1,e2,e3⟩:=id st;obtain⟨Y,L,_,b,f3⟩:=J;have ty:=st.typeIs;unfold IY;refine b_ (G2 (name:=HS "__next__") ty IC (Gx IC ty LU ?_ (LM _)));show w_ _ _ (field (.ref q) 0 >>= _) _ _ s;refine b_ (H_ e1 e3 (x:=.ref a) rfl ?_);show w_ _ _ (if (FJ a==Gu)=d_ then _ else _) _ _ s;rw[x_ (show ¬((FJ a==Gu)=d_)from GJ)];show w_ _ _ (field (.ref q) 1 >>= _) _ _ s;refine b_ (H_ e1 e3 (x:=.int i 0) rfl ?_);show w_ _ _ (Ng (.ref a) >>= _) _ _ s;refine b_ (Hg L f3 ?_);simp only[IQ,B];refine b_ (Ih (b_ (J1 e1 e3 ad (b_ ?_))));simp only[Qg,newTuple];refine b_ (GD ?_ (by size_fits));refine b_ (m:=NV _ _) (Nq (a:=Gu) (by rfl) ?_);refine GD ?_ (by size_fits);simp only[raiseNew];refine b_ (Ol ?_);first|rw[show A.in1.handled=f_ from hh]|rw[hh]
 exact b_ (g_ (Py (k _ _ (((IB ..).extBut.push _).push _) ⟨_,o_ _ rfl,rfl⟩)))
end
def wW(U:A.handled=f_)(q a:i_)(B:a≠q)(xs:Array h_):Draws prog w A q [q,a] xs.size (λi v=>xs[i]?=a_ v) (λi h=>h.IsTupleIter q a i/\h.IsTuple a xs) where
 live:=λ_ _ st=>let ⟨o,e,_⟩:=st.1;⟨o,e⟩
 frame:=λ_ _ _ st k=>⟨st.1.at λo e=>k q ad o e,let ⟨o,e,r⟩:=st.2;⟨o,k a ad o e,r⟩⟩
 item:=λi s Q E hi st k=>kc st.1 st.2 (v:=xs[i]) ad λh' L J=>k _ h' s.toks ad ⟨L,let ⟨o,e,r⟩:=st.2;⟨o,J.extBut a o B e,r⟩⟩ J
 done:=λs Q E st k=>pj U st.1 st.2 ad k
def Ey(a:i_)(xs:Array h_)(n:Nat)(Y:Option i_)(sl:Array (Option h_)):Meets (Builtin.«enumerate.__new__» ⟨[.type "enumerate",.ref a],[]⟩) (λ_ R s=>s.heap.get? a=a_ {cls:=.type "tuple",dict:=Y,data:=.seq xs n,slots:=sl}/\R (.ok (.ret (.ref (s.heap.push {cls:=.type "tuple_iterator",data:=.fields #[.ref a,.int 0 0]}).objs.size))) {s with heap:=(s.heap.push {cls:=.type "tuple_iterator",data:=.fields #[.ref a,.int 0 0]}).push {cls:=.type "enumerate",data:=.fields #[.none,.bool c_,.ref s.heap.objs.size,Jc 0,.none,.none]}}):=
 .of_wp λprog w A R s h=>by
  obtain⟨U,g,d,tk,L⟩:=s;obtain⟨ea,h⟩:=h;have B:=sub_enumerate;have J:NO (NM ⟨U,g,d,tk,L⟩) a xs:=⟨_,ea,rfl,n,rfl⟩
  wp_walk using Ku ea
  refine wpAny_stack_any λz=>g_ ?_;split
  .rename_i c _ _ _ _ _;cases(c==HD "enumerate")<;>(wp_walk using Ku ea,JP J;exact⟨_,rfl,h⟩)
  .wp_walk using Ku ea,JP J
   exact⟨_,rfl,h⟩
section
variable{s:l_}
def Cd{xs:Array h_}{Q:Mq}(U:s.heap.IsTuple a xs)(k:∀h',IsEnum h' (s.heap.objs.size+1) s.heap.objs.size 0 .none->h'.IsTupleIter s.heap.objs.size a 0->h'.objs.size=s.heap.objs.size+2->(∀b o,s.heap.get? b=a_ o->h'.get? b=a_ o)->Q (.ref (s.heap.objs.size+1)) {s with heap:=h'}):w_ (B_ prog w) A (Ka (.type "enumerate") [.ref a]) Q E s:=by
 obtain⟨⟨c,d,Y,sl⟩,e1,e2,n,e3⟩:=U;have e2:c=.type "tuple":=e2;have e3:Y=.seq xs n:=e3;subst e2 e3;refine callType_new PySem.F.called_enumerate am (PySem.F.typeCall_enumerate_1 _) (PySem.F.newCall_enumerate_1 _) (λB=>NF B _) PySem.F.entry_enumerate_new (Ey a xs n d sl) ⟨e1,?_⟩;have J:(s.heap.push {cls:=.type "tuple_iterator",data:=.fields #[.ref a,.int 0 0]}).objs.size=s.z+1:=Hq ..;show _/\_;rw[J];have L:IsEnum ((s.heap.push {cls:=.type "tuple_iterator",data:=.fields #[.ref a,.int 0 0]}).push {cls:=.type "enumerate",data:=.fields #[.none,.bool c_,.ref s.z,Jc 0,.none,.none]}) (s.z+1) s.z 0 .none:=by have z:=o_ (s.heap.push {cls:=.type "tuple_iterator",data:=.fields #[.ref a,.int 0 0]}) (o:={cls:=.type "enumerate",data:=.fields #[.none,.bool c_,.ref s.z,Jc 0,.none,.none]}) rfl;rw[J]at z;exact z
 exact⟨⟨_,L,rfl⟩,k _ L ⟨_,e_ _ (o_ _ rfl),rfl,rfl⟩ ad λb o z=>e_ _ (e_ _ z)⟩
end
def IteT(K:Pn)(a:i_):It:=
 ⟨λi H=>∃xs x,SqT K H a xs/\xs[i]?=a_ x,λi H x H'=>∃T y,H T=f_/\x=.ref T/\H'=upd H T (.tup [.int i,y])/\∀xs,SqT K H a xs->xs[i]?=a_ y,λi H=>∃xs,SqT K H a xs/\xs.length=i⟩
theorem Bf(a e L:i_)(n:e≠L):Turn P w K (.Tuple elts k pos) (IteT K a) [e,L] e (λi h=>(∃J,IsEnum h e L i J)/\h.IsTupleIter L a i) where
 mem:=by simp
 obj:=λi h st b U=>by
  obtain⟨⟨J,Y⟩,o,e1,c,d⟩:=st
  grind
 keep:=λi h h' st kk=>by obtain⟨⟨J,Y⟩,B⟩:=st;exact⟨⟨J,kk e ad _ Y⟩,B.at λo x=>kk L ad o x⟩
 item:=by
  intro X T hw W R i B2 s σ H E I C st O;subst T hw W;obtain⟨⟨J,Y⟩,B⟩:=st;obtain⟨xs,x,t,F⟩:=O;obtain⟨its,D,p,hz⟩:=I.tuple t;obtain⟨u,hu,ru⟩:=D.get F;have j:s.heap.IsTuple a its.toArray:=p;have f:a≠L:=λz=>by
   obtain⟨Z,c1,c2,_⟩:=j;obtain⟨o2,c3,c4,_⟩:=B
   lia
  have nea:e≠a:=λz=>by
   obtain⟨Z,c1,c2,_⟩:=j
   lia
  have N:i<its.toArray.size:=by have:=(oe.mp hu).1;simpa using this
  refine wpAny_pyNext_enum_itemD (wW (A:=X.A.in1) (show X.A.in1.handled=f_ from I.ok.hd R) L a f its.toArray) Y ⟨B,j⟩ N n bi λv h1 tk r ho l hT hsz hk=>?_;have G:v=u:=by have r:its.toArray[i]?=a_ v:=r;rw[show its.toArray[i]?=its[i]? by simp,hu]at r;exact(G7 r).symm
  subst G;refine⟨_,rfl,NS ho λh2 Q g=>?_⟩
  have m:e<s.z:=s_ Y;have S:s.z≠e:=HU m;have I1:B6 X B2 σ (upd H s.z (.tup [.int i,x])) {s with heap:=h2,toks:=tk+1}:=I.sS (ch:=[e,L]) C (λb o U q=>by have h3:=hk b o (λz=>U (by simp[z])) (λz=>U (by simp[z])) q;exact(g.2 b (λz=>U (by simp[z]))).trans h3) (k_ _) ⟨ad,[.int i tk,v],.cons ⟨_,rfl⟩ (.cons ru .nil),⟨_,(g.2 _ S).trans hT,rfl,0,rfl⟩⟩
  refine⟨.ref s.z,_,I1,rfl,⟨s.z,x,I.hok.fresh (k_ _),rfl,rfl,λys hy=>by rw[I.lN hy t];exact F⟩,⟨⟨v,by simpa using Q⟩,l.1.at λo y=>(g.2 L n.symm).trans y⟩,λb U=>?_⟩
  have hbn:=(C b U).1;have:b≠s.z:=by
   rcases p_.mp U with z0|U
   .lia
   .have:b=L:=by simpa using U
    subst this;obtain⟨o,e1,_⟩:=B;exact FR (s_ e1)
  simp_all[aA]
 done:=by
  intro X T hw W R i B2 s σ H E I C st O;subst T hw W;obtain⟨⟨J,Y⟩,B⟩:=st;obtain⟨xs,t,F⟩:=O;obtain⟨its,D,p,hz⟩:=I.tuple t;have hl:=D.length;have j:s.heap.IsTuple a its.toArray:=p;have f:a≠L:=λz=>by
   obtain⟨Z,c1,c2,_⟩:=j;obtain⟨o2,c3,c4,_⟩:=B
   lia
  have hn:i=its.toArray.size:=by simp;lia
  rw[hn]at B;exact wpAny_pyNext_enum_endD (wW (A:=X.A.in1) (show X.A.in1.handled=f_ from I.ok.hd R) L a f its.toArray) Y ⟨B,j⟩ λh2 eb=>⟨rfl,I.sT (t':=s.toks) (ch:=[e,L]) C λb o U q=>eb b o (λz=>U (by simp[z])) q⟩
 self:=λ_ _ _ _ _ st h=>by obtain⟨⟨J,Y⟩,_⟩:=st;exact J2 Y h
theorem BQ(t:SqT K F a xs)(z:aw K F ds xs):o6 K F (IteT K a) (eY 0 ds) where
 go:=λi F' H' s1 s2 hi=>⟨xs,xs[i]'(by rw[z.length];simp_all[jR]),s2.tup (s1.tup t),ad⟩
 yl:=λi F' H' x H2 d s1 s2 J L=>by
  obtain⟨T,y,U,ex,Y,L⟩:=L;subst ex Y;rw[pW]at J;cases B:ds[i]? with
  |none=>simp_all|some d'=>
   rw[B]at J;simp at J;subst J;obtain⟨v,e1,q⟩:=z.get B;have e2:=L xs (s2.tup (s1.tup t));rw[e1]at e2;cases e2;refine⟨upd F' T (.tup [.int i,y]),B4.lay s2 U,T,_,rfl,SqT.of av,?_⟩
   exact⟨.int i,[y],rfl,rfl,y,[],rfl,(q.mono s1).mono (aU.upd (s2.free U)),rfl⟩
 st:=λF' H' s1 s2=>⟨xs,s2.tup (s1.tup t),by rw[z.length,jR]⟩
def nv(fa:ah->M A'):ah->M (List A'):=λρ=>(fa ρ).bind λd=>(kM d).bind λds=>.ok (eY 0 ds)
@[simp]def e_enum2{fa:ah->M A'}{ρ:ah}:nv fa ρ=(fa ρ).bind λd=>(kM d).bind λds=>.ok (eY 0 ds):=id rfl
section
variable{W:cv}{a:Hb}{p:MJ}
def iEnum2(K:Pn)(tl:TE):TI:=λσ H R=>tl σ H λx H1=>∃a,x=.ref a/\((∃xs,SqL K H1 a xs)/\R (Ite K a) H1\/(∃xs,SqT K H1 a xs)/\R (IteT K a) H1)
def pi_enum2(w:Gl X "enumerate")(t:X.mg "enumerate"=f_)(v:PE X a tl)(i: ~~~(j_ [a] X.env=[(c_,Ga a X.env)])):
  PI X (.Tuple elts k q) (.Call (.Name "enumerate" p) [a] [] pos) (iEnum2 X.K tl):=by
 intro B2 s σ H R I h;have y:PA X [a] (qz tl tNil):=bR v fJ i;refine OZ (jd I w t boot_enumerate (GB (E' (y pos B2 s σ H (λvs H1=>match vs with
  |[x]=>∃a,x=.ref a/\((∃xs,SqL X.K H1 a xs)/\R (Ite X.K a) H1\/(∃xs,SqT X.K H1 a xs)/\R (IteT X.K a) H1)
  |_=>False) I h) λus s1 ⟨vs,H1,J,o,q1⟩=>?_) i rfl))
 rcases vs with _|⟨x,_|⟨_,_⟩⟩
 .exact GG q1
 rotate_left
 .exact GG q1
 .obtain⟨l,e1,q⟩:=q1;subst e1;obtain⟨u,rfl,n⟩:=o.one;cases n;have Y:∀b∈[s1.z+1,s1.z],Cq X B2 H1 b:=λb e=>by
   have U:s1.z<=b:=by
    rcases p_.mp e with j|e
    .subst j;simp
    .have:b=s1.z:=by simpa using e
     exact JT this.symm
   exact J.fpOk U (J.hok.fresh U)
  rcases q with⟨⟨xs,c⟩,q⟩|⟨⟨xs,c⟩,q⟩
  .obtain⟨its,m,pl,r⟩:=J.list c;refine P0 pl.isList λf L B hsz d=>?_;have g:B6 X B2 σ H1 {s1 with heap:=f}:=J.kept (t':=s1.toks) d;refine J2 L ?_;exact⟨s1.z+1,[s1.z+1,s1.z],_,_,H1,rfl,g,ve l _ _ (MK _),⟨⟨_,L⟩,B⟩,Y,q⟩
  .obtain⟨its,m,pl,r⟩:=J.tuple c;refine Cd (show s1.heap.IsTuple l its.toArray from pl) λf L B hsz d=>?_;have g:B6 X B2 σ H1 {s1 with heap:=f}:=J.kept (t':=s1.toks) d;refine J2 L ?_;exact⟨s1.z+1,[s1.z+1,s1.z],_,_,H1,rfl,g,Bf l _ _ (MK _),⟨⟨_,L⟩,B⟩,Y,q⟩
theorem uw(J:X.mg "enumerate"=f_)(L:DE K W c_ X a fa)(U: ~~~(Gl X "enumerate"))(B: ~~~(j_ [a] X.env=[(c_,Ga a X.env)]))(c: ~~~(X.K=K)):
  DI K W X (.Tuple elts k q) (.Call (.Name "enumerate" p) [a] [] pos) (nv fa):=by
 subst c;exact(pi_enum2 U J L B).imp λ_ _ _=>by
   intro h;obtain⟨F,ρ,r,s,p⟩:=h;refine aF r s (λe f=>?_) λd Y v F1 H1 s1 q1=>?_
   .simp_all[nv]
   .have z:nv fa ρ=(kM d).bind λds=>.ok (eY 0 ds):=by unfold nv;rw[Y];rfl
    rw[z]at p;cases d with
    |lst ds=>obtain⟨b,xs,e,t,z⟩:=q1;exact⟨b,e,.inl ⟨⟨xs,s1.fh.lst t⟩,p _ F1 H1 s1 (wA t z)⟩⟩
    |tup ds=>obtain⟨b,xs,e,t,z⟩:=q1;exact⟨b,e,.inr ⟨⟨xs,s1.fh.tup t⟩,p _ F1 H1 s1 (BQ t z)⟩⟩
    |_=>exact(W.ns p).elim
end
def kn{u c:i_}(x:h.IsTupleIter u l i)(A:Hm c h h')(n:u≠c):h'.IsTupleIter u l i:=x.at λo e=>A u o n e
def jy{c:i_}{xs:Array h_}(x:h.IsTuple l xs)(A:Hm c h h')(n:l≠c):h'.IsTuple l xs:=let ⟨o,e,r⟩:=x;⟨o,A l o n e,r⟩
structure Ys(z p q u v l m:i_)(r k a b:h_)(i j:Nat)(xs ys:Array h_)(h:Gr):Prop where
 me:ZRec h z p q r k
 its:Lh h p (.ref u) (.ref v)
 own:Lh h q a b
 one:h.IsTupleIter u l i
 two:h.IsTupleIter v m j
 xl:h.IsTuple l xs
 yl:h.IsTuple m ys
section
variable{p q u v m:i_}{r k a b:h_}{xs ys:Array h_}
def Ys.atZ{r':h_}(D:JG z p q u v l m)(Z:Ys z p q u v l m r k a b i j xs ys h)(A:Hm z h h')(e:ZRec h' z p q r' k'):Ys z p q u v l m r' k' a b i j xs ys h':=
 ⟨e,A _ _ D.TIz Z.its,A _ _ D.TOz Z.own,kn Z.one A D.i1z,kn Z.two A D.i2z,jy Z.xl A D.l1z,jy Z.yl A D.l2z⟩
def Ys.atQ(D:JG z p q u v l m)(Z:Ys z p q u v l m r k a b i j xs ys h)(A:Hm q h h')(e:Lh h' q a' b'):Ys z p q u v l m r k a' b' i j xs ys h':=
 ⟨A _ _ D.TOz.symm Z.me,A _ _ D.TITO Z.its,e,kn Z.one A D.TOi1.symm,kn Z.two A D.TOi2.symm,jy Z.xl A D.l1TO,jy Z.yl A D.l2TO⟩
def Ys.atU(D:JG z p q u v l m)(Z:Ys z p q u v l m r k a b i j xs ys h)(A:Hm u h h')(e:h'.IsTupleIter u l n):Ys z p q u v l m r k a b n j xs ys h':=
 ⟨A _ _ D.i1z.symm Z.me,A _ _ D.TIi1 Z.its,A _ _ D.TOi1 Z.own,e,kn Z.two A D.i12.symm,jy Z.xl A D.l1i1,jy Z.yl A D.l2i1⟩
def Ys.atV(D:JG z p q u v l m)(Z:Ys z p q u v l m r k a b i j xs ys h)(A:Hm v h h')(e:h'.IsTupleIter v m n):Ys z p q u v l m r k a b i n xs ys h':=
 ⟨A _ _ D.i2z.symm Z.me,A _ _ D.TIi2 Z.its,A _ _ D.TOi2 Z.own,kn Z.one A D.i12,e,jy Z.xl A D.l1i2,jy Z.yl A D.l2i2⟩
def Ys.new{o:L7}(Z:Ys z p q u v l m r k a b i j xs ys h):Ys z p q u v l m r k a b i j xs ys (h.push o):=
 ⟨e_ _ Z.me,e_ _ Z.its,e_ _ Z.own,Z.one.at λ_ e=>e_ _ e,Z.two.at λ_ e=>e_ _ e,(let ⟨o',e,t⟩:=Z.xl;⟨o',e_ _ e,t⟩),(let ⟨o',e,t⟩:=Z.yl;⟨o',e_ _ e,t⟩)⟩
end
section
variable{s:l_}{p q u v m:i_}{r k a b x y:h_}{xs ys:Array h_}
def CA{T:Bool->l_->Prop}(Z:Ys z p q u v l m .none k a b i j xs ys s.heap)(B:T d_ s):w_ (B_ P w) A (Pp (.ref z)) T E s:=
 b_ (H_ Z.me rfl (x:=.none) rfl (g_ B))
def Cz(D:JG z p q u v l m)(Z:Ys z p q u v l m r k a b i j xs ys s.heap)(J:(#[a,b]:Array h_).setIfInBounds n x=#[a',b'])(L:∀h',Hm q s.heap h'->h'.objs.size=s.heap.objs.size->Ys z p q u v l m r k a' b' i j xs ys h'->T () {s with heap:=h'}):w_ (B_ P w) A (QE q (·.setIfInBounds n x)) T E s:=
 wpAny_updateSeq_pair Z.own λh' e B=>L h' B.extBut B.1 (Z.atQ D B.extBut (by rw[J]at e;exact e))
def zt{c:h_}(D:JG z p q u v l m)(Z:Ys z p q u v l m r k a b i j xs ys s.heap){r':h_}(J:n<5)(L:(#[r,k,.bool c_,.ref p,.ref q]:Array h_).setIfInBounds n c=#[r',k',.bool c_,.ref p,.ref q])(U:∀h',Hm z s.heap h'->h'.objs.size=s.heap.objs.size->Ys z p q u v l m r' k' a b i j xs ys h'->T () {s with heap:=h'}):w_ (B_ P w) A (MT (.ref z) n c) T E s:=
 Qc Z.me J λh' e B=>U h' B.extBut B.1 (Z.atZ D B.extBut (by rw[L]at e;exact e))
theorem ys_gives{T:Mq}(D:JG z p q u v l m)(Z:Ys z p q u v l m .none (.bool c_) a b i j xs ys s.heap)(R:xs[i]?=a_ x)(Q:ys[j]?=a_ y)(S:∀h' a' b',Ys z p q u v l m (Jc s.heap.objs.size) (.bool c_) a' b' (i+1) (j+1) xs ys h'->Lh h' s.heap.objs.size x y->Off z q u v s.heap h'->T (.ref s.heap.objs.size) {s with heap:=h'}):
  w_ (B_ P w) A (Builtin.«zip.__next__» ⟨[.ref z],[]⟩) (λf s'=>∃c,f=.done (.ret c)/\T c s') E s:=by
 have B:∀{n:Nat} {c:h_} {K:Mq} {s':l_} {r k a b:h_} {i j:Nat},Ys z p q u v l m r k a b i j xs ys s'.heap->(#[r,k,.bool c_,.ref p,.ref q]:Array h_)[n]?=a_ c->K c s'->w_ (B_ P w) A (field (.ref z) n) K E s':=
  λZ e t=>H_ Z.me rfl e t
 refine b_ (show w_ _ _ (GU (FJ z,([]:bv))) _ _ _ from g_ ?_);refine b_ (B Z (n:=2) rfl (b_ (B Z (n:=3) rfl (b_ (Hg Z.its rfl ?_)))));refine b_ (CA Z ?_);rw[u_ rfl];refine b_ (Ih (b_ (B Z (n:=4) rfl (b_ (zt D Z (n:=0) am rfl λg1 B1 e1 o=>?_)))));refine b_ ?_;simp only[QM,Lk,LI];refine b_ (b_ (Lg (b_ (kc o.one o.xl R λg2 W F=>g_ ?_))));have I:=o.atU D F.extBut W;refine b_ (Hg I.own rfl (b_ (Cz D I (n:=0) rfl λg3 B3 e3 h=>b_ (Ks (g_ ?_)))));refine b_ (b_ (Lg (b_ (kc h.two h.yl Q λg4 f4 C=>g_ ?_))));have H:=h.atV D C.extBut f4;refine b_ (Hg H.own rfl (b_ (Cz D H (n:=1) rfl λU B5 e5 g=>b_ (Ks (g_ (g_ ?_))))));refine b_ (Hg g.own rfl (b_ (wpAny_newTuple ?_)));have L:U.objs.size=s.z:=e5.trans (C.1.trans (e3.trans (F.1.trans e1)));have lt:z<U.objs.size:=s_ g.me;refine b_ (b_ (zt D g.new (n:=0) (r':=Jc U.objs.size) am rfl λg6 O e6 X=>zt D X (n:=1) am rfl λd N e7 G=>?_));refine g_ (Exists.intro _ ⟨rfl,?_⟩);have J:Lh d U.objs.size x y:=N _ _ (HU lt) (O _ _ (HU lt) (o_ _ rfl));have Y:Off z q u v s.heap d:=(Off.byZ B1).then ((Off.byU F.extBut).then ((Off.byQ B3).then ((Off.byV C.extBut).then ((Off.byQ B5).then (Off.new.then ((Off.byZ O).then (Off.byZ N)))))))
 show T (.ref U.objs.size) _;rw[L]at J G ⊢;exact S d _ _ G J Y
theorem ys_ends{T:OU->l_->Prop}(h:A.handled=f_)(D:JG z p q u v l m)(Z:Ys z p q u v l m .none (.bool c_) a b i j xs ys s.heap)(B:xs[i]?=f_\/ys[j]?=f_)(k:∀h' c,Off z q u v s.heap h'->(∃o,h'.get? c=a_ o/\o.cls=.type "StopIteration")->E (.ref c) {s with heap:=h'}):
  w_ (B_ P w) A (Builtin.«zip.__next__» ⟨[.ref z],[]⟩) T E s:=by
 refine b_ (show w_ _ _ (GU (FJ z,([]:bv))) _ _ _ from g_ ?_);refine b_ (H_ Z.me rfl (i:=2) rfl (b_ (H_ Z.me rfl (i:=3) rfl (b_ (Hg Z.its rfl ?_)))));refine b_ (CA Z ?_);rw[u_ rfl];refine b_ (Ih (b_ (H_ Z.me rfl (i:=4) rfl (b_ (zt D Z (n:=0) am rfl λN C e1 J=>?_)))));refine b_ ?_;simp only[QM,Lk,LI];cases g:xs[i]? with
 |none=>refine b_ (b_ (Lg (b_ (pj h J.one J.xl g λg2 c L d=>?_))));exact Cw (L _ _ D.i1z.symm J.me) d λr f Y=>k r c ((Off.byZ C).then ((Off.byU L).then (Off.byZ f))) Y|some x=>have F:ys[j]?=f_:=B.resolve_left bi;refine b_ (b_ (Lg (b_ (kc J.one J.xl g λg2 H L=>g_ ?_))));have t:=J.atU D L.extBut H;refine b_ (Hg t.own rfl (b_ (Cz D t (n:=0) rfl λr f e3 e=>b_ (Ks (g_ ?_)))));refine b_ (b_ (Lg (b_ (pj h e.two e.yl F λK c y d=>?_))));exact Cw (y _ _ D.i2z.symm e.me) d λG I U=>k G c ((Off.byZ C).then ((Off.byU L.extBut).then ((Off.byQ f).then ((Off.byV y).then (Off.byZ I))))) U
def yn_gives{T:Option h_->l_->Prop}(D:JG z p q u v l m)(Z:Ys z p q u v l m .none (.bool c_) a b i j xs ys s.heap)(L:xs[i]?=a_ x)(J:ys[j]?=a_ y)(U:∀h' a' b',Ys z p q u v l m (Jc s.heap.objs.size) (.bool c_) a' b' (i+1) (j+1) xs ys h'->Lh h' s.heap.objs.size x y->Off z q u v s.heap h'->T (a_ (.ref s.heap.objs.size)) {s with heap:=h'}):
  w_ (B_ P w) A (JC (.ref z)) T E s:=by
 have ty:s.TypeIs (.ref z) "zip":=⟨_,Z.me,rfl⟩
 have B:=ys_gives (P:=P) (w:=w) (A:=A.in1) (E:=λ_ _=>False) (T:=λc s'=>T (a_ c) s') D Z L J U;unfold JC;refine b_ (JF (G2 (name:=HS "__next__") ty JK ?_));refine Gx JK ty Nn (GS B (λf s' h=>?_) λ_ _ h=>h.elim) (M8 _);obtain⟨c,e,h⟩:=h;exact⟨c,e,g_ h⟩
def yn_ends{T:Option h_->l_->Prop}(U:A.handled=f_)(D:JG z p q u v l m)(Z:Ys z p q u v l m .none (.bool c_) a b i j xs ys s.heap)(B:xs[i]?=f_\/ys[j]?=f_)(Y:∀h',Off z q u v s.heap h'->T f_ {s with heap:=h'}):w_ (B_ P w) A (JC (.ref z)) T E s:=by
 have ty:s.TypeIs (.ref z) "zip":=⟨_,Z.me,rfl⟩
 unfold JC;refine b_ (JF (G2 (name:=HS "__next__") ty JK ?_));refine Gx JK ty Nn (ys_ends U D Z B λh' c J L=>?_) (M8 _);obtain⟨o,e,t⟩:=L;exact b_ (JA (T:="StopIteration") (b:=d_) ⟨o,e,t⟩ NU (g_ (Y h' J)))
end
def ItzT(K:Pn)(a b:i_):It:=
 ⟨λi H=>∃xs ys x y,SqT K H a xs/\SqT K H b ys/\xs[i]?=a_ x/\ys[i]?=a_ y,λi H v H'=>∃T x y,H T=f_/\v=.ref T/\H'=upd H T (.tup [x,y])/\(∀xs,SqT K H a xs->xs[i]?=a_ x)/\∀ys,SqT K H b ys->ys[i]?=a_ y,λi H=>∃xs ys,SqT K H a xs/\SqT K H b ys/\(xs.length<=i\/ys.length<=i)⟩
theorem CJ{p q u v m:i_}(D:JG z p q u v l m):
  Turn P w K (.Tuple elts k pos) (ItzT K l m) [z,p,q,u,v] z (λi h=>IsZip h z p q .none/\Lh h p (.ref u) (.ref v)/\(∃a b,Lh h q a b)/\h.IsTupleIter u l i/\h.IsTupleIter v m i) where
 mem:=Hu
 obj:=λi h ⟨n,its,⟨_,_,own⟩,⟨o1,e1,_,d1⟩,⟨o2,e2,_,d2⟩⟩ c hc=>by grind
 keep:=λi h h' ⟨n,its,⟨a,b,own⟩,U,L⟩ F=>⟨F z ad _ n,F p ad _ its,⟨a,b,F q ad _ own⟩,U.at λo x=>F u ad o x,L.at λo x=>F v ad o x⟩
 item:=by
  rintro X rfl rfl rfl Y i B2 s σ H E I O ⟨n,its,⟨a,b,own⟩,U,L⟩ ⟨xs,ys,x,y,N,G,gx,W⟩;obtain⟨vs,S,T,_⟩:=I.tuple N;obtain⟨ws,R,py,_⟩:=I.tuple G;obtain⟨c,hc,rc⟩:=S.get gx;obtain⟨d,hd,rd⟩:=R.get W;refine yn_gives D ⟨n,its,own,U,L,T,py⟩ (x:=c) (y:=d) bi bi λh' a' b' Z r j=>⟨_,rfl,Oc Z.me λg A B=>?_⟩
  have C:∀e∈[z,p,q,u,v],e<s.z:=by
   simp only[p_,Gv,Mv];rintro e (rfl|rfl|rfl|rfl|rfl)
   .exact s_ n
   .exact s_ its
   .exact s_ own
   .exact U.elim λ_ t=>s_ t.1
   .exact L.elim λ_ t=>s_ t.1
  have Q:=Z.atZ D B.extBut A;have nz:s.z≠z:=HU (C z ad);have I':B6 X B2 σ (upd H s.z (.tup [x,y])) {s with heap:=g,toks:=s.toks}:=I.sS (ch:=[z,p,q,u,v]) O (λe o J t=>by simp only[p_,Gv,Mv,not_or]at J;exact B.extBut e o J.1 (j e o J.1 J.2.2.1 J.2.2.2.1 J.2.2.2.2 t)) (k_ _) ⟨ad,[c,d],.cons rc (.cons rd .nil),⟨_,B.extBut _ _ nz r,rfl,0,rfl⟩⟩
  refine⟨.ref s.z,_,I',rfl,⟨_,x,y,I.hok.fresh (k_ _),rfl,rfl,λ_ t=>by rw[I.lN t N];exact gx,λ_ t=>by rw[I.lN t G];exact W⟩,⟨A,Q.its,⟨_,_,Q.own⟩,Q.one,Q.two⟩,λe J=>?_⟩
  rw[aA (FR (C e J))];exact(O e J).1
 done:=by
  rintro X rfl rfl rfl Y i B2 s σ H E I O ⟨n,its,⟨a,b,own⟩,U,L⟩ ⟨xs,ys,N,G,f⟩;obtain⟨vs,S,T,_⟩:=I.tuple N;obtain⟨ws,R,py,_⟩:=I.tuple G;have nx:=S.length;have ny:=R.length;refine yn_ends (I.ok.hd Y) D ⟨n,its,own,U,L,T,py⟩ (f.imp (λt=>Ja bi) λt=>Ja bi) λh' j=>⟨rfl,I.sT (t':=s.toks) (ch:=[z,p,q,u,v]) O λe o J t=>?_⟩
  simp only[p_,Gv,Mv,not_or]at J;exact j e o J.1 J.2.2.1 J.2.2.2.1 J.2.2.2.2 t
 self:=λ_ _ _ _ _ st h=>Lu st.1 h
noncomputable abbrev tit(l:i_):L7:={cls:=.type "tuple_iterator",data:=.fields #[.ref l,.int 0 0]}
abbrev zA(h:Gr)(l:i_):Gr:=h.push (tit l)
abbrev zB(h:Gr)(l m:i_):Gr:=(zA h l).push (tit m)
abbrev zC(h:Gr)(l m:i_):Gr:=(zB h l m).push {cls:=.type "tuple",data:=.seq #[.ref h.objs.size,.ref (zA h l).objs.size]}
abbrev zD(h:Gr)(l m:i_):Gr:=(zC h l m).push {cls:=.type "tuple",data:=.seq #[.none,.none]}
abbrev zE(h:Gr)(l m:i_):Gr:=(zD h l m).push {cls:=.type "zip",data:=.fields #[.none,.bool c_,.bool c_,.ref (zB h l m).objs.size,.ref (zC h l m).objs.size]}
def zip_newT(l m:i_)(xs ys:Array h_):Meets (Builtin.«zip.__new__» ⟨[.type "zip",.ref l,.ref m],[]⟩) (λ_ R s=>s.heap.IsTuple l xs/\s.heap.IsTuple m ys/\R (.ok (.ret (.ref (zD s.heap l m).objs.size))) {s with heap:=zE s.heap l m}):=
 .of_wp λprog w A R s h=>by
  obtain⟨L,g,d,tk,B⟩:=s;obtain⟨Y,U,h⟩:=h;have J:=sub_zip;have b:NO (NM ⟨L,g,d,tk,B⟩) l xs:=Y;have a:NO (NM ⟨L.push {cls:=.type "tuple_iterator",data:=.fields #[.ref l,.int 0 0]},g,d,tk,B⟩) m ys:=Heap.IsTuple.push U _
  wp_walk using JP b,JP a
  exact⟨_,rfl,h⟩
section
variable{s:l_}
def Fb{m:i_}{xs ys:Array h_}{Q:Mq}(f:s.heap.IsTuple l xs)(e:s.heap.IsTuple m ys)(k:∀h',IsZip h' (s.heap.objs.size+4) (s.heap.objs.size+2) (s.heap.objs.size+3) .none->Lh h' (s.heap.objs.size+2) (.ref s.heap.objs.size) (.ref (s.heap.objs.size+1)) ->
   Lh h' (s.heap.objs.size+3) .none .none->h'.IsTupleIter s.heap.objs.size l 0->h'.IsTupleIter (s.heap.objs.size+1) m 0->(∀c o,s.heap.get? c=a_ o->h'.get? c=a_ o)->Q (.ref (s.heap.objs.size+4)) {s with heap:=h'}):
  w_ (B_ prog w) A (Ka (.type "zip") [.ref l,.ref m]) Q E s:=by
 refine callType_new PySem.F.called_zip am (PySem.F.typeCall_zip_2 _ _) (PySem.F.newCall_zip_2 _ _) (λB=>PySem.F.args_object_init_3 B _ _) PySem.F.entry_zip_new (zip_newT l m xs ys) ⟨f,e,?_⟩;have U:(zA s.heap l).objs.size=s.z+1:=Hq ..;have n2:(zB s.heap l m).objs.size=s.z+2:=by rw[Hq,U]
 have L:(zC s.heap l m).objs.size=s.z+3:=by rw[Hq,n2]
 have d:(zD s.heap l m).objs.size=s.z+4:=by rw[Hq,L]
 have J:(zE s.heap l m).get? (zD s.heap l m).objs.size=a_ _:=o_ _ rfl;have Y:(zE s.heap l m).get? (zC s.heap l m).objs.size=a_ _:=e_ _ (o_ _ rfl);have a:(zE s.heap l m).get? (zB s.heap l m).objs.size=a_ _:=e_ _ (e_ _ (o_ _ rfl));have b:(zE s.heap l m).get? (zA s.heap l).objs.size=a_ _:=e_ _ (e_ _ (e_ _ (o_ _ rfl)));have g:(zE s.heap l m).get? s.z=a_ _:=e_ _ (e_ _ (e_ _ (e_ _ (o_ _ rfl))));show _/\_;rw[n2,L,d]at J;rw[U,n2]at a;rw[L]at Y;rw[U]at b;rw[d];exact⟨⟨_,J,rfl⟩,k _ J a Y ⟨_,g,rfl,rfl⟩ ⟨_,b,rfl,rfl⟩ λc o t=>e_ _ (e_ _ (e_ _ (e_ _ (e_ _ t))))⟩
end
theorem Ef{ys:bp}{es:List A'}(t:SqT K F a xs)(z:aw K F ds xs)(c:SqT K F b ys)(U:aw K F es ys):o6 K F (ItzT K a b) (kB ds es) where
 go:=λi F' H' s1 s2 hi=>by rw[lJ]at hi;exact⟨xs,ys,xs[i]'(by rw[z.length];lia),ys[i]'(by rw[U.length];lia),s2.tup (s1.tup t),s2.tup (s1.tup c),y_ _,y_ _⟩
 yl:=λi F' H' x H2 d s1 s2 L g=>by
  obtain⟨T,f,Y,e,ex,j,h1,h⟩:=g;subst ex j;rw[sQ]at L;cases J:ds[i]? with
  |none=>simp_all|some m=>
   cases B:es[i]? with
   |none=>simp_all|some l=>
    rw[J,B]at L;simp at L;subst L;obtain⟨v,e1,q⟩:=z.get J;obtain⟨k,e2,q2⟩:=U.get B;have e3:=h1 xs (s2.tup (s1.tup t));have e4:=h ys (s2.tup (s1.tup c));rw[e1]at e3;rw[e2]at e4;cases e3;cases e4;refine⟨upd F' T (.tup [f,Y]),B4.lay s2 e,T,_,rfl,SqT.of av,?_⟩
    exact⟨f,[Y],rfl,(q.mono s1).mono (aU.upd (s2.free e)),Y,[],rfl,(q2.mono s1).mono (aU.upd (s2.free e)),rfl⟩
 st:=λF' H' s1 s2=>⟨xs,ys,s2.tup (s1.tup t),s2.tup (s1.tup c),by rw[z.length,U.length,lJ];lia⟩
noncomputable def ll:A'->M (List A')
 |.tup ds=>.ok ds|_=>.error .stuck
def uq(fa fb:ah->M A'):ah->M (List A'):=λρ=>(fa ρ).bind λa=>(fb ρ).bind λb=>(ll a).bind λds=>(ll b).bind λes=>.ok (kB ds es)
@[simp]def e_zipT{fa fb:ah->M A'}{ρ:ah}:uq fa fb ρ=(fa ρ).bind λa=>(fb ρ).bind λb=>(ll a).bind λds=>(ll b).bind λes=>.ok (kB ds es):=id rfl
@[simp]def e_itemsTD(ds:List A'):ll (.tup ds)=.ok ds:=id rfl
section
variable{W:cv}{a b:Hb}{p:MJ}
def iZipT(K:Pn)(ta tb:TE):TI:=λσ H R=>ta σ H λx H1=>tb σ H1 λy H2=>∃c d,x=.ref c/\y=.ref d/\(∃xs,SqT K H2 c xs)/\(∃ys,SqT K H2 d ys)/\R (ItzT K c d) H2
theorem pi_zipT(K:Gl X "zip")(G:X.mg "zip"=f_)(O:PE X a ta)(N:PE X b tb)(E:j_ [a,b] X.env=[(c_,Ga a X.env),(c_,Ga b X.env)])(B:j_ [b] X.env=[(c_,Ga b X.env)]):
  PI X (.Tuple elts k q) (.Call (.Name "zip" p) [a,b] [] pos) (iZipT X.K ta tb):=by
 intro B2 s σ H R I h;have Y:PA X [a,b] (qz ta (qz tb tNil)):=bR O (bR N fJ B) bi;have f:=Y pos B2 s σ H (λvs H1=>match vs with|[x,y]=>∃c d,x=.ref c/\y=.ref d/\(∃xs,SqT X.K H1 c xs)/\(∃ys,SqT X.K H1 d ys)/\R (ItzT X.K c d) H1|_=>False) I h;refine OZ (jd I K G boot_zip (GB (E' f λus s1 F=>?_) (by rw[E,B]) (by rw[B];rfl)));obtain⟨vs,H1,g,v,q1⟩:=F;rcases vs with _|⟨x,_|⟨y,_|⟨_,_⟩⟩⟩
 .exact GG q1
 .exact GG q1
 rotate_left
 .exact GG q1
 .obtain⟨c,d,S,Q,⟨xs,D⟩,⟨ys,C⟩,P⟩:=q1;subst S Q;obtain⟨_,_,rfl,u,r⟩:=v.two;cases u;cases r;obtain⟨vs,W,w,_⟩:=g.tuple D;obtain⟨o,T,py,_⟩:=g.tuple C;have L:s1.heap.IsTuple c vs.toArray:=w;have J:s1.heap.IsTuple d o.toArray:=py;have A:c<s1.z:=L.elim λ_ t=>s_ t.1;have z:d<s1.z:=J.elim λ_ t=>s_ t.1;refine Fb L J λh' m its own j i l=>Lu m ?_;have U:∀e∈[s1.z+4,s1.z+2,s1.z+3,s1.z,s1.z+1],s1.z<=e:=by
   simp only[p_,Gv,Mv];rintro e (rfl|rfl|rfl|rfl|rfl)<;>lia
  exact⟨_,_,_,_,H1,rfl,g.kept (t':=s1.toks) l,CJ (zipApart_new A z),⟨m,its,⟨_,_,own⟩,j,i⟩,λe n=>g.fpOk (U e n) (g.hok.fresh (U e n)),P⟩
theorem EL(o:X.mg "zip"=f_)(v:DE K W c_ X a fa)(u:DE K W c_ X b fb)(t: ~~~(Gl X "zip"))(n: ~~~(j_ [a,b] X.env=[(c_,Ga a X.env),(c_,Ga b X.env)]))(L: ~~~(j_ [b] X.env=[(c_,Ga b X.env)]))(w: ~~~(X.K=K)):
  DI K W X (.Tuple elts k q) (.Call (.Name "zip" p) [a,b] [] pos) (uq fa fb):=by
 subst w;exact(pi_zipT t o v u n L).imp λ_ _ _=>by
   intro h;obtain⟨F,ρ,r,s,p⟩:=h;refine aF r s (λe g=>?_) λi J A F1 H1 s1 q1=>?_
   .simp_all[uq]
   .refine aF (r.mono s1.ff) s1.fh (λe g=>?_) λY U y x H2 s2 q2=>?_
    .have z:uq fa fb ρ=.error e:=by unfold uq;rw[J];show(fb ρ).bind _=_;rw[g];rfl
     rw[z]at p;exact W.mono p s1
    .have z:uq fa fb ρ=(ll i).bind λds=>(ll Y).bind λes=>.ok (kB ds es):=by unfold uq;rw[J];show(fb ρ).bind _=_;rw[U];rfl
     rw[z]at p;cases i with
     |tup ds=>
      cases Y with
      |tup es=>obtain⟨c,xs,e1,m,l⟩:=q1;obtain⟨d,ys,e2,f,j⟩:=q2;have B:=s2.ff.tup m;exact⟨c,d,e1,e2,⟨xs,s2.fh.tup B⟩,⟨ys,s2.fh.tup f⟩,p _ x H2 (s1.trans s2) (Ef B (l.mono s2.ff) f j)⟩
      |_=>exact(W.ns p).elim
     |_=>cases Y<;>exact(W.ns p).elim
end
section
variable{κ:Type}[Jh κ]
def AZ.Ei{o:Option V}{u:Option h_}(r:AZ o u):o.isSome=u.isSome:=by
 cases o with
 |none=>cases u with
  |none=>rfl|some _=>exact(show False from r).elim
 |some _=>cases u with
  |none=>exact(show False from r).elim|some _=>rfl
theorem AZ.getD{o:Option V}{u:Option h_}{d:V}{d':h_}(r:AZ o u)(B:C' d d'):C' (o.getD d) (u.getD d'):=by
 cases o with
 |none=>cases u with
  |none=>exact B|some _=>exact(show False from r).elim
 |some _=>cases u with
  |none=>exact(show False from r).elim|some _=>exact r
end
section
variable{s:l_}
def B6.big(I:B6 X B2 σ H s):HW<s.heap.objs.size:=by have h:G6<s.z:=(I.mod.glob.keeps I.bk).lt;exact N7 am h
end
def CN:List (TE×TE)->St->Hp->(List (V×V)->Hp->Prop)->Prop
 |[],_,H,Q=>Q [] H|(tk,tv)::r,σ,H,Q=>tk σ H λx H1=>tv σ H1 λy H2=>CN r σ H2 λps B=>Q ((x,y)::ps) B
abbrev VV:List (V×V)->List (h_×h_)->Prop:=J3 λp q=>C' p.1 q.1/\C' p.2 q.2
def PPs(X:Cx)(pos:MJ)(J:List (Option Hb))(B:List Hb)(L:List (TE×TE)):Prop:=
 ∀(B2:Vp) (s:l_) (σ:St) (H:Hp) (Q:List (V×V)->Hp->Prop),B6 X B2 σ H s->CN L σ H Q ->
  w_ (B_ X.prog X.w) X.A (evalPairs (pairTrees J B X.env pos)) (λvs s'=>∃ps H',B6 X B2 σ H' s'/\VV ps vs/\Q ps H') X.xe s
def pps_nil:PPs X pos [] [] []:=λB2 s σ H Q I h=>pairTrees_nil_walk ⟨[],H,I,.nil,h⟩
def pps_cons{k v:Hb}{ks:List (Option Hb)}{vs:List Hb}{tk:TE}{B:List (TE×TE)}(c:PE X k tk)(a:PE X v tv)(b:PPs X pos ks vs B):
  PPs X pos (a_ k::ks) (v::vs) ((tk,tv)::B):=λB2 s σ H Q I h=>
 pairTrees_cons_walk (E' (c B2 s σ H _ I h) λu s1 ⟨x,H1,f,U,q1⟩=>E' (a B2 s1 σ H1 _ f q1) λj s2 ⟨y,H2,e,L,q2⟩=>E' (b B2 s2 σ H2 _ e q2) λi l ⟨ps,g,d,J,Y⟩=>⟨(x,y)::ps,g,d,.cons ⟨U,L⟩ J,Y⟩)
structure M2(X:Cx)(o:Hb)(m:Gh)(apos:MJ)(e f:Hb)(cpos:MJ):Prop where
 base:IW o m X.env (Ga o X.env)=Ga o X.env
 few:((Hl cpos (j_ [e,f] X.env)).all (λx=> !x.1)&&(KR cpos (Jz [] X.env)).all (λx=>x.1.isSome)
  &&A_ (([e,f]:List Hb).length+([]:List Lb).length+(if ([]:List Lb).isEmpty then 0 else 1)<30))=d_
 line:(apos.endLine==cpos.line)=d_
 trees:Hl cpos (j_ [e,f] X.env)=[(c_,Ga e X.env),(c_,Ga f X.env)]
section
open PySem.W
end
def oW(O:bo)(f:ah->M A'):ah->M B':=λρ=>(f (erase O ρ)).bind λ_=>.ok (.nx ρ)
@[simp]def e_dropB(O:bo)(f:ah->M A')(ρ:ah):oW O f ρ=(f (erase O ρ)).bind λ_=>.ok (.nx ρ):=id rfl
section
open PySem.W
end
structure Yd(P:GH)(w:Hz)(K:Pn)(mg:Ld)(base:Gr)(CX:CXT)(k:Nat)(x:Gh)(st:G1)(ps:List Gh)(sp:Sp)(f:i_)(fd:IG):Prop where
 d:Def K mg x st ps f fd
 o:jr P w K mg base CX k f fd ps sp
section
open PySem.W
end
section
open PySem.SetTable
end
section
open PySem
end
section
open PySem.W
end
noncomputable abbrev CO(P:GH)(w:Hz):MZ P w bm:=tupleKind (Pa P w)
theorem vi{P:GH}{w:Hz}:∀{k:bm} {us:bv},D' (k.map V.int) us->ItemsAre (Pa P w) k us
 |[],_,.nil=>.nil|i::k,_,.cons r t=>by
  obtain⟨t',rfl⟩:=(show ∃t,_=KS i t from r)
  exact .cons (by simp[Pa,Value.isInt]) (vi t)
def qY.at{xs:List jw}(z:qY h a xs ep)(e:∀o,h.get? a=a_ o->h'.get? a=a_ o):qY h' a xs ep:=
 let ⟨vs,r,L,J,B,o,es,h1,b,Y,U⟩:=z;⟨vs,r,L,J,B,o,es,e o h1,b,Y,U⟩
def yN{xs:List jw}(z:qY h a xs ep):gZ H h a (oM a xs ep):=
 ⟨z,let ⟨_,_,_,_,_,o,_,e,_,_,_⟩:=z;⟨o,e⟩,λ_ _ z e=>z.at e⟩
def nG(K:Pn)(H:Hp)(xs:List jw):Prop:=∀x∈xs,SqT K H x.2.1 (x.1.map V.int)
def nG.mono{xs:List jw}(z:nG K H xs)(s:aU H H'):nG K H' xs:=λx B=>s.tup (z x B)
theorem cU.key{K:Pn}{F:Hp}:∀{ks:List (bm×A')} {xs:List jw},cU K F ks xs->nG K F xs
 |[],_,h,x,B=>by rw[show _=[]from h]at B;grind|(k,d)::ks,_,⟨b,v,r,e,t,q,z⟩,x,B=>by
  subst e;rcases p_.mp B with rfl|B
  .exact t
  .exact cU.key z x B
theorem cU.length{K:Pn}{F:Hp}:∀{ks:List (bm×A')} {xs:List jw},cU K F ks xs->xs.length=ks.length
 |[],_,h=>by rw[show _=[]from h];rfl|(k,d)::ks,_,⟨b,v,r,e,t,q,z⟩=>by rw[e,E_,E_,cU.length z]
noncomputable def rV(ks:List (bm×A'))(k:bm):Option A':=(ks.find? λp=>A_ (p.1=k)).map (·.2)
noncomputable def v7(xs:List jw)(k:bm):Option V:=(xs.find? λp=>A_ (p.1=k)).map (·.2.2)
def l5(ks:List (bm×A'))(k:bm)(d:A'):List (bm×A'):=if (rV ks k).isSome=d_ then ks.map (λp=>if p.1=k then(p.1,d)else p)else ks++[(k,d)]
def putR(xs:List jw)(k:bm)(b:i_)(v:V):List jw:=if (v7 xs k).isSome=d_ then xs.map (λx=>if x.1=k then(x.1,x.2.1,v)else x)else xs++[(k,b,v)]
theorem pD(xs:List jw)(k:bm)(b:i_)(v:V):(putR xs k b v).length<=xs.length+1:=by
 unfold putR;split
 .rw[n_];lia
 .rw[FK];exact k_ _
theorem oh{k:bm}:∀{xs:List jw} {vs:List (bm×i_×h_)},J3 jn xs vs->AZ (v7 xs k) ((OM vs k).map (·.2))
 |_,_,.nil=>JY|x::xs,q::vs,.cons h t=>by
  obtain⟨h1,L,J⟩:=h;by_cases e:x.1=k
  .have B:q.1=k:=h1.symm.trans e;simp only[v7,OM,H9,e,B,decide_true,Jb];exact J
  .have B:¬q.1=k:=λz=>e (h1.trans z);have:=oh (k:=k) t;simpa only[v7,OM,H9,e,B,Oi] using this
theorem cU.at{K:Pn}{F:Hp}{k:bm}:∀{ks:List (bm×A')} {xs:List jw},cU K F ks xs->(rV ks k=f_/\v7 xs k=f_)\/∃d v,rV ks k=a_ d/\v7 xs k=a_ v/\aY K F d v
 |[],_,h=>by rw[show _=[]from h];exact .inl ⟨rfl,rfl⟩|(k',d)::ks,_,⟨b,v,r,e,t,q,z⟩=>by
  subst e;by_cases e:k'=k
  .exact .inr ⟨d,v,by simp[rV,e],by simp[v7,e],q⟩
  .have:=cU.at (k:=k) z;simpa only[rV,v7,H9,e,Oi] using this
theorem cU.isSome{K:Pn}{F:Hp}{k:bm}{ks:List (bm×A')}{xs:List jw}(z:cU K F ks xs):(v7 xs k).isSome=(rV ks k).isSome:=by rcases z.at (k:=k)with⟨e1,e2⟩|⟨d,v,e1,e2,_⟩<;>rw[e1,e2]<;>rfl
theorem cU.repl{K:Pn}{F:Hp}{k:bm}{d:A'}{v:V}(q:aY K F d v):∀{ks:List (bm×A')} {xs:List jw},cU K F ks xs->cU K F (ks.map λp=>if p.1=k then(p.1,d)else p) (xs.map λx=>if x.1=k then(x.1,x.2.1,v)else x)
 |[],_,h=>by rw[show _=[]from h];rfl|(k',d')::ks,_,⟨b,B,r,e,t,J,z⟩=>by
  subst e;rw[r_,r_];by_cases e:k'=k
  .rw[u_ e,u_ e];exact⟨b,v,_,rfl,t,q,cU.repl q z⟩
  .rw[x_ e,x_ e];exact⟨b,B,_,rfl,t,J,cU.repl q z⟩
theorem cU.snoc{K:Pn}{F:Hp}{k:bm}{b:i_}{d:A'}{v:V}(t:SqT K F b (k.map V.int))(q:aY K F d v):∀{ks:List (bm×A')} {xs:List jw},cU K F ks xs->cU K F (ks++[(k,d)]) (xs++[(k,b,v)])
 |[],_,h=>by rw[show _=[]from h];exact⟨b,v,[],rfl,t,q,rfl⟩|(k',d')::ks,_,⟨b',B,r,e,t',J,z⟩=>by subst e;exact⟨b',B,_,rfl,t',J,cU.snoc t q z⟩
def cU.put{k:bm}{xs:List jw}(z:cU K F ks xs)(t:SqT K F b (k.map V.int))(q:aY K F d v):cU K F (l5 ks k d) (putR xs k b v):=by
 unfold l5 putR;rw[z.isSome];by_cases h:(rV ks k).isSome=d_
 .rw[u_ h,u_ h];exact z.repl q
 .rw[x_ h,x_ h];exact z.snoc t q
theorem vE{k:bm}{v:V}{u:h_}(B:C' v u):∀{xs:List jw} {vs:List (bm×i_×h_)},J3 jn xs vs->J3 jn (xs.map λx=>if x.1=k then(x.1,x.2.1,v)else x) (vs.map (putAt k u))
 |_,_,.nil=>.nil|x::xs,q::vs,.cons h t=>by
  rw[r_,r_];refine .cons ?_ (vE B t);obtain⟨h1,J,L⟩:=h;unfold putAt;by_cases e:x.1=k
  .rw[u_ e,u_ (h1.symm.trans e)];exact⟨h1,J,B⟩
  .rw[x_ e,x_ (λz=>e (h1.trans z))];exact⟨h1,J,L⟩
def lS{k:bm}(B:C' v u){xs:List jw}{vs:List (bm×i_×h_)}(r:J3 jn xs vs):J3 jn (putR xs k b v) (Mj vs k b u):=by
 have e:(v7 xs k).isSome=(OM vs k).isSome:=by rw[(oh r).Ei,OD]
 unfold putR Mj;rw[e];by_cases h:(OM vs k).isSome=d_
 .rw[u_ h,u_ h];exact vE B r
 .rw[x_ h,x_ h];exact Paired.snoc r ⟨rfl,rfl,B⟩
theorem zN:∀{xs:List jw} {vs:List (bm×i_×h_)},J3 jn xs vs->∀q∈vs,∃x∈xs,x.1=q.1/\x.2.1=q.2.1
 |_,_,.nil,_,h=>nomatch h
 |x::xs,q::vs,.cons h t,y,B=>by
  rcases p_.mp B with rfl|B
  .exact⟨x,ad,h.1,h.2.1⟩
  .obtain⟨J,h1,L⟩:=zN t y B;exact⟨J,by simp[h1],L⟩
section
variable{s:l_}{xs:List jw}{k:List Int}
def oO(I:B6 X B2 σ H s)(h:SqT X.K H b (k.map V.int)):(CO X.prog X.w).is s.heap k b:=by obtain⟨its,r,⟨o,h1,J,n,B⟩,_⟩:=I.tuple h;exact⟨o,its.toArray,n,h1,J,B,by simpa using vi r⟩
def EK(I:B6 X B2 σ H s)(e:H a=a_ (oM a xs ep)):qY s.heap a xs ep:=(show qY s.heap a xs ep/\_ from I.hok a _ e).1
def AE(I:B6 X B2 σ H s)(e:H a=a_ (oM a xs ep))(z:nG X.K H xs):∃vs,J3 jn xs vs/\(a==HW)=c_/\xs.length<=q_/\s.heap.DictOfH (CO X.prog X.w) a vs:=by
 obtain⟨vs,r,Y,U,L,o,es,h1,d,c,b⟩:=EK I e;refine⟨vs,r,Y,U,o,es,ep,h1,d,c,b,λq J=>?_,L⟩
 obtain⟨x,B,e1,e2⟩:=zN r q J;rw[<- e1,<- e2];exact oO I (z x B)
def dic_ty(I:B6 X B2 σ H s)(e:H a=a_ (oM a xs ep)):s.TypeIs (.ref a) "dict"/\(∀b,FJ a=.ref b->∃B,s.heap.get? b=a_ B/\B.dict=f_):=by obtain⟨_,_,_,_,_,o,_,h1,J,_⟩:=EK I e;exact⟨⟨o,h1,J.1⟩,λc q=>by cases q;exact⟨o,h1,J.2.1⟩⟩
def AF{vs:List (bm×i_×h_)}(c:h.DictOfH (CO P w) a vs)(r:J3 jn xs vs)(J:(a==HW)=c_)(B:xs.length<=q_):∃ep,qY h a xs ep:=by obtain⟨o,es,ep,h1,b,Y,U,_,L⟩:=c;exact⟨ep,vs,r,J,B,L,o,es,h1,b,Y,U⟩
end
def sPut(K:Pn)(td ty tv:TE):TS:=λD σ H=>tv σ H λv H1=>td σ H1 λx H2=>ty σ H2 λy B=>∃a b k xs ep,x=.ref a/\y=.ref b/\B a=a_ (oM a xs ep)/\nG K B xs/\SqT K B b (k.map V.int)/\xs.length<q_/\∀ep',D.nx σ (upd B a (oM a (putR xs k b v) ep'))
def tGet2(K:Pn)(td ty tx:TE):TE:=λσ H Q=>td σ H λx H1=>∃a xs ep,x=.ref a/\H1 a=a_ (oM a xs ep)/\ty σ H1 λy H2=>tx σ H2 λz B=>∃b k,y=.ref b/\B a=a_ (oM a xs ep)/\nG K B xs/\SqT K B b (k.map V.int)/\Q ((v7 xs k).getD z) B
def tNewK:TE:=λ_ H Q=>∀p,H p=f_->Q (.ref p) (upd H p (oM p [] 0))
section
variable{o i f:Hb}{ty tx:TE}
def wY(h:Gr)(B:HW<h.objs.size):qY (h.push {cls:=.type "dict",data:=.dict #[]}) h.objs.size [] 0:=
 ⟨[],.nil,Nx.mpr (HM (FR B)),Gi _,Na,_,#[],o_ _ rfl,⟨rfl,rfl,rfl⟩,rfl,rfl⟩
def pe_newK:PE X (.Dict [] [] pos) tNewK:=λB2 s σ H Q I h=>QD ⟨.ref s.heap.objs.size,_,I.laid (a:=s.heap.objs.size) (o:=oM s.heap.objs.size [] 0) (t':=s.toks) (λ_ _ q=>e_ _ q) (k_ _) (yN (wY s.heap I.big)),rfl,h _ (I.hok.fresh (k_ _))⟩
def B6.dic{s:l_}{xs ys:List jw}{t':Nat}(I:B6 X B2 σ H s)(e:H a=a_ (oM a xs ep))(B:Ju a s.heap h')(z:qY h' a ys ep'):B6 X B2 σ (upd H a (oM a ys ep')) {s with heap:=h',toks:=t'}:=
 I.write (x:=a) (e:=a) (by rw[e];exact JY) (.inl rfl) (λc q J w=>(B.2 c J).trans w) (let ⟨_,_,_,_,_,o,_,w,_,_,_⟩:=z;⟨o,w⟩) (yN z)
theorem ps_put(n:X.A.units+1<G3)(q:PE X o td)(hi:PE X i ty)(m:PE X value tv)(p:HB value (a_ (.Subscript o i pos')) pos.line X.env=GU c_):PS X (.Assign [.Subscript o i pos'] value pos) (sPut X.K td ty tv):=by
 intro B2 s σ H D I h;refine O6 (E' (m B2 s σ H _ I h) λr s1 B=>?_) p;obtain⟨v,H1,G,f,q1⟩:=B;refine E' (q B2 s1 σ H1 _ G q1) λu s2 B=>?_;obtain⟨x,H2,F,e,q2⟩:=B;refine E' (hi B2 s2 σ H2 _ F q2) λj K B=>?_;obtain⟨y,O,Y,d,a,b,k,xs,ep,ex,C,ea,w,t,N,g⟩:=B;subst ex C;cases(show u=FJ a from e);cases(show j=FJ b from d);obtain⟨vs,c,A,l,E⟩:=AE Y ea w;have J:vs.length<=q_:=by rw[<- M5 c];exact l
 refine Qb (hsz:=J) (MH n) (oO Y t) E λh' U L=>?_;obtain⟨ep',z⟩:=AF U (lS f c) A (by have:=pD xs k b v;lia);exact⟨σ,_,Y.dic ea L z,g ep'⟩
def pe_get2(p:X.A.units+1<G3)(r:PE X o td)(A:PE X e ty)(w:PE X f tx)(m:M2 X o "get" apos e f cpos):PE X (.Call (.Attribute o "get" apos) [e,f] [] cpos) (tGet2 X.K td ty tx):=by
 intro B2 s σ H Q I h;refine wpAny_Call_method m.base m.few m.line M7 Nr PySem.F.type_dict_get (E' (r B2 s σ H _ I h) λu s1 q=>?_);obtain⟨x,H1,U,i,a,xs,ep,ex,ea,q1⟩:=q;subst ex;cases(show u=FJ a from i);obtain⟨c,Y⟩:=dic_ty U ea;refine⟨c,Y,?_⟩
 rw[m.trees];refine K7 rfl (N1 (L1 (E' (A B2 s1 σ H1 _ U q1) λn s2 ⟨y,H2,E,g,q2⟩=>L1 (E' (w B2 s2 σ H2 _ E q2) λfv G ⟨z,F,J,d,b,k,D,B,v,t,l⟩=>OX ?_))))
 subst D;cases(show n=FJ b from g);obtain⟨vs,j,C,K,L⟩:=AE J B v;exact call_meetsIn Nr L.typeIs PySem.F.entry_dict_get (PySem.F.args_dict_get_3 _ _ _) (meetsH_dict_get_default (CO X.prog X.w) a b C fv) ⟨MH p,k,vs,oO J t,L,_,F,J.tok _,(oh j).getD d,l⟩
end
def nq:A'->M bm
 |.tup ds=>bM ds|_=>stk
noncomputable def mW(ρ:ah)(i:Nat):M (List (bm×A')):=match ρ[i]? with
 |some (a_ (.dic ks))=>.ok ks|_=>.error .stuck
def Bq(i:Nat)(fk fv:ah->M A'):ah->M B':=λρ=>(fv ρ).bind λd=>(mW ρ i).bind λks=>(fk ρ).bind λkd=>(nq kd).bind λk=>if (gO d&&A_ (ks.length<q_))=d_ then .ok (.nx (ρ.set i (a_ (.dic (l5 ks k d)))))else .error .stuck
noncomputable def isDic:A'->Bool
 |.dic _=>d_|_=>c_
def BU:A'->A'->A'->M A'
 |.dic ks,kd,x=>(nq kd).bind λk=>.ok ((rV ks k).getD x)|_,_,_=>stk
def wM(fd fk fx:ah->M A'):ah->M A':=λρ=>(fd ρ).bind λd=>if isDic d=d_ then(fk ρ).bind λk=>(fx ρ).bind λx=>BU d k x else stk
def m9{e:Err}(h:nq d=.error e):e=.stuck:=by
 cases d with
 |tup ds=>exact fP h|_=>cases h;rfl
theorem pH{k:bm}(h:nq d=.ok k)(q:aY K F d v):∃b,v=.ref b/\SqT K F b (k.map V.int):=by
 cases d with
 |tup ds=>
  obtain⟨b,xs,e,t,z⟩:=q;have:=cP z h
  simp_all
 |_=>cases h
section
variable{W:cv}{D:Ends}{fd:ah->M A'}
def mq(h:mW ρ i=.ok ks):ρ[i]?=a_ (a_ (.dic ks)):=by
 unfold mW at h;split at h
 .cases h;assumption
 .cases h
def wZ{e:Err}(h:mW ρ i=.error e):e=.stuck:=by
 unfold mW at h;split at h
 .cases h
 .cases h;rfl
def rs_putD(hi:i∈O)(t:tS K W ro F0 H0 OL O O (Bq i fk fv) D σ H):sPut K (tVar i) (tD K W c_ fk) (tD K W c_ fv) D σ H:=by
 obtain⟨FB,F,ρ,r,p⟩:=t;refine aF r.j9 r.eQ (λe c=>p.eX (r.freeze (O2:=[]) ad).st (by unfold Bq;rw[c];rfl)) λd l v F1 H1 s1 q=>?_;have o:Bq i fk fv ρ=(mW ρ i).bind λks=>(fk ρ).bind λkd=>(nq kd).bind λk=>if (gO d&&A_ (ks.length<q_))=d_ then .ok (.nx (ρ.set i (a_ (.dic (l5 ks k d)))))else .error .stuck:=by unfold Bq;rw[l];rfl
 rw[o]at p;cases L:mW ρ i with
 |error e=>have:=wZ L;subst this;exact p.stuck (by rw[L];rfl)|ok ks=>
  rw[L]at p;have p:c9 K W ro F0 H0 FB OL O D ((fk ρ).bind λkd=>(nq kd).bind λk=>if (gO d&&A_ (ks.length<q_))=d_ then .ok (.nx (ρ.set i (a_ (.dic (l5 ks k d)))))else .error .stuck):=p;have J:=r.fX s1;obtain⟨s,e2,a,xs,ev,⟨ep,m⟩,_,_,z⟩:=J.ow i _ (mq L) hi;subst ev;refine⟨.ref a,e2,?_⟩
  refine aF J.j9 J.eQ (λe c=>p.eX (J.freeze (O2:=[]) ad).st (by rw[c];rfl)) λkd j w u H2 s2 q2=>?_;rw[j]at p;have p:c9 K W ro F0 H0 FB OL O D ((nq kd).bind λk=>if (gO d&&A_ (ks.length<q_))=d_ then .ok (.nx (ρ.set i (a_ (.dic (l5 ks k d)))))else .error .stuck):=p;cases B:nq kd with
  |error e=>have:=m9 B;subst this;exact p.stuck (by rw[B];rfl)|ok k=>
   rw[B]at p;have p:c9 K W ro F0 H0 FB OL O D (if (gO d&&A_ (ks.length<q_))=d_ then .ok (.nx (ρ.set i (a_ (.dic (l5 ks k d)))))else .error .stuck):=p;by_cases U:(gO d&&A_ (ks.length<q_))=d_
   .rw[u_ U]at p;simp only[t_,FO]at U;obtain⟨b,rfl,t⟩:=pH B q2;have Y:=J.fX s2;have h:aY K (minus F1 (kr O [] σ ρ)) d v:=aY.flat (r.kI s1) U.1 q;have f:=z.mono (J.eN s2);have g:=J.kI s2 b _ t;exact⟨a,b,k,xs,ep,rfl,rfl,s2.hh _ _ m,f.key.mono Y.st.fh,Y.st.fh.tup g,by rw[z.length];exact U.2,λep'=>p σ _ _ (Y.zu hi (mq L) rfl e2 λn h0=>⟨a,_,rfl,⟨ep',av⟩,n,h0,f.put g (h.mono (J.eN s2))⟩)⟩
   .rw[x_ U]at p;exact p.stuck rfl
theorem rd_getD(h:tD K W c_ (wM fd fk fx) σ H Q):tGet2 K (tD K W c_ fd) (tD K W c_ fk) (tD K W c_ fx) σ H Q:=by
 obtain⟨F,ρ,r,s,p⟩:=h;refine aF r s (λe Y=>p.err (by simp_all[wM])) λd m x F1 H1 s1 q1=>?_;have o:wM fd fk fx ρ=if isDic d=d_ then(fk ρ).bind λk=>(fx ρ).bind λx=>BU d k x else stk:=by unfold wM;rw[m];rfl
 rw[o]at p;cases d with
 |dic ks=>
  have p:aE K W c_ F H ((fk ρ).bind λk=>(fx ρ).bind λx=>BU (.dic ks) k x) Q:=p;obtain⟨a,xs,e,⟨ep,g⟩,z⟩:=q1;refine⟨a,xs,ep,e,s1.fh _ _ g,?_⟩
  refine aF (r.mono s1.ff) s1.fh (λe Y=>(p.step s1).err (by rw[Y];rfl)) λkd l y A H2 s2 q2=>?_;rw[l]at p;have p:aE K W c_ F H ((fx ρ).bind λx=>BU (.dic ks) kd x) Q:=p;have B:=s1.trans s2;refine aF (r.mono B.ff) B.fh (λe Y=>(p.step B).err (by rw[Y];rfl)) λc n w i u L j=>?_;rw[n]at p;have p:aE K W c_ F H ((nq kd).bind λk=>.ok ((rV ks k).getD c)) Q:=p;cases J:nq kd with
  |error e=>rw[J]at p;have:=m9 J;subst this;exact aE.stuck p|ok k=>
   rw[J]at p;obtain⟨b,rfl,t⟩:=pH J q2;have U:=B.trans L;have f:=(z.mono s2.ff).mono L.ff;refine⟨b,k,rfl,L.hh _ _ (s2.hh _ _ (s1.fh _ _ g)),f.key.mono L.fh,L.fh.tup (L.ff.tup t),p _ i u U ?_⟩
   show aY K i _ _;rcases f.at (k:=k)with⟨e1,e2⟩|⟨d,v,e1,e2,q⟩
   .rw[e1,e2];exact j
   simp_all
 |_=>exact aE.stuck p
end
section
variable{W:cv}{o:Hb}{fd:ah->M A'}{p:MJ}
def EO:DE K W d_ X (.Dict [] [] pos) (fC (.dic [])):=pe_newK.imp λσ H Q h=>by obtain⟨F,ρ,r,s,q⟩:=h;exact λa B=>q (.ref a) F _ (B4.grow s B) ⟨a,[],rfl,⟨0,av⟩,s.free B,B,rfl⟩
theorem ET(c:X.A.units+64<G3)(J:DE K W c_ X o fd)(Y:DE K W c_ X ek fk)(U:DE K W c_ X ex fx)(b: ~~~(X.K=K))(a: ~~~(IW o "get" X.env (Ga o X.env)=Ga o X.env))(hw: ~~~(((Hl cpos (j_ [ek,ex] X.env)).all (λx=> !x.1)&&(KR cpos (Jz [] X.env)).all (λx=>x.1.isSome)&&A_ (([ek,ex]:List Hb).length+([]:List Lb).length+(if ([]:List Lb).isEmpty then 0 else 1)<30))=d_))(L: ~~~((apos.endLine==cpos.line)=d_))(B: ~~~(Hl cpos (j_ [ek,ex] X.env)=[(c_,Ga ek X.env),(c_,Ga ex X.env)])):DE K W c_ X (.Call (.Attribute o "get" apos) [ek,ex] [] cpos) (wM fd fk fx):=by subst b;exact(pe_get2 ac J Y U ⟨a,hw,L,B⟩).imp λ_ _ _=>rd_getD
theorem ds_putD(e:X.A.units+64<G3)(Y:DE K W c_ X ek fk)(a:DE K W c_ X ev fv)(U:(i∈O)⁻¹)(c: ~~~(X.N[i]?=a_ x))(J:autoParam (Vis X.env.scope x) Jq5)(b:((x==("__debug__":Gh))=c_)⁻¹)(B:((x==("__classdict__":Gh))=c_)⁻¹)(d: ~~~(X.K=K))(L: ~~~(HB ev (a_ (.Subscript (.Name x p) ek pos')) pos.line X.env=GU c_)):DS K W ro X OL O O (.Assign [.Subscript (.Name x p) ek pos'] ev pos) (Bq i fk fv):=λF0 H0=>by subst d;exact PS.imp (ps_put ac (pv i c J b B) Y a L) λ_ _ _=>rs_putD U
end
def tDisp1(K:Pn)(ty tv:TE):TE:=λσ H Q=>∀p,H p=f_->CN [(ty,tv)] σ (upd H p (oM p [] 0)) λps H2=>∃b k v,ps=[(.ref b,v)]/\H2 p=a_ (oM p [] 0)/\SqT K H2 b (k.map V.int)/\∀ep,Q (.ref p) (upd H2 p (oM p [(k,b,v)] ep))
section
variable{f:Hb}{ty:TE}
def pe_disp1(l:X.A.units<G3)(p:PE X e ty)(j:PE X f tv):PE X (.Dict [a_ e] [f] pos) (tDisp1 X.K ty tv):=by
 intro B2 s σ H Q I q;have n:=I.hok.fresh (k_ s.z);have A:=I.laid (a:=s.z) (o:=oM s.z [] 0) (h':=s.heap.push {cls:=.type "dict",data:=.dict #[]}) (t':=s.toks) (λ_ _ q=>e_ _ q) (k_ _) (yN (wY s.heap I.big));refine wpAny_Dict_any rfl rfl ad ad (E' (pps_cons p j pps_nil B2 _ σ _ _ A (q _ n)) λC s2 m=>?_);obtain⟨ps,H2,U,B,b,k,v,ep,e2,t,q2⟩:=m;subst ep;cases B with
 |@cons x y xs ys r d=>cases d;obtain⟨Y,D⟩:=y;obtain⟨g,c⟩:=r;cases(show Y=FJ b from g);obtain⟨vs,h,u,E,w⟩:=AE U e2 (λx i=>nomatch i);cases h;unfold storeAll;rw[Lk];refine b_ (b_ (Qd (hsz:=Gi _) (knd:=CO X.prog X.w) l (oO U t) w λh' L J=>g_ ?_));show w_ _ _ (O4 [] PUnit.unit _) _ _ _;rw[LI];obtain⟨ep',z⟩:=AF L (lS (xs:=[]) c .nil) u (Cb (pD _ _ _ _) (show 1<=q_ by decide));exact g_ ⟨.ref s.z,_,U.dic e2 J z,rfl,q2 ep'⟩
end
def mkD1(kd d:A'):M A':=(nq kd).bind λk=>.ok (.dic [(k,d)])
theorem de_disp1{W:cv}{f:Hb}(q:X.A.units+64<G3)(J:DE K W c_ X e fa)(l:DE K W c_ X f fb)(m: ~~~(X.K=K)):DE K W d_ X (.Dict [a_ e] [f] pos) (f2 mkD1 fa fb):=by
 subst m;exact(pe_disp1 ac J l).imp λ_ H _=>by
   intro h;obtain⟨F,ρ,r,s,p⟩:=h;intro a J;have L:B4 F H F (upd H a (oM a [] 0)):=B4.grow s J;refine aF r L.fh (λe Y=>(p.step L).err (by unfold f2;rw[Y];rfl)) λkd i x F1 H1 s1 q1=>?_;have U:=L.trans s1;refine aF (r.mono s1.ff) s1.fh (λe Y=>(p.step U).err (by unfold f2;rw[i];show(fb ρ).bind _=_;rw[Y];rfl)) λd j v g H2 s2 q2=>?_;have e:f2 mkD1 fa fb ρ=(nq kd).bind λk=>.ok (.dic [(k,d)]):=by unfold f2;rw[i];show(fb ρ).bind _=_;rw[j];rfl
   rw[e]at p;cases B:nq kd with
   |error e=>rw[B]at p;have:=m9 B;subst this;exact aE.stuck p|ok k=>
    rw[B]at p;obtain⟨b,rfl,t⟩:=pH B q1;have n:H2 a=a_ (oM a [] 0):=s2.hh _ _ (s1.hh _ _ av);have f2:g a=f_:=by
     cases e2:g a with
     |none=>rfl|some o=>
      rcases s2.nw a o e2 with z|z
      .rcases s1.nw a o z with z|z
       .rw[s.free J]at z;cases z
       .rw[av]at z;cases z
      .rw[s1.hh _ _ av]at z;cases z
    refine⟨b,k,v,rfl,n,s2.fh.tup (s2.ff.tup t),λep=>p (.ref a) g _ ⟨s1.ff.trans s2.ff,λc o z=>?_,λc o z=>?_,λc o z=>?_⟩ ⟨a,_,rfl,⟨ep,av⟩,f2,J,b,v,[],rfl,s2.ff.tup t,q2,rfl⟩⟩
    .rw[aA (aM z J)];exact s2.hh _ _ (s1.hh _ _ (by rw[aA (aM z J)];exact z))
    .rw[aA (aM z f2)];exact s2.fh _ _ z
    .exact(L.trans (s1.trans s2)).nw c o z
def uW(h:Gr)(d:i_)(es:Array Hn)(ep:Nat):Prop:=∃o,h.get? d=a_ o/\o.ExactDict/\o.data=.dict es ep
def uW.ty{s:l_}{d:i_}{es:Array Hn}(z:uW s.heap d es ep):s.TypeIs (.ref d) "dict":=let ⟨o,h,c,_⟩:=z;⟨o,h,c.1⟩
def uW.at{d:i_}{es:Array Hn}(z:uW h d es ep)(e:∀o,h.get? d=a_ o->h'.get? d=a_ o):uW h' d es ep:=let ⟨o,h,c⟩:=z;⟨o,e o h,c⟩
section
variable{s:l_}{d v q:i_}{es:Array Hn}
def BF(d:i_)(es:Array Hn)(ep:Nat)(B:(d==HW)=c_):MeetsIn prog w (Builtin.«dict.values» ⟨[.ref d],[]⟩) (λ_ R s=>uW s.heap d es ep/\R (.ok (.ret (.ref s.heap.objs.size))) {s with heap:=s.heap.push {cls:=.type "dict_values",data:=.fields #[.ref d]}}):=
 .of_wp λA R s ⟨z,h⟩=>by
  have sh:Ib d=GU ():=by unfold Ib;rw[B];rfl
  refine b_ ?_;unfold Builtin.Dict.noArgs;refine b_ (LV z.ty ?_);show w_ _ _ (GU d) _ _ s;refine g_ ?_;show w_ _ _ (Ib d >>= _) _ _ s;rw[sh];exact b_ (g_ (b_ (GD (g_ ⟨_,rfl,h⟩))))
theorem BP{Q:Mq}(B:s.heap.IsValuesView v d)(z:uW s.heap d es ep)(k:Q (.ref s.heap.objs.size) {s with heap:=s.heap.push {cls:=.type "dict_valueiterator",data:=.fields #[.ref d,.int 0 0,.int es.size 0,.int ep 0]}}):w_ (B_ prog w) A (O9 (.ref v)) Q E s:=by obtain⟨b,Y,a,U⟩:=id B;obtain⟨od,L,c,J⟩:=z;refine Qq B.typeIs Mm (Gx Mm B.typeIs PySem.F.entry_dict_values_iter ?_ (PySem.F.args_dict_values_iter_1 _));unfold Builtin.«dict_values.__iter__»;refine b_ (g_ (b_ ?_));unfold Pr;refine b_ (H_ Y U (x:=.ref d) rfl (g_ (b_ ?_)));unfold Pq;refine b_ (Jt L J (b_ (JI L J ?_)));simp only[show HI "dict_valueiterator"=c_ by decide,Gk,HV];exact GD (g_ ⟨_,rfl,"dict_valueiterator",_,⟨_,o_ _ rfl,rfl⟩,Hh.lookup,by simp_all[Jc]⟩)
theorem BE{e:Hn}{Q:Option h_->l_->Prop}(B:s.heap.IsValIter q d i es.size ep)(z:uW s.heap d es ep)(b:es[i]?=a_ e)(k:∀h',h'.IsValIter q d (i+1) es.size ep->Ju q s.heap h'->Q (a_ e.val) {s with heap:=h'}):w_ (B_ prog w) A (JC (.ref q)) Q E s:=by
 obtain⟨c,q1,q2,J⟩:=id B;obtain⟨od,a,f,Y⟩:=z;unfold JC;refine b_ (JF (G2 (name:=HS "__next__") B.typeIs Hh (Gx Hh B.typeIs Lo ?_ (Li _))));refine b_ (g_ (b_ (b_ (b_ (Ji B.typeIs (g_ ?_))))));refine b_ (L9 q1 J ?_);simp only[show HI "dict_valueiterator"=c_ by decide,Gk,HV];show w_ _ _ (if (FJ d==Gu)=d_ then _ else _) _ _ s;rw[x_ (show ¬((FJ d==Gu)=d_)from GJ)];refine b_ (g_ (b_ (Jt a Y ?_)));rw[x_ ad];refine b_ (g_ (b_ (JI a Y ?_)));rw[x_ ad];refine g_ ?_;simp only[show ¬((i:Int)<0)from by lia,HV,IQ,b];refine b_ (b_ (Ji B.typeIs (g_ (b_ (LW B.typeIs ?_)))));show w_ _ _ (MT (.ref q) 1 (Jc ((i:Int)+1)) >>= _) _ _ s;refine b_ (J1 q1 J ad ?_);have U:(s.heap.update q (L6 (·.setIfInBounds 1 (Jc ((i:Int)+1))))).IsValIter q d (i+1) es.size ep:=⟨_,Iv _ q1 (Ly (Jd J _)),(Mw ..).trans q2,by simp_all[Jd,Jc]⟩
 have L:LJ {s with heap:=s.heap.update q (L6 (·.setIfInBounds 1 (Jc ((i:Int)+1))))} (.ref q) "dict_valueiterator":=U.typeIs;refine b_ (G9 (b_ (LW L (b_ (LW L ?_)))));show w_ _ _ (GU e.val) _ _ _;exact g_ (g_ ⟨_,rfl,g_ (k _ U (IB ..))⟩)
theorem EA{Q:Option h_->l_->Prop}(hh:A.handled=f_)(B:s.heap.IsValIter q d i es.size ep)(z:uW s.heap d es ep)(Y:es.size<=i)(k:∀h',Hm q s.heap h'->Q f_ {s with heap:=h'}):w_ (B_ prog w) A (JC (.ref q)) Q E s:=by
 obtain⟨c,q1,q2,J⟩:=id B;obtain⟨od,U,e,L⟩:=z;unfold JC;refine b_ (JF (G2 (name:=HS "__next__") B.typeIs Hh (Gx Hh B.typeIs Lo ?_ (Li _))));refine b_ (g_ (b_ (b_ (b_ (Ji B.typeIs (g_ ?_))))));refine b_ (L9 q1 J ?_);simp only[show HI "dict_valueiterator"=c_ by decide,Gk,HV];show w_ _ _ (if (FJ d==Gu)=d_ then _ else _) _ _ s;rw[x_ (show ¬((FJ d==Gu)=d_)from GJ)];refine b_ (g_ (b_ (Jt U L ?_)));rw[x_ ad];refine b_ (g_ (b_ (JI U L ?_)));rw[x_ ad];refine g_ ?_;simp only[show ¬((i:Int)<0)from by lia,HV,IQ,Ja Y];refine b_ (b_ (Ji B.typeIs (g_ ?_)));show w_ _ _ (MT (.ref q) 0 .none >>= _) _ _ s;refine b_ (J1 q1 J ad ?_);show w_ _ _ (Qg (.type "StopIteration") [] >>= _) _ _ _;refine b_ ?_;simp only[Qg,newTuple];refine b_ (GD (b_ (m:=NV _ _) (Nq (a:=Gu) (by rfl) (GD ?_ (by size_fits)))) (by size_fits));simp only[raiseNew];refine b_ (Ol ?_);first|rw[show A.in1.handled=f_ from hh]|rw[hh]
 refine b_ (g_ (Py ?_));refine b_ (JA (T:="StopIteration") (b:=d_) ⟨_,o_ _ rfl,rfl⟩ NU ?_);exact g_ (k _ (((IB ..).extBut.push _).push _))
end
def VwO(T:String)(p d:i_):HO:=.ext λh=>∃o,h.get? p=a_ o/\o.cls=.type T/\o.data=.fields #[.ref d]
def vw_obj{T:String}{p d:i_}(z:∃o,h.get? p=a_ o/\o.cls=.type T/\o.data=.fields #[.ref d]):gZ H h p (VwO T p d):=⟨z,let ⟨o,e,_⟩:=z;⟨o,e⟩,λ_ _ ⟨o,e,r⟩ k=>⟨o,k o e,r⟩⟩
def tView(T:String)(td:TE):TE:=λσ H Q=>td σ H λx H1=>∃a xs ep,x=.ref a/\H1 a=a_ (oM a xs ep)/\∀p,H1 p=f_->Q (.ref p) (upd H1 p (VwO T p a))
def rSumV:bp->Hp->VK->Prop:=λvs H Q=>∃(p a:i_) (xs:List jw) (ep:Nat) (is:bm),vs=[.ref p]/\H p=a_ (VwO "dict_values" p a)/\H a=a_ (oM a xs ep)/\xs.map (·.2.2)=is.map V.int/\Q (.int is.sum) H
theorem D5:∀{xs:List jw} {vs:List (bm×i_×h_)} {i:Nat} {e:Hn},J3 jn xs vs->(vs.map rowE)[i]?=a_ e->∃x,xs[i]?=a_ x/\e.key=.ref x.2.1/\C' x.2.2 e.val
 |_,_,_,_,.nil,h=>by simp at h|x::_,q::_,0,e,.cons r _,h=>by simp only[r_,K2,Hv]at h;subst h;exact⟨x,rfl,by rw[r.2.1];rfl,r.2.2⟩|_::_,_::_,i+1,e,.cons _ t,h=>by
  obtain⟨x,h1,B⟩:=D5 (i:=i) (e:=e) t be
  simp_all
theorem pre_sum:∀is:bm,preSum (λi=>(is[i]?).getD 0) is.length=is.sum:=by
 have key:∀(is:bm) (n:Nat),n<=is.length->preSum (λi=>(is[i]?).getD 0) n=(is.take n).sum:=by
  intro is n
  induction n with
  |zero=>intro _;rfl|succ n B=>intro h;have J:n<is.length:=h;rw[preSum,B (MA h),LG,List.sum_append];simp[y_ J]
 simp_all
theorem Bb(L:A.handled=f_)(q d:i_)(B:d≠q)(es:Array Hn)(ep:Nat):Walks prog w A q [q,d] [q] es.size (λi v=>∃e,es[i]?=a_ e/\v=e.val) (λi h=>h.IsValIter q d i es.size ep/\uW h d es ep) where
 sub:=λb U=>by simp_all
 frame:=λ_ _ _ st k=>⟨let ⟨o,e,r⟩:=st.1;⟨o,k q ad o e,r⟩,st.2.at λo e=>k d ad o e⟩
 item:=λi s Q E hi st k=>BE st.1 st.2 (e:=es[i]) ad λh' z b=>k _ h' s.toks ⟨_,ad,rfl⟩ ⟨z,st.2.at λo e=>(b.2 d B).trans e⟩ λc o J e=>b.extBut c o (λz=>J (by simp[z])) e
 done:=λs Q E st k=>EA L st.1 st.2 (k_ _) λh' b=>k h' s.toks λc o J e=>b c o (λz=>J (by simp[z])) e
 self:=λ_ _ _ _ st k=>wpAny_pyIter_valiter st.1 k
section
variable{s:l_}{xs:List jw}{o:Hb}
def Dd(I:B6 X B2 σ H s)(e:H a=a_ (oM a xs ep)):∃(vs:List (bm×i_×h_)) (es:Array Hn),J3 jn xs vs/\(a==HW)=c_/\xs.length<=q_/\uW s.heap a es ep/\es.toList=vs.map rowE/\es.size=xs.length:=by obtain⟨vs,r,L,J,b,u,es,h1,Y,U,B⟩:=EK I e;exact⟨vs,es,r,L,J,⟨u,h1,Y,U⟩,B,by rw[<- GF,B,n_,M5 r]⟩
def pe_vals(b:PE X o td)(e: ~~~(IW o "values" X.env (Ga o X.env)=Ga o X.env))(c: ~~~((apos.endLine==cpos.line)=d_)):PE X (.Call (.Attribute o "values" apos) [] [] cpos) (tView "dict_values" td):=by
 intro B2 s σ H Q I h;refine wpAny_Call_method0_late e c (E' (b B2 s σ H _ I h) λv s1 Y=>?_);obtain⟨x,H1,B,U,a,xs,ep,ex,ea,q1⟩:=Y;subst ex;cases(show v=FJ a from U);obtain⟨J,L⟩:=dic_ty B ea;obtain⟨vs,es,_,d,_,z,_⟩:=Dd B ea;exact⟨"dict","dict.values",M7,M0,PySem.F.type_dict_values,J,L,K7 rfl (PySem.evalArgs_none (call_meetsIn M0 J PySem.F.entry_dict_values (PySem.F.args_dict_values_1 _) (BF a es ep d)
  ⟨z,.ref s1.z,_,B.laid (a:=s1.z) (o:=VwO "dict_values" s1.z a) (t':=s1.toks) (λ_ _ q=>e_ _ q) (k_ _) (vw_obj ⟨_,o_ _ rfl,rfl,rfl⟩),rfl,q1 _ (B.hok.fresh (k_ _))⟩))⟩
theorem Fc(y:X.calm=d_):fW X (.builtin "sum") rSumV:=by
 intro B2 s σ H vs us Q I r h;obtain⟨p,a,xs,ep,is,rfl,m,C,hi,q⟩:=h;obtain⟨u,rfl,c⟩:=r.one;cases(show u=FJ p from c);obtain⟨vs,es,d,K,G,z,w,hsz⟩:=Dd I C;have l:s.heap.IsValuesView p a:=(show(∃o,s.heap.get? p=a_ o/\o.cls=.type "dict_values"/\o.data=.fields #[.ref a])/\_ from I.hok p _ m).1;have k:a<s.z:=let ⟨o,e,_⟩:=z;s_ e;have n:is.length=es.size:=by rw[hsz,<- n_ (f:=λx:jw=>x.2.2),hi,n_]
 refine Qx (BP l z ⟨_,_,_,_,_,_,_,λi=>(is[i]?).getD 0,rfl,(Bb (A:=X.A.in1) (I.ok.hd y) s.z a (FR k) es ep).toS,⟨⟨_,o_ _ rfl,rfl,rfl⟩,z.at λo e=>e_ _ e⟩,λb U=>?_,λi v D=>?_,λs' t' B=>?_⟩)
 .show b<(s.heap.push _).objs.size;rw[Hq]
  grind
 .obtain⟨e,h1,rfl⟩:=D;obtain⟨x,F,_,Y⟩:=D5 (i:=i) (e:=e) d (by rw[<- w];simpa using h1);have L:(xs.map (·.2.2))[i]?=a_ x.2.2:=by rw[FQ,F];rfl
  rw[hi,FQ]at L;cases E:is[i]? with
  |none=>simp_all|some j=>
   rw[E]at L;have e4:V.int j=x.2.2:=by simpa using L
   rw[<- e4]at Y;obtain⟨t,e⟩:=(show ∃t,e.val=KS j t from Y)
   simp_all
 .obtain⟨h',g',d',J,g⟩:=s';have e1:=B.gens;have e2:=B.drawn;have e3:=B.os;have e4:=B.heap;simp only at e1 e2 e3;subst e1 e2 e3;refine⟨.int _,H,I.kept (t':=J) λb o e=>e4 b o (λU=>?_) (e_ _ e),⟨t',rfl⟩,?_⟩
  .have:b=s.z:=by simpa using U
   exact FZ (s_ e) bi
  .rw[<- n,pre_sum];exact q
end
def CT:A'->M A'
 |.dic ks=>(bM (ks.map (·.2))).bind λis=>.ok (.int is.sum)|_=>stk
theorem cU.vals{K:Pn}{F:Hp}:∀{ks:List (bm×A')} {xs:List jw},cU K F ks xs->aw K F (ks.map (·.2)) (xs.map (·.2.2))
 |[],_,h=>by rw[show _=[]from h];rfl|(k,d)::ks,_,⟨b,v,r,e,t,q,z⟩=>by subst e;exact⟨v,_,rfl,q,cU.vals z⟩
section
variable{W:cv}{fd:ah->M A'}
theorem rd_sumV(h:tD K W c_ (f1 CT fd) σ H Q):tCB rSumV (qz (tView "dict_values" (tD K W c_ fd)) tNil) σ H Q:=by
 obtain⟨F,ρ,r,s,p⟩:=h;refine aF r s (λe Y=>p.err (by simp_all[f1])) λd U x F1 H1 s1 q1=>?_;have z:f1 CT fd ρ=CT d:=by unfold f1;rw[U];rfl
 rw[z]at p;cases d with
 |dic ks=>
  obtain⟨a,xs,e,⟨ep,B⟩,L⟩:=q1;have p:aE K W c_ F H ((bM (ks.map (·.2))).bind λis=>.ok (.int is.sum)) Q:=p;cases hi:bM (ks.map (·.2))with
  |error e=>rw[hi]at p;have:=fP hi;subst this;exact aE.stuck p|ok is=>rw[hi]at p;exact⟨a,xs,ep,e,s1.fh _ _ B,λv J=>⟨v,a,xs,ep,is,rfl,av,by rw[aA (aM (s1.fh _ _ B) J)];exact s1.fh _ _ B,cP L.vals hi,p (.int is.sum) F1 _ (s1.trans (B4.grow s1.fh J)) rfl⟩⟩
 |_=>exact aE.stuck p
end
section
variable{W:cv}{o:Hb}{fd:ah->M A'}{p:MJ}
def de_sumV(b:X.calm=d_)(U:X.mg "sum"=f_)(Y:DE K W c_ X o fd)(c: ~~~(IW o "values" X.env (Ga o X.env)=Ga o X.env))(L: ~~~((apos.endLine==cpos.line)=d_))(a: ~~~(Gl X "sum"))(B: ~~~(j_ [.Call (.Attribute o "values" apos) [] [] cpos] X.env=(c_,Ga (.Call (.Attribute o "values" apos) [] [] cpos) X.env)::j_ [] X.env))(J: ~~~((Hl pos (j_ [] X.env)).any (·.1)=c_)):
  DE K W c_ X (.Call (.Name "sum" p) [.Call (.Attribute o "values" apos) [] [] cpos] [] pos) (f1 CT fd):=
 (lW (Fc b) a U boot_sum (bR (pe_vals Y c L) fJ B) am am B J).imp λ_ _ _=>rd_sumV
end
section
variable{fd:ah->M A'}
@[simp]def e_getD:wM fd fk fx ρ=(fd ρ).bind λd=>if isDic d=d_ then(fk ρ).bind λk=>(fx ρ).bind λx=>BU d k x else stk:=id rfl
@[simp]def e_getDD(ks:List (bm×A'))(kd x:A'):BU (.dic ks) kd x=(nq kd).bind λk=>.ok ((rV ks k).getD x):=id rfl
end
section
open PySem
def DO:typeLookup (.type "list") "keys"=GU f_:=by rfl
theorem no_keys{B:Gr}{g:Array GenState}{d:Drawn}{tk:Nat}{L:OsState}{xs:Array h_}{Q:Option h_->l_->Prop}(Y:B.get? a=a_ {cls:=.type "list",dict:=f_,data:=.seq xs n,slots:=sl})(c:A.handled=f_)(k:∀h' J,(∀b U,B.get? b=a_ U->h'.get? b=a_ U)->Q f_ ⟨h',g,d,J,L⟩):w_ (B_ prog w) A (getAttr? (.ref a) "keys") Q E ⟨B,g,d,tk,L⟩:=by
 have ty:∀t,(⟨B,g,d,t,L⟩:l_).TypeIs (.ref a) "list":=λ_=>⟨_,Y,rfl⟩
 have q1:=sub_AttributeError;have q2:=K6.lookup;have j:=K6.bind (.ref a);have i:=am_list_getattr_none;unfold getAttr? getAttrBy? getAttrBy
 repeat (any_goals (first|assumption|exact ty _|((with_reducible show w_ _ _ (Ka (P4 "list.__getattribute__") _ _) _ _ _);refine Qk K6 (ty _) am_entry_list_getattribute (F.args_list_getattribute_2 _ _) (meets_getattribute_miss_list a xs n sl "keys" _ DO am (by size_fits)) ⟨Y,c,λh' t' e z=>?_⟩)|wp_step))
 obtain⟨h,f,l⟩:=z.there;show w_ _ _ (Qj _ _ _ _ _ _ _) _ _ _;unfold Qj
 repeat (any_goals (first|assumption|wp_step))
 exact k _ _ z.keeps
variable{R:Nj->l_->Prop}{κ:Type}[Jh κ]{knd:MZ prog w κ}
def rJ:entryFor table "dict.update.loop"=a_ Builtin.«dict.update.loop»:=entryFor_of_tree (by rfl)
def km:plainId "dict.update.loop"=d_:=by decide +kernel
noncomputable def stR(B:List (κ×i_×h_))(x:κ×i_×h_):List (κ×i_×h_):=Mj B x.1 x.2.1 x.2.2
abbrev Keep(h0 h:Gr):Prop:=∀c o,h0.get? c=a_ o->h.get? c=a_ o
def KKeep(knd:MZ prog w κ):Prop:=∀{h0 h:Gr} {k:κ} {b:i_},knd.is h0 k b->Keep h0 h->knd.is h k b
def Az{D:i_}{rows:List (κ×i_×h_)}(z:h.DictOfH knd D rows)(e:∀o,h.get? D=a_ o->h'.get? D=a_ o)(k:∀x∈rows,knd.is h' x.1 x.2.1):h'.DictOfH knd D rows:=
 let ⟨o,es,ep,h1,U,L,J,_,B⟩:=z;⟨o,es,ep,e o h1,U,L,J,k,B⟩
theorem CY{L:List (κ×i_×h_)}:∀(M B:List (κ×i_×h_)),(∀x∈M,x∈L)->(∀x∈B,∃y∈L,x.1=y.1/\x.2.1=y.2.1)->∀x∈M.foldl stR B,∃y∈L,x.1=y.1/\x.2.1=y.2.1
 |[],B,_,h=>h|m::M,B,U,h=>CY M (stR B m) (λx J=>U x (by simp[J])) λx J=>by
  rcases PyProof.Rows.mem_storedH J with⟨y,a,e1,e2⟩|⟨e1,e2⟩
  .obtain⟨z,Y,c,b⟩:=h y a;exact⟨z,Y,e1.trans c,e2.trans b⟩
  .exact⟨m,U m ad,e1,e2⟩
theorem CZ:∀(M B:List (κ×i_×h_)),(M.foldl stR B).length<=B.length+M.length
 |[],B=>k_ _|m::M,B=>by
  have h1:=CZ M (stR B m)
  grind[stR,Mj,FU,E_]
theorem dic_loop{h0:Gr}{D:i_}(hh:A.handled=f_)(F:KKeep knd)(S:knd.room A.in1)(X:h0.IsList l items)(hD:h0.get? D=f_)(hI:h0.get? I=f_)(a:D≠I)(L:List (κ×i_×h_))(E:items.size=L.length)(hsz:L.length<=q_)(k:∀(j:Nat) (x:κ×i_×h_),L[j]?=a_ x->∃T,items[j]?=a_ (.ref T)/\N5 h0 T #[.ref x.2.1,x.2.2]/\knd.is h0 x.1 x.2.1):
  ∀(m i:Nat) (s:l_),L.length-i=m->i<=L.length->s.heap.IsListIter I l i->Keep h0 s.heap->s.heap.DictOfH knd D ((L.take i).foldl stR []) ->
   (∀h' U,Keep h0 h'->h'.DictOfH knd D (L.foldl stR [])->R (.ok (.ret .none)) {s with heap:=h',toks:=U})->JJ (B_ prog w) A (.builtin "dict.update.loop" ⟨[.ref D,.ref I,Jc i,.none],[]⟩) R s:=by
 have J:∀{h:Gr},Keep h0 h->∀(i:Nat),∀x∈(L.take i).foldl stR [],knd.is h x.1 x.2.1:=λ{h} kp i x Y=>by obtain⟨y,Q,e1,e2⟩:=CY (L:=L) (L.take i) [] (λx Y=>IM Y) (λx Y=>nomatch Y) x Y;obtain⟨j,Z⟩:=Iz.mp Q;obtain⟨T,_,_,z⟩:=k j y Z;rw[e1,e2];exact F z kp
 have f:∀{h:Gr},Keep h0 h->h.IsList l items:=λ{h} kp=>let ⟨o,e,r⟩:=X;⟨o,kp _ _ e,r⟩;intro m
 induction m with
 |zero=>
  intro i s W hi st kp p b;obtain rfl:i=L.length:=ac
  refine Ii rJ ?_;rw[Hd km _];refine b_ (Pk (show A.in1.handled=f_ from hh) st (f kp) bi λh' eb=>?_);have g:Keep h0 h':=λc o e=>eb c o (λz=>by simp_all) (kp c o e);show w_ _ _ (Builtin.Dict.addKeywords D [] >>= _) _ _ _;rw[IT]at p;refine b_ (g_ (g_ (b h' s.toks g (Az p (λo e=>eb D o a e) λx Y=>?_))));exact J g L.length x (by rw[IT];exact Y)
 |succ m P=>
  intro i s W hi st kp p b;have t:i<L.length:=ac
  obtain⟨T,e1,G,O⟩:=k i L[i] ad;refine Ii rJ ?_;rw[Hd km _];refine b_ (O5 st (f kp) e1 λh1 st1 sb=>?_);have B:Keep h0 h1:=λc o e=>sb.extBut c o (λz=>by simp_all) (kp c o e);have v:h1.DictOfH knd D ((L.take i).foldl stR []):=Az p (λo e=>sb.extBut D o a e) (J B i);obtain⟨N,C,K,n,H⟩:=G;have hT:LJ {s with heap:=h1} (.ref T) "tuple":=⟨N,B _ _ C,K⟩
  refine b_ (G9 ?_);refine b_ (JZ ?_);unfold Builtin.Dict.pairItems;refine b_ (MS hT ?_);show w_ _ _ (if (HD "tuple"==HD "list"||HD "tuple"==HD "tuple")=d_ then _ else _) _ _ _;rw[u_ am];refine b_ (Hg (B _ _ C) H (g_ ?_));show w_ _ _ (IL [.ref L[i].2.1,L[i].2.2] (dictSet D (.ref L[i].2.1) L[i].2.2)) _ _ _;have u:((L.take i).foldl stR []).length<=q_:=by have:=CZ (L.take i) [];rw[Kf,GL]at this;lia
  refine G9 (Qd (hsz:=u) (knd:=knd) S (F O B) v λh2 dd2 d=>?_);have q:Keep h0 h2:=λc o e=>(d.2 c (λz=>by simp_all)).trans (B c o e);have ei:Jc ((i:Int)+1)=Jc ((i+1:Nat):Int):=by congr 1
  have et:(L.take (i+1)).foldl stR []=Mj ((L.take i).foldl stR []) L[i].1 L[i].2.1 L[i].2.2:=by rw[LG,KH];simp[t,stR]
  refine g_ ⟨Jo km _,?_⟩;show JJ _ _ (.builtin "dict.update.loop" ⟨[.ref D,.ref I,Jc ((i:Int)+1),.none],[]⟩) _ _;rw[ei];refine P (i+1) _ ac ac ?_ q bi λh' U k' d'=>b h' U k' d';exact st1.at λo e=>(d.2 I a.symm).trans e
end
section
open PySem
variable{s:l_}{κ:Type}[Jh κ]{knd:MZ prog w κ}
theorem Ce{i:Nat}{Q:Mq}(v:A.handled=f_)(D:KKeep knd)(C:knd.room A.in1.in1)(n:s.heap.get? l=a_ {cls:=.type "list",dict:=f_,data:=.seq items i,slots:=sl})(L:List (κ×i_×h_))(b:items.size=L.length)(hsz:L.length<=q_)(p:∀(j:Nat) (x:κ×i_×h_),L[j]?=a_ x->∃T,items[j]?=a_ (.ref T)/\N5 s.heap T #[.ref x.2.1,x.2.2]/\knd.is s.heap x.1 x.2.1)(k:∀h' J,Keep s.heap h'->h'.DictOfH knd s.heap.objs.size (L.foldl stR [])->Q (.ref s.heap.objs.size) {s with heap:=h',toks:=J}):w_ (B_ prog w) A (Ka (.type "dict") [.ref l]) Q E s:=by
 obtain⟨B,g,d,tk,h⟩:=s;refine callType_codes (Q₁:=λu t=>u=.ref B.objs.size/\t=⟨B.push {cls:=.type "dict",data:=.dict #[]},g,d,tk,h⟩) F.kt_called_dict (F.kt_typeCall_dict_1 _) F.entry_dict_init (kt_code_dict_new _ ⟨rfl,rfl⟩) ?_;rintro u t ⟨rfl,rfl⟩;have q:(B.push {cls:=.type "dict",data:=.dict #[]}).DictOfH knd B.objs.size []:=⟨_,#[],0,o_ _ rfl,⟨rfl,rfl,rfl⟩,rfl,rfl,λx a=>(nomatch a),Na⟩
 have ty:(⟨B.push {cls:=.type "dict",data:=.dict #[]},g,d,tk,h⟩:l_).TypeIs (.ref B.objs.size) "dict":=q.typeIs;have f:(B.push {cls:=.type "dict",data:=.dict #[]}).get? l=a_ {cls:=.type "list",dict:=f_,data:=.seq items i,slots:=sl}:=e_ _ n;have tl:(⟨B.push {cls:=.type "dict",data:=.dict #[]},g,d,tk,h⟩:l_).TypeIs (.ref l) "list":=⟨_,f,rfl⟩
 refine⟨ty,F.args_dict_init_2 _ _,?_⟩;unfold Builtin.«dict.__init__»;refine b_ ?_;unfold Builtin.Dict.selfAndRest;refine b_ (LV ty ?_);show w_ _ _ (GU (B.objs.size,[FJ l])) _ _ _;refine g_ ?_;show w_ _ _ (Mx "dict.__init__" B.objs.size (.ref l) [] .none) _ _ _;unfold Mx;refine b_ (MS tl ?_);rw[u_ am];refine b_ (no_keys f (show A.in1.in1.handled=f_ from v) λh1 m Y=>?_);rw[u_ (show(f_:Option h_).isNone=d_ from rfl)];have kp:Keep B h1:=λc o e=>Y c o (e_ _ e);have G:B.get? B.objs.size=f_:=LC (k_ _);have y:h1.DictOfH knd B.objs.size []:=Az q (λo e=>Y _ o e) λx a=>(nomatch a)
 have r:B.objs.size<h1.objs.size:=let ⟨o,_,_,e,_⟩:=y;s_ e;have U:B.IsList l items:=⟨_,n,rfl,i,rfl⟩
 have z:h1.IsList l items:=⟨_,kp _ _ n,rfl,i,rfl⟩
 refine b_ (Ih (b_ (K9 (s:=⟨h1,g,d,m,h⟩) z (g_ ⟨Jo km _,?_⟩))));refine dic_loop (A:=A.in1) (h0:=B) (l:=l) (items:=items) (show A.in1.handled=f_ from v) D C U G (LC (GP r)) (FR r) L b hsz p (L.length-0) 0 _ rfl (Gi _) ⟨_,o_ _ rfl,rfl,rfl⟩ (λc o e=>e_ _ (kp c o e)) (Az y (λo e=>e_ _ e) λx a=>(nomatch a)) λh' J k' H=>⟨rfl,k h' J k' H⟩
end
def Ci:Iu "dict"=a_ (.type "dict"):=by rfl
section
variable{s:l_}{d q:i_}{es:Array Hn}
theorem rP{Q:Mq}(L:(d==HW)=c_)(z:uW s.heap d es ep)(k:Q (.ref s.heap.objs.size) {s with heap:=s.heap.push {cls:=.type "dict_keyiterator",data:=.fields #[.ref d,.int 0 0,.int es.size 0,.int ep 0]}}):w_ (B_ prog w) A (O9 (.ref d)) Q E s:=by
 have ty:=z.ty;have sh:Ib d=GU ():=by unfold Ib;rw[L];rfl
 obtain⟨od,J,U,B⟩:=z;refine Qq ty Nm (Gx Nm ty PySem.F.entry_dict_iter ?_ (PySem.F.args_dict_iter_1 _));unfold Builtin.«dict.__iter__»;refine b_ ?_;unfold Builtin.Dict.dictSlotNone;refine b_ (LV ty ?_);show w_ _ _ (GU (FJ d)) _ _ s;refine g_ ?_;show w_ _ _ (Ib d >>= _) _ _ s;rw[sh];refine b_ (g_ (b_ (Jt J B (b_ (JI J B ?_)))));exact b_ (GD (g_ ⟨_,rfl,"dict_keyiterator",_,⟨_,o_ _ rfl,rfl⟩,Hr.lookup,by simp_all[Jc]⟩))
theorem rH{e:Hn}{Q:Option h_->l_->Prop}(B:s.heap.IsKeyIter q d i es.size ep)(z:uW s.heap d es ep)(b:es[i]?=a_ e)(k:∀h',h'.IsKeyIter q d (i+1) es.size ep->Ju q s.heap h'->Q (a_ e.key) {s with heap:=h'}):w_ (B_ prog w) A (JC (.ref q)) Q E s:=by
 obtain⟨c,q1,q2,J⟩:=id B;obtain⟨od,Y,f,U⟩:=z;unfold JC;refine b_ (JF (G2 (name:=HS "__next__") B.typeIs Hr (Gx Hr B.typeIs LD ?_ (Lz _))));refine b_ (g_ (b_ (b_ (b_ (Jj B.typeIs (g_ ?_))))));refine b_ (L9 q1 J ?_);simp only[show HI "dict_keyiterator"=c_ by decide,Gk,HV];show w_ _ _ (if (FJ d==Gu)=d_ then _ else _) _ _ s;rw[x_ (show ¬((FJ d==Gu)=d_)from GJ)];refine b_ (g_ (b_ (Jt Y U ?_)));rw[x_ ad];refine b_ (g_ (b_ (JI Y U ?_)));rw[x_ ad];refine g_ ?_;simp only[show ¬((i:Int)<0)from by lia,HV,IQ,b];refine b_ (b_ (Jj B.typeIs (g_ (b_ (Pm B.typeIs ?_)))));show w_ _ _ (MT (.ref q) 1 (Jc ((i:Int)+1)) >>= _) _ _ s;refine b_ (J1 q1 J ad ?_);have L:(s.heap.update q (L6 (·.setIfInBounds 1 (Jc ((i:Int)+1))))).IsKeyIter q d (i+1) es.size ep:=⟨_,Iv _ q1 (Ly (Jd J _)),(Mw ..).trans q2,by simp_all[Jd,Jc]⟩
 have a:LJ {s with heap:=s.heap.update q (L6 (·.setIfInBounds 1 (Jc ((i:Int)+1))))} (.ref q) "dict_keyiterator":=L.typeIs;refine b_ (G9 (b_ (Pm a ?_)));show w_ _ _ (GU e.key) _ _ _;exact g_ (g_ ⟨_,rfl,g_ (k _ L (IB ..))⟩)
theorem wR{Q:Option h_->l_->Prop}(hh:A.handled=f_)(B:s.heap.IsKeyIter q d i es.size ep)(z:uW s.heap d es ep)(Y:es.size<=i)(k:∀h',Hm q s.heap h'->Q f_ {s with heap:=h'}):w_ (B_ prog w) A (JC (.ref q)) Q E s:=by
 obtain⟨c,q1,q2,J⟩:=id B;obtain⟨od,U,e,L⟩:=z;unfold JC;refine b_ (JF (G2 (name:=HS "__next__") B.typeIs Hr (Gx Hr B.typeIs LD ?_ (Lz _))));refine b_ (g_ (b_ (b_ (b_ (Jj B.typeIs (g_ ?_))))));refine b_ (L9 q1 J ?_);simp only[show HI "dict_keyiterator"=c_ by decide,Gk,HV];show w_ _ _ (if (FJ d==Gu)=d_ then _ else _) _ _ s;rw[x_ (show ¬((FJ d==Gu)=d_)from GJ)];refine b_ (g_ (b_ (Jt U L ?_)));rw[x_ ad];refine b_ (g_ (b_ (JI U L ?_)));rw[x_ ad];refine g_ ?_;simp only[show ¬((i:Int)<0)from by lia,HV,IQ,Ja Y];refine b_ (b_ (Jj B.typeIs (g_ ?_)));show w_ _ _ (MT (.ref q) 0 .none >>= _) _ _ s;refine b_ (J1 q1 J ad ?_);show w_ _ _ (Qg (.type "StopIteration") [] >>= _) _ _ _;refine b_ ?_;simp only[Qg,newTuple];refine b_ (GD (b_ (m:=NV _ _) (Nq (a:=Gu) (by rfl) (GD ?_ (by size_fits)))) (by size_fits));simp only[raiseNew];refine b_ (Ol ?_);first|rw[show A.in1.handled=f_ from hh]|rw[hh]
 refine b_ (g_ (Py ?_));refine b_ (JA (T:="StopIteration") (b:=d_) ⟨_,o_ _ rfl,rfl⟩ NU ?_);exact g_ (k _ (((IB ..).extBut.push _).push _))
end
section
open PySem.W hiding kindOf
noncomputable def jH:Bool->GQ->Array GQ->Nat->Nat->Nat->IS F_ Ln (Option Nat):=sortPriv% PySem.Builtin.gallop
noncomputable def om:Array GQ->Array GQ->IS F_ Ln (Array GQ):=sortPriv% PySem.Builtin.mergeLo
noncomputable def oo:Array GQ->Array GQ->IS F_ Ln (Array GQ):=sortPriv% PySem.Builtin.mergeHi
structure Bd{β:Type}(m:IS F_ Ln β) where
 {α:Type}
 {x:IS F_ Ln α}
 {k:α->IS F_ Ln β}
 e:m=x >>= k
structure Ic{β:Type}(m:IS F_ Ln β) where
 {c:Prop}
 {d:Decidable c}
 {t:IS F_ Ln β}
 {f:IS F_ Ln β}
 e:m=@ite _ c d t f
structure Lp{β:Type}(m:IS F_ Ln β) where
 {α:Type}
 {a:Nat}
 {b:Nat}
 {c:α}
 {F:Nat->α->IS F_ Ln (KY α)}
 {k:α->IS F_ Ln β}
 e:m=O4 [a:b] c F >>= k
variable{s:l_}{f:Nat->GQ}{key:Nat->Int}
section
variable{M:PH}{m:IS F_ Ln β}{Q:β->F_->Prop}
def fm(B:Bd m)(h:Ke M A E s B.x (λa J=>Ke M A E s (B.k a) Q J) st):Ke M A E s m Q st:=by rw[B.e];exact HE h
theorem gW(B:Ic m)(h1:B.c->Ke M A E s B.t Q st)(J:¬B.c->Ke M A E s B.f Q st):Ke M A E s m Q st:=by
 rw[B.e]
 lia
def wp_l(B:Lp m)(I:Nat->B.α->F_->Prop){R:B.α->F_->Prop}(hi:I B.a B.c st)(U:∀i c st,B.a<=i->i<B.b->I i c st->Ke M A E s (B.F i c) (λr J=>match r with|.done L=>R L J|.yield L=>I (i+1) L J) st)(a:∀c st,I (QB B.a B.b) c st->R c st)(Y:∀c st,R c st->Ke M A E s (B.k c) Q st):Ke M A E s m Q st:=by rw[B.e];exact HE (PJ (wpS_forRange I (λi c st h1 d b=>PJ (U i c st h1 d b) λr J h=>by cases r<;>exact h) a hi) Y)
theorem xI(B:Lp m)(I:Nat->B.α->Prop){R:B.α->Prop}(hi:I B.a B.c)(a:∀i c,B.a<=i->i<B.b->I i c->∀W:KY B.α->F_->Prop,(∀L,R L->W (.done L) st)->(∀L,I (i+1) L->W (.yield L) st)->Ke M A E s (B.F i c) W st)(Y:∀c,I (QB B.a B.b) c->R c)(U:∀c,R c->Ke M A E s (B.k c) Q st):Ke M A E s m Q st:=
 wp_l B (λi c J=>J=st/\I i c) (R:=λc J=>J=st/\R c) ⟨rfl,hi⟩ (λi c J h1 b ⟨e,h⟩=>by simp_all) (λc _ ⟨e,h⟩=>⟨e,Y c h⟩) λc _ ⟨e,h⟩=>e▸U c h
end
def uY(prog:GH)(w:Hz)(A:HQ)(E:Mq)(s:l_)(κ:N4)(f:Nat->GQ)(key:Nat->Int)(n:Nat):Prop:=
 ∀i j (Q:Option Bool->F_->Prop) st,i<n->j<n->J5 st=κ->Q (a_ (ltK key i j)) st->Ke (B_ prog w) A E s (lt' (f i) (f j)) Q st
def InN(n:Nat)(p:bo):Prop:=∀x∈p,x<n
def b7{l:bo}{x:Nat}{Q:GQ->F_->Prop}(B:l[i]?=a_ x)(h:Q (f x) st):Ke (B_ prog w) A E s (PM (l.map f).toArray i) Q st:=by
 rw[elem'_eq];have e:(l.map f).toArray[i]?=a_ (f x):=by simp[B]
 rw[e];exact FH h
def at_of(h:i<p.length):p[i]?=a_ (p.getD i 0):=by simp[h]
def InN.at(B:InN n p)(h:i<p.length):p.getD i 0<n:=B _ (Gn (at_of h))
section
variable(l:Bool)(q:GQ)(r:Array GQ)(b m h:Nat)
noncomputable def G0:Bd (jH l q r b m h):=⟨rfl⟩
noncomputable def GaT:Lp ((G0 l q r b m h).k (a_ d_)):=⟨rfl⟩
noncomputable def GaF:Lp ((G0 l q r b m h).k (a_ c_)):=⟨rfl⟩
noncomputable def GtI(x c):Ic ((GaT l q r b m h).F x c):=⟨rfl⟩
noncomputable def GtB(x c):Bd (GtI l q r b m h x c).f:=⟨rfl⟩
noncomputable def GfI(x c):Ic ((GaF l q r b m h).F x c):=⟨rfl⟩
noncomputable def GfB(x c):Bd (GfI l q r b m h x c).f:=⟨rfl⟩
noncomputable def GtL(a o:Nat):Lp ((GaT l q r b m h).k (f_,a,o)):=⟨rfl⟩
noncomputable def GcI(a o x c):Ic ((GtL l q r b m h a o).F x c):=⟨rfl⟩
noncomputable def GcB(a o x c):Bd (GcI l q r b m h a o x c).f:=⟨rfl⟩
end
section
variable{m h x a o:Nat}
def MoB(bd:Nat->Bool)(m:Nat):Prop:=∀i j,i<=j->j<m->bd j=d_->bd i=d_
theorem MoB.fl(M:MoB bd m)(B:i<=j)(J:j<m)(e:bd i=c_):bd j=c_:=by
 have:=M i j B J
 grind
structure Bn(bd:Nat->Bool)(m x a o:Nat):Prop where
 l1:a<=o
 l2:o<=m
 l3:o-a+x<=m
 y1:∀i,i<a->bd i=d_
 y2:∀i,o<=i->i<m->bd i=c_
theorem wj(e:¬a>=o):a<=a+(o-a)/2/\a+(o-a)/2<o:=ac
theorem Bn.up(M:MoB bd m)(h:Bn bd m x a o)(h1:a<=c)(B:c<o)(J:bd c=d_):Bn bd m (x+1) (c+1) o:=
 ⟨B,h.l2,by have:=h.l3;lia,λi hi=>M i _ (KL hi) (C_ B h.l2) J,h.y2⟩
theorem Bn.dn(M:MoB bd m)(h:Bn bd m x a o)(h1:a<=c)(B:c<o)(J:bd c=c_):Bn bd m (x+1) a c:=
 ⟨h1,Cb (GP B) h.l2,by have:=h.l3;lia,h.y1,λi h1 B=>M.fl h1 B J⟩
theorem Bn.ends(h:Bn bd m (QB 0 m) a o):o<=a:=by
 have:=h.l3
 lia
structure GUp(bd:Nat->Bool)(m h a o:Nat)(P:Prop):Prop where
 g1:bd (h+a)=d_
 g2:a<o
 g3:a<m-h
 g4:P
theorem GUp.bn(M:MoB bd m)(U:GUp bd m h a o (o<m-h->bd (h+o)=c_)):Bn bd m 0 (h+a+1) (h+NG o (m-h)):=by
 obtain⟨t,e1,e2,e3⟩:=U;have:h+a<m:=ac
 refine⟨ac,ac,ac,λi hi=>M i _ (KL hi) this t,λi h1 B=>?_⟩
 have:o<m-h:=ac
 exact M.fl ac B (e3 this)
structure GDn(bd:Nat->Bool)(m h a o:Nat)(P:Prop):Prop where
 g1:bd (h-a)=c_
 g2:a<o
 g3:a<h+1
 g4:P
theorem GDn.bn(M:MoB bd m)(J:h<m)(U:GDn bd m h a o (o<h+1->bd (h-o)=d_)):Bn bd m 0 (h+1-NG o (h+1)) (h-a):=by
 obtain⟨t,e1,e2,e3⟩:=U;refine⟨ac,ac,ac,λi hi=>?_,λi h1 B=>M.fl h1 B t⟩
 have:o<h+1:=ac
 exact M i _ ac ac (e3 this)
theorem zw(h:x+1<=o):o<2*o+1/\x+1+1<=2*o+1:=ac
theorem in_ok(e:¬o>=m-h):h+o<m/\o<m-h:=ac
end
def CB(L:uY prog w A E s κ f key n){J:Bool}{q:Nat}{base m:Nat}{Q:Option Nat->F_->Prop}(C:q<n)(D:InN n p)(G:base+m<=p.length)(r:hint<m)(F:J5 st=κ)(y:∀i,bd i=if J=d_ then ltK key (p.getD (base+i) 0) q else !ltK key q (p.getD (base+i) 0))(M:MoB bd m)(h:∀k,k<=m->(∀i,i<k->bd i=d_)->(∀i,k<=i->i<m->bd i=c_)->Q (a_ k) st):
  Ke (B_ prog w) A E s (jH J (f q) (p.map f).toArray base m hint) Q st:=by
 have Y:∀(i:Nat) (R:Option Bool->F_->Prop),i<m->R (a_ (bd i)) st->Ke (B_ prog w) A E s (G0 J (f q) (p.map f).toArray base m i).x R st:=λi R hi l=>by
  have v:base+i<p.length:=C_ (Kr hi _) G;refine HE (b7 (at_of v) ?_);rw[y]at l;cases J with
  |true=>exact L _ _ _ _ (D.at v) C F l|false=>exact HE (L _ _ _ _ C (D.at v) F (FH l))
 have t:∀a o lo hi,Bn bd m 0 lo hi ->
   Ke (B_ prog w) A E s (O4 [0:m] (f_,lo,hi) (GtL J (f q) (p.map f).toArray base m hint a o).F >>= (GtL J (f q) (p.map f).toArray base m hint a o).k) Q st:=λa o lo hi B=>
  xI ⟨rfl⟩ (λx c=>c.1=f_/\Bn bd m x c.2.1 c.2.2) (R:=λc=>c.1=f_/\Q (a_ c.2.2) st) ⟨rfl,B⟩ (λx c _ z ⟨d,B⟩ W g j=>
    gW (GcI J (f q) (p.map f).toArray base m hint a o x c) (λe=>FH (g _ ⟨rfl,h _ B.l2 (λi hi=>B.y1 i (C_ hi e)) B.y2⟩)) λe=>fm (GcB ..) (Y _ _ (C_ (wj e).2 B.l2) (by
     cases b:bd (c.2.1+(c.2.2-c.2.1)/2)with
     |true=>exact FH (j _ ⟨rfl,B.up M (wj e).1 (wj e).2 b⟩)|false=>exact FH (j _ ⟨rfl,B.dn M (wj e).1 (wj e).2 b⟩)))) (λc ⟨d,B⟩=>⟨d,h _ B.l2 (λi hi=>B.y1 i (C_ hi (Bn.ends B))) B.y2⟩) λ⟨_,lo,hi⟩ ⟨e,H⟩=>by
    cases e;exact FH H
 refine fm (G0 ..) (Y _ _ r ?_);cases l:bd hint with
 |true=>
  refine xI (GaT ..) (λx c=>c.1=f_/\GUp bd m hint c.2.1 c.2.2 (x+1<=c.2.2)) (R:=λc=>c.1=f_/\GUp bd m hint c.2.1 c.2.2 (c.2.2<m-hint->bd (hint+c.2.2)=c_)) ⟨rfl,l,OE,KJ r,k_ _⟩ (λx c _ z ⟨d,U⟩ W g j=>?_) (λc ⟨d,U⟩=>⟨d,U.g1,U.g2,U.g3,λe=>?_⟩) λ⟨_,u,o⟩ ⟨e,U⟩=>?_
  .refine gW (GtI ..) (λe=>FH (g _ ⟨rfl,U.g1,U.g2,U.g3,λh=>FZ e (PN h)⟩)) λe=>fm (GtB ..) (Y _ _ (in_ok e).1 ?_);cases b:bd (hint+c.2.2)with
   |true=>exact FH (j _ ⟨rfl,b,(zw U.g4).1,(in_ok e).2,(zw U.g4).2⟩)|false=>exact FH (g _ ⟨rfl,U.g1,U.g2,U.g3,λ_=>b⟩)
  .exact FZ e (ML (Cb (J6 m hint) (Cb (PX 0 m) (MA U.g4))))
  .cases e;exact t u o _ _ (U.bn M)
 |false=>
  refine xI (GaF ..) (λx c=>c.1=f_/\GDn bd m hint c.2.1 c.2.2 (x+1<=c.2.2)) (R:=λc=>c.1=f_/\GDn bd m hint c.2.1 c.2.2 (c.2.2<hint+1->bd (hint-c.2.2)=d_)) ⟨rfl,l,OE,Nat.succ_pos _,k_ _⟩ (λx c _ z ⟨d,U⟩ W g j=>?_) (λc ⟨d,U⟩=>⟨d,U.g1,U.g2,U.g3,λe=>?_⟩) λ⟨_,u,o⟩ ⟨e,U⟩=>?_
  .refine gW (GfI ..) (λe=>FH (g _ ⟨rfl,U.g1,U.g2,U.g3,λh=>FZ e (PN h)⟩)) λe=>fm (GfB ..) (Y _ _ (Jf (J6 ..) r) ?_);cases b:bd (hint-c.2.2)with
   |false=>exact FH (j _ ⟨rfl,b,(zw U.g4).1,PU e,(zw U.g4).2⟩)|true=>exact FH (g _ ⟨rfl,U.g1,U.g2,U.g3,λ_=>b⟩)
  .exact FZ (C_ e r) (ML (Cb (PX 0 m) (MA U.g4)))
  .cases e;exact t u o _ _ (U.bn M r)
structure Bt{β:Type}(m:IS F_ Ln β) where
 {x:IS F_ Ln GQ}
 {y:IS F_ Ln GQ}
 {k:GQ->GQ->Option Bool->IS F_ Ln β}
 e:m=x >>=λu=>y >>=λv=>lt' u v >>=λr=>k u v r
noncomputable def qx0:GQ:=(.none,.none)
noncomputable def qg0:F_:=Ko oneType' #[] #[] 0 f_
section
variable(a b:Array GQ)
noncomputable def qL0:Bd (om a b):=⟨rfl⟩
noncomputable def qL1:Bd ((qL0 a b).k ()):=⟨rfl⟩
noncomputable def qL2(x):Ic ((qL1 a b).k x):=⟨rfl⟩
noncomputable def qL3(x):Ic (qL2 a b x).f:=⟨rfl⟩
noncomputable def qL4(x):Bd (qL3 a b x).f:=⟨rfl⟩
noncomputable def qL5(x g):Lp ((qL4 a b x).k g):=⟨rfl⟩
section
variable(o:Array GQ)(p q r:Nat)
noncomputable def qL6:Lp ((qL5 a b qx0 qg0).F 0 (f_,o,p,q,r)):=⟨rfl⟩
end
variable(o:Array GQ)(p q r s t:Nat)
noncomputable def qL7:Bt ((qL6 a b #[] 0 0 r).F 0 (f_,o,p,q,s,t)):=⟨rfl⟩
noncomputable def qL8:Bd ((qL7 a b o p q r s t).k qx0 qx0 (a_ d_)):=⟨rfl⟩
noncomputable def qL9:Bd ((qL7 a b o p q r s t).k qx0 qx0 (a_ c_)):=⟨rfl⟩
noncomputable def qL8a(y):Ic ((qL8 a b o p q r s t).k y):=⟨rfl⟩
noncomputable def qL8b(y):Ic (qL8a a b o p q r s t y).f:=⟨rfl⟩
noncomputable def qL9a(y):Ic ((qL9 a b o p q r s t).k y):=⟨rfl⟩
noncomputable def qL9b(y):Ic (qL9a a b o p q r s t y).f:=⟨rfl⟩
noncomputable def qLa:Bd ((qL6 a b #[] 0 0 r).k (f_,o,p,q,s,t)):=⟨rfl⟩
noncomputable def qLb:Lp ((qLa a b o p q r s t).k ()):=⟨rfl⟩
noncomputable def qLc:Ic ((qLb a b #[] 0 0 0 0 0).F 0 (f_,o,p,q,r,s,t)):=⟨rfl⟩
noncomputable def qLd:Bd (qLc a b o p q r s t).f:=⟨rfl⟩
noncomputable def qLe:Bd ((qLd a b o p q r s t).k ()):=⟨rfl⟩
noncomputable def qLf(y):Bd ((qLe a b o p q r s t).k y):=⟨rfl⟩
noncomputable def qLg(k):Ic ((qLf a b o p q r s t qx0).k (a_ k)):=⟨rfl⟩
noncomputable def qLg1(k):Ic (qLg a b o p q r s t k).t:=⟨rfl⟩
noncomputable def qLg2(k):Ic (qLg1 a b o p q r s t k).f:=⟨rfl⟩
noncomputable def qLh(k):Bd (qLg a b o p q r s t k).f:=⟨rfl⟩
noncomputable def qLi(k y):Ic ((qLh a b o p q r s t k).k y):=⟨rfl⟩
noncomputable def qLj(k y):Bd (qLi a b o p q r s t k y).f:=⟨rfl⟩
noncomputable def qLk(k y z):Bd ((qLj a b o p q r s t k y).k z):=⟨rfl⟩
noncomputable def qLl(k y l):Ic ((qLk a b o p q r s t k y qx0).k (a_ l)):=⟨rfl⟩
noncomputable def qLm(k y l):Ic (qLl a b o p q r s t k y l).t:=⟨rfl⟩
def qLz(k l:Nat):IS F_ Ln (KY (Option (Array GQ)×Array GQ×Nat×Nat×Nat×Nat×Nat)):=
 PM a p >>=λz=>if (p+1+1==a.size)=d_ then GU (.done (a_ (o.push z++b.extract q b.size++a.extract (p+1) a.size),o.push z,p+1,q,r,k,l))
  else if (A_ (k<7)&&A_ (l<7))=d_ then GU (.done (f_,o.push z,p+1,q,r,k,l))else GU (.yield (f_,o.push z,p+1,q,r,k,l))
end
def Srt(key:Nat->Int)(l:bo):Prop:=l.Pairwise λx y=>key x<=key y
def Srt.sub{l r:bo}(h:Srt key l)(B:r.Sublist l):Srt key r:=Kz B h
theorem Srt.hd{l:bo}(h:Srt key (l.drop i))(hi:i<l.length):∀y∈l.drop i,key (l.getD i 0)<=key y:=λy B=>by
 rw[Gq hi]at h B;simp only[m_,hi,getElem?_pos,Mp];rcases p_.mp B with e|e
 .simp_all
 .exact(GR.mp h).1 y e
structure MI(key:Nat->Int)(all out xs ys:bo):Prop where
 perm:(out++(xs++ys)).Perm all
 so:Srt key out
 sx:Srt key xs
 sy:Srt key ys
 ox:∀x∈out,∀y∈xs,key x<=key y
 oy:∀x∈out,∀y∈ys,key x<=key y
theorem MI.left{L u xs:bo}(h:MI key L out (u++xs) ys)(b:∀a∈u,∀y∈ys,key a<=key y):MI key L (out++u) xs ys:=by
 obtain⟨h1,f,U,d,Y,c⟩:=h;unfold Srt at *;rw[Gm]at U;refine⟨bi,?_,U.2.1,d,λx J y B=>?_,λx J y B=>?_⟩
 .exact Gm.mpr ⟨f,U.1,λx J y B=>Y x J y (He _ B)⟩
 .rcases FL.mp J with e|e
  .exact Y x e y (FW _ B)
  .exact U.2.2 x e y B
 .rcases FL.mp J with e|e
  .exact c x e y B
  .exact b x e y B
def MI.right{L u xs:bo}(h:MI key L out xs (u++ys))(b:∀a∈u,∀y∈xs,key a<=key y):MI key L (out++u) xs ys:=by
 obtain⟨h1,f,d,U,c,Y⟩:=h;unfold Srt at *;rw[Gm]at U;refine⟨?_,?_,d,U.2.1,λx J y B=>?_,λx J y B=>?_⟩
 .refine List.Perm.trans ?_ h1;rw[FX];refine Nc _ ?_;rw[<- FX,<- FX];exact List.Perm.append_right _ List.perm_append_comm
 .exact Gm.mpr ⟨f,U.1,λx J y B=>Y x J y (He _ B)⟩
 .rcases FL.mp J with e|e
  .exact c x e y B
  .exact b x e y B
 .rcases FL.mp J with e|e
  .exact Y x e y (FW _ B)
  .exact U.2.2 x e y B
theorem MI.done{B xs:bo}(h:MI key B out xs ys)(U:∀a∈xs,∀y∈ys,key a<=key y):(out++xs++ys).Perm B/\Srt key (out++xs++ys):=by have h1:=MI.left (xs:=[]) (u:=xs) (by rw[Hf];exact h) U;have J:=MI.right (ys:=[]) (u:=ys) (by rw[Hf];exact h1) (λ_ _ _ L=>FZ L Gv);exact⟨by have:=J.perm;simp_all,J.so⟩
theorem MI.done2{B xs:bo}(h:MI key B out xs ys)(U:∀a∈ys,∀y∈xs,key a<=key y):(out++ys++xs).Perm B/\Srt key (out++ys++xs):=by have h1:=MI.right (ys:=[]) (u:=ys) (by rw[Hf];exact h) U;have J:=MI.left (xs:=[]) (u:=xs) (by rw[Hf];exact h1) (λ_ _ _ L=>FZ L Gv);exact⟨by have:=J.perm;simp_all,J.so⟩
def bE(st B:F_):Prop:=∃g,B=Ko (J5 st) (Mf st) (FT st) g (KW st)
def bE.refl(st:F_):bE st st:=⟨gallopOf st,rfl⟩
def bE.trans{a b c:F_}(h:bE a b)(k:bE b c):bE a c:=by obtain⟨g,rfl⟩:=h;obtain⟨g',rfl⟩:=k;exact⟨g',rfl⟩
def bE.kind{a b:F_}(h:bE a b):J5 b=J5 a:=by obtain⟨g,rfl⟩:=h;rfl
noncomputable def t5:Nat->IS F_ Ln Unit:=sortPriv% PySem.Builtin.setMinGallop
def CG{g:Nat}{Q:Unit->F_->Prop}(h:∀B,bE st B->Q () B):Ke (B_ prog w) A E s (t5 g) Q st:=JR (h _ ⟨_,rfl⟩)
def oJ(o:bo)(x:Nat):(o.map f).toArray.push (f x)=((o++[x]).map f).toArray:=by simp
def uP(p:bo)(i:Nat):(p.map f).toArray.extract i (p.map f).toArray.size=((p.drop i).map f).toArray:=by simp[List.extract_eq_drop_take,KN,G5]
def uQ(p:bo)(i j:Nat):(p.map f).toArray.extract i j=(((p.drop i).take (j-i)).map f).toArray:=by simp
def jZ(o p:bo):(o.map f).toArray++(p.map f).toArray=((o++p).map f).toArray:=by simp
def xD(f:Nat->GQ)(key:Nat->Int)(B:bo)(r:Array GQ):Prop:=∃o:bo,r=(o.map f).toArray/\o.Perm B/\Srt key o
def JL(f:Nat->GQ)(key:Nat->Int)(pa pb:bo)(r:Array GQ)(ia ib:Nat):Prop:=∃o:bo,r=(o.map f).toArray/\MI key (pa++pb) o (pa.drop ia) (pb.drop ib)
section
variable{r:Array GQ}
def JL.ak(h:JL f key pa pb r ia ib)(B:∀x∈(pa.drop ia).take k,∀y∈pb.drop ib,key x<=key y):JL f key pa pb (r++(pa.map f).toArray.extract ia (ia+k)) (ia+k) ib:=by
 obtain⟨o,rfl,m⟩:=h;refine⟨o++(pa.drop ia).take k,ad,MI.left ?_ B⟩
 rw[<- JN,GV];exact m
def JL.bk(h:JL f key pa pb r ia ib)(B:∀x∈(pb.drop ib).take k,∀y∈pa.drop ia,key x<=key y):JL f key pa pb (r++(pb.map f).toArray.extract ib (ib+k)) ia (ib+k):=by
 obtain⟨o,rfl,m⟩:=h;refine⟨o++(pb.drop ib).take k,ad,MI.right ?_ B⟩
 rw[<- JN,GV];exact m
theorem drop_at{l:bo}(hi:i<l.length):l.drop i=l.getD i 0::l.drop (i+1):=by simp_all
theorem JL.a1(h:JL f key pa pb r ia ib)(hi:ia<pa.length)(J:∀y∈pb.drop ib,key (pa.getD ia 0)<=key y):JL f key pa pb (r.push (f (pa.getD ia 0))) (ia+1) ib:=by
 obtain⟨o,rfl,m⟩:=h;refine⟨o++[pa.getD ia 0],oJ ..,MI.left bi λx B=>?_⟩
 rw[Gj.mp B];exact J
theorem JL.b1(h:JL f key pa pb r ia ib)(hi:ib<pb.length)(J:∀y∈pa.drop ia,key (pb.getD ib 0)<=key y):JL f key pa pb (r.push (f (pb.getD ib 0))) ia (ib+1):=by
 obtain⟨o,rfl,m⟩:=h;refine⟨o++[pb.getD ib 0],oJ ..,MI.right bi λx B=>?_⟩
 rw[Gj.mp B];exact J
theorem JL.fin(h:JL f key pa pb r ia ib)(e:ia=pa.length\/ib=pb.length):xD f key (pa++pb) (r++(pa.map f).toArray.extract ia (pa.map f).toArray.size++(pb.map f).toArray.extract ib (pb.map f).toArray.size):=by
 obtain⟨o,rfl,m⟩:=h;rw[uP,uP,jZ,jZ];refine⟨_,rfl,MI.done m λx J y B=>?_⟩
 grind
theorem JL.last(h:JL f key pa pb r ia ib)(L:∀y∈pb,key y<=key (pa.getD (pa.length-1) 0))(e:ia+1=pa.length):xD f key (pa++pb) (r++(pb.map f).toArray.extract ib (pb.map f).toArray.size++(pa.map f).toArray.extract ia (pa.map f).toArray.size):=by
 obtain⟨o,rfl,m⟩:=h;rw[uP,uP,jZ,jZ];refine⟨_,rfl,MI.done2 m λx J y B=>?_⟩
 grind[drop_at,Le,Gj.mp]
theorem JL.sx(h:JL f key pa pb r ia ib):Srt key (pa.drop ia):=let ⟨_,_,m⟩:=h;m.sx
theorem JL.sy(h:JL f key pa pb r ia ib):Srt key (pb.drop ib):=let ⟨_,_,m⟩:=h;m.sy
structure CL(f:Nat->GQ)(key:Nat->Int)(pa pb:bo)(t:Nat)(r:Array GQ)(ia ib:Nat):Prop where
 j:JL f key pa pb r ia ib
 a:ia+1<pa.length
 b:ib<pb.length
 t:t<=ia+ib
end
theorem zv(L:uY prog w A E s κ f key n){B:Bool}{q:Nat}{p:bo}{base m:Nat}{Q:Option Nat->F_->Prop}(u:q<n)(o:InN n p)(C:base+m<=p.length)(y:hint<m)(v:J5 st=κ)(a:Srt key ((p.drop base).take m))(h:∀k,k<=m->(∀x∈((p.drop base).take m).take k,(if B=d_ then ltK key x q else !ltK key q x)=d_)->(∀x∈((p.drop base).take m).drop k,(if B=d_ then ltK key x q else !ltK key q x)=c_)->Q (a_ k) st):
  Ke (B_ prog w) A E s (jH B (f q) (p.map f).toArray base m hint) Q st:=by
 have J:∀i,i<m->((p.drop base).take m)[i]?=a_ (p.getD (base+i) 0):=λi hi=>by
  have:base+i<p.length:=ac
  simp[hi,this]
 have t:((p.drop base).take m).length<=m:=List.length_take_le ..;generalize (p.drop base).take m=z at a h J t;refine CB L u o C y v (bd:=λi=>if B=d_ then ltK key (p.getD (base+i) 0) q else !ltK key q (p.getD (base+i) 0)) (λ_=>rfl) (λi j U r e=>?_) λk d h1 D=>h k d (λx Y=>?_) (λx Y=>?_)
 .obtain⟨l,G⟩:=oe.mp (J i (Jf U r));obtain⟨g,F⟩:=oe.mp (J j r);have c:key z[i]<=key z[j]:=by
   rcases Nat.lt_or_eq_of_le U with b|rfl
   .exact HJ.mp a i j l g b
   .simp
  rw[G,F]at c;clear J h a o L;unfold ltK at e ⊢
  lia
 .obtain⟨i,hi,rfl⟩:=Jx Y;rw[GL]at hi;rw[JM,(oe.mp (J i ac)).2];exact h1 i ac
 .obtain⟨i,hi,rfl⟩:=Jx Y;rw[Hy]at hi;rw[Mt,(oe.mp (J (k+i) ac)).2];exact D (k+i) (Ip _ _) ac
theorem CD(L:uY prog w A E s κ f key n){B:Bool}{q:Nat}{p:bo}{base:Nat}{Q:Option Nat->F_->Prop}(J:q<n)(U:InN n p)(d:base<p.length)(a:J5 st=κ)(c:Srt key (p.drop base))(h:∀k,base+k<=p.length->(∀x∈(p.drop base).take k,(if B=d_ then ltK key x q else !ltK key q x)=d_)->(∀x∈p.drop (base+k),(if B=d_ then ltK key x q else !ltK key q x)=c_)->Q (a_ k) st):
  Ke (B_ prog w) A E s (jH B (f q) (p.map f).toArray base ((p.map f).toArray.size-base) 0) Q st:=by
 have z:(p.map f).toArray.size=p.length:=by simp
 rw[z];have e:(p.drop base).take (p.length-base)=p.drop base:=G5 ad;refine zv L J U ac ac a bi λk Y h1 b=>h k ac ?_ ?_
 .rwa [e]at h1
 .rwa [e,JN]at b
def wp_t{M:PH}{m:IS F_ Ln β}{Q:β->F_->Prop}(B:Bt m)(h:Ke M A E s B.x (λu st=>Ke M A E s B.y (λv st=>Ke M A E s (lt' u v) (λr st=>Ke M A E s (B.k u v r) Q st) st) st) st):Ke M A E s m Q st:=by rw[B.e];exact HE (PJ h λ_ _ h=>HE (PJ h λ_ _ h=>HE h))
theorem sY{p:bo}(e:(i==(p.map f).toArray.size)=d_):i=p.length:=by simp_all
theorem nI{p:bo}(e:¬(i==(p.map f).toArray.size)=d_):i≠p.length:=by simp_all
section
variable{r:Array GQ}{t:Nat}
def CL.wb(h:CL f key pa pb t r ia ib)(hw:ltK key (pb.getD ib 0) (pa.getD ia 0)=d_):JL f key pa pb (r.push (f (pb.getD ib 0))) ia (ib+1):=
 h.j.b1 h.b λy B=>Hi (Ij (L5 hw)) (h.j.sx.hd (Ho h.a) y B)
def CL.wa(h:CL f key pa pb t r ia ib)(hw:ltK key (pb.getD ib 0) (pa.getD ia 0)=c_):JL f key pa pb (r.push (f (pa.getD ia 0))) (ia+1) ib:=
 h.j.a1 (Ho h.a) λy B=>Hi (Mh.mp (NR hw)) (h.j.sy.hd h.b y B)
def CL.nb(h:CL f key pa pb t r ia ib)(j:JL f key pa pb r' ia (ib+1))(e:ib+1≠pb.length):CL f key pa pb (t+1) r' ia (ib+1):=⟨j,h.a,Gw h.b e,HR h.t⟩
theorem CL.na(h:CL f key pa pb t r ia ib)(j:JL f key pa pb r' (ia+1) ib)(e:ia+1+1≠pa.length):CL f key pa pb (t+1) r' (ia+1) ib:=⟨j,Gw h.a e,h.b,by have:=h.t;lia⟩
def CL.le(h:CL f key pa pb t r ia ib)(e:t'<=t):CL f key pa pb t' r ia ib:=⟨h.j,h.a,h.b,Cb e h.t⟩
theorem CL.no{u:Nat}(h:CL f key pa pb (u+QB 0 ((pa.map f).toArray.size+(pb.map f).toArray.size)) r ia ib):False:=by
 obtain⟨_,h1,J,B⟩:=h;simp at B
 lia
def gal_a(h:JL f key pa pb r ia ib)(U:ib<pb.length)(B:∀x∈(pa.drop ia).take k,(if c_=d_ then ltK key x (pb.getD ib 0)else !ltK key (pb.getD ib 0) x)=d_):JL f key pa pb (r++(pa.map f).toArray.extract ia (ia+k)) (ia+k) ib:=
 h.ak λx L y J=>Hi (by simpa[ltK] using B x L) (h.sy.hd U y J)
def gal_b(h:JL f key pa pb r ia ib)(U:ia<pa.length)(B:∀x∈(pb.drop ib).take k,(if d_=d_ then ltK key x (pa.getD ia 0)else !ltK key (pa.getD ia 0) x)=d_):JL f key pa pb (r++(pb.map f).toArray.extract ib (ib+k)) ia (ib+k):=
 h.bk λx L y J=>Hi (Ij (by simpa[ltK] using B x L)) (h.sx.hd U y J)
end
theorem lo_turn(L:uY prog w A E s κ f key n){o:Array GQ}{p q g u v t:Nat}{W:KY (Option (Array GQ)×Array GQ×Nat×Nat×Nat×Nat×Nat)->F_->Prop}(na:InN n pa)(nb:InN n pb)(N:J5 st=κ)(K:∀y∈pb,key y<=key (pa.getD (pa.length-1) 0))(J:CL f key pa pb t o p q)(i:∀r c U,bE st U->xD f key (pa++pb) r->W (.done (a_ r,c)) U)(R:∀o p q c U,bE st U->CL f key pa pb t o p q->W (.done (f_,o,p,q,c)) U)(Q:∀o p q c U,bE st U->CL f key pa pb (t+1) o p q->W (.yield (f_,o,p,q,c)) U):
  Ke (B_ prog w) A E s ((qLb (pa.map f).toArray (pb.map f).toArray #[] 0 0 0 0 0).F 0 (f_,o,p,q,g,u,v)) W st:=by
 have O:∀g,Ke (B_ prog w) A E s (qLc (pa.map f).toArray (pb.map f).toArray o p q g u v).f W st:=λg=>by
  refine fm (qLd _ _ o p q g u v) (CG λz B=>fm (qLe _ _ o p q g u v) (b7 (at_of J.b) (fm (qLf _ _ o p q g u v _) (CD L (nb.at J.b) na (Ho J.a) (B.kind.trans N) J.j.sx λk G d C=>?_))));have b:∀o p,JL f key pa pb o p q->(∀x∈pa.drop p,key (pb.getD q 0)<=key x)->p+1<pa.length->t<=p+q->Ke (B_ prog w) A E s (qLg (pa.map f).toArray (pb.map f).toArray o p q g u v k).f W z:=λo p j tt H I=>by
   have h:=Ho H;have a:=j.b1 J.b tt;refine fm (qLh _ _ o p q g u v k) (b7 (at_of J.b) (gW (qLi _ _ o p q g u v k _) (λe=>FH (i _ _ _ B (a.fin (.inr (sY e))))) λe=>fm (qLj _ _ o p q g u v k _) (b7 (at_of h) (fm (qLk _ _ o p q g u v k _ _) (CD L (na.at h) nb (Gw J.b (nI e)) (B.kind.trans N) a.sy λl F d C=>?_)))));have Y:∀o q,JL f key pa pb o p q->(∀x∈pb.drop q,key (pa.getD p 0)<=key x)->q<pb.length->t<=p+q->Ke (B_ prog w) A E s (qLz (pa.map f).toArray (pb.map f).toArray o p q g k l) W z:=λo q j tt S I=>
    have a:=j.a1 h tt
    HE (b7 (at_of h) (gW ⟨rfl⟩ (λe=>FH (i _ _ _ B (a.last K (sY e)))) λe=>
     have P:CL f key pa pb (t+1) _ (p+1) q:=⟨a,Gw H (nI e),S,by simp_all[Pf]⟩
     gW ⟨rfl⟩ (λ_=>FH (R _ _ _ _ _ B (P.le (LP t)))) λ_=>FH (Q _ _ _ _ _ B P)))
   have m:∀x∈pb.drop (q+1+l),key (pa.getD p 0)<=key x:=λx D=>by simpa[ltK] using C x D
   have h1:t<=p+(q+1):=Nat.le_succ_of_le I;refine gW (qLl _ _ o p q g u v k _ l) (λ_=>gW (qLm _ _ o p q g u v k _ l) (λe=>FH (i _ _ _ B ((gal_b a h d).fin (.inr (sY e))))) λe=>Y _ _ (gal_b a h d) m (Gw F (nI e)) (Cb h1 (Ie (Ip (q+1) l) p))) λh0=>Y _ _ a ?_ (Gw J.b (nI e)) h1
   rwa [JU h0]at m
  have m:∀x∈pa.drop (p+k),key (pb.getD q 0)<=key x:=λx D=>Ij (by simpa[ltK] using C x D);refine gW (qLg _ _ o p q g u v k) (λ_=>gW (qLg1 _ _ o p q g u v k) (λe=>FH (i _ _ _ B ((gal_a J.j J.b d).last K (sY e)))) λe=>gW (qLg2 _ _ o p q g u v k) (λe=>FH (i _ _ _ B ((gal_a J.j J.b d).fin (.inl (sY e))))) λT=>b _ _ (gal_a J.j J.b d) m (Gw (Gw G (nI T)) (nI e)) (by rw[Pf];exact Nat.le_add_right_of_le J.t)) λh0=>b _ _ J.j ?_ J.a J.t
  rwa [JU h0]at m
 exact gW (qLc _ _ o p q g u v) (λ_=>O (g-1)) λ_=>O g
def B8(L:uY prog w A E s κ f key n){Q:Array GQ->F_->Prop}(na:InN n pa)(nb:InN n pb)(z:J5 st=κ)(sa:Srt key pa)(sb:Srt key pb)(F:0<pa.length)(d:0<pb.length)(G:∀y∈pa,key (pb.getD 0 0)<=key y)(l:∀y∈pb,key y<=key (pa.getD (pa.length-1) 0))(h:∀r B,bE st B->xD f key (pa++pb) r->Q r B):Ke (B_ prog w) A E s (om (pa.map f).toArray (pb.map f).toArray) Q st:=by
 have j:JL f key pa pb #[f (pb.getD 0 0)] 0 1:=JL.b1 (r:=#[]) (ia:=0) (ib:=0) ⟨[],rfl,HN _,HL,sa,sb,λ_ h=>FZ h Gv,λ_ h=>FZ h Gv⟩ d G;refine fm (qL0 ..) (Md (Ih ⟨rfl,fm (qL1 ..) (b7 (at_of d) ?_)⟩));refine gW (qL2 ..) (λe=>FH (h _ _ (bE.refl _) (j.fin (.inr (sY e))))) λe1=>gW (qL3 ..) (λe=>FH (h _ _ (bE.refl _) (j.last l (sY e)))) λe2=>fm (qL4 ..) (Lc ?_);refine wp_l (qL5 ..) (λx c B=>bE st B/\c.1=f_/\CL f key pa pb (1+x) c.2.1 c.2.2.1 c.2.2.2.1) (R:=λc B=>bE st B/\∃r,c.1=a_ r/\xD f key (pa++pb) r)
  ⟨bE.refl _,rfl,j,Gw F (nI e2),Gw d (nI e1),k_ _⟩ ?step (λc B ⟨_,_,J⟩=>(CL.no J).elim) λ⟨_,c⟩ B ⟨Y,r,e,a⟩=>by cases e;exact FH (h _ _ Y a)
 rintro i ⟨_,o,p,q,g⟩ st1 _ _ ⟨Y,e,J⟩;cases e;have m:J5 st1=κ:=Y.kind.trans z;refine xI (qL6 (pa.map f).toArray (pb.map f).toArray o p q g) (λy c=>c.1=f_/\CL f key pa pb (1+i+y) c.2.1 c.2.2.1 c.2.2.2.1) (R:=λc=>(∃r,c.1=a_ r/\xD f key (pa++pb) r)\/c.1=f_/\CL f key pa pb (1+(i+1)) c.2.1 c.2.2.1 c.2.2.2.1)
  ⟨rfl,J⟩ ?s1 (λc ⟨e,J⟩=>(CL.no J).elim) ?p1
 case s1=>
  rintro y ⟨_,o,p,q,u,v⟩ _ _ ⟨e,J⟩ W b t;cases e;have k:=Ho J.a;refine wp_t (qL7 _ _ o p q g u v) (b7 (at_of J.b) (b7 (at_of k) (L _ _ _ _ (nb.at J.b) (na.at k) m ?_)));have C:=J.le (t':=1+i) (Ip _ _);cases hw:ltK key (pb.getD q 0) (pa.getD p 0)with
  |true=>exact fm (qL8 _ _ o p q g u v) (b7 (at_of J.b) (gW (qL8a ..) (λe=>FH (b _ (.inl ⟨_,rfl,(J.wb hw).fin (.inr (sY e))⟩))) λe=>gW (qL8b ..) (λ_=>FH (b _ (.inr ⟨rfl,C.nb (J.wb hw) (nI e)⟩))) λ_=>FH (t _ ⟨rfl,J.nb (J.wb hw) (nI e)⟩)))|false=>exact fm (qL9 _ _ o p q g u v) (b7 (at_of k) (gW (qL9a ..) (λe=>FH (b _ (.inl ⟨_,rfl,(J.wa hw).last l (sY e)⟩))) λe=>gW (qL9b ..) (λ_=>FH (b _ (.inr ⟨rfl,C.na (J.wa hw) (nI e)⟩))) λ_=>FH (t _ ⟨rfl,J.na (J.wa hw) (nI e)⟩)))
 rintro⟨_,o,p,q,u,v⟩ (⟨r,e,a⟩|⟨e,J⟩)<;>cases e
 .exact FH ⟨Y,r,rfl,a⟩
 refine fm (qLa _ _ o p q g u v) (Md (Ih ⟨rfl,?_⟩));refine wp_l (qLb ..) (λy c B=>bE st B/\c.1=f_/\CL f key pa pb (1+(i+1)+y) c.2.1 c.2.2.1 c.2.2.2.1) (R:=λc B=>bE st B/\((∃r,c.1=a_ r/\xD f key (pa++pb) r)\/c.1=f_/\CL f key pa pb (1+(i+1)) c.2.1 c.2.2.1 c.2.2.2.1))
  ⟨Y,rfl,J⟩ ?s2 (λc B ⟨_,_,J⟩=>(CL.no J).elim) ?p2
 case p2=>
  rintro⟨_,o,p,q,g,u,v⟩ B ⟨Y,⟨r,e,a⟩|⟨e,J⟩⟩<;>cases e
  .exact FH ⟨Y,r,rfl,a⟩
  .exact HE (JR (FH ⟨Y.trans ⟨_,rfl⟩,rfl,J⟩))
 rintro y ⟨_,o,p,q,g,u,v⟩ D _ _ ⟨U,e,J⟩;cases e;exact lo_turn L na nb (U.kind.trans z) l J (λ_ _ _ h a=>⟨U.trans h,.inl ⟨_,rfl,a⟩⟩) (λ_ _ _ _ _ h c=>⟨U.trans h,.inr ⟨rfl,c.le (Ip _ _)⟩⟩) λ_ _ _ _ _ h c=>⟨U.trans h,rfl,c⟩
section
variable(a b:Array GQ)
noncomputable def qH0:Bd (oo a b):=⟨rfl⟩
noncomputable def qH1:Bd ((qH0 a b).k ()):=⟨rfl⟩
noncomputable def qH2(x):Ic ((qH1 a b).k x):=⟨rfl⟩
noncomputable def qH3(x):Ic (qH2 a b x).f:=⟨rfl⟩
noncomputable def qH4(x):Bd (qH3 a b x).f:=⟨rfl⟩
noncomputable def qH5(x g):Lp ((qH4 a b x).k g):=⟨rfl⟩
section
variable(p q:Nat)(o:Array GQ)(r:Nat)
noncomputable def qH6:Lp ((qH5 a b qx0 qg0).F 0 (f_,p,q,o,r)):=⟨rfl⟩
end
variable(p q:Nat)(o:Array GQ)(r s t:Nat)
noncomputable def qH7:Bt ((qH6 a b 0 0 #[] r).F 0 (f_,p,q,o,s,t)):=⟨rfl⟩
noncomputable def qH8:Bd ((qH7 a b p q o r s t).k qx0 qx0 (a_ d_)):=⟨rfl⟩
noncomputable def qH9:Bd ((qH7 a b p q o r s t).k qx0 qx0 (a_ c_)):=⟨rfl⟩
noncomputable def qH8a(y):Ic ((qH8 a b p q o r s t).k y):=⟨rfl⟩
noncomputable def qH8b(y):Ic (qH8a a b p q o r s t y).f:=⟨rfl⟩
noncomputable def qH9a(y):Ic ((qH9 a b p q o r s t).k y):=⟨rfl⟩
noncomputable def qH9b(y):Ic (qH9a a b p q o r s t y).f:=⟨rfl⟩
noncomputable def qHa:Bd ((qH6 a b 0 0 #[] r).k (f_,p,q,o,s,t)):=⟨rfl⟩
noncomputable def qHb:Lp ((qHa a b p q o r s t).k ()):=⟨rfl⟩
noncomputable def qHc:Ic ((qHb a b 0 0 #[] 0 0 0).F 0 (f_,p,q,o,r,s,t)):=⟨rfl⟩
noncomputable def qHd:Bd (qHc a b p q o r s t).f:=⟨rfl⟩
noncomputable def qHe:Bd ((qHd a b p q o r s t).k ()):=⟨rfl⟩
noncomputable def qHf(y):Bd ((qHe a b p q o r s t).k y):=⟨rfl⟩
noncomputable def qHg(k):Ic ((qHf a b p q o r s t qx0).k (a_ k)):=⟨rfl⟩
noncomputable def qHg1(k):Ic (qHg a b p q o r s t k).t:=⟨rfl⟩
def qHz(k l:Nat):IS F_ Ln (KY (Option (Array GQ)×Nat×Nat×Array GQ×Nat×Nat×Nat)):=
 PM a (p-1) >>=λz=>if (p-1==0)=d_ then GU (.done (a_ (a.extract 0 (p-1)++b.extract 0 q++(o.push z).reverse),p-1,q,o.push z,r,k,l))
  else if (A_ (k<7)&&A_ (l<7))=d_ then GU (.done (f_,p-1,q,o.push z,r,k,l))else GU (.yield (f_,p-1,q,o.push z,r,k,l))
def qHy(k:Nat):IS F_ Ln (KY (Option (Array GQ)×Nat×Nat×Array GQ×Nat×Nat×Nat)):=
 PM b (q-1) >>=λz=>if (q-1==1)=d_ then GU (.done (a_ (b.extract 0 (q-1)++a.extract 0 p++(o.push z).reverse),p,q-1,o.push z,r,k,t))
  else PM a (p-1) >>=λy=>jH d_ y b 0 (q-1) (q-1-1) >>=λx=>match x with
   |some l=>if q-1-l>0 then
     (if (l==1)=d_ then GU (.done (a_ (b.extract 0 l++a.extract 0 p++(o.push z++(b.extract l (q-1)).reverse).reverse),p,l,o.push z++(b.extract l (q-1)).reverse,r,k,q-1-l))
     else if (l==0)=d_ then GU (.done (a_ (a.extract 0 p++b.extract 0 l++(o.push z++(b.extract l (q-1)).reverse).reverse),p,l,o.push z++(b.extract l (q-1)).reverse,r,k,q-1-l))
     else qHz a b p l (o.push z++(b.extract l (q-1)).reverse) r k (q-1-l))
    else qHz a b p (q-1) (o.push z) r k (q-1-l)
   |_=>GU (.done (a_ (a.extract 0 p++b.extract 0 (q-1)++(o.push z).reverse),p,q-1,o.push z,r,k,t))
noncomputable def qHh(k):Bd (qHy a b p q o r t k):=⟨rfl⟩
noncomputable def qHi(k z):Ic ((qHh a b p q o r t k).k z):=⟨rfl⟩
noncomputable def qHj(k z):Bd (qHi a b p q o r t k z).f:=⟨rfl⟩
noncomputable def qHk(k z y):Bd ((qHj a b p q o r t k z).k y):=⟨rfl⟩
noncomputable def qHl(k z l):Ic ((qHk a b p q o r t k z qx0).k (a_ l)):=⟨rfl⟩
noncomputable def qHm(k z l):Ic (qHl a b p q o r t k z l).t:=⟨rfl⟩
noncomputable def qHn(k z l):Ic (qHm a b p q o r t k z l).f:=⟨rfl⟩
end
theorem CC(L:uY prog w A E s κ f key n){B:Bool}{q:Nat}{p:bo}{m:Nat}{Q:Option Nat->F_->Prop}(Y:q<n)(a:InN n p)(e:m<=p.length)(c:hint<m)(b:J5 st=κ)(U:Srt key p)(h:∀k,k<=m->(∀x∈p.take k,(if B=d_ then ltK key x q else !ltK key q x)=d_)->(∀x∈(p.take m).drop k,(if B=d_ then ltK key x q else !ltK key q x)=c_)->Q (a_ k) st):
  Ke (B_ prog w) A E s (jH B (f q) (p.map f).toArray 0 m hint) Q st:=by
 refine zv L Y a bi c b (U.sub ((HX _ _).trans (Mu _ _))) λk J h1 d=>h k J ?_ ?_
 .grind
 .rwa [Jq]at d
noncomputable def neg(key:Nat->Int)(x:Nat):Int:= -key x
def xN{l:bo}:Srt (neg key) l↔Srt key l.reverse:=by unfold Srt;rw[List.pairwise_reverse];exact⟨λh=>h.imp λ{a b} h=>Int.le_of_neg_le_neg h,λh=>h.imp λ{a b} h=>JV h⟩
theorem Srt.lst{l:bo}(h:Srt key l)(h0:0<i)(hi:i<=l.length):∀y∈l.take i,key y<=key (l.getD (i-1) 0):=λy B=>by
 obtain⟨j,J,rfl⟩:=Jx B;rw[GL]at J;have h1:i-1<l.length:=ac
 simp only[JM,m_,h1,getElem?_pos,Mp];rcases Nat.lt_or_ge j (i-1)with c|c
 .exact HJ.mp h _ _ _ _ c
 grind
def JH(f:Nat->GQ)(key:Nat->Int)(pa pb:bo)(r:Array GQ)(na nb:Nat):Prop:=∃o:bo,r=(o.map f).toArray/\MI (neg key) (pa++pb) o (pa.take na).reverse (pb.take nb).reverse
section
variable{r:Array GQ}{na nb t:Nat}
def zi(q:bo):(q.map f).toArray.reverse=(q.reverse.map f).toArray:=by simp
theorem zF(p:bo)(h:k<=na):(p.take na).reverse=((p.take na).drop k).reverse++(p.take k).reverse:=by
 rw[<- List.reverse_append];have e:=GV k (p.take na)
 simp_all[List.take_take,Kh]
def xK{p:bo}(h0:0<na)(h:na<=p.length):(p.take na).reverse=[p.getD (na-1) 0]++(p.take (na-1)).reverse:=by
 obtain⟨j,rfl⟩:∃j,na=j+1:=⟨na-1,(Nat.succ_pred_eq_of_pos h0).symm⟩
 have B:j<p.length:=h;rw[List.take_succ_eq_append_getElem B];simp[B]
def JH.ak(h:JH f key pa pb r na nb)(U:k<=na)(L:∀x∈(pa.take na).drop k,∀y∈pb.take nb,key y<=key x):JH f key pa pb (r++((pa.map f).toArray.extract k na).reverse) k nb:=by obtain⟨o,rfl,m⟩:=h;rw[zF pa U]at m;exact⟨o++((pa.take na).drop k).reverse,by rw[uQ,zi,jZ,P9],MI.left m λx J y B=>JV (L x (IU.mp J) y (IU.mp B))⟩
def JH.bk(h:JH f key pa pb r na nb)(U:k<=nb)(L:∀x∈(pb.take nb).drop k,∀y∈pa.take na,key y<=key x):JH f key pa pb (r++((pb.map f).toArray.extract k nb).reverse) na k:=by obtain⟨o,rfl,m⟩:=h;rw[zF pb U]at m;exact⟨o++((pb.take nb).drop k).reverse,by rw[uQ,zi,jZ,P9],MI.right m λx J y B=>JV (L x (IU.mp J) y (IU.mp B))⟩
def JH.a1(h:JH f key pa pb r na nb)(h0:0<na)(hi:na<=pa.length)(L:∀y∈pb.take nb,key y<=key (pa.getD (na-1) 0)):JH f key pa pb (r.push (f (pa.getD (na-1) 0))) (na-1) nb:=by
 obtain⟨o,rfl,m⟩:=h;rw[xK h0 hi]at m;refine⟨_,oJ ..,MI.left m λx J y B=>?_⟩
 rw[Gj.mp J];exact JV (L y (IU.mp B))
def JH.b1(h:JH f key pa pb r na nb)(h0:0<nb)(hi:nb<=pb.length)(L:∀y∈pa.take na,key y<=key (pb.getD (nb-1) 0)):JH f key pa pb (r.push (f (pb.getD (nb-1) 0))) na (nb-1):=by
 obtain⟨o,rfl,m⟩:=h;rw[xK h0 hi]at m;refine⟨_,oJ ..,MI.right m λx J y B=>?_⟩
 rw[Gj.mp J];exact JV (L y (IU.mp B))
def A9{q u v B:bo}(h:(q++u.reverse++v.reverse).Perm B/\Srt (neg key) (q++u.reverse++v.reverse)):xD f key B ((v.map f).toArray++(u.map f).toArray++(q.map f).toArray.reverse):=by
 have e:(q++u.reverse++v.reverse).reverse=v++u++q.reverse:=by simp
 rw[zi,jZ,jZ];exact⟨_,rfl,by rw[<- e];exact(Mr _).trans h.1,by rw[<- e];exact xN.mp h.2⟩
def uR(p:bo)(i:Nat):(p.map f).toArray.extract 0 i=((p.take i).map f).toArray:=by simp
def JH.fin(h:JH f key pa pb r na nb)(e:na=0\/nb=0):xD f key (pa++pb) ((pa.map f).toArray.extract 0 na++(pb.map f).toArray.extract 0 nb++r.reverse):=by
 obtain⟨o,rfl,m⟩:=h;rw[uR,uR];refine A9 (MI.done2 m λx J y B=>?_);rcases e with rfl|rfl
 .simp at B
 .simp at J
def JH.first(h:JH f key pa pb r na nb)(L:∀y∈pa,key (pb.getD 0 0)<=key y)(l:0<pb.length)(e:nb=1):xD f key (pa++pb) ((pb.map f).toArray.extract 0 nb++(pa.map f).toArray.extract 0 na++r.reverse):=by obtain⟨o,rfl,m⟩:=h;rw[uR,uR];refine A9 (MI.done m λx J y B=>?_);subst e;rw[xK OE l]at B;rw[show y=pb.getD 0 0 by simpa using B];exact JV (L x (IM (IU.mp J)))
structure CH(f:Nat->GQ)(key:Nat->Int)(pa pb:bo)(t:Nat)(r:Array GQ)(na nb:Nat):Prop where
 j:JH f key pa pb r na nb
 a:0<na
 b:1<nb
 za:na<=pa.length
 zb:nb<=pb.length
 t:t+na+nb<=pa.length+pb.length
theorem CH.no{u:Nat}(h:CH f key pa pb (u+QB 0 ((pa.map f).toArray.size+(pb.map f).toArray.size)) r na nb):False:=by
 obtain⟨_,h1,_,_,_,B⟩:=h;simp at B
 lia
def CH.le(h:CH f key pa pb t r na nb)(e:t'<=t):CH f key pa pb t' r na nb:=⟨h.j,h.a,h.b,h.za,h.zb,Cb (LQ (LQ e _) _) h.t⟩
def oP{l:Nat}(h0:0<i)(h:i<=l):i-1<l:=C_ (My h0) h
theorem kC(e:¬(i==c)=d_):i≠c:=by simp_all
theorem CH.na1(h:CH f key pa pb t r na nb)(j:JH f key pa pb r' (na-1) nb)(e:¬(na-1==0)=d_):CH f key pa pb (t+1) r' (na-1) nb:=
 ⟨j,Je (kC e),h.b,Cb (J6 ..) h.za,h.zb,by have:=h.t;have:=h.a;lia⟩
theorem CH.nb1(h:CH f key pa pb t r na nb)(j:JH f key pa pb r' na (nb-1))(e:¬(nb-1==1)=d_):CH f key pa pb (t+1) r' na (nb-1):=
 ⟨j,h.a,Gw (Nat.le_pred_of_lt h.b) (HM (kC e)),h.za,Cb (J6 ..) h.zb,by have:=h.t;have:=h.b;lia⟩
end
def hi_turn(L:uY prog w A E s κ f key n){o:Array GQ}{p q g u v t:Nat}{W:KY (Option (Array GQ)×Nat×Nat×Array GQ×Nat×Nat×Nat)->F_->Prop}(na:InN n pa)(nb:InN n pb)(S:J5 st=κ)(sa:Srt key pa)(sb:Srt key pb)(X:∀y∈pa,key (pb.getD 0 0)<=key y)(J:CH f key pa pb t o p q)(C:∀r c U,bE st U->xD f key (pa++pb) r->W (.done (a_ r,c)) U)(w2:∀p q o c U,bE st U->CH f key pa pb t o p q->W (.done (f_,p,q,o,c)) U)(w3:∀p q o c U,bE st U->CH f key pa pb (t+1) o p q->W (.yield (f_,p,q,o,c)) U):
  Ke (B_ prog w) A E s ((qHb (pa.map f).toArray (pb.map f).toArray 0 0 #[] 0 0 0).F 0 (f_,p,q,o,g,u,v)) W st:=by
 have z:=oP (Ho J.b) J.zb;have R:=C_ (Ho J.b) J.zb;have T:∀g,Ke (B_ prog w) A E s (qHc (pa.map f).toArray (pb.map f).toArray p q o g u v).f W st:=λg=>by
  refine fm (qHd _ _ p q o g u v) (CG λF B=>fm (qHe _ _ p q o g u v) (b7 (at_of z) (fm (qHf _ _ p q o g u v _) (CC L (nb.at z) na J.za (My J.a) (B.kind.trans S) sa λk a I H=>?_))));have d:∀p o k,JH f key pa pb o p q->(∀x∈pa.take p,key x<=key (pb.getD (q-1) 0))->0<p->p<=pa.length->t+p+q<=pa.length+pb.length->Ke (B_ prog w) A E s (qHy (pa.map f).toArray (pb.map f).toArray p q o g v k) W F:=λp o k j tt p0 G N=>by
   have O:=oP p0 G;have h:=j.b1 (Ho J.b) J.zb tt;have P:0<q-1:=KJ J.b;refine fm (qHh _ _ p q o g v k) (b7 (at_of z) (gW (qHi _ _ p q o g v k _) (λe=>FH (C _ _ _ B (h.first X R (HF e)))) λe=>fm (qHj _ _ p q o g v k _) (b7 (at_of O) (fm (qHk _ _ p q o g v k _ _) (CC L (na.at O) nb (GP z) (My P) (B.kind.trans S) sb λl Y I H=>?_)))));have b:∀q o c,JH f key pa pb o p q->(∀x∈pb.take q,key x<=key (pa.getD (p-1) 0))->1<q->q<=pb.length->t+p+q<=pa.length+pb.length->Ke (B_ prog w) A E s (qHz (pa.map f).toArray (pb.map f).toArray p q o g k c) W F:=λq o c j tt q1 zq N=>
    have h:=j.a1 p0 G tt;have Z:CH f key pa pb t o p q:=⟨j,p0,q1,G,zq,N⟩
    HE (b7 (at_of O) (gW ⟨rfl⟩ (λe=>FH (C _ _ _ B (h.fin (.inl (HF e))))) λe=>gW ⟨rfl⟩ (λ_=>FH (w2 _ _ _ _ _ B ((Z.na1 h e).le (LP t)))) λ_=>FH (w3 _ _ _ _ _ B (Z.na1 h e))))
   have D:∀x∈pb.take l,key x<=key (pa.getD (p-1) 0):=λx i=>Ij (by simpa[ltK] using I x i);have m:=h.bk Y λx i y K=>Hi (sa.lst p0 G y K) (by simpa[ltK] using H x i);have lq:=Cb Y (GP z);have Q:t+p+(q-1)<=pa.length+pb.length:=Cb (Ie (J6 ..) _) N;refine gW (qHl _ _ p q o g v k _ l) (λ_=>gW (qHm _ _ p q o g v k _ l) (λe=>FH (C _ _ _ B (m.first X R (HF e)))) λe=>gW (qHn _ _ p q o g v k _ l) (λe=>FH (C _ _ _ B (m.fin (.inr (HF e))))) λe'=>b _ _ _ m D (Gw (Je (kC e')) (HM (kC e))) lq (Cb (Ie Y _) Q)) λh0=>b _ _ _ h ?_ (Gw P (HM (kC e))) (GP z) Q
   rwa [show l=q-1 from Ki Y (LB (JU h0))]at D
  have D:∀x∈pa.take k,key x<=key (pb.getD (q-1) 0):=λx i=>by simpa[ltK] using I x i
  have m:=J.j.ak a λx i y K=>Hi (sb.lst (Ho J.b) J.zb y K) (Ij (by simpa[ltK] using H x i));refine gW (qHg _ _ p q o g u v k) (λ_=>gW (qHg1 _ _ p q o g u v k) (λe=>FH (C _ _ _ B (m.fin (.inl (HF e))))) λe=>d _ _ _ m D (Je (kC e)) (Cb a J.za) (Cb (LQ (Ie a _) _) J.t)) λh0=>d _ _ _ J.j ?_ J.a J.za J.t
  rwa [show k=p from Ki a (LB (JU h0))]at D
 exact gW (qHc _ _ p q o g u v) (λ_=>T (g-1)) λ_=>T g
theorem B9(L:uY prog w A E s κ f key n){Q:Array GQ->F_->Prop}(na:InN n pa)(nb:InN n pb)(K:J5 st=κ)(sa:Srt key pa)(sb:Srt key pb)(m:0<pa.length)(I:0<pb.length)(F:∀y∈pa,key (pb.getD 0 0)<=key y)(P:∀y∈pb,key y<=key (pa.getD (pa.length-1) 0))(h:∀r B,bE st B->xD f key (pa++pb) r->Q r B):Ke (B_ prog w) A E s (oo (pa.map f).toArray (pb.map f).toArray) Q st:=by
 have j:(pa.map f).toArray.size=pa.length:=by simp
 have l:(pb.map f).toArray.size=pb.length:=by simp
 have t:JH f key pa pb #[f (pa.getD ((pa.map f).toArray.size-1) 0)] ((pa.map f).toArray.size-1) (pb.map f).toArray.size:=by rw[j,l];refine JH.a1 (r:=#[]) ⟨[],rfl,?_⟩ m (k_ _) λy d=>P y (IM d);rw[IT,IT];exact⟨by rw[II];exact List.Perm.append (Mr _) (Mr _),HL,xN.mpr bi,xN.mpr bi,λ_ h=>FZ h Gv,λ_ h=>FZ h Gv⟩
 have S:¬((pa.map f).toArray.size-1==0)=d_->¬((pb.map f).toArray.size==1)=d_->CH f key pa pb 1 #[f (pa.getD ((pa.map f).toArray.size-1) 0)] ((pa.map f).toArray.size-1) (pb.map f).toArray.size:=λe1 e2=>⟨t,Je (kC e1),Gw (KL bi) (HM (kC e2)),by simp[j],JT l,by rw[j,l,Nat.add_sub_cancel' m];exact k_ _⟩
 refine fm (qH0 ..) (Md (Ih ⟨rfl,fm (qH1 ..) (b7 (x:=pa.getD ((pa.map f).toArray.size-1) 0) (by rw[j];exact at_of (oP m (k_ _))) ?_)⟩));refine gW (qH2 ..) (λe=>FH (h _ _ (bE.refl _) (t.fin (.inl (HF e))))) λe1=>gW (qH3 ..) (λe=>FH (h _ _ (bE.refl _) (t.first F I (HF e)))) λe2=>fm (qH4 ..) (Lc ?_);refine wp_l (qH5 ..) (λx c B=>bE st B/\c.1=f_/\CH f key pa pb (1+x) c.2.2.2.1 c.2.1 c.2.2.1) (R:=λc B=>bE st B/\∃r,c.1=a_ r/\xD f key (pa++pb) r)
  ⟨bE.refl _,rfl,S e1 e2⟩ ?step (λc B ⟨_,_,J⟩=>(CH.no J).elim) λ⟨_,c⟩ B ⟨Y,r,e,b⟩=>by cases e;exact FH (h _ _ Y b)
 rintro i ⟨_,p,q,o,g⟩ st1 _ _ ⟨Y,e,J⟩;cases e;have D:J5 st1=κ:=Y.kind.trans K;refine xI (qH6 (pa.map f).toArray (pb.map f).toArray p q o g) (λy c=>c.1=f_/\CH f key pa pb (1+i+y) c.2.2.2.1 c.2.1 c.2.2.1) (R:=λc=>(∃r,c.1=a_ r/\xD f key (pa++pb) r)\/c.1=f_/\CH f key pa pb (1+(i+1)) c.2.2.2.1 c.2.1 c.2.2.1)
  ⟨rfl,J⟩ ?s1 (λc ⟨e,J⟩=>(CH.no J).elim) ?p1
 case s1=>
  rintro y ⟨_,p,q,o,u,v⟩ _ _ ⟨e,J⟩ W k H;cases e;have C:=oP J.a J.za;have G:=Ho J.b;have z:=oP G J.zb;refine wp_t (qH7 _ _ p q o g u v) (b7 (at_of z) (b7 (at_of C) (L _ _ _ _ (nb.at z) (na.at C) D ?_)));have N:=J.le (t':=1+i) (Ip _ _);cases hw:ltK key (pb.getD (q-1) 0) (pa.getD (p-1) 0)with
  |true=>have a:=J.j.a1 J.a J.za λy d=>Hi (sb.lst G J.zb y d) (Ij (L5 hw));exact fm (qH8 _ _ p q o g u v) (b7 (at_of C) (gW (qH8a ..) (λe=>FH (k _ (.inl ⟨_,rfl,a.fin (.inl (HF e))⟩))) λe=>gW (qH8b ..) (λ_=>FH (k _ (.inr ⟨rfl,N.na1 a e⟩))) λ_=>FH (H _ ⟨rfl,J.na1 a e⟩)))|false=>have a:=J.j.b1 G J.zb λy d=>Hi (sa.lst J.a J.za y d) (Mh.mp (NR hw));exact fm (qH9 _ _ p q o g u v) (b7 (at_of z) (gW (qH9a ..) (λe=>FH (k _ (.inl ⟨_,rfl,a.first F I (HF e)⟩))) λe=>gW (qH9b ..) (λ_=>FH (k _ (.inr ⟨rfl,N.nb1 a e⟩))) λ_=>FH (H _ ⟨rfl,J.nb1 a e⟩)))
 rintro⟨_,p,q,o,u,v⟩ (⟨r,e,b⟩|⟨e,J⟩)<;>cases e
 .exact FH ⟨Y,r,rfl,b⟩
 refine fm (qHa _ _ p q o g u v) (Md (Ih ⟨rfl,?_⟩));refine wp_l (qHb ..) (λy c B=>bE st B/\c.1=f_/\CH f key pa pb (1+(i+1)+y) c.2.2.2.1 c.2.1 c.2.2.1) (R:=λc B=>bE st B/\((∃r,c.1=a_ r/\xD f key (pa++pb) r)\/c.1=f_/\CH f key pa pb (1+(i+1)) c.2.2.2.1 c.2.1 c.2.2.1))
  ⟨Y,rfl,J⟩ ?s2 (λc B ⟨_,_,J⟩=>(CH.no J).elim) ?p2
 case p2=>
  rintro⟨_,p,q,o,g,u,v⟩ B ⟨Y,⟨r,e,b⟩|⟨e,J⟩⟩<;>cases e
  .exact FH ⟨Y,r,rfl,b⟩
  .exact HE (JR (FH ⟨Y.trans ⟨_,rfl⟩,rfl,J⟩))
 rintro y ⟨_,p,q,o,g,u,v⟩ O _ _ ⟨U,e,J⟩;cases e;exact hi_turn L na nb (U.kind.trans K) sa sb F J (λ_ _ _ h b=>⟨U.trans h,.inl ⟨_,rfl,b⟩⟩) (λ_ _ _ _ _ h c=>⟨U.trans h,.inr ⟨rfl,c.le (Ip _ _)⟩⟩) λ_ _ _ _ _ h c=>⟨U.trans h,rfl,c⟩
end
section
open PySem.W hiding kindOf
variable{s:l_}{f:Nat->GQ}{key:Nat->Int}
structure SS(κ:N4)(f:Nat->GQ)(n:Nat)(st:F_)(p:bo):Prop where
 kind:J5 st=κ
 ok:KW st=f_
 arr:Mf st=(p.map f).toArray
 perm:p.Perm (FN n)
def SS.inN(h:SS κ f n st p):InN n p:=λx B=>Gs.mp (h.perm.mem_iff.mp B)
def SS.len(h:SS κ f n st p):p.length=n:=by rw[h.perm.length_eq,HY]
theorem wG{β:Type}:∀(o v u t:List β),v.length=o.length->(o.zipIdx u.length).foldl (λa (p:β×Nat)=>a.setIfInBounds p.2 p.1) (u++(v++t)).toArray=(u++(o++t)).toArray
 |[],[],u,t,_=>rfl|x::o,y::v,u,t,h=>by
  rw[List.zipIdx_cons,FU];have e:((u++(y::v++t)).toArray.setIfInBounds u.length x)=((u++[x])++(v++t)).toArray:=by
   rw[M_]
   congr 1
   rw[N8 _ _ (k_ _),JS];simp
  show List.foldl _ ((u++(y::v++t)).toArray.setIfInBounds u.length x) _=_;rw[e];have:=wG o v (u++[x]) t bi
  simp_all
theorem BV(o v u t:List β)(h:v.length=o.length):o.zipIdx.foldl (λa (p:β×Nat)=>a.setIfInBounds (u.length+p.2) p.1) (u++(v++t)).toArray=(u++(o++t)).toArray:=by
 rw[<- wG o v u t h]
 grind[List.zipIdx_eq_map_add,P8]
section
variable(ar:Array GQ)(st:F_)(sa na sb nb:Nat)
noncomputable def qM(i:Nat):Bd (PL i):=⟨rfl⟩
def qMz(B:Nat)(r:Array GQ):IS F_ Ln Bool:=
 (modify λs=>setArr s (r.toList.zipIdx.foldl (λa (p:GQ×Nat)=>a.setIfInBounds (B+p.2) p.1) (Mf s))) >>=λ_=>get >>=λs=>GU (KW s).isNone
def qMy:IS F_ Ln Bool:=
 set st >>=λ_=>PM ar sb >>=λy=>jH c_ y ar sa na 0 >>=λr=>match r with
  |some k=>if (na-k==0)=d_ then GU d_ else PM ar (sa+k+(na-k)-1) >>=λz=>jH d_ z ar sb nb (nb-1) >>=λr=>match r with
   |some l=>if (l==0)=d_ then GU d_ else if na-k<=l then om (ar.extract (sa+k) sb) (ar.extract sb (sb+l)) >>=λr=>qMz (sa+k) r else oo (ar.extract (sa+k) sb) (ar.extract sb (sb+l)) >>=λr=>qMz (sa+k) r
   |_=>GU c_
  |_=>GU c_
noncomputable def qM0:Bd (qMy ar st sa na sb nb):=⟨rfl⟩
noncomputable def qM1:Bd ((qM0 ar st sa na sb nb).k ()):=⟨rfl⟩
noncomputable def qM2(y):Bd ((qM1 ar st sa na sb nb).k y):=⟨rfl⟩
noncomputable def qM3(k):Ic ((qM2 ar st sa na sb nb qx0).k (a_ k)):=⟨rfl⟩
noncomputable def qM4(k):Bd (qM3 ar st sa na sb nb k).f:=⟨rfl⟩
noncomputable def qM5(k z):Bd ((qM4 ar st sa na sb nb k).k z):=⟨rfl⟩
noncomputable def qM6(k l):Ic ((qM5 ar st sa na sb nb k qx0).k (a_ l)):=⟨rfl⟩
noncomputable def qM7(k l):Ic (qM6 ar st sa na sb nb k l).f:=⟨rfl⟩
noncomputable def qM8(k l):Bd (qM7 ar st sa na sb nb k l).t:=⟨rfl⟩
noncomputable def qM9(k l):Bd (qM7 ar st sa na sb nb k l).f:=⟨rfl⟩
def qM_is{i kd B gl fl J L}(h1:B[i]?=a_ (sa,na,J))(U:B[i+1]?=a_ (sb,nb,L)):(qM i).k (Ko kd ar B gl fl)=qMy ar (Ko kd ar ((B.setIfInBounds i (sa,na+nb,J)).eraseIdxIfInBounds (i+1)) gl fl) sa na sb nb:=by show(match (B[i]?,B[i+1]?)with|(a_ (_,_,_),a_ (_,_,_))=>_|_=>_)=_;rw[h1,U];rfl
end
section
variable{u a b t:List Nat}{l:Nat}
def seg_a:((u++(a++(b++t))).drop u.length).take a.length=a:=by simp
def seg_b:((u++(a++(b++t))).drop (u.length+a.length)).take b.length=b:=by simp
theorem at_b(B:0<b.length):(u++(a++(b++t)))[u.length+a.length]?=a_ (b.getD 0 0):=by simp_all[FX,Ir,FK,JS,GC]
theorem at_a(B:0<a.length)(J:k<=a.length):(u++(a++(b++t)))[u.length+k+(a.length-k)-1]?=a_ (a.getD (a.length-1) 0):=be
def ex_a(B:k<=a.length):((u++(a++(b++t))).map f).toArray.extract (u.length+k) (u.length+a.length)=((a.drop k).map f).toArray:=by rw[uQ,<- JN,Nb,List.drop_append_of_le_length B,Nat.add_sub_add_left,List.take_left' (Hy ..)]
def ex_b(B:l<=b.length):((u++(a++(b++t))).map f).toArray.extract (u.length+a.length) (u.length+a.length+l)=((b.take l).map f).toArray:=by rw[uQ,<- JN,Nb,Nb,NQ,List.take_append_of_le_length B]
theorem put_ok{o:bo}(B:k<=a.length)(U:o.length=(a.drop k++b.take l).length):(o.map f).toArray.toList.zipIdx.foldl (λx (p:GQ×Nat)=>x.setIfInBounds (u.length+k+p.2) p.1) ((u++(a++(b++t))).map f).toArray=((u++((a.take k++(o++b.drop l))++t)).map f).toArray:=by
 have L:u++(a++(b++t))=(u++a.take k)++((a.drop k++b.take l)++(b.drop l++t)):=by rw[FX,FX,<- FX (b.take l),GV,<- FX (a.take k),GV]
 have J:u.length+k=((u++a.take k).map f).length:=by simp[Kh B]
 rw[J,L,IJ (l₁:=u++a.take k),IJ (l₁:=a.drop k++b.take l)];refine(BV (o.map f) ((a.drop k++b.take l).map f) ((u++a.take k).map f) ((b.drop l++t).map f) be).trans ?_;simp
theorem AR{o:bo}(sa:Srt key a)(sb:Srt key b)(h:0<a.length)(g:0<b.length)(c:∀x∈a.take k,key x<=key (b.getD 0 0))(m:∀x∈a.drop k,key (b.getD 0 0)<key x)(Y:∀x∈b.take l,key x<key (a.getD (a.length-1) 0))(U:∀x∈b.drop l,key (a.getD (a.length-1) 0)<=key x)(L:o.Perm (a.drop k++b.take l))(d:Srt key o):(a.take k++(o++b.drop l)).Perm (a++b)/\Srt key (a.take k++(o++b.drop l)):=by
 have n:∀y∈b,key (b.getD 0 0)<=key y:=Srt.hd (i:=0) sb g;have j:∀y∈a,key y<=key (a.getD (a.length-1) 0):=λy J=>sa.lst h (k_ _) y bi;have f:∀x∈o,x∈a.drop k\/x∈b.take l:=λx B=>FL.mp (L.mem_iff.mp B);refine⟨((HN _).append (L.append_right _)).trans (by rw[FX,GV,<- FX,GV]),Gm.mpr ⟨sa.sub (HX _ _),Gm.mpr ⟨d,sb.sub (Mu _ _),λx B y J=>?_⟩,λx B y J=>Hi (c x B) ?_⟩⟩
 .refine Hi ?_ (U y J);rcases f x B with e|e
  .exact j x (J9 e)
  .exact Ij (Y x e)
 grind
theorem first_ok(h0:0<l)(B:0<b.length):(b.take l).getD 0 0=b.getD 0 0:=by simp_all
theorem last_ok(B:k<a.length):(a.drop k).getD ((a.drop k).length-1) 0=a.getD (a.length-1) 0:=by
 rw[Hy,m_,m_,List.getElem?_drop]
 congr 2
 lia
end
theorem wp_qMy(L:uY prog w A E s κ f key n){B:F_}{u a b t:bo}{Q:Bool->F_->Prop}(S:SS κ f n B (u++(a++(b++t))))(sa:Srt key a)(sb:Srt key b)(v:0<a.length)(Y:0<b.length)(h:∀J m,m.Perm (a++b)->Srt key m->SS κ f n J (u++(m++t))->FT J=FT B->Q d_ J):Ke (B_ prog w) A E s (qMy ((u++(a++(b++t))).map f).toArray B u.length a.length (u.length+a.length) b.length) Q st1:=by
 have d:=S.inN;have bN:b.getD 0 0<n:=d _ (Gn (at_b Y));have aN:a.getD (a.length-1) 0<n:=d _ (Gn (at_a v (k_ _)));have D:Srt key (a++b)->Q d_ B:=λq=>h B (a++b) (HN _) q bi rfl;refine fm (qM0 ((u++(a++(b++t))).map f).toArray B u.length a.length (u.length+a.length) b.length) (JR (fm (qM1 ((u++(a++(b++t))).map f).toArray B u.length a.length (u.length+a.length) b.length) (b7 (at_b Y) (fm (qM2 ((u++(a++(b++t))).map f).toArray B u.length a.length (u.length+a.length) b.length _) (zv L bN d ad v S.kind bi λk G p j=>?_)))));rw[seg_a]at p j;have p:∀x∈a.take k,key x<=key (b.getD 0 0):=λx U=>by simpa[ltK] using p x U
 have j:∀x∈a.drop k,key (b.getD 0 0)<key x:=λx U=>by simpa[ltK] using j x U
 refine gW (qM3 ((u++(a++(b++t))).map f).toArray B u.length a.length (u.length+a.length) b.length k) (λe=>FH (D (Gm.mpr ⟨sa,sb,λx U y c=>Hi (p x (by rw[G5 (LB (HF e))];exact U)) (Srt.hd (i:=0) sb Y y c)⟩))) λe1=>?_;have C:k<a.length:=Nat.lt_of_sub_pos (Je (kC e1));refine fm (qM4 ((u++(a++(b++t))).map f).toArray B u.length a.length (u.length+a.length) b.length k) (b7 (at_a v G) (fm (qM5 ((u++(a++(b++t))).map f).toArray B u.length a.length (u.length+a.length) b.length k _) (zv L aN d be (Nat.sub_one_lt_of_lt Y) S.kind bi λl W g F=>?_)));rw[seg_b]at g F;have g:∀x∈b.take l,key x<key (a.getD (a.length-1) 0):=λx U=>by simpa[ltK] using g x U
 have F:∀x∈b.drop l,key (a.getD (a.length-1) 0)<=key x:=λx U=>by simp_all[ltK]
 refine gW (qM6 ((u++(a++(b++t))).map f).toArray B u.length a.length (u.length+a.length) b.length k l) (λe=>FH (D (Gm.mpr ⟨sa,sb,λx U y c=>Hi (sa.lst v (k_ _) x bi) (F y (by rw[show l=0 from HF e];exact c))⟩))) λe2=>?_;have T:=Je (kC e2);have X:∀r J,bE B J->xD f key (a.drop k++b.take l) r->Ke (B_ prog w) A E s (qMz (u.length+k) r) Q J:=λr J ⟨g',e⟩ ⟨o,eo,O,so⟩=>by cases e;cases eo;have z:=AR sa sb v Y p j g F O so;have ef:KW B=f_:=S.ok;refine HE (JR (HE (Lc (FH ?_))));show Q (KW B).isNone _;rw[ef];exact h _ _ z.1 z.2 ⟨S.kind,rfl,by show List.foldl _ (Mf B) _=_;rw[S.arr];exact put_ok G O.length_eq,((z.1.append_right t).append_left u).trans (by rw[FX];exact S.perm)⟩ rfl
 have R:InN n (a.drop k):=λx U=>d x (FW _ (He _ (J9 U)));have P:InN n (b.take l):=λx U=>d x (FW _ (FW _ (He _ (IM U))));have I:0<(a.drop k).length:=by rw[Hy];exact KJ C
 have H:0<(b.take l).length:=by rw[GL];exact Nat.lt_min.mpr ⟨T,Y⟩
 have f1:∀y∈a.drop k,key ((b.take l).getD 0 0)<=key y:=λy c=>by rw[first_ok T Y];exact Ij (j y c)
 have Z:∀y∈b.take l,key y<=key ((a.drop k).getD ((a.drop k).length-1) 0):=λy c=>by rw[last_ok C];exact Ij (g y c)
 have N:Srt key (a.drop k):=sa.sub (Mu _ _);have K:Srt key (b.take l):=sb.sub (HX _ _);refine gW (qM7 ((u++(a++(b++t))).map f).toArray B u.length a.length (u.length+a.length) b.length k l) (λ_=>fm (qM8 ((u++(a++(b++t))).map f).toArray B u.length a.length (u.length+a.length) b.length k l) ?_) λ_=>fm (qM9 ((u++(a++(b++t))).map f).toArray B u.length a.length (u.length+a.length) b.length k l) ?_
 .show Ke _ _ _ _ (om _ _) _ _;rw[ex_a G,ex_b W];exact B8 L R P S.kind N K I H f1 Z X
 .show Ke _ _ _ _ (oo _ _) _ _;rw[ex_a G,ex_b W];exact B9 L R P S.kind N K I H f1 Z X
def Ba(L:uY prog w A E s κ f key n){st:F_}{u a b t:bo}{J:Array (Nat×Nat×Nat)}{wa wb:Nat}{Q:Bool->F_->Prop}(S:SS κ f n st (u++(a++(b++t))))(c:FT st=J)(h1:J[i]?=a_ (u.length,a.length,wa))(d:J[i+1]?=a_ (u.length+a.length,b.length,wb))(sa:Srt key a)(sb:Srt key b)(Y:0<a.length)(U:0<b.length)(h:∀B m,m.Perm (a++b)->Srt key m->SS κ f n B (u++(m++t))->FT B=(J.setIfInBounds i (u.length,a.length+b.length,wa)).eraseIdxIfInBounds (i+1)->Q d_ B):
  Ke (B_ prog w) A E s (PL i) Q st:=by
 subst c;refine fm (qM i) (Lc ?_);rw[show(qM i).k st=_ from qM_is (kd:=J5 st) (gl:=gallopOf st) (fl:=KW st) (Mf st) _ _ _ _ h1 d,S.arr];exact wp_qMy L ⟨S.kind,S.ok,rfl,S.perm⟩ sa sb Y U h
end
section
open PySem.W hiding kindOf
variable{s:l_}{f:Nat->GQ}{key:Nat->Int}
noncomputable def kG(key:Nat->Int)(p:bo)(i:Nat):Int:=key (p.getD i 0)
def Sg(key:Nat->Int)(p:bo)(lo hi:Nat):Prop:=∀i j,lo<=i->i<=j->j<hi->kG key p i<=kG key p j
def Dg(key:Nat->Int)(p:bo)(lo hi:Nat):Prop:=∀i j,lo<=i->i<=j->j<hi->kG key p j<=kG key p i
def Fx(lo:Nat)(p p':bo):Prop:=∀i,i<lo->p'.getD i 0=p.getD i 0
def Fx.refl(p:bo):Fx lo p p:=λ_ _=>rfl
theorem Fx.trans{lo:Nat}{p q r:bo}(h:Fx lo p q)(k:Fx lo q r):Fx lo p r:=λi hi=>(k i hi).trans (h i hi)
noncomputable def rv(p:bo)(i j:Nat):bo:=(kas_rev p.toArray i j).toList
noncomputable def bb(p:bo)(src d:Nat):bo:=(bubble p.toArray src d).toList
theorem zK(B:j<=p.length)(k:Nat):(rv p i j).getD k 0=if i<=k/\k<j then p.getD (i+j-1-k) 0 else p.getD k 0:=by have e:=getElem?_mirror_all (xs:=p.toArray) (i:=i) (j:=j) bi k;unfold rv kas_rev;rw[m_,Lm,e];split<;>simp
theorem bb_get{src d:Nat}(J:src<p.length)(B:d<=src)(k:Nat):(bb p src d).getD k 0=if k=src-d then p.getD src 0 else if src-d<k/\k<=src then p.getD (k-1) 0 else p.getD k 0:=by
 have e:=getElem?_bubble (xs:=p.toArray) (src:=src) bi d B k;unfold bb;rw[m_,Lm,e];split
 .simp
 .split<;>simp
def rv_perm:(rv p i j).Perm p:=M4.mp (mirror_perm p.toArray i j _)
def bb_perm:(bb p i j).Perm p:=M4.mp (bubble_perm p.toArray i j)
theorem rv_fx(B:j<=p.length)(hi:lo<=i):Fx lo p (rv p i j):=λk J=>by rw[zK B,x_ ac]
def o8{Q:Unit->F_->Prop}(S:SS κ f n st p)(h:∀B,SS κ f n B (rv p i j)->FT B=FT st->Q () B):Ke (B_ prog w) A E s (reverseSlice' i j) Q st:=by
 rw[reverseSlice'_eq];refine JR (h _ ⟨S.kind,S.ok,?_,rv_perm.trans S.perm⟩ rfl);show mirror (Mf st) i j ((j-i)/2)=_;rw[S.arr];have e1:mirror (p.toArray.map f) i j ((j-i)/2)=(mirror p.toArray i j ((j-i)/2)).map f:=kas_swaps_map f (λk=>i+k) (λk=>j-1-k) _ p.toArray;have e2:(p.map f).toArray=p.toArray.map f:=by simp
 rw[e2,e1];unfold rv kas_rev;apply KZ.mp;simp
def wpS_movS{l:Nat}{Q:Unit->F_->Prop}(S:SS κ f n st p)(h:∀B,SS κ f n B (bb p k (k-l))->FT B=FT st->Q () B):Ke (B_ prog w) A E s (moveDown' k l) Q st:=by
 rw[moveDown'_eq];refine JR (h _ ⟨S.kind,S.ok,?_,bb_perm.trans S.perm⟩ rfl);show bubble (Mf st) k (k-l)=_;rw[S.arr];have e1:bubble (p.toArray.map f) k (k-l)=(bubble p.toArray k (k-l)).map f:=kas_swaps_map f (λi=>k-i) (λi=>k-i-1) _ p.toArray;have e2:(p.map f).toArray=p.toArray.map f:=by simp
 rw[e2,e1];unfold bb;apply KZ.mp;simp
theorem oN(L:uY prog w A E s κ f key n){Q:Option Bool->F_->Prop}(S:SS κ f n st p)(hi:i<n)(Y:j<n)(h:Q (a_ (A_ (kG key p i<kG key p j))) st):Ke (B_ prog w) A E s (ltAt' i j) Q st:=by
 have U:=S.len;have J:p[i]?=a_ (p.getD i 0):=by simp[show i<p.length by lia]
 have B:p[j]?=a_ (p.getD j 0):=by simp[show j<p.length by lia]
 rw[ltAt'_eq];refine HE (Lc ?_);rw[S.arr];refine HE (b7 J (HE (b7 B ?_)));exact L _ _ _ _ (S.inN _ (Gn J)) (S.inN _ (Gn B)) S.kind h
theorem Sg.step(h:Sg key p lo (lo+m))(h1:1<=m)(Y:¬kG key p (lo+m)<kG key p (lo+m-1)):Sg key p lo (lo+(m+1)):=λi j hi J a=>by
 by_cases B:j<lo+m
 .exact h i j hi J B
 .have U:j=lo+m:=ac
  subst U;by_cases L:i=lo+m
  .simp_all
  .have:=h i (lo+m-1) hi ac ac;lia
theorem Dg.step(h:Dg key p lo (lo+m))(h1:1<=m)(Y:kG key p (lo+m)<=kG key p (lo+m-1)):Dg key p lo (lo+(m+1)):=λi j hi J a=>by
 by_cases B:j<lo+m
 .exact h i j hi J B
 .have U:j=lo+m:=ac
  subst U;by_cases L:i=lo+m
  .simp_all
  .have:=h i (lo+m-1) hi ac ac;lia
def Al(key:Nat->Int)(p:bo)(m q:Nat):Prop:=∀i,m-(q+1)<=i->i<m->kG key p i=kG key p (m-1)
theorem Br{q:Nat}(J:m<=p.length)(B:Al key p m q)(k:Nat):kG key (rv p (m-(q+1)) m) k=kG key p k:=by
 show key _=key _;rw[zK J];split
 .exact(B _ ac ac).trans (B k ac ac).symm
 .rfl
section
variable(lo nrem m:Nat)
noncomputable def qC0:Lp (countRun' lo nrem):=⟨rfl⟩
noncomputable def qCa(x):Bd ((qC0 lo nrem).F x (f_,m)):=⟨rfl⟩
noncomputable def qC1:Ic ((qC0 lo nrem).k (f_,m)):=⟨rfl⟩
noncomputable def qC2:Ic (qC1 lo nrem m).f:=⟨rfl⟩
noncomputable def qC3:Bd (qC2 lo nrem m).t:=⟨rfl⟩
noncomputable def qC5:Bd ((qC3 lo nrem m).k (a_ c_)):=⟨rfl⟩
noncomputable def qC6:Bd (qC2 lo nrem m).f:=⟨rfl⟩
noncomputable def qC7:Lp ((qC6 lo nrem m).k ()):=⟨rfl⟩
variable(q:Nat)
noncomputable def qC8:Bd ((qC7 lo nrem 0).F 0 (f_,m,q)):=⟨rfl⟩
noncomputable def qC9:Ic ((qC8 lo nrem m q).k (a_ d_)):=⟨rfl⟩
noncomputable def qCb:Bd (qC9 lo nrem m q).t:=⟨rfl⟩
noncomputable def qCc:Bd ((qC8 lo nrem m q).k (a_ c_)):=⟨rfl⟩
noncomputable def qCd:Ic ((qC7 lo nrem 0).k (f_,m,q)):=⟨rfl⟩
noncomputable def qCe:Bd (qCd lo nrem m q).t:=⟨rfl⟩
noncomputable def qCf:Bd (qCd lo nrem m q).f:=⟨rfl⟩
noncomputable def qCg:Lp ((qCf lo nrem m q).k ()):=⟨rfl⟩
end
section
variable{lo x q m:Nat}
structure DIr(key:Nat->Int)(lo:Nat)(p p':bo)(x q:Nat):Prop where
 fx:Fx lo p p'
 dg:Dg key p' lo (lo+x)
 qx:q+1<=x
 al:Al key p' (lo+x) q
theorem al0:Al key p (lo+(x+1)) 0:=λi h1 B=>by grind
def Dg.rva(d:Dg key p lo (lo+x))(a:Al key p (lo+x) q)(B:lo+x<=p.length):Dg key (rv p (lo+x-(q+1)) (lo+x)) lo (lo+x):=λi j h1 L J=>by rw[Br B a,Br B a];exact d i j h1 L J
theorem DIr.turn(h:DIr key lo p p' x q)(B:lo+x<=p'.length):DIr key lo p (rv p' (lo+x-(q+1)) (lo+x)) x 0:=
 ⟨h.fx.trans (rv_fx B (by have:=h.qx;lia)),h.dg.rva h.al B,Cb (HR (Gi _)) h.qx,λi h1 J=>by grind⟩
def DIr.lt(h:DIr key lo p p' x q)(c:kG key p' (lo+x)<kG key p' (lo+x-1)):DIr key lo p p' (x+1) 0:=
 ⟨h.fx,h.dg.step (Cb (HR (Gi _)) h.qx) (Ij c),HR (Gi _),al0⟩
theorem DIr.eq(h:DIr key lo p p' x q)(c:kG key p' (lo+x)=kG key p' (lo+x-1)):DIr key lo p p' (x+1) (q+1):=
 ⟨h.fx,h.dg.step (Cb (HR (Gi _)) h.qx) (Int.le_of_eq c),HR h.qx,λi h1 B=>by
  rw[show lo+(x+1)-1=lo+x by lia];by_cases hi:i=lo+x
  .rw[hi]
  .rw[c];exact h.al i ac ac⟩
theorem Dg.rise(d:Dg key p lo (lo+x))(B:lo+x<=p.length):Sg key (rv p lo (lo+x)) lo (lo+x):=λi j U L J=>by show key _<=key _;rw[zK B,zK B,u_ ac,u_ ac];exact d _ _ ac ac ac
theorem Sg.flat(h:Sg key p lo (lo+m))(h1:1<=m)(c:¬kG key p lo<kG key p (lo+m-1)):Al key p (lo+m) (m-1):=λi J B=>by have:=h lo i (k_ _) ac B;have:=h i (lo+m-1) ac ac ac;lia
theorem one_Sg:Sg key p lo (lo+1):=λi j L J B=>by grind
theorem Al.dg(a:Al key p (lo+m) (m-1))(h1:1<=m):Dg key p lo (lo+m):=λi j L J B=>by rw[a i ac ac,a j ac B];simp
theorem qX{m nrem n:Nat}(h:m<nrem)(B:lo+nrem<=n):lo+m<n/\lo+m-1<n:=ac
end
theorem wp_asc{t:IS F_ Ln β}(L:uY prog w A E s κ f key n){lo nrem a:Nat}{Q:β->F_->Prop}(S:SS κ f n st p)(Y:lo+nrem<=n)(g:1<=a)(U:a<=nrem)(B:Sg key p lo (lo+a)){k:Option (Option Nat)×Nat->IS F_ Ln β}(e:t=O4 [a:nrem] (f_,a) (qC0 lo nrem).F >>= k)(h:∀m,a<=m->m<=nrem->Sg key p lo (lo+m)->(m=nrem\/kG key p (lo+m)<kG key p (lo+m-1))->Ke (B_ prog w) A E s (k (f_,m)) Q st):Ke (B_ prog w) A E s t Q st:=
 xI ⟨e⟩ (λx c=>c=(f_,x)/\Sg key p lo (lo+x)) (R:=λc=>∃m,c=(f_,m)/\a<=m/\m<=nrem/\Sg key p lo (lo+m)/\(m=nrem\/kG key p (lo+m)<kG key p (lo+m-1))) ⟨rfl,B⟩ (λx c h1 J ⟨e,B⟩ W d b=>by
   subst e;refine fm (qCa lo nrem x x) (oN L S (qX J Y).1 (qX J Y).2 ?_);by_cases c:kG key p (lo+x)<kG key p (lo+x-1)
   .rw[Jr c];exact FH (d _ ⟨x,rfl,h1,GP J,B,.inr c⟩)
   .rw[IF c];exact FH (b _ ⟨rfl,B.step (Cb g h1) c⟩)) (λc ⟨e,B⟩=>⟨nrem,bi,U,k_ _,bi,.inl rfl⟩) λc ⟨m,e,h1,J,j,i⟩=>e▸h m h1 J j i
theorem xJ(L:uY prog w A E s κ f key n){lo nrem:Nat}{Q:Option Nat->F_->Prop}(S:SS κ f n st p)(b:lo+nrem<=n)(h1:1<=nrem)(h:∀m B p',SS κ f n B p'->FT B=FT st->1<=m->m<=nrem->Sg key p' lo (lo+m)->Fx lo p p'->Q (a_ m) B):Ke (B_ prog w) A E s (countRun' lo nrem) Q st:=by
 have d:∀m q p3 J,SS κ f n J p3->FT J=FT st->Fx lo p p3->Dg key p3 lo (lo+m)->1<=m->m<=nrem->Ke (B_ prog w) A E s (qCd lo nrem m q).f Q J:=λm q p3 J F e3 f3 d3 Y k=>
  have U:lo+m<=p3.length:=by rw[F.len];exact Cb (Ie k _) b
  fm (qCf ..) (o8 F λX W e4=>wp_asc L W b Y k (d3.rise U) (qCg lo nrem m q).e λm5 g1 g2 Z _=>FH (h m5 _ _ W (e4.trans e3) (Cb Y g1) g2 Z (f3.trans (rv_fx U (k_ _)))))
 have g:∀m p1 st1,SS κ f n st1 p1->FT st1=FT st->Fx lo p p1->Dg key p1 lo (lo+(m+1))->m+1<=nrem->Ke (B_ prog w) A E s (qC2 lo nrem m).f Q st1:=λm p1 st1 O e1 f1 d1 k=>by
  refine fm (qC6 ..) (Md (Ih ⟨rfl,?_⟩));refine wp_l (qC7 ..) (λx c B=>∃q p',c=(f_,x,q)/\SS κ f n B p'/\FT B=FT st/\DIr key lo p p' x q) (R:=λc B=>∃m q p',c=(f_,m,q)/\SS κ f n B p'/\FT B=FT st/\DIr key lo p p' m q/\m<=nrem)
   ⟨0,p1,rfl,O,e1,f1,d1,HR (Gi _),al0⟩ ?step (λc B ⟨q,p',e,j,o,D⟩=>?_) ?post
  case step=>
   rintro x _ B _ l ⟨q,p',rfl,j,o,D⟩;have U:lo+x<=p'.length:=by rw[j.len];exact GP (qX l b).1
   refine fm (qC8 lo nrem x q) (oN L j (qX l b).1 (qX l b).2 ?_);by_cases c:kG key p' (lo+x)<kG key p' (lo+x-1)
   .rw[Jr c];exact gW (qC9 lo nrem x q) (λ_=>fm (qCb lo nrem x q) (o8 j λr v e2=>FH ⟨0,_,rfl,v,e2.trans o,(D.turn U).lt (by rw[Br U D.al,Br U D.al];exact c)⟩)) λ_=>FH ⟨0,p',rfl,j,o,D.lt c⟩
   .rw[IF c];refine fm (qCc lo nrem x q) (oN L j (qX l b).2 (qX l b).1 ?_);by_cases N:kG key p' (lo+x-1)<kG key p' (lo+x)
    .rw[Jr N];exact FH ⟨x,q,p',rfl,j,o,D,GP l⟩
    .rw[IF N];exact FH ⟨q+1,p',rfl,j,o,D.eq (P_ (Mh.mp N) (Mh.mp c))⟩
  case post=>
   rintro _ r ⟨m,q,p2,rfl,v,e2,D,k⟩;have U:lo+m<=p2.length:=by rw[v.len];exact Cb (Ie k _) b
   have Y:=Cb (HR (Gi q)) D.qx;exact gW (qCd lo nrem m q) (λ_=>fm (qCe lo nrem m q) (o8 v λJ F e3=>d m q _ J F (e3.trans e2) (D.turn U).fx (D.turn U).dg Y k)) λ_=>d m q p2 r v e2 D.fx D.dg Y k
  .have y:QB (m+1) nrem=nrem:=PR k;exact⟨nrem,q,p',by rw[e];exact IV (λz=>(f_,z,q)) y,j,o,by rwa [show QB (qC7 lo nrem m).a (qC7 lo nrem m).b=nrem from y]at D,k_ _⟩
 refine wp_asc L S b (k_ 1) h1 one_Sg (qC0 lo nrem).e λm Y G H I=>gW (qC1 ..) (λe=>FH (h m st p S rfl Y G H (Fx.refl _))) λC=>?_;have C:¬m=nrem:=λe=>C (by rw[e];exact beq_self_eq_true nrem);have u:=I.resolve_left C;have t:=Gw G C;have U:lo+m<=p.length:=by rw[S.len];exact GP (qX t b).1
 refine gW (qC2 ..) (λP=>fm (qC3 ..) (oN L S (Jf (Ip lo m) (qX t b).1) (qX t b).2 ?_)) λP=>?_
 .by_cases K:kG key p lo<kG key p (lo+m-1)
  .rw[Jr K];exact FH (h m st p S rfl Y G H (Fx.refl _))
  .rw[IF K];have a:=H.flat Y K;have D:DIr key lo p p m (m-1):=⟨Fx.refl _,a.dg Y,JT (Nat.sub_add_cancel Y),a⟩
   have T:=(D.turn U).lt (by rw[Br U D.al,Br U D.al];exact u);rw[show lo+m-(m-1+1)=lo by lia]at T;exact fm (qC5 ..) (o8 S λst1 O q1=>g m _ st1 O q1 T.fx T.dg t)
 .have y:m=1:=Ki (PV P) Y;subst y;exact g 1 p st S rfl (Fx.refl _) (Dg.step (Al.dg (m:=1) (λi a1 a2=>by grind) (k_ 1)) (k_ 1) (Ij u)) t
end
section
open PySem.W hiding kindOf
variable{s:l_}{f:Nat->GQ}{key:Nat->Int}
section
variable(lo m ok k:Nat)
noncomputable def qB0:Lp (binarySort' lo m ok):=⟨rfl⟩
noncomputable def qB1:Lp ((qB0 lo m ok).F k (f_,())):=⟨rfl⟩
noncomputable def qB2(x c):Ic ((qB1 lo m ok k).F x c):=⟨rfl⟩
noncomputable def qB3(x c):Bd (qB2 lo m ok k x c).f:=⟨rfl⟩
noncomputable def qB4(l r:Nat):Bd ((qB1 lo m ok k).k (f_,l,r)):=⟨rfl⟩
end
section
variable{lo k l x o:Nat}
def bdK(key:Nat->Int)(p:bo)(lo k i:Nat):Bool:= !decide (kG key p (lo+k)<kG key p (lo+i))
theorem bdK_f(h:bdK key p lo k x=c_):kG key p (lo+k)<kG key p (lo+x):=by simp_all[bdK]
theorem bdK_t(h:bdK key p lo k x=d_):kG key p (lo+x)<=kG key p (lo+k):=by simp_all[bdK]
def bdK_mo(h:Sg key p lo (lo+k)):MoB (bdK key p lo k) k:=λi j B J e=>by have:=h (lo+i) (lo+j) (Ip _ _) (Ie B _) (Kr J _);have:=bdK_t e;simp only[bdK,Bool.not_eq_true',decide_eq_false_iff_not];exact Mh.mpr (Hi ‹_› this)
theorem pk(e:¬l>=o):l<=(l+o)/2/\(l+o)/2<o:=ac
theorem bb_kG(B:lo+k<p.length)(J:l<=k)(i:Nat):kG key (bb p (lo+k) (lo+k-(lo+l))) i=if i=lo+l then kG key p (lo+k)else if lo+l<i/\i<=lo+k then kG key p (i-1)else kG key p i:=by
 unfold kG;rw[bb_get B (J6 ..),show lo+k-(lo+k-(lo+l))=lo+l by lia];split
 .rfl
 .split<;>rfl
theorem ins_ok(h:Sg key p lo (lo+k))(J:lo+k<p.length)(B:l<=k)(h1:∀i,i<l->bdK key p lo k i=d_)(L:∀i,l<=i->i<k->bdK key p lo k i=c_):Sg key (bb p (lo+k) (lo+k-(lo+l))) lo (lo+(k+1)):=λi j f e d=>by
 rw[bb_kG J B,bb_kG J B];have c:∀i,lo<=i->i<lo+l->kG key p i<=kG key p (lo+k):=λi a b=>by
  have:=bdK_t (h1 (i-lo) ac)
  simp_all
 have g2:∀i,lo+l<=i->i<lo+k->kG key p (lo+k)<kG key p i:=λi a b=>by
  have:=bdK_f (L (i-lo) ac ac)
  grind
 clear h1 L;by_cases Y:i=lo+l
 .grind
 .rw[x_ Y];by_cases U:j=lo+l
  .grind
  .rw[x_ U];split<;>split<;>exact h _ _ ac ac ac
theorem ins_fx(B:lo+k<p.length):Fx lo p (bb p (lo+k) (lo+k-(lo+l))):=λi hi=>by rw[bb_get B (J6 ..),x_ ac,x_ ac]
end
theorem CF(L:uY prog w A E s κ f key n){lo m ok:Nat}{Q:Bool->F_->Prop}(S:SS κ f n st p)(y:lo+m<=n)(h1:1<=ok)(Y:ok<=m)(I:Sg key p lo (lo+ok))(h:∀J p',SS κ f n J p'->FT J=FT st->Sg key p' lo (lo+m)->Fx lo p p'->Q d_ J):Ke (B_ prog w) A E s (binarySort' lo m ok) Q st:=by
 refine wp_l (qB0 ..) (λk c J=>c=(f_,())/\∃p',SS κ f n J p'/\FT J=FT st/\Sg key p' lo (lo+k)/\Fx lo p p') (R:=λc J=>c=(f_,())/\∃p',SS κ f n J p'/\FT J=FT st/\Sg key p' lo (lo+m)/\Fx lo p p')
  ⟨rfl,p,S,rfl,by show Sg key p lo (lo+QB ok 1);simp_all,Fx.refl _⟩ ?step (λc J ⟨e,p',e1,e2,e3,e4⟩=>⟨e,p',e1,e2,?_,e4⟩) λc J ⟨e,p',H,e1,e2,e3⟩=>by cases e;exact FH (h _ _ H e1 e2 e3)
 case step=>
  rintro k _ st1 C d ⟨rfl,p1,j,e1,s1,F⟩;have g:lo+k<n:=C_ (Kr d _) y;have U:lo+k<p1.length:=by rw[j.len];exact g
  have M:=bdK_mo s1;refine xI (qB1 lo m ok k) (λx c=>c.1=f_/\Bn (bdK key p1 lo k) k x c.2.1 c.2.2) (R:=λc=>c.1=f_/\∃x,Bn (bdK key p1 lo k) k x c.2.1 c.2.2/\c.2.2<=c.2.1) ⟨rfl,Gi _,k_ _,k_ _,λi hi=>FZ hi (Lq _),λi a b=>FZ b (ML a)⟩ (λx c _ _ ⟨t,B⟩ W v o=>?_) (λc ⟨t,B⟩=>⟨t,_,B,Bn.ends B⟩) λ⟨_,l,r⟩ ⟨e,x,B,z⟩=>?_
  .refine gW (qB2 ..) (λe=>FH (v _ ⟨rfl,x,B,e⟩)) λe=>fm (qB3 ..) (oN L j g (C_ (Kr (C_ (pk e).2 B.l2) _) (GP g)) ?_);have D:A_ (kG key p1 (lo+k)<kG key p1 (lo+(c.2.1+c.2.2)/2))= !bdK key p1 lo k ((c.2.1+c.2.2)/2):=by simp[bdK]
   rw[D];cases q:bdK key p1 lo k ((c.2.1+c.2.2)/2)with
   |true=>exact FH (o _ ⟨rfl,B.up M (pk e).1 (pk e).2 q⟩)|false=>exact FH (o _ ⟨rfl,B.dn M (pk e).1 (pk e).2 q⟩)
  .cases e;cases Ki B.l1 z;exact fm (qB4 ..) (wpS_movS j λu G e2=>FH ⟨rfl,_,G,e2.trans e1,ins_ok s1 U B.l2 B.y1 B.y2,F.trans (ins_fx U)⟩)
 rwa [show QB (qB0 lo m ok).a (qB0 lo m ok).b=m from PR (by rw[show(qB0 lo m ok).a=ok from Nat.max_eq_left h1];exact Y)]at e3
end
section
open PySem.W hiding kindOf
variable{s:l_}{f:Nat->GQ}{key:Nat->Int}
noncomputable def mkP:Nat->List (bo×Nat)->List (Nat×Nat×Nat)
 |_,[]=>[]|a,(l,w)::r=>(a,l.length,w)::mkP (a+l.length) r
noncomputable def flt(gs:List (bo×Nat)):bo:=(gs.map HK).flatten
def uo(x y:List (bo×Nat)):flt (x++y)=flt x++flt y:=by simp[flt]
theorem ie(g:bo×Nat)(y:List (bo×Nat)):flt (g::y)=g.1++flt y:=by rfl
theorem mL:∀(x:List (bo×Nat)) (a:Nat) (y:List (bo×Nat)),mkP a (x++y)=mkP a x++mkP (a+(flt x).length) y
 |[],a,y=>by rfl|(l,w)::x,a,y=>by
  show(a,l.length,w)::mkP (a+l.length) (x++y)=(a,l.length,w)::(mkP (a+l.length) x++_)
  rw[mL x,ie,FK,J8]
theorem u0:∀(x:List (bo×Nat)) (a:Nat),(mkP a x).length=x.length
 |[],_=>rfl|(l,w)::x,a=>by simp[mkP,u0 x]
structure RI(κ:N4)(f:Nat->GQ)(key:Nat->Int)(n:Nat)(st:F_)(gs:List (bo×Nat))(rest:bo):Prop where
 ss:SS κ f n st (flt gs++rest)
 pd:FT st=(mkP 0 gs).toArray
 ok:∀g∈gs,Srt key g.1/\0<g.1.length
theorem RI.size{st:F_}{gs:List (bo×Nat)}{rest:bo}(h:RI κ f key n st gs rest):(FT st).size=gs.length:=by rw[h.pd];simp[u0]
theorem RI.few:∀{gs:List (bo×Nat)},(∀g∈gs,Srt key g.1/\0<g.1.length)->gs.length<=(flt gs).length
 |[],_=>Gi _|g::gs,h=>by
  have h1:=(h g Hu).2;have J:=RI.few (gs:=gs) λx B=>h x (Hw _ B)
  grind[ie,FK,E_]
theorem merge_gs(L:uY prog w A E s κ f key n){B post:List (bo×Nat)}{a b:bo}{wa wb:Nat}{rest:bo}{Q:Bool->F_->Prop}(R:RI κ f key n st (B++(a,wa)::(b,wb)::post) rest)(hi:i=B.length)(h:∀J m,m.length=a.length+b.length->RI κ f key n J (B++(m,wa)::post) rest->Q d_ J):Ke (B_ prog w) A E s (PL i) Q st:=by
 subst hi;have U:=R.ok (a,wa) ad;have Y:=R.ok (b,wb) ad;have p:flt (B++(a,wa)::(b,wb)::post)++rest=flt B++(a++(b++(flt post++rest))):=by rw[uo,ie,ie];simp
 have o:mkP 0 (B++(a,wa)::(b,wb)::post)=mkP 0 B++((flt B).length,a.length,wa)::((flt B).length+a.length,b.length,wb)::mkP ((flt B).length+a.length+b.length) post:=by rw[mL];simp[mkP]
 have S:=R.ss;rw[p]at S;have c:=R.pd;rw[o]at c;have k:=u0 B 0;refine Ba L S c (wa:=wa) (wb:=wb) ?_ ?_ U.1 Y.1 U.2 Y.2 λJ m pm d r p'=>h J m (by rw[pm.length_eq,FK]) ⟨?_,?_,?_⟩
 .simp_all
 .simp_all
 .simp_all[uo,ie]
 .rw[p',mL];have j:m.length=a.length+b.length:=by rw[pm.length_eq,FK]
  show _=(mkP 0 B++(0+(flt B).length,m.length,wa)::mkP (0+(flt B).length+m.length) post).toArray;rw[GY,j,M_,<- k,N8 _ _ (k_ _),JS,FV,List.eraseIdxIfInBounds_toArray,List.eraseIdx_append_of_length_le ac,NQ,<- J8];rfl
 .intro g l;rcases FL.mp l with e|e
  .exact R.ok g (He _ e)
  .rcases p_.mp e with e|e
   .subst e;have q:0<a.length:=U.2;exact⟨d,by show 0<m.length;rw[pm.length_eq,FK];lia⟩
   .exact R.ok g (FW _ (Hw _ (Hw _ e)))
theorem split2{l:List α}(h:i+1<l.length):∃B a b post,l=B++a::b::post/\B.length=i:=by
 refine⟨l.take i,l[i],l[i+1],l.drop (i+2),?_,be⟩
 simp
def rePw(B:Nat):Nat×Nat×Nat->Nat×Nat×Nat
 |(s,l,_)=>(s,l,B)
theorem RI.last{rest:bo}{L:Nat}(h:RI κ f key n st gs rest):∃J,J.length=gs.length/\flt J=flt gs/\RI κ f key n (Qn st ((FT st).modify ((FT st).size-1) (rePw L))) J rest:=by
 by_cases e:gs=[]
 .subst e;refine⟨[],rfl,rfl,⟨h.ss.kind,h.ss.ok,h.ss.arr,h.ss.perm⟩,?_,h.ok⟩
  show(FT st).modify ((FT st).size-1) (rePw L)=_;rw[h.pd];rfl
 .obtain⟨B,b,eb⟩:∃B b,gs=B++[b]:=⟨gs.dropLast,gs.getLast e,(List.dropLast_concat_getLast e).symm⟩
  subst eb;obtain⟨b,wb⟩:=b;have U:flt (B++[(b,L)])=flt (B++[(b,wb)]):=by simp[flt]
  refine⟨B++[(b,L)],ad,U,⟨h.ss.kind,h.ss.ok,?_,?_⟩,?_,λg a=>?_⟩
  .rw[U];exact h.ss.arr
  .rw[U];exact h.ss.perm
  .show(FT st).modify ((FT st).size-1) (rePw L)=_;rw[h.size,h.pd,mL,mL];have Y:=u0 B 0;apply Array.ext_getElem?;intro i;rw[Array.getElem?_modify];simp only[FK,Lr,Nat.add_sub_cancel,List.getElem?_toArray,mkP];by_cases c:B.length=i
   .subst c;rw[u_ rfl,<- Y,Ir (k_ _),Ir (k_ _),JS];rfl
   grind
  .rcases FL.mp a with e|e
   .exact h.ok g (He _ e)
   .have:=Gj.mp e;subst this;exact h.ok (b,wb) ad
theorem RI.push{st:F_}{gs:List (bo×Nat)}{B rest:bo}(h:RI κ f key n st gs (B++rest))(U:Srt key B)(Y:0<B.length):RI κ f key n (Qn st ((FT st).push ((flt gs).length,B.length,0))) (gs++[(B,0)]) rest:=by
 have J:flt (gs++[(B,0)])++rest=flt gs++(B++rest):=by simp[flt]
 refine⟨⟨h.ss.kind,h.ss.ok,?_,?_⟩,?_,λg L=>?_⟩
 .rw[J];exact h.ss.arr
 .rw[J];exact h.ss.perm
 .show(FT st).push _=_;rw[h.pd,mL];simp[mkP]
 .rcases FL.mp L with e|e
  .exact h.ok g e
  simp_all
theorem cut_run{B:F_}{rest:bo}(R:RI κ f key n st gs rest)(U:SS κ f n B p')(a:FT B=FT st)(h:(flt gs).length+m<=n)(Y:Sg key p' (flt gs).length ((flt gs).length+m))(d:Fx (flt gs).length (flt gs++rest) p'):
  ∃J L,J.length=m/\Srt key J/\RI κ f key n B gs (J++L):=by
 have k:=U.len;refine⟨(p'.drop (flt gs).length).take m,(p'.drop (flt gs).length).drop m,be,?_,?_⟩
 .refine HJ.mpr λi j hi b c=>?_;simp only[GL,Hy]at hi b;rw[JM,JM,Mt,Mt];have:=Y ((flt gs).length+i) ((flt gs).length+j) ac ac ac
  grind[kG]
 .have e:flt gs++((p'.drop (flt gs).length).take m++(p'.drop (flt gs).length).drop m)=p':=by
   rw[GV];have:p'.take (flt gs).length=flt gs:=by
    apply K3
    .grind
    .intro i h1 g;have:=d i g
     grind
   have e2:=GV (flt gs).length p'
   rwa [this]at e2
  refine⟨by rw[e];exact U,by rw[a];exact R.pd,R.ok⟩
section
variable(g:F_)(lo m:Nat)
noncomputable def qR0:Bd sortRuns':=⟨rfl⟩
noncomputable def qR1:Lp (qR0.k g):=⟨rfl⟩
noncomputable def qR2:Ic ((qR1 g).F 0 (f_,lo)):=⟨rfl⟩
noncomputable def qR3:Bd (qR2 g lo).f:=⟨rfl⟩
noncomputable def qR4:Ic ((qR3 g lo).k (a_ m)):=⟨rfl⟩
noncomputable def qR5:Bd (qR4 g lo m).t:=⟨rfl⟩
noncomputable def qR6:Bd ((qR5 g lo m).k ()):=⟨rfl⟩
noncomputable def qR7:Bd (qR4 g lo m).f:=⟨rfl⟩
noncomputable def qR8:Lp ((qR1 g).k (f_,lo)):=⟨rfl⟩
noncomputable def qR9:Bd ((qR8 g lo).F 0 (f_,())):=⟨rfl⟩
noncomputable def qRa(h):Ic ((qR9 g lo).k h):=⟨rfl⟩
noncomputable def qRb(h):Bd (qRa g lo h).f:=⟨rfl⟩
end
theorem RI.le{rest:bo}(R:RI κ f key n st gs rest):(flt gs).length<=n:=by
 have:=R.ss.len
 grind
def ite_le{c:Prop}[Decidable c]{a b:Nat}(J:a<=k)(B:b<=k):ite c a b<=k:=by split<;>assumption
theorem run_up{l x m:Nat}(c:l<n)(h:x<=l\/l=n)(B:1<=m):x+1<=l+m:=ac
theorem D2{l m:Nat}(c:l<n)(h:m<=n-l):l+m<=n:=ac
theorem two_gs(L:uY prog w A E s κ f key n){rest:bo}{Q:Bool->F_->Prop}(R:RI κ f key n st gs rest)(d:j=i)(hi:i+1<gs.length)(h:∀J B,RI κ f key n J B rest->(flt B).length=(flt gs).length->B.length+1=gs.length->Q d_ J):Ke (B_ prog w) A E s (PL j) Q st:=by
 obtain⟨Y,⟨a,wa⟩,⟨b,wb⟩,post,e,c⟩:=split2 hi;subst e;refine merge_gs L R (d.trans c.symm) λU k l g=>h U _ g ?_ ?_
 .simp_all[uo,ie,J8]
 .simp;rfl
theorem sr_jp(L:uY prog w A E s κ f key n){a g:F_}{rest p2:bo}{m:Nat}{W:KY (Option Unit×Nat)->F_->Prop}(R:RI κ f key n st1 gs rest)(q:SS κ f n a p2)(q2:FT a=FT st1)(z:1<=m)(x:(flt gs).length+m<=n)(s2:Sg key p2 (flt gs).length ((flt gs).length+m))(p:Fx (flt gs).length (flt gs++rest) p2)(F:∀Y j J,RI κ f key n Y j J->(flt j).length=(flt gs).length+m->W (.yield (f_,(flt gs).length+m)) Y):Ke (B_ prog w) A E s (qR4 g (flt gs).length m).f W a:=by
 obtain⟨b,J,C,u,r⟩:=cut_run R q q2 x s2 p;clear R q s2 p;refine fm (qR7 g (flt gs).length m) (Lc ?_);have o:∀U B,RI κ f key n U B (b++J)->(flt B).length=(flt gs).length->Ke (B_ prog w) A E s ((modify λs=>Qn s ((FT s).push ((flt gs).length,m,0))) >>=λ_=>GU (.yield (f_,(flt gs).length+m))) W U:=λU B d e=>by
  refine HE (JR (FH (F _ (B++[(b,0)]) J ?_ ?_)))
  .have:=d.push u (by rw[C];exact z)
   simp_all
  simp_all[uo,FK,ie,flt]
 show Ke _ _ _ _ (match (FT a).back? with|some (s1,v,_)=>_|_=>_) _ _;rcases(FT a).back? with _|⟨s1,v,G⟩
 .exact o _ gs r rfl
 .refine wp_l ⟨rfl⟩ (λ_ c Y=>c=(f_,())/\∃B,RI κ f key n Y B (b++J)/\(flt B).length=(flt gs).length) (R:=λc Y=>c=(f_,())/\∃B,RI κ f key n Y B (b++J)/\(flt B).length=(flt gs).length) ⟨rfl,gs,r,rfl⟩ ?step (λ_ _ h=>h) ?post
  case post=>rintro _ U ⟨rfl,B,d,e⟩;obtain⟨i,_,K,l⟩:=d.last;exact HE (JR (o _ i l bi))
  case step=>
   rintro y _ U _ _ ⟨rfl,B,d,e⟩;refine HE (Lc ?_);show Ke _ _ _ _ (match if (FT U).size>1 then(FT U)[(FT U).size-2]? else f_ with|some (_,_,k)=>_|_=>_) _ _;rw[d.size];split
   .rename_i H;have I:B.length>1:=by
     by_cases c:B.length>1
     .exact c
     .simp_all
    refine gW ⟨rfl⟩ (λ_=>FH ⟨rfl,B,d,e⟩) λ_=>HE (two_gs L d rfl ac λt i l D _=>FH ⟨rfl,_,l,D.trans e⟩)
   .exact FH ⟨rfl,B,d,e⟩
theorem xH(L:uY prog w A E s κ f key n){Q:Unit->F_->Prop}(S:SS κ f n st (FN n))(O:FT st=#[])(h1:1<=n)(h:∀B p,SS κ f n B p->Srt key p->Q () B):Ke (B_ prog w) A E s sortRuns' Q st:=by
 have d:(Mf st).size=n:=by rw[S.arr];simp
 refine fm qR0 (Lc ?_);refine wp_l (qR1 st) (λx c B=>∃gs rest,RI κ f key n B gs rest/\c=(f_,(flt gs).length)/\(x<=(flt gs).length\/(flt gs).length=n)) (R:=λc B=>∃gs rest,RI κ f key n B gs rest/\c=(f_,(flt gs).length)/\(flt gs).length=n)
  ⟨[],FN n,⟨S,O,λ_ h=>FZ h Gv⟩,rfl,.inl (Gi _)⟩ ?step (λc B ⟨gs,rest,R,e,t⟩=>⟨gs,rest,R,e,?_⟩) ?post
 case step=>
  rintro x _ st1 _ t ⟨gs,rest,R,rfl,i⟩;have u:=R.le;refine gW (qR2 st (flt gs).length) (λc=>FH ⟨gs,rest,R,rfl,Ki u (d▸c)⟩) λc=>?_;have l:(flt gs).length<n:=PU (d▸c);have z:∀m,1<=m->∀B Y U,RI κ f key n B Y U->(flt Y).length=(flt gs).length+m->∃Y U,RI κ f key n B Y U/\(f_,(flt gs).length+m)=((f_,(flt Y).length):Option Unit×Nat)/\(x+1<=(flt Y).length\/(flt Y).length=n):=λm j B Y U X D=>⟨Y,U,X,by rw[D],.inl (by rw[D];exact run_up l i j)⟩
  refine fm (qR3 ..) (xJ L R.ss (JT bi) (KJ bi) λm I p2 G q2 j k s2 C=>?_);rw[d]at k;refine gW (qR4 st (flt gs).length m) (λF=>fm (qR5 ..) (Md (Ih ⟨rfl,fm (qR6 ..) (CF L G ?_ j ?_ s2 λa p3 T N K f3=>?_)⟩))) λ_=>sr_jp L R G q2 j (D2 l k) s2 C (z m j)
  .exact D2 l (d▸P6 ..)
  .exact Nat.le_min.mpr ⟨d▸k,GP F⟩
  .have q:=Cb j (Nat.le_min.mpr ⟨d▸k,GP F⟩);exact sr_jp L R T (N.trans q2) q (D2 l (d▸P6 ..)) K (C.trans f3) (z _ q)
 case post=>
  rintro _ st1 ⟨gs,rest,R,rfl,i⟩;have P:rest=[]:=HZ.mp (by have:=R.ss.len;simp_all);subst P;refine wp_l (qR8 st (flt gs).length) (λy c B=>c=(f_,())/\∃J,RI κ f key n B J []/\(J.length+y<=n\/J.length<=1)) (R:=λc B=>c=(f_,())/\∃J,RI κ f key n B J []/\J.length<=1) ⟨rfl,gs,R,.inl (i▸RI.few R.ok)⟩ ?step1 (λc B ⟨e,J,b,r⟩=>⟨e,J,b,?_⟩) λc a ⟨e,J,b,v⟩=>?_
  case step1=>
   rintro y _ a _ r ⟨rfl,J,b,v⟩;refine fm (qR9 ..) (Lc (gW (qRa ..) (λc=>FH ⟨rfl,J,b,b.size▸c⟩) λc=>fm (qRb ..) ?_));have c3:¬J.length<=1:=b.size▸c;refine two_gs L b rfl ?_ λH o W _ Z=>FH ⟨rfl,o,W,.inl ?_⟩
   .have e:=b.size;refine Jf (HR (ite_le (J6 ((FT a).size-2) 1) (k_ _))) (?_:(FT a).size-2+1<_);lia
   grind
  .have:(J.length+QB 0 (Mf st).size<=n\/J.length<=1):=r
   grind
  .cases e;refine FH (h a (flt J) (by have:=b.ss;simp_all) ?_)
   match J,v,b.ok with
   |[],_,_=>exact HL|[g],_,ok=>simp_all[ie,flt]
 .have u:=R.le;have:QB 0 (Mf st).size<=(flt gs).length\/(flt gs).length=n:=t
  lia
end
section
open PySem.W hiding kindOf
variable{s:l_}{key:Nat->Int}
def Cp(key:Nat->Int)(vs out:bv):Prop:=∃ps:bo,ps.Perm (FN vs.length)/\Srt key ps/\out=ps.map λi=>vs.getD i Gu
def ltOk_of(B:∀i j (C:Bool->l_->Prop),i<vs.length->j<vs.length->C (ltK key i j) s->NL prog w A κ vs i j C s):uY prog w A E s κ (λi=>(vs.getD i Gu,vs.getD i Gu)) key vs.length:=by intro i j Q st hi L J h;rw[lt'_eq];refine HE (Lc ?_);rw[J];refine HE (Md (JF (GS (B i j (λb s'=>s'=s/\b=ltK key i j) hi L ⟨rfl,rfl⟩) (λb s' U=>?_) λ_ _ x=>x.elim)));obtain⟨rfl,rfl⟩:=U;exact⟨rfl,FH h⟩
theorem wk{P:OU->l_->Prop}(U:s.heap.get? a=a_ (Iw "list" vs.toArray n))(G:vs.length<=q_)(C:2<=vs.length->∀h1:Gr,(∀b o,b≠a->s.heap.get? b=a_ o->h1.get? b=a_ o)->Cv prog w A key vs {s with heap:=h1})(h:∀(h':Gr) (c:Nat) (out:bv),Cp key vs out->(∀b o,b≠a->s.heap.get? b=a_ o->h'.get? b=a_ o)->h'.get? a=a_ (Iw "list" out.toArray c)->P (.done (.ret .none)) {s with heap:=h'}):
  w_ (B_ prog w) A (Builtin.«list.sort» ⟨[.ref a],[]⟩) P E s:=by
 have z:a<s.z:=s_ U;obtain⟨e1,g⟩:∃e1,(s.heap.update a (HP λ_=>(#[]:Array h_))).get? a=a_ (Iw "list" #[] e1):=⟨_,get?_update_seq U λ_=>#[]⟩
 rw[list_sort_plain];refine b_ (listItems_at U rfl (b_ (OC U rfl (b_ (PK g rfl (b_ (wpAny_newTuple (b_ (Oj (G9 ?_) (Gi _))) bi)))) bi (Gi _))));have L:∀b o,b≠a->s.heap.get? b=a_ o->(((s.heap.update a (HP λ_=>(#[]:Array h_))).push (Iw "tuple" vs.toArray 0)).push (Iw "list" #[] 0)).get? b=a_ o:=λb o k q=>e_ _ (e_ _ ((GN _ _ (HM k)).trans q))
 have J:(((s.heap.update a (HP λ_=>(#[]:Array h_))).push (Iw "tuple" vs.toArray 0)).push (Iw "list" #[] 0)).get? a=a_ (Iw "list" #[] e1):=e_ _ (e_ _ g);show w_ (B_ prog w) A _ P E {s with heap:=((s.heap.update a (HP λ_=>(#[]:Array h_))).push (Iw "tuple" vs.toArray 0)).push (Iw "list" #[] 0)};dsimp only;have j:∀(out:bv),Cp key vs out->P (.done (.ret .none)) {s with heap:=(((s.heap.update a (HP λ_=>(#[]:Array h_))).push (Iw "tuple" vs.toArray 0)).push (Iw "list" #[] 0)).update a (HP λ_=>out.toArray)}:=λout d=>h _ _ out d (λb o k q=>(GN _ _ (HM k)).trans (L b o k q)) (get?_update_seq J λ_=>out.toArray)
 have l:(FN vs.length).map (λi=>vs.getD i Gu)=vs:=by
  apply K3
  .simp
  .intro i H D;simp[D]
 by_cases e:vs.toArray.size<2
 .rw[u_ e,u_ e];refine b_ (g_ ?_);rw[StateT.run_pure];refine b_ (g_ ?_);dsimp only;have Y:vs.length<2:=by simpa using e
  have d:(Mf (Ko general' (vs.toArray.zip vs.toArray) #[] 7 f_)).map (·.2)=vs.toArray:=by show(vs.toArray.zip vs.toArray).map (·.2)=vs.toArray;apply KZ.mp;simp only[Array.toList_map,Pj];exact List.map_snd_zip (k_ _)
  rw[d];refine b_ (PK J rfl (b_ (OC J rfl ?_ (Gi _) ac)));have e3:KW (Ko general' (vs.toArray.zip vs.toArray) #[] 7 f_)=f_:=rfl;simp only[e3,bne_self_eq_false,Gk,HV];refine g_ (j vs ⟨FN vs.length,HN _,?_,l.symm⟩)
  match vs,Y with
  |[],_=>exact HL|[x],_=>exact List.pairwise_singleton _ _
 .rw[x_ e,x_ e];have Y:2<=vs.length:=by rw[G8]at e;lia
  refine b_ (GS (C Y _ L) (fun κ F v=>?_) λ_ _ x=>x.elim);obtain⟨es,t⟩:=v;subst es;have ea:vs.toArray.zip vs.toArray=((FN vs.length).map λi=>(vs.getD i Gu,vs.getD i Gu)).toArray:=by
   apply KZ.mp;simp only[Pj];apply K3
   .simp
   .grind
  have f:=xH (E:=E) (ltOk_of (E:=E) t) (st:=Ko κ (vs.toArray.zip vs.toArray) #[] 7 f_) (Q:=λ_ B=>KW B=f_/\∃out,Cp key vs out/\(Mf B).map (·.2)=out.toArray) ⟨rfl,rfl,ea,HN _⟩ rfl ac (λB p S sp=>⟨S.ok,_,⟨p,S.perm,sp,rfl⟩,by rw[S.arr];simp⟩);unfold Ke at f;refine b_ (GS f (λr s' u=>?_) λ_ _ x=>x);obtain⟨⟨⟩,B⟩:=r;obtain⟨es,m,out,U,d⟩:=u;subst es;have m:KW B=f_:=m;have d:(Mf B).map (·.2)=out.toArray:=d;dsimp only;rw[d];have y:out.length=vs.length:=by obtain⟨ps,h1,_,rfl⟩:=U;rw[n_,h1.length_eq,HY]
  refine b_ (PK J rfl (b_ (OC J rfl ?_ (Gi _) be)));simp only[m,bne_self_eq_false,Gk,HV];exact g_ (j _ U)
theorem mG{Q:Mq}(e:s.heap.IsList l vs.toArray)(L:vs.length<=q_)(f:2<=vs.length->∀h1:Gr,(∀b o,s.heap.get? b=a_ o->h1.get? b=a_ o)->Cv prog w A.in1.in1 key vs {s with heap:=h1})(h:∀(h':Gr) (D:i_) (c:Nat) (out:bv),Cp key vs out->s.heap.objs.size<=D->(∀b o,s.heap.get? b=a_ o->h'.get? b=a_ o)->h'.get? D=a_ (Iw "list" out.toArray c)->Q (.ref D) {s with heap:=h'}):
  w_ (B_ prog w) A (Ka (.builtin "sorted") [.ref l]) Q E s:=by
 refine M9 kind_sorted plain_sorted entry_sorted (args_sorted1 _) ?_;unfold Builtin.«sorted»;refine b_ (m:=checkCount "sorted" 1 1 _) (g_ (b_ (collect_list e (b_ (Oj ?_ ac)) ac)));have Y:((s.heap.push (Iw "list" #[] 0)).update s.z (HP (·++vs.toArray))).objs.size=s.z+1:=by rw[Heap.size_update,size_push']
 have a:(((s.heap.push (Iw "list" #[] 0)).update s.z (HP (·++vs.toArray))).push (Iw "list" vs.toArray 0)).get? (s.z+1)=a_ (Iw "list" vs.toArray 0):=by rw[<- Y];exact o_ _ rfl
 have B:∀b o,s.heap.get? b=a_ o->(((s.heap.push (Iw "list" #[] 0)).update s.z (HP (·++vs.toArray))).push (Iw "list" vs.toArray 0)).get? b=a_ o:=λb o q=>e_ _ ((GN _ _ (HU (s_ q))).trans (e_ _ q))
 show w_ _ _ _ _ _ {s with heap:=((s.heap.push (Iw "list" #[] 0)).update s.z (HP (·++vs.toArray))).push (Iw "list" vs.toArray 0)};rw[Y];have J:∀b o,s.heap.get? b=a_ o->b≠s.z+1:=λb o q=>FR (Pu (s_ q));refine b_ (G9 (Gx slot_list_sort ⟨_,a,rfl⟩ entry_list_sort (wk a L (λg h1 U=>f g h1 λb o q=>U b o (J b o q) (B b o q)) λh' c out d k' i=>⟨_,rfl,?_⟩) (args_list_sort _)));exact g_ ⟨_,rfl,h h' _ c out d (LP _) (λb o q=>k' b o (J b o q) (B b o q)) i⟩
end
section
open PySem.W hiding kindOf
variable{lt:α->α->Bool}
theorem vS(o:Ord lt)(B:List α)(d:α){ps:bo}(h1:ps.Perm (FN B.length))(c:Srt (rk lt B d) ps):ps.map (λi=>B.getD i d)=cZ lt B:=by
 refine p5 o ?_ ?_ (i6 o B)
 .refine(h1.map _).trans ?_;have:(FN B.length).map (λi=>B.getD i d)=B:=by
   apply K3
   .simp
   .intro i e Y;simp[Y]
  rw[this];exact(cz B).symm
 .rw[KG];refine Mg (λ{a b} U J L=>?_) c;rw[<- D8 o (d:=d) (Gs.mp (h1.mem_iff.mp J)) (Gs.mp (h1.mem_iff.mp U))];exact IF ac
variable{W:cv}
theorem vp(o:Ord lt){s:l_}{B:List α}{d0:α}{J:α->A'}(I:B6 X B2 σ H s)(l:aU F H)(t:SqL X.K F a xs)(r:aw X.K F (B.map J) xs)(x:∀its:bv,D' xs its->2<=its.length->∀h1:Gr,(∀b o,s.heap.get? b=a_ o->h1.get? b=a_ o)->Cv X.prog X.w X.A.in1.in1 (rk lt B d0) its {s with heap:=h1})(p:aE X.K W d_ F H (.ok (.lst ((cZ lt B).map J))) Q):w_ (B_ X.prog X.w) X.A (Ka (.builtin "sorted") [.ref a]) (EP X B2 σ Q) X.xe s:=by
 obtain⟨its,Y,pl,A⟩:=I.list (l.lst t);have z:=Y.length;have n:=r.length;rw[n_]at n;refine mG (key:=rk lt B d0) pl.isList ac (λj h1 kp=>x its Y j h1 kp) λh' D c out u m kp e=>?_;obtain⟨ps,h1,j,rfl⟩:=u;rw[show its.length=B.length by lia]at h1;have L:∀i∈ps,i<xs.length:=λi hi=>by grind
 have h:(ps.map λi=>xs.getD i .non).length<=q_:=by rw[n_,h1.length_eq,HY];lia
 have g:=vals_map Y ps L;have f:aw X.K F ((cZ lt B).map J) (ps.map λi=>xs.getD i .non):=by
  rw[<- vS o B d0 h1 j,D_];refine aw.of_get ad λk C v U g2=>?_;rw[FQ]at U g2;cases ek:ps[k]? with
  |none=>simp_all|some i=>
   rw[ek]at U g2;simp only[Jb,Hv,MQ]at U g2;have hi:=L i (Gn ek);obtain⟨w,e1,q⟩:=r.get (i:=i) (d:=J (B[i]'(by omega))) (by simp[show i<B.length by lia]);rw[getD_get (show i<B.length by lia)]at U
   simp_all
 have y:B6 X B2 σ (upd H D (.lst (ps.map λi=>xs.getD i .non))) {s with heap:=h'}:=I.laid (t':=s.toks) kp m (show gZ _ h' D (.lst _)from⟨h,_,c,g,e⟩);exact⟨.ref D,_,y,rfl,p.lst l f (I.hok.fresh m)⟩
def oQ(ds:List A'):M A':=match bM ds with
 |.ok is=>.ok (.lst ((cZ ltZ is).map .int))|.error _=>(fH ds).bind λB=>if (B.all λt=> !t.isEmpty)=d_ then .ok (.lst ((cZ rK B).map ba))else stk
def k8:List A'->M A'
 |[.lst ds]=>oQ ds|_=>stk
def Fl(k: ~~~(X.K=K)):n8 K W d_ X (.builtin "sorted") k8:=by
 subst k;intro B2 s σ H xs us Q I j h;obtain⟨F,d,x,s1,e,q,p⟩:=l8 (λds=>by match ds with|[d]=>simp|[]=>exact .inr rfl|a::b::c=>exact .inr (by cases a<;>rfl)) h;subst e;obtain⟨u,rfl,i⟩:=j.one;cases d with
 |lst ds=>
  obtain⟨a,ys,e1,t,r⟩:=q;subst e1;cases i;have p':aE X.K W d_ F H (oQ ds) Q:=p;unfold oQ at p';cases U:bM ds with
  |ok is=>rw[U]at p';have g:=Ek U;subst g;refine vp ordZ (d0:=0) I s1 t r (λits Y f h1 kp=>?_) p';have e2:ys=is.map V.int:=cP r U;subst e2;exact Fw (intsAre_of Y) f|error z=>
   rw[U]at p';have p2:aE X.K W d_ F H ((fH ds).bind λJ=>if (J.all λt=> !t.isEmpty)=d_ then .ok (.lst ((cZ rK J).map ba))else stk) Q:=p';cases L:fH ds with
   |error l=>rw[L]at p2;have:=lM L;subst this;exact aE.stuck p2|ok J=>
    rw[L]at p2;have g:=lL L;subst g;have p3:aE X.K W d_ F H (if (J.all λt=> !t.isEmpty)=d_ then .ok (.lst ((cZ rK J).map ba))else stk) Q:=p2;by_cases B:(J.all λt=> !t.isEmpty)=d_
    .rw[u_ B]at p3;exact vp Dw (d0:=[]) I s1 t r (λits Y f h1 kp=>Fv I s1 r B Y f kp) p3
    .rw[x_ B]at p3;exact aE.stuck p3
 |_=>exact aE.stuck p
end
section
open PySem SetTable
end
section
open PySem
end
section
open PySem SetTable
end
section
open PySem.W
end
section
open PySem
structure IK(prog:GH)(w:Hz)(κ:Type)[Jh κ] where
 is:Gr->κ->h_->Prop
 hash:κ->Int
 draws:κ->Nat
 up:Nat
 fuel:Nat
 inj:∀{h:Gr} {v:h_} {x y:κ},is h x v->is h y v->x=y
 keeps:∀{h h':Gr} {k:κ} {v:h_},is h k v->(∀(a:i_) (o:L7) (us:Array h_) (n:Nat),h.get? a=a_ o->o.data=.seq us n->h'.get? a=a_ o)->is h' k v
 pyHash:∀{A:HQ} {E:Mq} {s:l_} {k:κ} {v:h_} {Q:Int->l_->Prop},A.units+up<G3->is s.heap k v->Q (hash k) {s with toks:=s.toks+draws k}->w_ (B_ prog w) A (Ma v) Q E s
 eqBool:∀{A:HQ} {E:Mq} {s:l_} {x y:κ} {u v:h_} {Q:Bool->l_->Prop},A.units+up<G3->is s.heap x u->is s.heap y v->Q (A_ (x=y)) s->w_ (B_ prog w) A (Kg u v) Q E s
 quiet:∀{A:HQ} {E:Mq} {s:l_} {k:κ} {v:h_} {Q:Bool->l_->Prop} (n:Nat),fuel<=n->is s.heap k v->Q d_ s->w_ (B_ prog w) A (OH n v) Q E s
variable{s:l_}
def TupAt(h:Gr)(a:i_)(us:bv):Prop:=∃o n,h.get? a=a_ o/\o.cls=.type "tuple"/\o.data=.seq us.toArray n
def TupAt.ty(h:TupAt s.heap a us):s.TypeIs (.ref a) "tuple":=let ⟨o,_,B,J,_⟩:=h;⟨o,B,J⟩
theorem TupAt.inj(x:TupAt h a us)(y:TupAt h a vs):us=vs:=by
 obtain⟨o,n,U,_,Y⟩:=x;obtain⟨o',L,B,_,J⟩:=y
 simp_all
def TupAt.keep(x:TupAt h a us)(k:∀(a:i_) (o:L7) (us:Array h_) (n:Nat),h.get? a=a_ o->o.data=.seq us n->h'.get? a=a_ o):TupAt h' a us:=
 let ⟨o,n,J,L,B⟩:=x;⟨o,n,k _ _ _ _ J B,L,B⟩
inductive Hs(prog:GH)(w:Hz)(A:HQ)(h:Gr):List h_->List Int->Nat->Prop
 |nil:Hs prog w A h [] [] 0
 |cons {v:h_} {vs:List h_} {i:Int} {is:List Int} {d n:Nat} (hv:∀(E:Mq) (s:l_) (Q:Int->l_->Prop),s.heap=h->Q i {s with toks:=s.toks+d}->w_ (B_ prog w) A (Ma v) Q E s) (r:Hs prog w A h vs is n):Hs prog w A h (v::vs) (i::is) (d+n)
theorem Ao{Q:Int->l_->Prop}(l:A.units<G3)(e:TupAt s.heap a us)(hi:Hs prog w A.in1 s.heap us is n)(h:Q (KQ (Gf is)) {s with toks:=s.toks+(n+1)}):
  w_ (B_ prog w) A (Ma (.ref a)) Q E s:=by
 have J:=e.ty;obtain⟨o,m,p,_,t⟩:=e;unfold Ma
 first|unfold pyHashByItsType|skip
 first|refine b_ (wpAny_cRoomFor_or (.inr l) ?_)|skip
 refine b_ (Nz J K0.lookup ?_);show w_ _ _ (ite ((a_ (P4 "tuple.__hash__")==a_ Gu)=d_) _ _) Q E s;rw[x_ ad];refine b_ (Nz J K0.lookup ?_);show w_ _ _ (callSpecialIfBoundUnlessNone? (.ref a) "__hash__" _ >>= _) Q E s;refine b_ (wpAny_callSpecialIfBoundUnlessNone?_slot J K0 (Gx K0 J F.entry_tuple_hash ?_ (F.args_tuple_hash_1 _)));show w_ _ _ (L3 (.ref a) >>= _) _ _ s;refine b_ (JO p t ?_);refine b_ ?_;rw[<- OF];refine Lv _ (λrest (b:Array Int) s'=>∃B m k,Hs prog w A.in1 s.heap rest B m/\b.toList++B=is/\k+m=n/\s'={s with toks:=s.toks+k}) _ ?_ ?_ _ _ ⟨is,n,0,hi,rfl,ac,rfl⟩
 .rintro x rest b s' ⟨B,m,k,U,c,q,rfl⟩;cases U with
  |@cons _ _ i L d g j r=>refine b_ (j _ _ _ rfl (g_ ⟨L,g,k+d,r,bi,ac,?_⟩));simp[J8]
 .rintro b s' ⟨B,m,k,U,c,q,rfl⟩;cases U;rw[Hf]at c;have Y:k=n:=ac
  subst Y;show w_ _ _ (retInt (Gf b.toList)) _ _ _;rw[c];refine wpAny_ret_mkInt ?_;refine(?_:w_ _ _ (ite ((A_ (-(2:Int)^63<=Gf is)&&A_ (Gf is<2^63))=d_) _ _) Q E _)
  unfold KQ at h;by_cases f:(A_ (-(2:Int)^63<=Gf is)&&A_ (Gf is<2^63))=d_
  .rw[u_ f]at h ⊢;exact g_ (by simp_all[J8])
  .rw[x_ f]at h ⊢;exact b_ (Ih (g_ (by simpa[J8] using h)))
inductive Es(prog:GH)(w:Hz)(A:HQ)(h:Gr):List h_->List h_->Bool->Prop
 |nil {us vs:List h_} (e:us=[]\/vs=[]):Es prog w A h us vs d_
 |cons {u v:h_} {us vs:List h_} {b c:Bool} (hv:∀(E:Mq) (s:l_) (Q:Bool->l_->Prop),s.heap=h->Q b s->w_ (B_ prog w) A (Kg u v) Q E s) (r:Es prog w A h us vs c):Es prog w A h (u::us) (v::vs) (b&&c)
theorem yJ{c:Bool}{P:OU->l_->Prop}(q:TupAt s.heap a us)(o:TupAt s.heap b vs)(z:Es prog w A s.heap us vs c)(h:P (.done (.ret (.bool (c&&us.length==vs.length)))) s):
  w_ (B_ prog w) A (Builtin.«tuple.__eq__» ⟨[.ref a,.ref b],[]⟩) P E s:=by
 have m:=o.ty;obtain⟨K,na,j,_,l⟩:=q;obtain⟨I,nb,i,_,k⟩:=o;show w_ _ _ (Qh (.ref b) (.type "tuple") >>= _) _ _ s;refine b_ (JA m LX ?_);simp only[J7,Gk,HV];refine b_ (JO j l (b_ (JO i k (b_ ?_))));refine Lv _ (λrest r s'=>r.1=f_/\s'=s/\∃J B U,rest=List.zip J B/\Es prog w A s.heap J B U/\U=c) _ ?_ ?_ _ _ ⟨rfl,rfl,us,vs,c,ad,z,rfl⟩
 .rintro⟨u,v⟩ rest r s' ⟨g,rfl,J,B,U,f,L,p⟩;cases L with
  |nil e=>
   rcases e with e|e
   .simp_all
   simp_all
  |@cons G F d Y D C t n=>
   simp only[L8,JX,LF]at f;obtain⟨⟨rfl,rfl⟩,rfl⟩:=f;refine b_ (t _ _ _ rfl ?_);cases D with
   |true=>simp only[J7,Gk,HV];exact g_ ⟨rfl,rfl,d,Y,C,rfl,n,bi⟩|false=>
    simp only[Qa,Kv];have y:c=c_:=by rw[<- p];rfl
    rw[y,Nd]at h;exact b_ (g_ (g_ (g_ h)))
 .rintro⟨n,H⟩ s' ⟨g,rfl,J,B,U,f,L,p⟩;simp only at g;subst g;have x:c=d_:=by
   cases L with
   |nil e=>lia|cons _ _=>simp_all
  rw[x,Nw]at h;refine g_ ?_;show P (.done (.ret (.bool (us.toArray.size==vs.toArray.size)))) s';exact h
theorem eq_tup{c:Bool}{Q:Bool->l_->Prop}(U:A.units<G3)(J:TupAt s.heap a us)(L:TupAt s.heap b vs)(d:Es prog w A.in1 s.heap us vs c)(Y:a=b->(c&&us.length==vs.length)=d_)(h:Q (c&&us.length==vs.length) s):
  w_ (B_ prog w) A (Kg (.ref a) (.ref b)) Q E s:=by
 unfold Kg
 try with_reducible refine G9 ?_
 show w_ _ _ (ite ((FJ a==FJ b)=d_) _ _) Q E s;by_cases B:(FJ a==FJ b)=d_
 .rw[u_ B];have e:a=b:=by have:=HF B;injection this
  rw[Y e]at h;exact b_ (Ih (g_ h))
 .rw[x_ B];exact b_ (NK (op:=.Eq) J.ty L.ty Nl (Gx Nl J.ty F.entry_tuple_eq (yJ J L d ⟨_,rfl,(λe=>nomatch e),G4 h⟩) (F.args_tuple_eq_2 _ _)) U)
theorem vI{Q:Bool->l_->Prop}(n:Nat)(U:TupAt s.heap a us)(b:∀v∈us,∀(E:Mq) (Q:Bool->l_->Prop),Q d_ s->w_ (B_ prog w) A (OH n v) Q E s)(h:Q d_ s):w_ (B_ prog w) A (OH (n+1) (.ref a)) Q E s:=by
 have Y:=U.ty;obtain⟨o,m,c,_,d⟩:=U;unfold OH;refine b_ (Nz Y Nl.lookup ?_);show w_ _ _ (Qh (.ref a) (.type "tuple") >>= _) _ _ s;refine b_ (JA Y LX ?_);simp only[J7,Gk,HV];refine b_ (Hg c d (b_ ?_));show w_ _ _ (O4 us.toArray _ _) _ _ s;rw[<- OF];refine Lv _ (λrest r s'=>r.1=f_/\s'=s/\∀v∈rest,v∈us) _ ?_ ?_ _ _ ⟨rfl,rfl,λv g=>by simp_all⟩
 .rintro v rest r s' ⟨L,rfl,B⟩;refine b_ (b v (B v Hu) _ _ ?_);simp only[J7,Gk,HV];exact g_ ⟨rfl,rfl,λu J=>B u (Hw _ J)⟩
 .rintro⟨f,e⟩ s' ⟨L,rfl,_⟩;simp only at L;subst L;exact g_ h
end
section
open PySem
variable{κ μ:Type}[Jh κ][Jh μ]
inductive qy{α β:Type}(R:α->β->Prop):List α->List β->Prop
 |nil:qy R [] []
 |cons {x:α} {y:β} {xs:List α} {ys:List β} (h:R x y) (t:qy R xs ys):qy R (x::xs) (y::ys)
def qy.imp{R S:α->β->Prop}(f:∀x y,R x y->S x y){xs:List α}{ys:List β}(h:qy R xs ys):qy S xs ys:=by
 induction h with
 |nil=>exact .nil|cons h _ B=>exact .cons (f _ _ h) B
theorem qy.mem{R:α->β->Prop}{xs:List α}{ys:List β}(h:qy R xs ys):∀y∈ys,∃x,R x y:=by
 induction h with
 |nil=>simp|cons h _ B=>grind
def yB(prog:GH)(w:Hz):IK prog w Int where
 is:=λ_ k v=>∃t,v=.int k t
 hash:=hashInt
 draws:=λ_=>1
 up:=0
 fuel:=0
 inj:=λ⟨t,e⟩ ⟨u,f⟩=>by lia
 keeps:=λh _=>h
 pyHash:=λ_ ⟨t,e⟩ h=>by subst e;exact(Pa prog w).pyHash (Qi _ _ _ _) h
 eqBool:=λ_ ⟨t,e⟩ ⟨u,f⟩ h=>by subst e f;exact(Pa prog w).eqBool (Qi _ _ _ _) (Qi _ _ _ _) h
 quiet:=λn _ ⟨t,e⟩ h=>by subst e;rw[eqIsQuiet_byValue n rfl];exact g_ h
theorem hs_all(I:IK prog w κ){A:HQ}{h:Gr}(B:A.units+I.up<G3):∀{ks:List κ} {us:bv},qy (I.is h) ks us->Hs prog w A h us (ks.map I.hash) ((ks.map I.draws).sum)
 |_,_,.nil=>.nil|_,_,.cons q t=>.cons (λE s Q e J=>I.pyHash B bi J) (hs_all I B t)
theorem es_all(I:IK prog w κ){A:HQ}{h:Gr}(B:A.units+I.up<G3):∀{ks ls:List κ} {us vs:bv},qy (I.is h) ks us->qy (I.is h) ls vs->∃c,Es prog w A h us vs c/\(c&&us.length==vs.length)=A_ (ks=ls)
 |_,_,_,_,.nil,.nil=>⟨d_,.nil (.inl rfl),ad⟩|_,_,_,_,.nil,.cons q t=>⟨d_,.nil (.inl rfl),ad⟩|_,_,_,_,.cons q t,.nil=>⟨d_,.nil (.inr rfl),ad⟩|k::ks,l::ls,_,_,.cons q t,.cons L t'=>by
  obtain⟨c,e,U⟩:=es_all I B t t';refine⟨A_ (k=l)&&c,.cons (λE s Q e J=>I.eqBool B bi bi J) e,?_⟩
  grind
theorem zm(I:IK prog w κ){h:Gr}:∀{ks ls:List κ} {us:bv},qy (I.is h) ks us->qy (I.is h) ls us->ks=ls
 |_,_,_,.nil,.nil=>rfl|_,_,_,.cons q t,.cons B t'=>by rw[I.inj q B,zm I t t']
def tupI(I:IK prog w κ):IK prog w (List κ) where
 is:=λh ks v=>∃a us,v=.ref a/\TupAt h a us/\qy (I.is h) ks us
 hash:=λks=>KQ (Gf (ks.map I.hash))
 draws:=λks=>(ks.map I.draws).sum+1
 up:=I.up+1
 fuel:=I.fuel+1
 inj:=λ⟨a,us,e,t,q⟩ ⟨b,vs,f,t',B⟩=>by rw[e]at f;cases f;have:=t.inj t';subst this;exact zm I q B
 keeps:=λ⟨a,us,e,t,q⟩ k=>⟨a,us,e,t.keep k,q.imp λ_ _ z=>I.keeps z k⟩
 pyHash:=λ{A E s k v Q} Y ⟨a,us,e,t,q⟩ h=>by subst e;exact Ao ac t (hs_all I (A:=A.in1) ac q) h
 eqBool:=λ{A E s x y u v Q} Y ⟨a,us,e,t,q⟩ ⟨b,vs,f,t',B⟩ h=>by subst e f;obtain⟨c,es,L⟩:=es_all I (A:=A.in1) ac q B;rw[<- L]at h;refine eq_tup ac t t' es (λe=>?_) h;subst e;have:=t.inj t';subst this;rw[L,zm I q B];simp
 quiet:=λ{A E s k v Q} n g ⟨a,us,e,t,q⟩ h=>by
  subst e;obtain⟨m,rfl⟩:∃m,n=m+1:=⟨n-1,ac⟩
  refine vI m t (λv U E Q d=>?_) h;obtain⟨k',J⟩:=q.mem v U;exact I.quiet m ac J d
def pairI(I:IK prog w κ)(J:IK prog w μ):IK prog w (κ×μ) where
 is:=λh k v=>∃a U L,v=.ref a/\TupAt h a [U,L]/\I.is h k.1 U/\J.is h k.2 L
 hash:=λk=>KQ (Gf [I.hash k.1,J.hash k.2])
 draws:=λk=>I.draws k.1+(J.draws k.2+0)+1
 up:=QB I.up J.up+1
 fuel:=QB I.fuel J.fuel+1
 inj:=λ{h v x y} ⟨a,U,L,e,t,q1,q2⟩ ⟨b,c,Y,f,t',p1,p2⟩=>by rw[e]at f;cases f;have:=t.inj t';simp only[JX,and_true]at this;obtain⟨rfl,rfl⟩:=this;exact Mo (I.inj q1 p1) (J.inj q2 p2)
 keeps:=λ⟨a,U,L,e,t,q1,q2⟩ k=>⟨a,U,L,e,t.keep k,I.keeps q1 k,J.keeps q2 k⟩
 pyHash:=λ{A E s k v Q} i ⟨a,U,L,e,t,q1,q2⟩ h=>by subst e;exact Ao ac t (.cons (λE s' Q e B=>I.pyHash (A:=A.in1) ac bi B) (.cons (λE s' Q e B=>J.pyHash (A:=A.in1) ac bi B) .nil)) h
 eqBool:=λ{A E s x y u v Q} i ⟨a,U,L,e,t,q1,q2⟩ ⟨b,c,Y,f,t',p1,p2⟩ h=>by
  subst e f;have g:((A_ (x.1=y.1)&&(A_ (x.2=y.2)&&d_))&&[U,L].length==[c,Y].length)=A_ (x=y):=by obtain⟨p,o⟩:=x;obtain⟨l,j⟩:=y;simp[LF]
  rw[<- g]at h;refine eq_tup ac t t' (.cons (λE s' Q e B=>I.eqBool (A:=A.in1) (by show A.units+1+I.up<G3;lia) bi bi B) (.cons (λE s' Q e B=>J.eqBool (A:=A.in1) (by show A.units+1+J.up<G3;lia) bi bi B) (.nil (.inl rfl)))) (λe=>?_) h;subst e;have:=t.inj t';simp only[JX,and_true]at this;obtain⟨rfl,rfl⟩:=this;rw[g,Mo (I.inj q1 p1) (J.inj q2 p2)];simp
 quiet:=λ{A E s k v Q} n q ⟨a,U,L,e,t,q1,q2⟩ h=>by
  subst e;obtain⟨m,rfl⟩:∃m,n=m+1:=⟨n-1,ac⟩
  refine vI m t (λv d E Q B=>?_) h;simp only[p_,Gv,Mv]at d;rcases d with e|e
  .subst e;exact I.quiet m ac q1 B
  .subst e;exact J.quiet m ac q2 B
def heapI(I:IK prog w κ)(f:I.fuel<=8):MZ prog w κ where
 is:=λh k a=>I.is h k (.ref a)
 hash:=I.hash
 draws:=I.draws
 room:=λA=>A.units+I.up<G3
 inj:=λJ B=>I.inj J B
 keeps:=λ{h h' k a d o es ep} x i j Y=>I.keeps x λb g us n c l=>by
  rw[Y.2 b λe=>?_]
  .exact c
  simp_all
 pyHash:=λL U h=>I.pyHash L U h
 eqBool:=λL J B h=>I.eqBool L J B h
 quiet:=λU h=>I.quiet 8 f U h
def labI(prog:GH)(w:Hz):IK prog w LK:=pairI (yB prog w) (tupI (tupI (yB prog w)))
end
abbrev yy(P:GH)(w:Hz):MZ P w LK:=heapI (labI P w) (by show QB 0 (0+1+1)+1<=8;decide)
def kA.map(s:∀b xs,SqT K F b xs->SqT K F' b xs){k:LK}(h:kA K F b k):kA K F' b k:=
 let ⟨r,Y,U,L,l,J⟩:=h;⟨r,Y,s _ _ U,s _ _ L,l,λj B c e1 e2=>s _ _ (J j B c e1 e2)⟩
noncomputable def putL(ks:bT)(k:LK):bT:=if k∈ks then ks else ks++[k]
noncomputable def lV(xs:List (LK×i_))(k:LK)(b:i_):List (LK×i_):=if k∈xs.map (·.1)then xs else xs++[(k,b)]
def rB(xs:List (LK×i_))(k:LK)(b:i_):(lV xs k b).map (·.1)=putL (xs.map (·.1)) k:=by unfold lV putL;split<;>simp
def vL{xs:List (LK×i_)}{k:LK}{x:LK×i_}(h:x∈lV xs k b):x∈xs\/x=(k,b):=by
 unfold lV at h;split at h
 .exact .inl h
 .simpa using h
def vM(xs:List (LK×i_))(k:LK)(b:i_):(lV xs k b).length<=xs.length+1:=by unfold lV;split<;>simp
noncomputable def enL(x:LK×i_):LK×i_×h_:=(x.1,x.2,.bool d_)
def Ax(xs:List (LK×i_)):(xs.map enL).map (·.1)=xs.map (·.1):=by rw[D_];rfl
def atL(xs:List (LK×i_))(k:LK):(OM (xs.map enL) k).isSome=A_ (k∈xs.map (·.1)):=by
 unfold OM;rw[OD,Ll,List.find?_isSome,FO];simp only[FP,FO];constructor
 .rintro⟨x,⟨y,B,rfl⟩,e⟩;exact⟨y,B,e⟩
 .rintro⟨y,B,e⟩;exact⟨enL y,⟨y,B,rfl⟩,e⟩
def CU(xs:List (LK×i_))(k:LK)(b:i_):Mj (xs.map enL) k b (.bool d_)=(lV xs k b).map enL:=by
 unfold Mj lV;rw[atL];by_cases h:k∈xs.map (·.1)
 .rw[Jr h,u_ rfl,u_ h];rw[D_];refine Hk λx _=>?_;show putAt k (.bool d_) (enL x)=enL x;unfold putAt;split<;>rfl
 .rw[IF h,x_ ad,x_ h];simp[enL]
section
variable{s:l_}{xs:List (LK×i_)}{k:LK}
def CM(I:B6 X B2 σ H s){vs:bp}(h:SqT X.K H b vs):∃us,D' vs us/\TupAt s.heap b us:=by obtain⟨its,r,⟨o,h1,J,n,B⟩,_⟩:=I.tuple h;exact⟨its,r,o,n,h1,J,B⟩
theorem An:∀{B:bm} {us:bv} {h:Gr},D' (B.map V.int) us->qy ((yB X.prog X.w).is h) B us
 |[],_,_,.nil=>.nil|i::B,_,_,.cons r t=>.cons r (An t)
def row_at(I:B6 X B2 σ H s){B:bm}(h:SqT X.K H b (B.map V.int)):(tupI (yB X.prog X.w)).is s.heap B (.ref b):=by obtain⟨us,r,t⟩:=CM I h;exact⟨b,us,rfl,t,An r⟩
theorem zO(I:B6 X B2 σ H s):∀{rows:List bm} {J:List i_} {us:bv},D' (J.map V.ref) us->J.length=rows.length->(∀(j:Nat) (B:bm) (c:i_),rows[j]?=a_ B->J[j]?=a_ c->SqT X.K H c (B.map V.int))->qy ((tupI (yB X.prog X.w)).is s.heap) rows us
 |[],[],_,.nil,_,_=>.nil|[],_::_,_,_,l,_=>by simp at l|_::_,[],_,_,l,_=>by simp at l|B::rows,c::J,_,.cons r t,l,h=>by cases(show _=FJ c from r);exact .cons (row_at I (h 0 B c rfl rfl)) (zO I t (by simpa using l) λj B c e1 e2=>h (j+1) B c e1 e2)
def mM(I:B6 X B2 σ H s)(h:kA X.K H b k):(yy X.prog X.w).is s.heap k b:=by obtain⟨r,i,d,c,l,a⟩:=h;obtain⟨us,e,Y⟩:=CM I d;obtain⟨vs,J,B⟩:=CM I c;obtain⟨U,L,rfl,g,f⟩:=e.two;cases(show L=FJ r from f);exact⟨b,U,.ref r,rfl,Y,g,r,vs,rfl,B,zO I J l a⟩
def FE(K:Pn)(H:Hp)(xs:List (LK×i_)):Prop:=∀x∈xs,kA K H x.2 x.1
def yM{xs:List (LK×i_)}(z:Cr h a xs ep):gZ H h a (xC a xs ep):=by
 have J:=z;obtain⟨h1,k,j,o,es,U,i⟩:=z;refine⟨J,⟨o,U⟩,λ_ _ L e=>?_⟩
 obtain⟨g,g2,f,o',B,d,c,b,Y⟩:=L;exact⟨g,g2,f,o',B,e _ d,c,b,Y⟩
def EH(I:B6 X B2 σ H s)(e:H a=a_ (xC a xs ep)):Cr s.heap a xs ep:=(show Cr s.heap a xs ep/\_ from I.hok a _ e).1
def EI(I:B6 X B2 σ H s)(e:H a=a_ (xC a xs ep))(z:FE X.K H xs):(a==HW)=c_/\xs.length<=q_/\s.heap.DictOfH (yy X.prog X.w) a (xs.map enL):=by
 obtain⟨Y,U,L,o,es,h1,d,c,b⟩:=EH I e;refine⟨Y,U,o,es,ep,h1,d,c,?_,λq J=>?_,by rw[Ax];exact L⟩
 .rw[b,D_];rfl
 .obtain⟨x,B,rfl⟩:=FP.mp J;exact mM I (z x B)
def AA(c:h.DictOfH (yy P w) a (xs.map enL))(L:(a==HW)=c_)(J:xs.length<=q_):∃ep,Cr h a xs ep:=by
 obtain⟨o,es,ep,h1,b,Y,U,_,B⟩:=c;rw[Ax]at B;refine⟨ep,L,J,B,o,es,h1,b,Y,?_⟩
 rw[U,D_];rfl
def B6.dil{ys:List (LK×i_)}{t':Nat}(I:B6 X B2 σ H s)(e:H a=a_ (xC a xs ep))(B:Ju a s.heap h')(z:Cr h' a ys ep'):B6 X B2 σ (upd H a (xC a ys ep')) {s with heap:=h',toks:=t'}:=
 I.write (x:=a) (e:=a) (by rw[e];exact JY) (.inl rfl) (λc q J w=>(B.2 c J).trans w) (let ⟨_,_,_,o,_,w,_,_,_⟩:=z;⟨o,w⟩) (yM z)
theorem lroom(B:A.units+64<G3):(yy X.prog X.w).room A.in1:=by show A.units+1+3<G3;lia
end
def tNewL:TE:=λ_ H Q=>∀p,H p=f_->Q (.ref p) (upd H p (xC p [] 0))
def sPutT(K:Pn)(td ty tv:TE):TS:=λD σ H=>tv σ H λv H1=>td σ H1 λx H2=>ty σ H2 λy B=>∃a b k xs ep,v=.bl d_/\x=.ref a/\y=.ref b/\B a=a_ (xC a xs ep)/\FE K B xs/\kA K B b k/\xs.length<q_/\∀ep',D.nx σ (upd B a (xC a (lV xs k b) ep'))
def rInL(K:Pn)(neg:Bool):R2:=λy x H Q=>∃a b k xs ep,x=.ref a/\y=.ref b/\H a=a_ (xC a xs ep)/\FE K H xs/\kA K H b k/\Q (.bl (if neg=d_ then !decide (k∈xs.map (·.1))else A_ (k∈xs.map (·.1)))) H
section
variable{o i:Hb}{ty:TE}
def pe_newL:PE X (.Dict [] [] pos) tNewL:=λB2 s σ H Q I h=>QD ⟨.ref s.heap.objs.size,_,I.laid (a:=s.heap.objs.size) (o:=xC s.heap.objs.size [] 0) (t':=s.toks) (λ_ _ q=>e_ _ q) (k_ _) (yM (⟨Nx.mpr (HM (FR I.big)),Gi _,Na,_,#[],o_ _ rfl,⟨rfl,rfl,rfl⟩,rfl,rfl⟩)),rfl,h _ (I.hok.fresh (k_ _))⟩
theorem ps_putT(l:X.A.units+64<G3)(n:PE X o td)(hi:PE X i ty)(j:PE X value tv)(m:HB value (a_ (.Subscript o i pos')) pos.line X.env=GU c_):PS X (.Assign [.Subscript o i pos'] value pos) (sPutT X.K td ty tv):=by intro B2 s σ H D I h;refine O6 (E' (j B2 s σ H _ I h) λr s1 B=>?_) m;obtain⟨v,H1,E,d,q1⟩:=B;refine E' (n B2 s1 σ H1 _ E q1) λu s2 B=>?_;obtain⟨x,H2,C,c,q2⟩:=B;refine E' (hi B2 s2 σ H2 _ C q2) λf F B=>?_;obtain⟨y,K,U,Y,a,b,k,xs,ep,ev,ex,w,ea,p,t,G,e⟩:=B;subst ev ex w;cases(show u=FJ a from c);cases(show f=FJ b from Y);cases(show r=LZ d_ from d);obtain⟨q,g,A⟩:=EI U ea p;refine Qb (hsz:=by rw[n_];exact g) (lroom l) (mM U t) A λh' J L=>?_;rw[CU]at J;obtain⟨ep',z⟩:=AA J q (by have:=vM xs k b;lia);exact⟨σ,_,U.dil ea L z,e ep'⟩
def op_inL(L:X.A.units+64<G3):OpR X (Gy .In) (rInL X.K c_):=by intro B2 s σ H y x u v Q I B J h;obtain⟨a,b,k,xs,ep,rfl,rfl,ea,U,t,q⟩:=h;cases(show v=FJ a from J);cases(show u=FJ b from B);obtain⟨Y,d,c⟩:=EI I ea U;refine wpAny_in_heap (lroom L) (mM I t) Y c ?_;rw[atL];exact⟨.bl _,H,I.tok _,rfl,q⟩
def Dx(L:X.A.units+64<G3):OpR X (Gy .NotIn) (rInL X.K d_):=by intro B2 s σ H y x u v Q I B J h;obtain⟨a,b,k,xs,ep,rfl,rfl,ea,U,t,q⟩:=h;cases(show v=FJ a from J);cases(show u=FJ b from B);obtain⟨Y,d,c⟩:=EI I ea U;refine wpAny_notIn_heap (lroom L) (mM I t) Y c ?_;rw[atL];exact⟨.bl _,H,I.tok _,rfl,q⟩
end
def oC:A'->M LK
 |.tup [.int c,.tup B]=>(fH B).bind λrows=>.ok (c,rows)|_=>stk
def bO(k:LK):A':=.tup [.int k.1,.tup (k.2.map ba)]
theorem Ec{k:LK}(h:oC d=.ok k):d=bO k:=by
 unfold oC at h;split at h
 .rename_i c B;cases e:fH B with
  |error x=>simp_all|ok rows=>rw[e]at h;cases h;rw[lL e];rfl
 .cases h
theorem oB{e:Err}(h:oC d=.error e):e=.stuck:=by
 unfold oC at h;split at h
 .rename_i c B;cases e1:fH B with
  |error x=>rw[e1]at h;cases h;exact lM e1|ok rows=>simp_all
 .cases h;rfl
theorem vg{K:Pn}{F:Hp}:∀{rows:List bm} {ys:bp},aw K F (rows.map ba) ys->∃L:List i_,ys=L.map V.ref/\L.length=rows.length/\∀(j:Nat) (B:bm) (c:i_),rows[j]?=a_ B->L[j]?=a_ c->SqT K F c (B.map V.int)
 |[],_,h=>⟨[],h,rfl,λj B c e=>by simp⟩|B::rows,_,⟨v,vs,e,⟨b,xs,ev,t,z⟩,r⟩=>by
  obtain⟨L,e1,l,h⟩:=vg r;have U:=cP z (dv _);subst U;refine⟨b::L,bi,by simp[l],λj J c q1 q2=>?_⟩
  cases j with
  |zero=>cases q1;cases q2;exact t|succ j=>exact h j J c q1 q2
def uf{k:LK}(h:oC d=.ok k)(q:aY K F d v):∃b,v=.ref b/\kA K F b k:=by have:=Ec h;subst this;obtain⟨b,xs,e,t,U,L,e1,q1,g,B,e2,⟨r,ys,c,Y,J⟩,e3⟩:=q;cases(show U=V.int k.1 from q1);subst c;cases(show B=[]from e3);subst e2 e1;obtain⟨f,eb,l,a⟩:=vg J;subst eb;exact⟨b,e,r,f,t,Y,l,a⟩
noncomputable def wX(ρ:ah)(i:Nat):M bT:=match ρ[i]? with
 |some (a_ (.dil ks))=>.ok ks|_=>.error .stuck
def AB{ks:bT}(h:wX ρ i=.ok ks):ρ[i]?=a_ (a_ (.dil ks)):=by
 unfold wX at h;split at h
 .cases h;assumption
 .cases h
def EJ{e:Err}(h:wX ρ i=.error e):e=.stuck:=by
 unfold wX at h;split at h
 .cases h
 .cases h;rfl
noncomputable def isTr:A'->Bool
 |.bl d_=>d_|_=>c_
def oV(i:Nat)(fk fv:ah->M A'):ah->M B':=λρ=>(fv ρ).bind λd=>(wX ρ i).bind λks=>(fk ρ).bind λkd=>(oC kd).bind λk=>if (isTr d&&A_ (ks.length<q_))=d_ then .ok (.nx (ρ.set i (a_ (.dil (putL ks k)))))else .error .stuck
def inLD:A'->A'->M A'
 |kd,.dil ks=>(oC kd).bind λk=>.ok (.bl (A_ (k∈ks)))|_,_=>stk
def tX:A'->A'->M A'
 |kd,.dil ks=>(oC kd).bind λk=>.ok (.bl (!decide (k∈ks)))|_,_=>stk
section
variable{W:cv}{D:Ends}
theorem rs_putT(hi:i∈O)(t:tS K W ro F0 H0 OL O O (oV i fk fv) D σ H):sPutT K (tVar i) (tD K W c_ fk) (tD K W c_ fv) D σ H:=by
 obtain⟨FB,F,ρ,r,p⟩:=t;refine aF r.j9 r.eQ (λe f=>p.eX (r.freeze (O2:=[]) ad).st (by unfold oV;rw[f];rfl)) λd m v F1 H1 s1 q=>?_;have s:oV i fk fv ρ=(wX ρ i).bind λks=>(fk ρ).bind λkd=>(oC kd).bind λk=>if (isTr d&&A_ (ks.length<q_))=d_ then .ok (.nx (ρ.set i (a_ (.dil (putL ks k)))))else .error .stuck:=by unfold oV;rw[m];rfl
 rw[s]at p;cases L:wX ρ i with
 |error e=>have:=EJ L;subst this;exact p.stuck (by rw[L];rfl)|ok ks=>
  rw[L]at p;have p1:c9 K W ro F0 H0 FB OL O D ((fk ρ).bind λkd=>(oC kd).bind λk=>if (isTr d&&A_ (ks.length<q_))=d_ then .ok (.nx (ρ.set i (a_ (.dil (putL ks k)))))else .error .stuck):=p;have J:=r.fX s1;obtain⟨y,e2,a,xs,ev,⟨ep,n⟩,_,_,z⟩:=J.ow i _ (AB L) hi;subst ev;refine⟨.ref a,e2,?_⟩
  refine aF J.j9 J.eQ (λe f=>p1.eX (J.freeze (O2:=[]) ad).st (by rw[f];rfl)) λkd l w A H2 s2 q2=>?_;rw[l]at p1;have p2:c9 K W ro F0 H0 FB OL O D ((oC kd).bind λk=>if (isTr d&&A_ (ks.length<q_))=d_ then .ok (.nx (ρ.set i (a_ (.dil (putL ks k)))))else .error .stuck):=p1;cases B:oC kd with
  |error e=>have:=oB B;subst this;exact p2.stuck (by rw[B];rfl)|ok k=>
   rw[B]at p2;have p3:c9 K W ro F0 H0 FB OL O D (if (isTr d&&A_ (ks.length<q_))=d_ then .ok (.nx (ρ.set i (a_ (.dil (putL ks k)))))else .error .stuck):=p2;by_cases U:(isTr d&&A_ (ks.length<q_))=d_
   .rw[u_ U]at p3;simp only[t_,FO]at U;have u:d=.bl d_:=by
     have h1:=U.1;unfold isTr at h1;split at h1
     .rfl
     .lia
    subst u;cases(show v=V.bl d_ from q);obtain⟨b,rfl,t⟩:=uf B q2;have Y:=J.fX s2;have g:=z.mono (J.eN s2);have j:=t.map (J.kI s2);have h:xs.length=ks.length:=by rw[<- z.1,n_]
    refine⟨a,b,k,xs,ep,rfl,rfl,rfl,s2.hh _ _ n,λx c=>(g.2 x c).mono Y.st.fh,j.mono Y.st.fh,bi,λep'=>p3 σ _ _ (Y.zu hi (AB L) rfl e2 λo h0=>⟨a,_,rfl,⟨ep',av⟩,o,h0,?_,λx c=>?_⟩)⟩
    .rw[rB,z.1]
    .rcases vL c with e|e
     .exact g.2 x e
     simp_all
   .rw[x_ U]at p3;exact p3.stuck rfl
end
noncomputable def isDil:A'->Bool
 |.dil _=>d_|_=>c_
def rInL_D{W:cv}{neg:Bool}{g:A'->A'->M A'}(f:∀kd ks,g kd (.dil ks)=(oC kd).bind λk=>.ok (.bl (if neg=d_ then !decide (k∈ks)else A_ (k∈ks))))(Y:∀a b,isDil b=c_->g a b=stk){x:V}(h:rD2 K W c_ g x y H Q):rInL K neg x y H Q:=by
 obtain⟨F,a,b,s1,L,J,p⟩:=h;cases b with
 |dil ks=>
  rw[f]at p;cases B:oC a with
  |error e=>rw[B]at p;have:=oB B;subst this;exact aE.stuck p|ok k=>
   rw[B]at p;obtain⟨c,rfl,t⟩:=uf B L;obtain⟨d,xs,rfl,⟨ep,i⟩,z⟩:=J;refine⟨d,c,k,xs,ep,rfl,rfl,s1 _ _ i,λx U=>(z.2 x U).mono s1,t.mono s1,?_⟩
   rw[z.1];exact p _ F H (B4.refl s1) rfl
 |_=>rw[Y _ _ rfl]at p;exact aE.stuck p
section
variable{W:cv}{p:MJ}
def de_newL:DE K W d_ X (.Dict [] [] pos) (fC (.dil [])):=pe_newL.imp λσ H Q h=>by obtain⟨F,ρ,r,s,q⟩:=h;exact λa B=>q (.ref a) F _ (B4.grow s B) ⟨a,[],rfl,⟨0,av⟩,s.free B,B,rfl,λx J=>FZ J Gv⟩
def o_inL(B:X.A.units+64<G3)(J: ~~~(X.K=K)):Op2 K W c_ X (Gy .In) inLD:=by subst J;exact(op_inL B).imp λx y H Q h=>rInL_D (neg:=c_) (λ_ _=>rfl) (λa b e=>by cases b<;>first|rfl|cases e) h
def o_notInL(B:X.A.units+64<G3)(J: ~~~(X.K=K)):Op2 K W c_ X (Gy .NotIn) tX:=by subst J;exact(Dx B).imp λx y H Q h=>rInL_D (neg:=d_) (λ_ _=>rfl) (λa b e=>by cases b<;>first|rfl|cases e) h
def ds_putT(L:X.A.units+64<G3)(a:DE K W c_ X ek fk)(b:DE K W c_ X ev fv)(Y:(i∈O)⁻¹)(d: ~~~(X.N[i]?=a_ x))(J:autoParam (Vis X.env.scope x) Jq5)(c:((x==("__debug__":Gh))=c_)⁻¹)(B:((x==("__classdict__":Gh))=c_)⁻¹)(e: ~~~(X.K=K))(U: ~~~(HB ev (a_ (.Subscript (.Name x p) ek pos')) pos.line X.env=GU c_)):DS K W ro X OL O O (.Assign [.Subscript (.Name x p) ek pos'] ev pos) (oV i fk fv):=λF0 H0=>by subst e;exact PS.imp (ps_putT L (pv i d J c B) a b U) λ_ _ _=>rs_putT Y
end
section
open PySem
variable{s:l_}
inductive Ls(prog:GH)(w:Hz)(A:HQ)(h:Gr):List h_->List h_->Bool->Prop
 |nil {us vs:List h_} (e:us=[]\/vs=[]):Ls prog w A h us vs (A_ (us.length<vs.length))
 |eq {u v:h_} {us vs:List h_} {c:Bool} (hv:∀(E:Mq) (s:l_) (Q:Bool->l_->Prop),s.heap=h->Q d_ s->w_ (B_ prog w) A (Kg u v) Q E s) (r:Ls prog w A h us vs c):Ls prog w A h (u::us) (v::vs) c
 |ne {u v:h_} {us vs:List h_} {c:Bool} (hv:∀(E:Mq) (s:l_) (Q:Bool->l_->Prop),s.heap=h->Q c_ s->w_ (B_ prog w) A (Kg u v) Q E s) (hl:∀(E:Mq) (s:l_) (Q:Mq),s.heap=h->Q (.bool c) s->w_ (B_ prog w) A (PC .Lt u v) Q E s):Ls prog w A h (u::us) (v::vs) c
theorem pA{c:Bool}{P:OU->l_->Prop}(n:TupAt s.heap a us)(m:TupAt s.heap b vs)(q:Ls prog w A s.heap us vs c)(h:P (.done (.ret (.bool c))) s):
  w_ (B_ prog w) A (Builtin.«tuple.__lt__» ⟨[.ref a,.ref b],[]⟩) P E s:=by
 have k:=m.ty;obtain⟨z,na,g,_,j⟩:=n;obtain⟨y,nb,f,_,i⟩:=m;show w_ _ _ (Qh (.ref b) (.type "tuple") >>= _) _ _ s;refine b_ (JA k LX ?_);simp only[J7,Gk,HV];refine b_ (JO g j (b_ (JO f i (b_ ?_))));refine Lv _ (λrest r s'=>r.1=f_/\s'=s/\∃J B,rest=List.zip J B/\Ls prog w A s.heap J B c/\J.length+vs.length=us.length+B.length) _ ?_ ?_ _ _ ⟨rfl,rfl,us,vs,ad,q,rfl⟩
 .rintro⟨u,v⟩ rest r s' ⟨d,rfl,J,B,U,L,p⟩;cases L with
  |nil e=>
   rcases e with e|e
   .simp_all
   simp_all
  |eq Y l=>simp only[L8,JX,LF]at U;obtain⟨⟨rfl,rfl⟩,rfl⟩:=U;refine b_ (Y _ _ _ rfl ?_);simp only[J7,Gk,HV];exact g_ ⟨rfl,rfl,_,_,rfl,l,be⟩
  |ne Y t=>simp only[L8,JX,LF]at U;obtain⟨⟨rfl,rfl⟩,rfl⟩:=U;refine b_ (Y _ _ _ rfl ?_);simp only[Qa,Kv];show w_ _ _ (rule _ >>=λ_=>_) _ _ _;refine b_ (Ih (b_ (t _ _ _ rfl ?_)));exact b_ (g_ (g_ (g_ h)))
 .rintro⟨l,x⟩ s' ⟨d,rfl,J,B,U,L,p⟩;simp only at d;subst d;have o:c=A_ (us.length<vs.length):=by
   cases L with
   |nil e=>lia|eq _ _=>simp_all|ne _ _=>simp_all
  rw[o]at h;refine g_ ?_;show P (.done (.ret (.bool (A_ (us.toArray.size<vs.toArray.size))))) s';exact h
def LtI{κ:Type}[Jh κ](I:IK prog w κ)(lt:κ->κ->Bool):Prop:=∀{A:HQ} {E:Mq} {s:l_} {x y:κ} {u v:h_} {Q:Mq},A.units+I.up<G3->I.is s.heap x u->I.is s.heap y v->Q (.bool (lt x y)) s->w_ (B_ prog w) A (PC .Lt u v) Q E s
noncomputable def rL{κ:Type}[Jh κ](lt:κ->κ->Bool):List κ->List κ->Bool
 |x::xs,y::ys=>if x=y then rL lt xs ys else lt x y
 |xs,ys=>A_ (xs.length<ys.length)
def int_lt:LtI (yB prog w) λx y=>A_ (x<y):=λ_ ⟨t,e⟩ ⟨u,f⟩ h=>by subst e f;exact OY h
theorem DX{κ:Type}[Jh κ](I:IK prog w κ){lt:κ->κ->Bool}(U:LtI I lt){h:Gr}(J:A.units+I.up<G3):∀{ks ls:List κ} {us vs:bv},qy (I.is h) ks us->qy (I.is h) ls vs->Ls prog w A h us vs (rL lt ks ls)
 |_,_,_,_,.nil,.nil=>.nil (.inl rfl)|_,_,_,_,.nil,@qy.cons _ _ _ y v ys vs q t=>by
  have e:rL lt [] (y::ys)=A_ (([]:bv).length<(v::vs).length):=by simp[rL]
  rw[e];exact .nil (.inl rfl)
 |_,_,_,_,@qy.cons _ _ _ x u xs us q t,.nil=>by
  have e:rL lt (x::xs) []=A_ ((u::us).length<([]:bv).length):=by simp[rL]
  rw[e];exact .nil (.inr rfl)
 |_,_,_,_,@qy.cons _ _ _ x u xs us q t,@qy.cons _ _ _ y v ys vs q2 Y=>by
  show Ls prog w A h _ _ (if x=y then rL lt xs ys else lt x y);by_cases e:x=y
  .rw[u_ e];exact .eq (λE s Q B L=>I.eqBool J (by rw[B];exact q) (by rw[B];exact q2) bi) (DX I U J t Y)
  .rw[x_ e];exact .ne (λE s Q B L=>I.eqBool J (by rw[B];exact q) (by rw[B];exact q2) bi) λE s Q B L=>U J bi bi L
theorem tup_lt{κ:Type}[Jh κ]{I:IK prog w κ}{lt:κ->κ->Bool}(c:LtI I lt):LtI (tupI I) (rL lt):=λ{A E s x y u v Q} L ⟨a,us,e1,B,Y⟩ ⟨b,vs,e2,J,U⟩ h=>by subst e1 e2;have L:A.units+(I.up+1)<G3:=L;exact NK (op:=.Lt) B.ty J.ty Kt (Gx Kt B.ty OB (pA B J (DX I c ac Y U) ⟨_,rfl,(λe=>nomatch e),h⟩) (Od _ _)) ac
end
theorem yn{κ:Type}[Jh κ]{lt:κ->κ->Bool}(o:Ord lt):Ord (rL lt):=by
 refine⟨λa=>?_,λa b c=>?_,λa b=>?_⟩
 .induction a with
  |nil=>rfl|cons x xs J=>simp[rL,J]
 .induction a generalizing b c with
  |nil=>
   cases b with
   |nil=>simp|cons y ys=>
    intro _ B;cases c with
    |nil=>simp_all[rL]|cons z U=>rfl
  |cons x xs J=>
   intro h1 B;cases b with
   |nil=>simp_all[rL]|cons y ys=>
    cases c with
    |nil=>simp_all[rL]|cons z U=>
     simp only[rL]at h1 B ⊢;by_cases e1:x=y
     .grind
     .rw[x_ e1]at h1;by_cases e2:y=z
      .simp_all
      .rw[x_ e2]at B;have L:=o.tr _ _ _ h1 B;by_cases e3:x=z
       .subst e3;rw[o.irr]at L;cases L
       simp_all
 .induction a generalizing b with
  |nil=>simp[rL]|cons x xs J=>
   cases b with
   |nil=>simp[rL]|cons y ys=>
    simp only[rL];by_cases e:x=y
    .grind
    .rw[x_ e,x_ (HM e)];intro h1 B;exact FZ (o.tot _ _ h1 B) e
abbrev ltR:List bm->List bm->Bool:=rL (rL λx y=>A_ (x<y))
theorem ordR:Ord ltR:=yn (yn ⟨λa=>by simp,λa b c h1 B=>by lia,λa b h1 B=>by lia⟩)
def ltL(k l:LK):Bool:=if k.1=l.1 then ltR k.2 l.2 else A_ (k.1<l.1)
theorem ordL:Ord ltL:=by
 refine⟨λa=>?_,λa b c h1 B=>?_,λa b h1 B=>?_⟩
 .unfold ltL;rw[u_ rfl];exact ordR.irr _
 .unfold ltL at h1 B ⊢;by_cases e1:a.1=b.1
  .rw[u_ e1]at h1;by_cases e2:b.1=c.1
   .rw[u_ e2]at B;rw[u_ (e1.trans e2)];exact ordR.tr _ _ _ h1 B
   simp_all
  grind
 .unfold ltL at h1 B;by_cases e:a.1=b.1
  .rw[u_ e]at h1;rw[u_ e.symm]at B;exact Mo e (ordR.tot _ _ h1 B)
  lia
section
open PySem.W
variable{s:l_}
def LKeys(prog:GH)(w:Hz)(h:Gr)(B:List (LK×i_)):Prop:=∀r∈B,(labI prog w).is h r.1 (.ref r.2)
theorem asks_L{B:List (LK×i_)}(X:A.units+8<G3)(D:LKeys prog w s.heap B)(h2:2<=B.length):Cv prog w A (rk ltL (B.map HK) (0,[])) (B.map λr=>FJ r.2) s:=by
 have Y:∀i,i<B.length->∃(l:i_) (U L:h_),(B.map λr=>FJ r.2).getD i Gu=.ref l/\TupAt s.heap l [U,L]/\(yB prog w).is s.heap ((B.map HK).getD i (0,[])).1 U/\(tupI (tupI (yB prog w))).is s.heap ((B.map HK).getD i (0,[])).2 L:=λi hi=>by obtain⟨a,U,L,e,t,q1,q2⟩:=D B[i] (GA hi);cases e;exact⟨B[i].2,U,L,by simp[hi],t,by simpa[hi] using q1,by simpa[hi] using q2⟩
 have b:∀(k:Nat),k<=B.length->∃fs,KatTups s.heap ((B.map λr=>FJ r.2).drop (B.length-k)) fs/\fs.length=k/\∀v∈fs,∃i t,v=KS i t:=by
  intro k
  induction k with
  |zero=>intro _;exact⟨[],by rw[N6,Le ad];exact P2,rfl,λ_ h=>nomatch h⟩
  |succ k z=>
   intro Z;obtain⟨fs,q1,q2,d⟩:=z ac;have hi:B.length-(k+1)<B.length:=ac
   obtain⟨l,U,L,e1,⟨Q,n,e2,e3,e4⟩,⟨t,e5⟩,_⟩:=Y _ hi;refine⟨U::fs,?_,by simp[q2],λv g=>?_⟩
   .have c:B.length-(k+1)<(B.map λr=>FJ r.2).length:=by rw[n_];exact hi
    rw[Gq c];rw[show B.length-(k+1)+1=B.length-k by lia];rw[getD_get c]at e1;rw[e1];exact PF e2 e3 e4 rfl q1
   .rcases p_.mp g with e|e
    .rw[e];exact⟨_,_,e5⟩
    .exact d v e
 obtain⟨fs,q1,q2,d⟩:=b B.length (k_ _);rw[JS,Jq]at q1;unfold Cv;refine kat_kind (s:=s) (T:=.type "int") q1 ac (λv g=>?_) rfl ⟨rfl,λi j C hi x J=>?_⟩
 .obtain⟨i,t,e⟩:=d v g;rw[e];exact P1 rfl
 .rw[n_]at hi x;unfold NL;obtain⟨N,U,L,e1,⟨S,W,E,_,I⟩,q,o⟩:=Y i hi;obtain⟨K,y,u,e2,⟨R,n2,g2,_,H⟩,p,m⟩:=Y j x;rw[e1,e2];rw[D8 ordL bi bi]at J;generalize (B.map HK).getD i (0,[])=k at q o J;generalize (B.map HK).getD j (0,[])=l at p m J;refine kat_lt (s:=s) E I g2 H ?_;show KatLex prog w _ _ _ _ [(U,y),(L,u)] 0 s;refine kat_cons ((yB prog w).eqBool (by show A.units+0<G3;lia) q p ?_);unfold ltL at J;by_cases e:k.1=l.1
  .rw[u_ e]at J;rw[Jr e];refine kat_yes (kat_cons ((tupI (tupI (yB prog w))).eqBool (by show A.units+(0+1+1)<G3;lia) o m ?_));by_cases f:k.2=l.2
   .rw[Jr f];rw[f,ordR.irr]at J;exact kat_yes (kat_nil J)
   .rw[IF f];show w_ (B_ prog w) _ (oneLt' c_ L u) _ _ _;rw[oneLt'_eq];simp only[Gk,HV];exact b_ (tup_lt (tup_lt int_lt) (by show A.units+(0+1+1)<G3;lia) o m (G4 J))
  .rw[x_ e]at J;rw[IF e];obtain⟨P,G⟩:=q;obtain⟨O,F⟩:=p;subst G F;exact oneLt_int J
end
section
open PySem PySem.W
variable{s:l_}
theorem walksR(f:A.handled=f_)(I d:i_)(Y:d≠I)(es:Array Hn)(ep:Nat):
  Walks prog w A I [I,d] [I] es.size (λi v=>∃e,es[i]?=a_ e/\v=e.key) (λi h=>h.IsKeyIter I d i es.size ep/\uW h d es ep) where
 sub:=λb U=>by simp_all
 frame:=λ_ _ _ st c=>⟨st.1.at λo e=>c I ad o e,st.2.at λo e=>c d ad o e⟩
 item:=λi s Q E hi st L=>by refine rH st.1 st.2 (e:=es[i]) ad λh' J B=>?_;exact L _ h' s.toks ⟨es[i],ad,rfl⟩ ⟨J,st.2.at λo e=>B.extBut d o Y e⟩ λb o U e=>B.extBut b o (λh=>U (by simp[h])) e
 done:=λs Q E st L=>wR f st.1 st.2 (k_ _) λh' a=>L h' s.toks λb o U e=>a b o (λh=>U (by simp[h])) e
 self:=λ_ _ _ _ st L=>Pz st.1 L
def srcR{d:i_}{es:Array Hn}(lo:(d==HW)=c_):KdlSrc prog w "dict" d d es.size (λi v=>∃e,es[i]?=a_ e/\v=e.key) (λh=>uW h d es ep) where
 type:=λ_ z=>z.ty
 there:=λ_ ⟨o,h,_⟩=>⟨s_ h,s_ h⟩
 keep:=λ_ _ z J=>z.at λo e=>J d (.inl rfl) o e
 notList:=by decide
 notTuple:=by decide
 hint:=λ_ _ _ _ z B=>kdl_hint_dict z.ty B
 iter:=λA s L z=>⟨_,_,(λ_ _ B=>rP lo z B),walksR L _ d (let ⟨o,h,_⟩:=z;FR (s_ h)) es ep,⟨⟨_,o_ _ rfl,rfl,rfl⟩,z.at λo e=>e_ _ e⟩⟩
theorem collectR{d:i_}{es:Array Hn}{Q:bv->l_->Prop}(t:A.handled=f_)(lo:(d==HW)=c_)(z:uW s.heap d es ep)(p:es.size<=q_)(h:∀(h':Gr) (tk:Nat),(∀b o,s.heap.get? b=a_ o->h'.get? b=a_ o)->s.heap.objs.size<=h'.objs.size->Q (es.toList.map (·.key)) {s with heap:=h',toks:=tk}):w_ (B_ prog w) A (Qw (.ref d)) Q E s:=by
 have j:d<s.z:=by obtain⟨o,n,_⟩:=z;exact s_ n
 unfold Qw;refine b_ (wpAny_runValue (Ii (OW) ?_));rw[Hd (OV) _];show w_ (B_ prog w) A.in1 (Qv [] >>=λl=>again (.builtin "list.__iadd__" ⟨[l,.ref d],[]⟩)) _ _ s;refine b_ (GD ?_);refine g_ ⟨Jo K1 _,Ii (P5) ?_⟩;rw[Hd (K1) _];have u:(s.heap.push {cls:=.type "list",data:=.seq ([]:bv).toArray}).get? s.z=a_ {cls:=.type "list",data:=.seq #[]}:=o_ _ rfl;refine GS (kdl_extend (A:=A) (s:={s with heap:=s.heap.push {cls:=.type "list",data:=.seq ([]:bv).toArray}})
  (R:=λ(q:Nj) (s':l_)=>∃(h':Gr) (tk:Nat) (B:Array h_) (c:Nat),q=.ok (.ret (.ref s.z))/\s'={s with heap:=h',toks:=tk}/\(∀b o,s.heap.get? b=a_ o->h'.get? b=a_ o)/\h'.get? s.z=a_ {cls:=.type "list",dict:=f_,data:=.seq B c,slots:=#[]}/\B.toList=es.toList.map (·.key))
  (srcR (ep:=ep) lo) t (z.at λo e=>e_ _ e) s.z (HU j) (HU j) (.ref s.z) 0 u
  (λh' tk B c kp L J=>⟨h',tk,B,c,rfl,rfl,λb o e=>kp b o (FR (s_ e)) (e_ _ e),L,(by
    apply KI;intro i;by_cases hi:i<es.size
    .have K:i<B.size:=by rw[J.1];exact hi
     obtain⟨e,I,H⟩:=J.2 i B[i] ad
     simp_all
    .rw[N_ (by rw[GF,J.1];lia),N_ bi])⟩) p) (λg s' x=>?_) λe s' x=>?_
 .have k:∀(s':l_),(∃(h':Gr) (tk:Nat) (B:Array h_) (c:Nat),s'={s with heap:=h',toks:=tk}/\(∀b o,s.heap.get? b=a_ o->h'.get? b=a_ o)/\h'.get? s.z=a_ {cls:=.type "list",dict:=f_,data:=.seq B c,slots:=#[]}/\B.toList=es.toList.map (·.key))->∃(o:L7) (B:Array h_) (c:Nat),s'.heap.get? s.z=a_ o/\o.data=.seq B c/\Q B.toList s':=λs' ⟨h',tk,B,c,e,kp,L,ea⟩=>by
   subst e;exact⟨_,B,c,L,rfl,by rw[ea];exact h h' tk kp (GP (s_ L))⟩
  cases g with
  |done f=>obtain⟨h',tk,B,c,e,r⟩:=x;cases e;obtain⟨⟨G,D,C,v⟩,B,c,L,a,Y⟩:=k s' ⟨h',tk,B,c,r⟩;cases a;show w_ _ A (load s.z >>= _) _ _ _;exact b_ (MG L (g_ Y))
  |again m=>
   refine⟨x.1,JB x.2 λq U y=>?_⟩
   obtain⟨h',tk,B,c,rfl,r⟩:=y;obtain⟨⟨G,D,C,v⟩,B,c,L,a,Y⟩:=k U ⟨h',tk,B,c,r⟩;cases a;show w_ _ A (load s.z >>= _) _ _ _;exact b_ (MG L (g_ Y))
 simp_all
theorem zJ{d:i_}{es:Array Hn}{key:Nat->Int}{Q:Mq}(g:A.handled=f_)(lo:(d==HW)=c_)(z:uW s.heap d es ep)(U:es.toList.map (·.key)=vs)(L:vs.length<=q_)(f:2<=vs.length->∀(h1:Gr) (tk:Nat),(∀b o,s.heap.get? b=a_ o->h1.get? b=a_ o)->Cv prog w A.in1.in1 key vs {s with heap:=h1,toks:=tk})(h:∀(h':Gr) (D:i_) (c tk:Nat) (out:bv),s.heap.objs.size<=D->(∀b o,s.heap.get? b=a_ o->h'.get? b=a_ o)->h'.get? D=a_ (Iw "list" out.toArray c)->Cp key vs out->Q (.ref D) {s with heap:=h',toks:=tk}):
  w_ (B_ prog w) A (Ka (.builtin "sorted") [.ref d]) Q E s:=by
 have hsz:es.size=vs.length:=by rw[<- U,n_,GF]
 refine M9 kind_sorted plain_sorted entry_sorted (args_sorted1 _) ?_;unfold Builtin.«sorted»;refine b_ (m:=checkCount "sorted" 1 1 _) (g_ (b_ (collectR (A:=A.in1) g lo z ac λh1 tk kp B=>?_)));rw[U];refine b_ (Oj ?_ L);have Y:(h1.push (Iw "list" vs.toArray 0)).get? h1.objs.size=a_ (Iw "list" vs.toArray 0):=o_ _ rfl;have J:∀b o,s.heap.get? b=a_ o->b≠h1.objs.size:=λb o q=>FR (s_ (kp b o q));refine b_ (G9 (Gx (s:={s with heap:=h1.push (Iw "list" vs.toArray 0),toks:=tk}) slot_list_sort ⟨_,Y,rfl⟩ entry_list_sort (wk (key:=key) Y L (λj i a=>?_) λh' c out e k' k=>⟨_,rfl,?_⟩) (args_list_sort _)))
 .exact f j i tk λb o q=>a b o (J b o q) (e_ _ (kp b o q))
 .exact g_ ⟨_,rfl,h h' _ c tk out B (λb o q=>k' b o (J b o q) (e_ _ (kp b o q))) k e⟩
end
section
variable{W:cv}
theorem ue{k:LK}(h:kA K F b k):aY K F (bO k) (.ref b):=by
 obtain⟨r,e,a,Y,l,U⟩:=h;refine⟨b,_,rfl,a,V.int k.1,_,rfl,rfl,.ref r,[],rfl,⟨r,_,rfl,Y,?_⟩,rfl⟩
 refine aw.of_get bi λi d v e1 e2=>?_;rw[FQ]at e1 e2;cases L:k.2[i]? with
 |none=>simp_all|some B=>
  cases J:e[i]? with
  |none=>simp_all|some c=>rw[L]at e1;rw[J]at e2;simp only[Jb,Hv]at e1 e2;subst e1 e2;exact⟨c,_,rfl,U i B c L J,kq B⟩
def qO:List A'->M bT
 |[]=>.ok []|d::ds=>(oC d).bind λk=>(qO ds).bind λks=>.ok (k::ks)
def xO:List A'->M A'
 |[.dil ks]=>.ok (.lst ((cZ ltL ks).map bO))|[.lst ds]=>(qO ds).bind λks=>.ok (.lst ((cZ ltL ks).map bO))|_=>stk
theorem wx:∀{ds:List A'} {e:Err},qO ds=.error e->e=.stuck
 |[],_,h=>by cases h|d::ds,e,h=>by
  unfold qO at h;cases e1:oC d with
  |error x=>rw[e1]at h;cases h;exact oB e1|ok k=>
   rw[e1]at h;cases e2:qO ds with
   |error x=>rw[e2]at h;cases h;exact wx e2|ok ks=>simp_all
theorem wu:∀{ds:List A'} {ks:bT},qO ds=.ok ks->ds=ks.map bO
 |[],_,h=>by cases h;rfl|d::ds,ks,h=>by
  unfold qO at h;cases e1:oC d with
  |error x=>simp_all|ok k=>
   rw[e1]at h;cases e2:qO ds with
   |error x=>simp_all|ok ls=>rw[e2]at h;cases h;rw[wu e2,Ec e1];rfl
theorem mE:∀B:List bm,fH (B.map ba)=.ok B
 |[]=>rfl|t::B=>by show(bM (t.map .int)).bind _=_;rw[dv,ai];show(fH (B.map ba)).bind _=_;rw[mE B];rfl
def m7(k:LK):oC (bO k)=.ok k:=by show(fH (k.2.map ba)).bind _=_;rw[mE];rfl
theorem Eb{F:Hp}:∀{ks:bT} {xs:bp},aw K F (ks.map bO) xs->∃B:List (LK×i_),B.map HK=ks/\xs=B.map (λr=>V.ref r.2)/\∀r∈B,kA K F r.2 r.1
 |[],_,h=>⟨[],rfl,h,λr L=>nomatch L⟩
 |k::ks,_,⟨v,vs,e,q,r⟩=>by obtain⟨b,e1,t⟩:=uf (m7 k) q;obtain⟨B,e2,e3,h⟩:=Eb r;exact⟨(k,b)::B,bi,bi,λx J=>(p_.mp J).elim (λz=>by simp_all) (h x)⟩
def v9{B:List (α×i_)}(h:D' (B.map λr=>V.ref r.2) us):us=B.map λr=>FJ r.2:=by
 induction B generalizing us with
 |nil=>cases h;rfl|cons r B J=>
  cases h with
  |cons q t=>rw[J t];cases(show _=FJ r.2 from q);rfl
def E2{k:LK}{v:h_}(x:(labI prog w).is h k v)(e:∀b o,h.get? b=a_ o->h'.get? b=a_ o):(labI prog w).is h' k v:=(labI prog w).keeps x λa o us n q _=>e a o q
theorem sort_out{lt:α->α->Bool}(o:Ord lt){d0:α}{L:α->A'}{B:List (α×i_)}(U:∀r∈B,aY K F (L r.1) (.ref r.2)){ps:bo}(h1:ps.Perm (FN B.length))(Y:Srt (rk lt (B.map HK) d0) ps):
  aw K F ((cZ lt (B.map HK)).map L) (ps.map λi=>(B.map λr=>V.ref r.2).getD i .non):=by
 rw[<- vS o (B.map HK) d0 bi Y,D_];refine aw.of_get ad λk a v J g2=>?_;rw[FQ]at J g2;cases ek:ps[k]? with
 |none=>rw[ek]at J;cases J|some i=>rw[ek]at J g2;simp only[Jb,Hv,MQ]at J g2;have hi:i<B.length:=Gs.mp (h1.mem_iff.mp (Gn ek));rw[getD_get (by simpa using hi)]at J;rw[getD_get (by simpa using hi)]at g2;rw[<- J,<- g2,Ik,Ik];exact U _ (GA hi)
theorem vals_out{J:List (α×i_)}{ps:bo}(h1:ps.Perm (FN J.length)):D' (ps.map λi=>(J.map λr=>V.ref r.2).getD i .non) (ps.map λi=>(J.map λr=>FJ r.2).getD i Gu):=by
 have B:∀i∈ps,i<J.length:=λi hi=>Gs.mp (h1.mem_iff.mp hi);clear h1
 induction ps with
 |nil=>exact .nil|cons i ps L=>have hi:=B i Hu;refine .cons ?_ (L λj U=>B j (Hw _ U));dsimp only;rw[getD_get bi,getD_get bi,Ik,Ik];rfl
def og{lt:α->α->Bool}(o:Ord lt){d0:α}{J:α->A'}{s:l_}{B:List (α×i_)}{D:i_}{tk:Nat}{out:bv}(I:B6 X B2 σ H s)(s1:aU F H)(a:∀r∈B,aY X.K F (J r.1) (.ref r.2))(U:B.length<=q_)(p:aE X.K W d_ F H (.ok (.lst ((cZ lt (B.map HK)).map J))) Q)(L:s.heap.objs.size<=D)(kp:∀b o,s.heap.get? b=a_ o->h'.get? b=a_ o)(e:h'.get? D=a_ (Iw "list" out.toArray c))(Y:Cp (rk lt (B.map HK) d0) (B.map λr=>FJ r.2) out):EP X B2 σ Q (.ref D) {s with heap:=h',toks:=tk}:=by obtain⟨ps,h1,d,rfl⟩:=Y;rw[n_]at h1;have f:B6 X B2 σ (upd H D (.lst (ps.map λi=>(B.map λr=>V.ref r.2).getD i .non))) {s with heap:=h',toks:=tk}:=I.laid (t':=tk) kp L (show gZ _ h' D (.lst _)from⟨by rw[n_,h1.length_eq,HY];exact U,_,c,vals_out h1,e⟩);exact⟨.ref D,_,f,rfl,p.lst s1 (sort_out o a h1 d) (I.hok.fresh L)⟩
theorem Fj(G:X.A.units+64<G3)(w: ~~~(X.calm=d_))(B: ~~~(X.K=K)):n8 K W d_ X (.builtin "sorted") xO:=by
 subst B;intro B2 s σ H xs us Q I m h;obtain⟨F,d,x,s1,e,q,p⟩:=l8 (λds=>by match ds with|[d]=>simp|[]=>exact .inr rfl|a::b::c=>exact .inr (by cases a<;>rfl)) h;subst e;obtain⟨u,rfl,j⟩:=m.one;have L:∀{J:List (LK×i_)} {h':Gr},(∀r∈J,kA X.K F r.2 r.1)->(∀b o,s.heap.get? b=a_ o->h'.get? b=a_ o)->LKeys X.prog X.w h' J:=λ{J h'} B kp r U=>E2 (mM I ((B r U).mono s1)) kp;cases d with
 |dil ks=>obtain⟨a,J,e1,⟨ep,y⟩,ek,B⟩:=q;subst e1;cases j;have p:aE X.K W d_ F H (.ok (.lst ((cZ ltL ks).map bO))) Q:=p;rw[<- ek]at p;obtain⟨v,n,N,o,es,E,g2,C,A⟩:=EH I (s1 _ _ y);refine zJ (key:=rk ltL (J.map HK) (0,[])) (vs:=J.map λr=>FJ r.2) (I.ok.hd w) v ⟨o,E,g2,C⟩ (by rw[A,D_];rfl) bi (λf h1 tk kp=>?_) λh' D c tk out i kp e g=>og ordL I s1 (λr U=>ue (B r U)) n p i kp e g;rw[n_]at f;exact asks_L (s:={s with heap:=h1,toks:=tk}) ac (L B kp) f
 |lst ds=>
  obtain⟨a,ys,e1,t,r⟩:=q;subst e1;cases j;have p:aE X.K W d_ F H ((qO ds).bind λks=>.ok (.lst ((cZ ltL ks).map bO))) Q:=p;cases ek:qO ds with
  |error z=>cases wx ek;rw[ek]at p;exact aE.stuck p|ok ks=>rw[ek,ai]at p;rw[wu ek]at r;obtain⟨J,e2,e3,B⟩:=Eb r;subst e2;obtain⟨its,l,pl,k⟩:=I.list (s1.lst t);subst e3;have Y:=v9 l;subst Y;rw[n_]at k;refine mG (key:=rk ltL (J.map HK) (0,[])) pl.isList bi (λf h1 kp=>?_) λh' D c out g i kp e=>og (tk:=s.toks) ordL I s1 (λr U=>ue (B r U)) k p i kp e g;rw[n_]at f;exact asks_L (s:={s with heap:=h1}) ac (L B kp) f
 |_=>exact aE.stuck p
end
section
open PySem PySem.W
end
section
variable{W:cv}{own:Bool}{f:ah->M A'}
theorem EG(h:DE K W own X e f)(B: ~~~(HB e f_ pos.line X.env=GU c_)):DS K W ro X OL O O (.Expr e pos) (oW O f):=λF0 H0=>PS.imp (tH h B) λD σ H ⟨FB,F,ρ,r,p⟩=>by
 refine aF r.iO r.st.fh (λe L=>p.eX r.st (by simp_all[oW])) λd J v F1 H1 s1 q=>?_;have z:oW O f ρ=.ok (.nx ρ):=by unfold oW;rw[J];rfl
 rw[z]at p;exact p σ F1 H1 (r.step s1)
end
mutual
noncomputable def dW:A'->Bool
 |.tup ds=>gH ds|.lst ds=>gH ds|.ins _ _=>c_|.dic _=>c_|.dil _=>c_|_=>d_
noncomputable def gH:List A'->Bool
 |[]=>d_|d::ds=>dW d&&gH ds
end
mutual
theorem aY.plain{K:Pn}{F F':Hp}(s:∀a xs,SqT K F a xs->SqT K F' a xs)(t:∀a xs,SqL K F a xs->SqL K F' a xs):∀{d:A'} {v:V},dW d=d_->aY K F d v->aY K F' d v
 |.non,_,_,h=>h|.bl _,_,_,h=>h|.int _,_,_,h=>h|.tup ds,_,f,⟨a,xs,e,q,r⟩=>⟨a,xs,e,s _ _ q,aw.plain s t (by simpa[dW] using f) r⟩|.lst ds,_,f,⟨a,xs,e,q,r⟩=>⟨a,xs,e,t _ _ q,aw.plain s t (by simpa[dW] using f) r⟩|.ins _ _,_,f,_=>by simp_all[dW]|.dic _,_,f,_=>by simp_all[dW]|.dil _,_,f,_=>by simp_all[dW]
theorem aw.plain{K:Pn}{F F':Hp}(s:∀a xs,SqT K F a xs->SqT K F' a xs)(t:∀a xs,SqL K F a xs->SqL K F' a xs):∀{ds:List A'} {xs:bp},gH ds=d_->aw K F ds xs->aw K F' ds xs
 |[],_,_,h=>h|d::ds,_,f,⟨v,vs,e,q,r⟩=>by simp only[gH,t_]at f;exact⟨v,vs,e,aY.plain s t f.1 q,aw.plain s t f.2 r⟩
end
def nh(i:Nat)(fk fv:ah->M A'):ah->M B':=λρ=>(fv ρ).bind λd=>(mW ρ i).bind λks=>(fk ρ).bind λkd=>(nq kd).bind λk=>if (dW d&&A_ (ks.length<q_))=d_ then .ok (.nx (ρ.set i (a_ (.dic (l5 ks k d)))))else .error .stuck
@[simp]def e_putDL(i:Nat)(fk fv:ah->M A')(ρ:ah):nh i fk fv ρ=(fv ρ).bind λd=>(mW ρ i).bind λks=>(fk ρ).bind λkd=>(nq kd).bind λk=>if (dW d&&A_ (ks.length<q_))=d_ then .ok (.nx (ρ.set i (a_ (.dic (l5 ks k d)))))else .error .stuck:=id rfl
section
variable{W:cv}{D:Ends}
theorem Rep.minusL(r:Rep K F0 H0 FB [i] F H σ ρ)(B:ρ[i]?=a_ (a_ (.dic ks)))(s:B4 (plus F H (kr [i] [] σ ρ)) H F1 H1)(b:i_)(xs:bp)(h:SqL K F1 b xs):SqL K (minus F1 (kr [i] [] σ ρ)) b xs:=by
 have key:∀{b:i_} {o:HO},F1 b=a_ o->(∀f,o≠.ext f)->minus F1 (kr [i] [] σ ρ) b=a_ o:=λ{b o} h n=>by
  by_cases J:kr [i] [] σ ρ b
  .obtain⟨j,d,L,_,_,e1,e2⟩:=id J;have:=Gj.mp L;subst this;rw[B]at e1;cases e1;obtain⟨v,e3,a,ys,ev,⟨ep,U⟩,_⟩:=r.ow j _ B Hu;rw[e2]at e3;cases e3;cases ev;have:=s.ff _ _ (by rw[eO J];exact U);rw[h]at this;cases this;exact FZ rfl (n _)
  simp_all[gI]
 rcases h with(h|⟨o,h⟩)|h
 .exact .inl (.inl (key h λf z=>nomatch z))
 .exact .inl (.inr ⟨o,key h λf z=>nomatch z⟩)
 .exact .inr h
def rs_putDL(t:tS K W ro F0 H0 OL [i] [i] (nh i fk fv) D σ H):sPut K (tVar i) (tD K W c_ fk) (tD K W c_ fv) D σ H:=by
 obtain⟨FB,F,ρ,r,p⟩:=t;have hi:i∈[i]:=Hu;refine aF r.j9 r.eQ (λe c=>p.eX (r.freeze (O2:=[]) ad).st (by unfold nh;rw[c];rfl)) λd l v F1 H1 s1 q=>?_;have o:nh i fk fv ρ=(mW ρ i).bind λks=>(fk ρ).bind λkd=>(nq kd).bind λk=>if (dW d&&A_ (ks.length<q_))=d_ then .ok (.nx (ρ.set i (a_ (.dic (l5 ks k d)))))else .error .stuck:=by unfold nh;rw[l];rfl
 rw[o]at p;cases L:mW ρ i with
 |error e=>have:=wZ L;subst this;exact p.stuck (by rw[L];rfl)|ok ks=>
  rw[L]at p;have p1:c9 K W ro F0 H0 FB OL [i] D ((fk ρ).bind λkd=>(nq kd).bind λk=>if (dW d&&A_ (ks.length<q_))=d_ then .ok (.nx (ρ.set i (a_ (.dic (l5 ks k d)))))else .error .stuck):=p;have J:=r.fX s1;obtain⟨s,e2,a,xs,ev,⟨ep,m⟩,_,_,z⟩:=J.ow i _ (mq L) hi;subst ev;refine⟨.ref a,e2,?_⟩
  refine aF J.j9 J.eQ (λe c=>p1.eX (J.freeze (O2:=[]) ad).st (by rw[c];rfl)) λkd j w u H2 s2 q2=>?_;rw[j]at p1;have p2:c9 K W ro F0 H0 FB OL [i] D ((nq kd).bind λk=>if (dW d&&A_ (ks.length<q_))=d_ then .ok (.nx (ρ.set i (a_ (.dic (l5 ks k d)))))else .error .stuck):=p1;cases B:nq kd with
  |error e=>have:=m9 B;subst this;exact p2.stuck (by rw[B];rfl)|ok k=>
   rw[B]at p2;have p3:c9 K W ro F0 H0 FB OL [i] D (if (dW d&&A_ (ks.length<q_))=d_ then .ok (.nx (ρ.set i (a_ (.dic (l5 ks k d)))))else .error .stuck):=p2;by_cases U:(dW d&&A_ (ks.length<q_))=d_
   .rw[u_ U]at p3;simp only[t_,FO]at U;obtain⟨b,rfl,t⟩:=pH B q2;have Y:=J.fX s2;have h:aY K (minus F1 (kr [i] [] σ ρ)) d v:=aY.plain (r.kI s1) (r.minusL (mq L) s1) U.1 q;have f:=z.mono (J.eN s2);have g:=J.kI s2 b _ t;exact⟨a,b,k,xs,ep,rfl,rfl,s2.hh _ _ m,f.key.mono Y.st.fh,Y.st.fh.tup g,by rw[z.length];exact U.2,λep'=>p3 σ _ _ (Y.zu hi (mq L) rfl e2 λn h0=>⟨a,_,rfl,⟨ep',av⟩,n,h0,f.put g (h.mono (J.eN s2))⟩)⟩
   .rw[x_ U]at p3;exact p3.stuck rfl
end
section
variable{W:cv}{p:MJ}
theorem Ay(d:X.A.units+64<G3)(U:DE K W c_ X ek fk)(Y:DE K W c_ X ev fv)(b: ~~~(X.N[i]?=a_ x))(J:autoParam (Vis X.env.scope x) Jq5)(a:((x==("__debug__":Gh))=c_)⁻¹)(B:((x==("__classdict__":Gh))=c_)⁻¹)(c: ~~~(X.K=K))(L: ~~~(HB ev (a_ (.Subscript (.Name x p) ek pos')) pos.line X.env=GU c_)):DS K W ro X OL [i] [i] (.Assign [.Subscript (.Name x p) ek pos'] ev pos) (nh i fk fv):=λF0 H0=>by subst c;exact PS.imp (ps_put ac (pv i b J a B) U Y L) λ_ _ _=>rs_putDL
end
section
open PySem PySem.W
end
structure B7 where
 f:i_
 c:h_
 A:HQ
 o:List Oe
 s:l_
 H:Hp
 E:XK
section
variable{base:Gr}{q:Gh}{st:G1}
def YO(_:∃f fd,Def K mg x st ps f fd)(P:GH)(w:Hz)(base:Gr)(k:Nat)(ro:Bool)(m:List A'->M A'):Prop:=∃f fd,Yd P w K mg base CX0 k x st ps (spF K ro m ps.length) f fd
def YM(_:∃f fd,Mth K C x q st ps f fd)(P:GH)(w:Hz)(mg:Ld)(base:Gr)(k:Nat)(ro:Bool)(m:List A'->M A'):Prop:=∃f fd,Mth K C x q st ps f fd/\jr P w K mg base CX0 k f fd ps (spF K ro m ps.length)
def fY(N:List Gh){h:∃f fd,Def K mg x st ps f fd}(J:∀z:B7,N.Nodup->jo k (z.A.deeper (Lj x (aO st) z.s.heap.objs.size z.f z.c))->DSs K HH ro (cxOf CX0 P w K mg base N x (aO st) z.f z.c z.A z.o z.s z.H z.E).nox [] [] [] (cR st) g)(S:autoParam (j8 N ps (aO st)) Jq12):YO h P w base (k+1) ro (bq N.length ps.length g):=
 let ⟨f,fd,D⟩:=h
 ⟨f,fd,D,fn_D D.fn S ro g λc A o s H E B=>J ⟨f,c,A,o,s,H,E⟩ S.nd B⟩
def fM(N:List Gh){h:∃f fd,Mth K C x q st ps f fd}(J:∀z:B7,N.Nodup->jo k (z.A.deeper (Lj q (aO st) z.s.heap.objs.size z.f z.c))->DSs K HH ro (cxOf CX0 P w K mg base N q (aO st) z.f z.c z.A z.o z.s z.H z.E).nox [] [] [] (cR st) g)(S:autoParam (j8 N ps (aO st)) Jq12):YM h P w mg base (k+1) ro (bq N.length ps.length g):=
 let ⟨f,fd,D⟩:=h
 ⟨f,fd,D,fn_D D.fn S ro g λc A o s H E B=>J ⟨f,c,A,o,s,H,E⟩ S.nd B⟩
end
section
variable{W:cv}{a b d:Hb}{p:MJ}{f:ah->M A'}{fr:ah->M (List A')}
def dY{st:G1}(Y:∃f fd,Yd X.prog X.w X.K X.mg X.base CX0 k x st ps (spF K ro (bq nN n g) n) f fd)(U:jo j X.A)(c:DA K HH X (e::es) fr)(a:(k<=j)⁻¹)(b: ~~~(Gl X x))(L:((x==("__debug__":Gh))=c_)⁻¹)(B: ~~~(j_ (e::es) X.env=(c_,Ga e X.env)::j_ es X.env))(J: ~~~((Hl pos (j_ es X.env)).any (·.1)=c_)):
  DE K HH ro X (.Call (.Name x p) (e::es) [] pos) (fL (bq nN n g) fr):=let ⟨_,_,Y⟩:=Y;EU Y.o (U.mono a) Y.d.mg Y.d.fn.kp Y.d.bd c b L B J
def da1(J:DE K W c_ X a fa)(B: ~~~(j_ [a] X.env=[(c_,Ga a X.env)])):DA K W X [a] (aa fa au):=bA J bC B
theorem da2(L:DE K W c_ X a fa)(J:DE K W c_ X b fb)(U: ~~~(j_ [a,b] X.env=[(c_,Ga a X.env),(c_,Ga b X.env)]))(B: ~~~(j_ [b] X.env=[(c_,Ga b X.env)])):DA K W X [a,b] (aa fa (aa fb au)):=bA L (da1 J B) bi
def da3{J B:ah->M A'}(h1:DE K W c_ X e1 J)(Y:DE K W c_ X e2 B)(U:DE K W c_ X e3 f3)(s1: ~~~(j_ [e1,e2,e3] X.env=(c_,Ga e1 X.env)::j_ [e2,e3] X.env))(s2: ~~~(j_ [e2,e3] X.env=(c_,Ga e2 X.env)::j_ [e3] X.env))(L: ~~~(j_ [e3] X.env=(c_,Ga e3 X.env)::j_ [] X.env)):DA K W X [e1,e2,e3] (aa J (aa B (aa f3 au))):=(bA h1 (bA Y (bA U bC L) s2) s1)
def da4{J B:ah->M A'}(h1:DE K W c_ X e1 J)(b:DE K W c_ X e2 B)(a:DE K W c_ X e3 f3)(Y:DE K W c_ X e4 f4)(s1: ~~~(j_ [e1,e2,e3,e4] X.env=(c_,Ga e1 X.env)::j_ [e2,e3,e4] X.env))(s2: ~~~(j_ [e2,e3,e4] X.env=(c_,Ga e2 X.env)::j_ [e3,e4] X.env))(U: ~~~(j_ [e3,e4] X.env=(c_,Ga e3 X.env)::j_ [e4] X.env))(L: ~~~(j_ [e4] X.env=(c_,Ga e4 X.env)::j_ [] X.env)):DA K W X [e1,e2,e3,e4] (aa J (aa B (aa f3 (aa f4 au)))):=(bA h1 (bA b (bA a (bA Y bC L) U) s2) s1)
def da5{J B:ah->M A'}(h1:DE K W c_ X e1 J)(d:DE K W c_ X e2 B)(c:DE K W c_ X e3 f3)(b:DE K W c_ X e4 f4)(a:DE K W c_ X e5 f5)(s1: ~~~(j_ [e1,e2,e3,e4,e5] X.env=(c_,Ga e1 X.env)::j_ [e2,e3,e4,e5] X.env))(s2: ~~~(j_ [e2,e3,e4,e5] X.env=(c_,Ga e2 X.env)::j_ [e3,e4,e5] X.env))(Y: ~~~(j_ [e3,e4,e5] X.env=(c_,Ga e3 X.env)::j_ [e4,e5] X.env))(U: ~~~(j_ [e4,e5] X.env=(c_,Ga e4 X.env)::j_ [e5] X.env))(L: ~~~(j_ [e5] X.env=(c_,Ga e5 X.env)::j_ [] X.env)):DA K W X [e1,e2,e3,e4,e5] (aa J (aa B (aa f3 (aa f4 (aa f5 au))))):=(bA h1 (bA d (bA c (bA b (bA a bC L) U) Y) s2) s1)
def da6{B:Hb}{U L J:ah->M A'}(h1:DE K W c_ X e1 U)(h:DE K W c_ X e2 L)(g:DE K W c_ X e3 f3)(f:DE K W c_ X e4 f4)(e:DE K W c_ X e5 f5)(d:DE K W c_ X B J)(s1: ~~~(j_ [e1,e2,e3,e4,e5,B] X.env=(c_,Ga e1 X.env)::j_ [e2,e3,e4,e5,B] X.env))(s2: ~~~(j_ [e2,e3,e4,e5,B] X.env=(c_,Ga e2 X.env)::j_ [e3,e4,e5,B] X.env))(c: ~~~(j_ [e3,e4,e5,B] X.env=(c_,Ga e3 X.env)::j_ [e4,e5,B] X.env))(b: ~~~(j_ [e4,e5,B] X.env=(c_,Ga e4 X.env)::j_ [e5,B] X.env))(a: ~~~(j_ [e5,B] X.env=(c_,Ga e5 X.env)::j_ [B] X.env))(Y: ~~~(j_ [B] X.env=(c_,Ga B X.env)::j_ [] X.env)):DA K W X [e1,e2,e3,e4,e5,B] (aa U (aa L (aa f3 (aa f4 (aa f5 (aa J au)))))):=(bA h1 (bA h (bA g (bA f (bA e (bA d bC Y) a) b) c) s2) s1)
def b8(Y:X.N.Nodup)(U:DE K W c_ X e f)(hi: ~~~(X.N[i]?=a_ x))(B:autoParam (Loc X.env.scope x) Jq6)(J: ~~~(HB e (a_ (.Name x pos')) pos.line X.env=GU c_))(L:autoParam (X.fn x=d_\/X.env.scope.names.lookup x=a_ .local) Jq4):
  DS K W ro X OL O (aft c_ i O) (.Assign [.Name x pos'] e pos) (aC O i f):=yL Y U hi B J L
def iY(Y:X.N.Nodup)(U:DE K W d_ X e f)(hi: ~~~(X.N[i]?=a_ x))(B:autoParam (Loc X.env.scope x) Jq6)(J: ~~~(HB e (a_ (.Name x pos')) pos.line X.env=GU c_))(L:autoParam (X.fn x=d_\/X.env.scope.names.lookup x=a_ .local) Jq4):
  DS K W ro X OL O (aft d_ i O) (.Assign [.Name x pos'] e pos) (aC O i f):=yL Y U hi B J L
end
section
variable{f:i_}{q:Gh}{st:G1}
def dF(J:K.In h)(G:h.Ns G6 mg)(a:autoParam (nsIn K G6 x=a_ (a_ (.ref f))) Jq2)(l:autoParam (K.lookup f=a_ ⟨oc,od,.func (Ni x x (eZ st) (cR st) (aO st) .none kV doc pm an cdv ct),osl⟩) Jq2)(c:autoParam (NX K cdv x=d_) Jq2)(k:autoParam (Kw K (.ref f)=d_) Jq2)(B:autoParam (∀(kV doc pm:h_) (an:Option i_) (cdv ct:h_) (us:bv),us.length=ps.length->MX (Ni x x (eZ st) (cR st) (aO st) .none kV doc pm an cdv ct) ⟨us,[]⟩=GU (ps.zip us)) Jq13):∃f fd,Def K mg x st ps f fd:=⟨_,_,def_of J G a l c k B⟩
def mF(a:autoParam (Kx K (.ref C) x=a_ (a_ (.ref f))) Jq2)(i:autoParam (isFn K (.ref f)=d_) Jq2)(l:autoParam (K.lookup f=a_ ⟨oc,od,.func (Ni x q (eZ st) (cR st) (aO st) .none kV doc pm an cdv ct),osl⟩) Jq2)(c:autoParam (NX K cdv q=d_) Jq2)(k:autoParam (Kw K (.ref f)=d_) Jq2)(B:autoParam (∀(kV doc pm:h_) (an:Option i_) (cdv ct:h_) (us:bv),us.length=ps.length->MX (Ni x q (eZ st) (cR st) (aO st) .none kV doc pm an cdv ct) ⟨us,[]⟩=GU (ps.zip us)) Jq13):∃f fd,Mth K C x q st ps f fd:=⟨_,_,(⟨Ar l c k,⟨a,i,k⟩,(Ar l c k).binds B⟩)⟩
def kF(e:K.In h)(G:h.Ns G6 mg)(a:autoParam (nsIn K G6 x=a_ (a_ (.ref C))) Jq2)(J:autoParam (NW K C Str.empty=d_) Jq2)(U:autoParam (OR K C=d_) Jq2)(B:autoParam (QG K C=d_) Jq2)(sa:autoParam (Kx K (.ref C) "__setattr__"=a_ (a_ (.builtin "object.__setattr__"))) Jq2)(L:autoParam (Qy K C=d_) Jq2)(kp:autoParam (Kw K (.ref C)=d_) Jq2)(d:autoParam (Kx K (.ref C) "__class__"=a_ (a_ (.builtin "object.__class__"))) Jq2)(c:autoParam (OO K (.builtin "object.__class__") "__get__"=a_ (a_ (.builtin "getset_descriptor.__get__"))) Jq2)(b:autoParam (ON K (.builtin "object.__class__")=a_ d_) Jq2)(Y:autoParam (Po K C (.type "object")=a_ d_) Jq2):Kls K mg x C:=⟨⟨J,U,B,sa⟩,mg_of e G a,L,kp,d,c,b,Y⟩
def lF{y:Gh}(L:K.In h)(G:h.Ns G6 mg)(a:autoParam (nsIn K G6 x=a_ (a_ (.ref f))) Jq2)(l:autoParam (K.lookup f=a_ ⟨oc,od,.func (Ni x x (eZ st) (cR st) (aO st) .none kV doc pm an cdv ct),osl⟩) Jq2)(c:autoParam (NX K cdv x=d_) Jq2)(k:autoParam (Kw K (.ref f)=d_) Jq2)(B:∀(kV doc pm:h_) (an:Option i_) (cdv ct:h_) (v:h_),MX (Ni x x (eZ st) (cR st) (aO st) .none kV doc pm an cdv ct) ⟨[v],[]⟩=GU [(y,v)]:=by intros;rfl):∃f fd,Def K mg x st [y] f fd/\∀(s:l_) (v:h_),Mn s fd ⟨[v],[]⟩ [(y,v)]:=
 ⟨_,_,def_of L G a l c k λ_ _ _ _ _ _ us J=>match us,J with|[_],_=>B ..,λ_ _=>.of_eq (B ..)⟩
theorem Fun.uniq{B:IG}(a:Fun K x q st f fd)(b:Fun K x q st f B):fd=B:=by
 obtain⟨oc,od,kV,doc,pm,an,cdv,ct,osl,rfl,j,_⟩:=a.ex;obtain⟨d,c,g,L,Y,i,U,h,J,rfl,e,_⟩:=b.ex
 lia
def rS(N:∃f fd,Mth K C x q st ps f fd)(a:autoParam (Kx K (.ref C) x=a_ (a_ (.ref f))) Jq2)(s1:autoParam (OO K (.ref C) "__getattribute__"=a_ (a_ (.builtin "type.__getattribute__"))) Jq9)(s2:autoParam (OQ K C mc=d_) Jq9)(J:autoParam (OS K (.ref C) mc x=a_ (.val (.ref f))) Jq9)(B:autoParam (Kw K (.ref f)=d_) Jq2):∃f fd,Mth K C x q st ps f fd/\Stat K C mc x f:=by obtain⟨L,fd,M⟩:=N;have e:=M.mt.1.symm.trans a;cases e;exact⟨_,fd,M,s1,s2,J,B⟩
end
noncomputable abbrev PKs:=List ((Gh×Gh)×Int)
structure Jst where
 dk:List A'
 dn:List A'
 df:List A'
 dc:List A'
 g:PKs
 b:PKs
structure Jad where
 p:i_
 T:i_
 g:i_
 b:i_
 k:i_
 n:i_
 f:i_
 c:i_
section
open PySem.W
end
section
open PySem PySem.W
end
section
open PySem.W
end
section
open PySem PySem.W
end
section
open PySem.W
end
def ItLL(a:i_)(xs:List (LK×i_))(ep:Nat):It:=
 ⟨λi H=>H a=a_ (xC a xs ep)/\i<xs.length,λi H v H'=>∃x,v=.ref x.2/\xs[i]?=a_ x/\H'=H,λi H=>H a=a_ (xC a xs ep)/\xs.length<=i⟩
def yb{s:l_}{xs:List (LK×i_)}(I:B6 X B2 σ H s)(e:H a=a_ (xC a xs ep)):∃es:Array Hn,(a==HW)=c_/\uW s.heap a es ep/\es.toList=xs.map rowL/\es.size=xs.length:=by obtain⟨J,b,Y,o,es,h1,U,L,B⟩:=EH I e;exact⟨es,J,⟨o,h1,U,L⟩,B,by rw[<- GF,B,n_]⟩
theorem CK(a q:i_)(xs:List (LK×i_))(ep:Nat):Turn P w K tg (ItLL a xs ep) [q] q (λi h=>h.IsKeyIter q a i xs.length ep) where
 mem:=by simp
 obj:=λi h st b J=>by
  obtain⟨o,e,c,d⟩:=st;have:b=q:=by simpa using J
  subst this;exact⟨_,e,λv z=>by rw[d]at z;cases z⟩
 keep:=λi h h' st m=>let ⟨o,e,r⟩:=st;⟨o,m q ad _ e,r⟩
 item:=by
  intro X Y hw f l i B2 s σ H E I L st U;subst Y hw f;obtain⟨h0,hi⟩:=U;obtain⟨es,p,z,k,hsz⟩:=yb I h0;rw[<- hsz]at st;obtain⟨j,g,t,f3,f4,f5⟩:=L q ad;have n:es[i]?=a_ (rowL xs[i]):=by rw[<- Lm,k,FQ,y_ hi];rfl
  refine rH st z n λh' B sb=>?_;have u:B6 X B2 σ H {s with heap:=h'}:=I.turned (t':=s.toks) (λb o J e=>(sb.2 b J).trans e) j g f3 f4 f5;obtain⟨o,e,c,d⟩:=id B;exact⟨_,rfl,go_of (s:={s with heap:=h'}) e c d am ⟨.ref xs[i].2,H,u,rfl,⟨xs[i],rfl,y_ hi,rfl⟩,by rw[hsz]at B;exact B,λb J=>(L b J).1⟩⟩
 done:=by intro X Y hw f l i B2 s σ H E I L st U;subst Y hw f;obtain⟨h0,hi⟩:=U;obtain⟨es,p,z,k,hsz⟩:=yb I h0;rw[<- hsz]at st;obtain⟨j,g,t,f3,f4,f5⟩:=L q ad;exact wR (I.ok.hd l) st z ac λh' eb=>⟨rfl,I.turned (t':=s.toks) (λb o J e=>eb b o J e) j g f3 f4 f5⟩
 self:=λ_ _ _ _ _ st h=>Pz st h
def Eg{xs:List (LK×i_)}{ks:bT}(L:F a=a_ (xC a xs ep))(z:zo K F ks xs):o6 K F (ItLL a xs ep) (ks.map bO) where
 go:=λi F' H' s1 s2 hi=>⟨s2 _ _ (s1 _ _ L),by rw[<- z.1]at hi;simpa using hi⟩
 yl:=λi F' H' x H2 d s1 s2 J U=>by obtain⟨y,ev,B,Y⟩:=U;subst ev Y;rw[<- z.1,D_,FQ,B]at J;cases J;exact⟨F',B4.refl s2,ue ((z.2 y (Gn B)).mono s1)⟩
 st:=λF' H' s1 s2=>⟨s2 _ _ (s1 _ _ L),by rw[<- z.1];simp⟩
def pJ:A'->M (List A')
 |.lst ds=>.ok ds|.dil ks=>.ok (ks.map bO)|_=>.error .stuck
def fItL(fa:ah->M A'):ah->M (List A'):=λρ=>(fa ρ).bind pJ
@[simp]def e_fItL{fd:ah->M A'}{ρ:ah}:fItL fd ρ=(fd ρ).bind pJ:=id rfl
@[simp]def e_itemsLL(ks:bT):pJ (.dil ks)=.ok (ks.map bO):=id rfl
@[simp]def e_itemsLLl(ds:List A'):pJ (.lst ds)=.ok ds:=id rfl
def EM{W:cv}{o:Hb}{fd:ah->M A'}(i:DE K W c_ X o fd)(k: ~~~(X.K=K)):DI K W X tg o (fItL fd):=by
 subst k;intro B2 s σ H R I ⟨F,ρ,r,g,p⟩;have p:(match (fd ρ).bind pJ with
  |.ok ds=>∀U F1 H1,B4 F H F1 H1->o6 X.K F1 U ds->R U H1|.error e=>W.p e F H):=p
 refine E' (i B2 s σ H (λv H1=>∃d F1,fd ρ=.ok d/\B4 F H F1 H1/\aY X.K F1 d v) I (aF r g (λe Y=>by rw[Y]at p;exact p) λd J v F1 H1 s1 q=>⟨d,F1,J,s1,q⟩)) λv s1 h=>?_;obtain⟨y,H1,B,L,d,F1,J,st,q⟩:=h;rw[J]at p;have fp:∀b,b∈[s1.z]->_:=λb j=>by
  have e:b=s1.z:=by simpa using j
  subst e;exact B.fpOk (k_ _) (B.hok.fresh (k_ _))
 cases d with
 |lst ds=>obtain⟨l,xs,e1,t,z⟩:=q;subst e1;cases L;obtain⟨its,m,pl,n⟩:=B.list (st.fh.lst t);exact K9 pl.isList ⟨s1.z,[s1.z],_,_,H1,rfl,B.kept (t':=s1.toks) λb o e=>e_ _ e,vd l _,⟨_,o_ _ rfl,rfl,rfl⟩,fp,p _ F1 H1 st (wz t z)⟩
 |dil ks=>obtain⟨a,xs,e1,⟨ep,c⟩,z⟩:=q;subst e1;cases L;obtain⟨es,J,f,Y,hsz⟩:=yb B (st.fh _ _ c);exact rP J f ⟨s1.z,[s1.z],_,_,H1,rfl,B.kept (t':=s1.toks) λb o e=>e_ _ e,CK a _ xs ep,⟨_,o_ _ rfl,rfl,by rw[<- hsz];rfl⟩,fp,p _ F1 H1 st (Eg c z)⟩
 |_=>exact(W.ns p).elim
def ja:List A'->M bT
 |[]=>.ok []|.tup [kd,.bl d_]::ds=>(oC kd).bind λk=>(ja ds).bind λr=>.ok (k::r)|_=>stk
def AD:List A'->M A'
 |[.lst ds]=>(ja ds).bind λks=>.ok (.dil (ks.foldl putL []))|_=>stk
@[simp]def ur(ds:List A'):AD [.lst ds]=(ja ds).bind λks=>.ok (.dil (ks.foldl putL [])):=id rfl
theorem rG:∀{ds:List A'} {e:Err},ja ds=.error e->e=.stuck
 |[],_,h=>by cases h|d::ds,e,h=>by
  unfold ja at h;split at h
  .cases h
  .rename_i kd U L;cases J:oC kd with
   |error z=>rw[J]at h;have:=oB J;subst this;cases h;rfl|ok k=>
    rw[J]at h;cases B:ja U with
    |error z=>rw[B]at h;cases L;have:=rG B;subst this;cases h;rfl|ok r=>rw[B]at h;cases h
  .cases h;rfl
def E1:KKeep (yy prog w):=λz e=>E2 z e
def yH(J:List (LK×i_))(B:List (LK×i_)):List (LK×i_):=J.foldl (λa x=>lV a x.1 x.2) B
theorem s9:∀(J B:List (LK×i_)),(J.map enL).foldl stR (B.map enL)=(yH J B).map enL
 |[],_=>rfl|r::J,B=>by show(J.map enL).foldl stR (Mj (B.map enL) r.1 r.2 (.bool d_))=_;rw[CU];exact s9 J _
theorem sd:∀(J B:List (LK×i_)),(yH J B).map (·.1)=(J.map (·.1)).foldl putL (B.map (·.1))
 |[],_=>rfl|r::J,B=>by show(yH J (lV B r.1 r.2)).map _=(J.map (·.1)).foldl putL (putL (B.map (·.1)) r.1);rw[sd,rB]
theorem wH{P:LK×i_->Prop}:∀(J B:List (LK×i_)),(∀x∈J,P x)->(∀x∈B,P x)->∀x∈yH J B,P x
 |[],_,_,h=>h|r::J,B,h1,U=>wH J (lV B r.1 r.2) (λx L=>h1 x (by simp[L])) λx L=>by
  rcases vL L with e|e
  .exact U x e
  .subst e;exact h1 _ ad
theorem wI:∀(J B:List (LK×i_)),(yH J B).length<=B.length+J.length
 |[],_=>k_ _|r::J,B=>by have h1:=wI J (lV B r.1 r.2);have L:=vM B r.1 r.2;show(yH J (lV B r.1 r.2)).length<=_;rw[E_];lia
section
variable{W:cv}
theorem vR{B2:Vp}{σ:St}{F H:Hp}{s:l_}(I:B6 X B2 σ H s)(m:aU F H):∀{ds:List A'} {ys:bp} {its:bv} {ks:bT},aw X.K F ds ys->D' ys its->ja ds=.ok ks ->
  ∃J:List (LK×i_),J.map (·.1)=ks/\J.length=its.length/\(∀r∈J,kA X.K F r.2 r.1)/\∀(j:Nat) (x:LK×i_×h_),(J.map enL)[j]?=a_ x->∃T,its[j]?=a_ (.ref T)/\N5 s.heap T #[.ref x.2.1,x.2.2]/\(yy X.prog X.w).is s.heap x.1 x.2.1
 |[],_,_,_,h,r,e=>by rw[show _=[]from h]at r;cases r;cases e;exact⟨[],rfl,rfl,λr g=>(nomatch g),λj x h=>by simp at h⟩
 |d::ds,_,_,ks,⟨v,vs,ev,q,t⟩,r,e=>by
  subst ev;cases r with
  |cons K J=>
   rename_i u us;unfold ja at e;split at e
   .rename_i B;cases B
   .rename_i kd Z B;cases B;cases l:oC kd with
    |error z=>rw[l]at e;cases e|ok k=>
     rw[l]at e;cases i:ja ds with
     |error z=>rw[i]at e;cases e|ok f=>
      rw[i]at e;have e:GX (k::f)=(GX ks:M _):=e;cases e;obtain⟨L,h1,P,O,N⟩:=vR I m t J i;obtain⟨T,ws,W,E,v1,p,S,q1,w,Y,n,q2,o⟩:=q;subst W S n;have o:Y=[]:=o;subst o;cases(show u=FJ T from K);cases(show w=V.bl d_ from q2);obtain⟨b,rfl,tb⟩:=uf l q1;obtain⟨D,G,C,_⟩:=I.tuple (m.tup E);obtain⟨A,y,rfl,c,a⟩:=G.two;cases(show A=FJ b from c);cases(show y=LZ d_ from a);refine⟨(k,b)::L,by simp[h1],by simp[P],λr g=>?_,λj x U=>?_⟩
      .rcases p_.mp g with e|e
       .subst e;exact tb
       .exact O r e
      .cases j with
       |zero=>simp only[r_,K2,Hv]at U;subst U;exact⟨T,rfl,C,mM I (tb.mono m)⟩|succ j=>simp only[r_,Hc]at U;obtain⟨T',R,Q⟩:=N j x U;exact⟨T',by simpa using R,Q⟩
   .cases e
theorem c_dictLD(Z:X.A.units+64<G3)(D: ~~~(X.calm=d_))(G: ~~~(X.K=K)):n8 K W d_ X (.type "dict") AD:=by
 subst G;intro B2 s σ H xs us Q I A h;obtain⟨F,d,x,s1,e,q,p⟩:=l8 (λds=>by match ds with|[d]=>exact .inl ⟨d,rfl⟩|[]=>exact .inr rfl|a::b::c=>exact .inr (by cases a<;>rfl)) h;subst e;obtain⟨u,rfl,y⟩:=A.one;cases d with
 |lst ds=>
  obtain⟨a,ys,e1,t,r⟩:=q;subst e1;cases y;have p':aE X.K W d_ F H ((ja ds).bind λks=>.ok (.dil (ks.foldl putL []))) Q:=p;cases Y:ja ds with
  |error z=>rw[Y]at p';have:=rG Y;subst this;exact aE.stuck p'|ok ks=>
   rw[Y]at p';obtain⟨its,m,pl,C⟩:=I.list (s1.lst t);obtain⟨o,n,S,U,B,J⟩:=id pl;obtain⟨oc,od,g,osl⟩:=o;cases(show oc=.type "list" from U);cases(show od=f_ from B);cases(show g=.seq its.toArray n from J);obtain⟨L,h1,v,O,N⟩:=vR I s1 r m Y;have E:L.length<=q_:=by rw[v,<- m.length];exact C
   refine Ce (knd:=yy X.prog X.w) (I.ok.hd D) E1 (by show X.A.units+1+1+3<G3;lia) S (L.map enL) (by simp[v]) (by simpa using E) (λj x i=>by obtain⟨T,R,P⟩:=N j x i;exact⟨T,by simpa using R,P⟩) λh' f kp w=>?_;rw[show([]:List (LK×i_×h_))=([]:List (LK×i_)).map enL from rfl,s9]at w;have k:(yH L []).length<=q_:=by have:=wI L [];simp at this;lia
   obtain⟨ep,z⟩:=AA w (Nx.mpr (HM (FR I.big))) k;have l:=I.hok.fresh (k_ s.z);refine⟨.ref s.z,_,I.laid (a:=s.z) (o:=xC s.z _ ep) (t':=f) (λb o e=>kp b o e) (k_ _) (yM z),rfl,p' (.ref s.z) F _ (B4.grow s1 l) ⟨s.z,_,rfl,⟨ep,av⟩,s1.free l,l,?_,wH L [] O λx i=>nomatch i⟩⟩
   rw[sd,h1];rfl
 |_=>exact aE.stuck p
end
def ixKD:A'->A'->M A'
 |.dic ks,kd=>(nq kd).bind λk=>match rV ks k with
  |some d=>.ok d|none=>stk
 |_,_=>stk
@[simp]def wV(ks:List (bm×A'))(kd:A'):ixKD (.dic ks) kd=(nq kd).bind λk=>match rV ks k with|some d=>.ok d|none=>stk:=id rfl
def rIxK(K:Pn):R2:=λx y H Q=>∃a b k xs ep v,x=.ref a/\y=.ref b/\H a=a_ (oM a xs ep)/\nG K H xs/\SqT K H b (k.map V.int)/\v7 xs k=a_ v/\Q v H
theorem ix_K(i:X.A.units+1<G3):IxR X (rIxK X.K):=by
 intro value B B2 s σ H x y v u Q I f d h j;obtain⟨a,b,k,xs,ep,z,rfl,rfl,ea,l,t,e,q⟩:=h;cases(show v=FJ a from f);cases(show u=FJ b from d);obtain⟨vs,g,n,m,c⟩:=AE I ea l;have L:=oh (k:=k) g;rw[e]at L;obtain⟨w,Y,J⟩:=L.some_of;cases U:OM vs k with
 |none=>simp_all|some p=>rw[U]at Y;cases Y;exact LN (x:=p.2) c.typeIs slot_dict_getitem.lookup (wpAny_getItem_heap (Q:=λr s'=>r=p.2/\EP X B2 σ Q r s') (MH i) (oO I t) c U ⟨rfl,z,H,I.tok _,J,q⟩) j
theorem x_ixK{W:cv}(f:X.A.units+64<G3)(Y: ~~~(X.K=K)):IxR X (rD2 K W c_ ixKD):=by
 subst Y;refine(ix_K (X:=X) ac).imp λx y H Q h=>?_;obtain⟨F,a,b,s1,L,J,p⟩:=h;cases a with
 |dic ks=>
  have p:aE X.K W c_ F H ((nq b).bind λk=>match rV ks k with|some d=>.ok d|none=>stk) Q:=p;cases B:nq b with
  |error e=>rw[B]at p;have:=m9 B;subst this;exact aE.stuck p|ok k=>
   rw[B,ai]at p;obtain⟨a,xs,rfl,⟨ep,U⟩,z⟩:=L;obtain⟨c,rfl,t⟩:=pH B J;rcases z.at (k:=k)with⟨e1,_⟩|⟨d,v,e1,e2,q⟩
   .rw[e1]at p;exact aE.stuck p
   .rw[e1]at p;exact⟨a,c,k,xs,ep,v,rfl,rfl,s1 _ _ U,z.key.mono s1,s1.tup t,e2,p v F H (B4.refl s1) q⟩
 |_=>exact aE.stuck p
section
open PySem.W
variable{s:l_}
def BJ{c:Bool}{Q:Bool->l_->Prop}(L:A.units<G3)(B:TupAt s.heap a us)(J:TupAt s.heap b vs)(U:Ls prog w A.in1 s.heap us vs c)(h:Q c s):w_ (B_ prog w) A (keyLt' oneType' (.ref a) (.ref b)) Q E s:=by rw[keyLt'_oneType,oneLt'_eq];simp only[Kv];refine b_ (wpAny_cRoomFor L ?_);refine b_ (wpAny_callSpecialIfBound?_slot B.ty Kt (Gx Kt B.ty OB (pA B J U ⟨_,rfl,?_⟩) (Od _ _)));exact G4 h
theorem si:∀(vs:bv),(∀v∈vs,∃a us,v=.ref a/\TupAt s.heap a us)->∃fs:List (Option h_),(∀Q:List (Option h_)->l_->Prop,Q fs s->w_ (B_ prog w) A (vs.mapM firstOfTuple') Q E s)/\∀a,vs.head? =a_ (.ref a)->TupAt s.heap a []->fs.head? =a_ f_
 |[],_=>⟨[],λQ h=>by rw[List.mapM_nil];exact g_ h,λa e=>by cases e⟩|v::vs,h=>by
  obtain⟨fs,h1,_⟩:=si vs λv J=>h v (by simp[J]);obtain⟨a,us,rfl,o,n,B,c,Y⟩:=h v ad;refine⟨us[0]?::fs,λQ f=>?_,λb e t=>?_⟩
  .rw[List.mapM_cons];refine b_ ?_;rw[kas_first_eq];refine b_ (Ox (show Looks (B_ prog w) s.heap (typeOf (.ref a)) o.cls from(Looks.ld B).andThen .now) ?_);rw[c,x_ ad];refine b_ (listItems_at B Y (g_ ?_));exact b_ (h1 _ (g_ bi))
  .cases e;obtain⟨o',d,L,_,U⟩:=t
   simp_all
theorem kind0{Q:N4->l_->Prop}(h0:vs.head? =a_ (.ref a))(d:TupAt s.heap a [])(U:∀v∈vs,∃a us,v=.ref a/\TupAt s.heap a us)(h:Q oneType' s):w_ (B_ prog w) A (keyKind' vs.toArray) Q E s:=by
 obtain⟨fs,h1,J⟩:=si (prog:=prog) (w:=w) (A:=A) (E:=E) vs U;have J:=J a h0 d;rw[keyKind'_eq,Pg,map_eq_pure_bind];refine b_ (b_ (h1 _ (g_ ?_)));obtain⟨f,fs,rfl⟩:∃f fr,fs=f::fr:=by
  cases fs with
  |nil=>cases J|cons f fr=>lia
 cases J;rw[x_ ad,x_ ad];rw[oneTypeOnly'_eq,Pg,map_eq_pure_bind];have ty:∀v∈vs,Looks (B_ prog w) s.heap (typeOf v) (HD "tuple"):=λv L=>by obtain⟨b,us,rfl,o,n,c,e,g⟩:=U v L;rw[<- e];exact(Looks.ld c).andThen .now
 refine b_ (b_ (b_ (kas_mapM (r:=HD "tuple") _ (λv L i Y=>(ty v L).here Y) (g_ ?_))));cases vs with
 |nil=>cases h0|cons v vs=>
  have B:((P7 (λ_=>HD "tuple") (v::vs)).toArray.all λx=>x==HD "tuple")=d_:=by simp only[List.all_toArray,List.all_map,Im];intro _ _;rfl
  have h0:(P7 (λ_=>HD "tuple") (v::vs)).toArray[0]?=a_ (HD "tuple"):=by simp
  rw[h0];simp only[B,Kv];exact g_ (g_ h)
abbrev BK:bm->bm->Bool:=rL ltZ
def ordI:Ord BK:=yn ordZ
def TKs0(prog:GH)(w:Hz)(h:Gr)(B:List (bm×i_)):Prop:=∀r∈B,(tupI (yB prog w)).is h r.1 (.ref r.2)
theorem Fy{B:List (bm×i_)}(m:A.units+8<G3)(h:TKs0 prog w s.heap B)(h0:(B.map HK).head? =a_ []):Cv prog w A (rk BK (B.map HK) []) (B.map λr=>FJ r.2) s:=by
 have J:∀r∈B,∃us,TupAt s.heap r.2 us/\qy ((yB prog w).is s.heap) r.1 us:=λr g=>by obtain⟨a,us,e,t,z⟩:=h r g;cases e;exact⟨us,t,z⟩
 cases B with
 |nil=>cases h0|cons L B=>
  have k:L.1=[]:=by simpa using h0
  unfold Cv;refine kind0 (a:=L.2) rfl ?_ (λv l=>?_) ⟨rfl,λi j C hi U Y=>?_⟩
  .obtain⟨us,t,z⟩:=J L ad;rw[k]at z;cases z;exact t
  .grind
  .rw[n_]at hi U;rw[D8 ordI bi bi]at Y;obtain⟨us,f,c⟩:=J _ (GA hi);obtain⟨vs,d,b⟩:=J _ (GA U);unfold NL;rw[getD_get (by rw[n_];exact hi),getD_get (by rw[n_];exact U),Ik,Ik];rw[getD_get (by rw[n_];exact hi),getD_get be,Ik,Ik]at Y;exact BJ ac f d (DX _ int_lt (by show A.units+1+0<G3;lia) c b) Y
end
def kW:List A'->M A'
 |[.dic ks]=>if (ks.map (·.1)).head? =a_ []then .ok (.lst ((cZ BK (ks.map (·.1))).map ba))else stk
 |[.lst ds]=>(fH ds).bind λB=>if B.head? =a_ []then .ok (.lst ((cZ BK B).map ba))else stk
 |_=>stk
@[simp]def sk(ks:List (bm×A')):kW [.dic ks]=if (ks.map (·.1)).head? =a_ []then .ok (.lst ((cZ BK (ks.map (·.1))).map ba))else stk:=id rfl
@[simp]def sj(ds:List A'):kW [.lst ds]=(fH ds).bind λB=>if B.head? =a_ []then .ok (.lst ((cZ BK B).map ba))else stk:=id rfl
section
variable{W:cv}
def tk_keep{k:bm}{v:h_}(x:(tupI (yB prog w)).is h k v)(e:∀b o,h.get? b=a_ o->h'.get? b=a_ o):(tupI (yB prog w)).is h' k v:=(tupI (yB prog w)).keeps x λa o us n q _=>e a o q
theorem vf{F:Hp}:∀{J:List bm} {xs:bp},aw K F (J.map ba) xs->∃B:List (bm×i_),B.map HK=J/\xs=B.map (λr=>V.ref r.2)/\∀r∈B,SqT K F r.2 (r.1.map V.int)
 |[],_,h=>⟨[],rfl,h,λr U=>(nomatch U)⟩
 |t::J,_,⟨v,vs,e,⟨b,ys,ev,q,z⟩,r⟩=>by obtain⟨B,e2,e3,h⟩:=vf r;have Y:=cP z (dv _);subst Y;exact⟨(t,b)::B,bi,bi,λx L=>(p_.mp L).elim (λz=>by simp_all) (h x)⟩
theorem sv{F:Hp}:∀{ks:List (bm×A')} {xs:List jw},cU K F ks xs->xs.map (·.1)=ks.map (·.1)
 |[],_,h=>by rw[show _=[]from h];rfl|(k,d)::ks,_,⟨b,v,r,e,t,q,z⟩=>by rw[e,r_,sv z];rfl
theorem p7:∀{xs:List jw} {vs:List (bm×i_×h_)},J3 jn xs vs->(vs.map rowE).map (·.key)=xs.map λx=>FJ x.2.1
 |_,_,.nil=>rfl|_,_,.cons r t=>by rw[r_,r_,r_,p7 t,r.2.1];rfl
theorem xp(P:X.A.units+64<G3)(G: ~~~(X.calm=d_))(k: ~~~(X.K=K)):n8 K W d_ X (.builtin "sorted") kW:=by
 subst k;intro B2 s σ H xs us Q I w h;obtain⟨F,d,x,s1,e,q,p⟩:=l8 (λds=>by match ds with|[d]=>simp|[]=>exact .inr rfl|a::b::c=>exact .inr (by cases a<;>rfl)) h;subst e;obtain⟨u,rfl,m⟩:=w.one;have n:∀{B:List (bm×i_)},(∀r∈B,SqT X.K F r.2 (r.1.map V.int))->∀r∈B,aY X.K F (ba r.1) (.ref r.2):=λh r L=>⟨r.2,_,rfl,h r L,kq r.1⟩
 have J:∀{B:List (bm×i_)} {h':Gr},(∀r∈B,SqT X.K F r.2 (r.1.map V.int))->(∀b o,s.heap.get? b=a_ o->h'.get? b=a_ o)->TKs0 X.prog X.w h' B:=λ{B h'} k kp r L=>tk_keep (row_at I (s1.tup (k r L))) kp;cases d with
 |dic ks=>
  obtain⟨a,B,e1,⟨ep,N⟩,z⟩:=q;subst e1;cases m;have p:aE X.K W d_ F H (if (ks.map (·.1)).head? =a_ []then .ok (.lst ((cZ BK (ks.map (·.1))).map ba))else stk) Q:=p;by_cases h0:(ks.map (·.1)).head? =a_ []
  .rw[u_ h0]at p;obtain⟨vs,es,g,E,i,v,C,hsz⟩:=Dd I (s1 _ _ N);have A:(B.map λx=>(x.1,x.2.1)).map HK=ks.map (·.1):=by rw[D_,<- sv z];rfl
   have Y:∀r∈B.map λx=>(x.1,x.2.1),SqT X.K F r.2 (r.1.map V.int):=λr L=>by obtain⟨x,y,rfl⟩:=FP.mp L;exact z.key x y
   rw[<- A]at p h0;refine zJ (key:=rk BK ((B.map λx=>(x.1,x.2.1)).map HK) []) (vs:=(B.map λx=>(x.1,x.2.1)).map λr=>FJ r.2) (I.ok.hd G) E v (by rw[C,p7 g,D_];rfl) bi (λO h1 tk kp=>?_) λh' D c tk out l kp e j=>og ordI I s1 (n Y) bi p l kp e j;exact Fy (s:={s with heap:=h1,toks:=tk}) ac (J Y kp) h0
  .rw[x_ h0]at p;exact aE.stuck p
 |lst ds=>
  obtain⟨a,ys,e1,t,r⟩:=q;subst e1;cases m;have p:aE X.K W d_ F H ((fH ds).bind λf=>if f.head? =a_ []then .ok (.lst ((cZ BK f).map ba))else stk) Q:=p;cases ek:fH ds with
  |error z=>cases lM ek;rw[ek]at p;exact aE.stuck p|ok f=>
   rw[ek,ai]at p;rw[lL ek]at r;by_cases h0:f.head? =a_ []
   .rw[u_ h0]at p;obtain⟨B,e2,e3,Y⟩:=vf r;subst e2;obtain⟨its,g,pl,i⟩:=I.list (s1.lst t);subst e3;have U:=v9 g;subst U;rw[n_]at i;refine mG (key:=rk BK (B.map HK) []) pl.isList bi (λO h1 kp=>?_) λh' D c out j l kp e=>og (tk:=s.toks) ordI I s1 (n Y) i p l kp e j;exact Fy (s:={s with heap:=h1}) ac (J Y kp) h0
   .rw[x_ h0]at p;exact aE.stuck p
 |_=>exact aE.stuck p
end
section
open PySem
end
mutual
noncomputable def noD:A'->Bool
 |.tup ds=>noDs ds|.lst ds=>noDs ds|.ins _ gs=>noDF gs|.dic _=>c_|.dil _=>c_|_=>d_
noncomputable def noDs:List A'->Bool
 |[]=>d_|d::ds=>noD d&&noDs ds
noncomputable def noDF:List (Gh×A')->Bool
 |[]=>d_|(_,d)::gs=>noD d&&noDF gs
end
noncomputable def isExt:HO->Bool
 |.ext _=>d_|_=>c_
def Drops(F F':Hp):Prop:=∀b o,F b=a_ o->isExt o=c_->F' b=a_ o
structure Mst where
 k:A'
 g:A'
 b:A'
 c:List A'
 n:List A'
 f:List A'
structure Mad where
 p:i_
 c:i_
 n:i_
 f:i_
 v0:V
 v1:V
 v2:V
inductive Mfl where
 |nx (s:Mst) (ρ:ah)
 |rt (s:Mst) (d:A')
def gLst(K:Pn)(n:Nat)(t:TGs):TG:=λv σ H Q=>∃a xs,v=.ref a/\SqL K H a xs/\xs.length=n/\t xs σ H Q
def pg_lst{t:TGs}(d:X.calm=d_)(h:PGs X es t)(Y: ~~~((Ha es X.env).length=n))(B: ~~~((Ha es X.env).findIdx? (·.1)=f_)):PG X (.Tuple es k pos) (gLst X.K n t):=by intro B2 s σ H v u Q I r hw;obtain⟨a,xs,e1,U,c,hw⟩:=hw;subst e1;cases r;obtain⟨its,J,pl,g⟩:=I.list U;rw[assign_Tuple];refine b_ (Lf ?_);unfold unpack;rw[B,show(Ha es X.env).length=its.toArray.size by rw[Y,<- c,J.length];simp];refine b_ (G9 (PySem.W.kun_itemsOf (I.ok.hd d) pl.isList λh' L=>?_));have f:B6 X B2 σ H {s with heap:=h'}:=I.kept (t':=s.toks) λb o e=>L b o (FR (s_ e)) e;exact h B2 _ σ H xs _ Q f (by simpa using J) hw
section
variable{W:cv}
structure Itm(K:Pn)(W:cv)(I:Hp->Hp->Hp->List A'->bp->Prop)(fe:ah->M A')(te:TE):Prop where
 nil:∀F G H,I F G H [] []
 stp:∀{F G H F' H':Hp} {ds:List A'} {vs:bp},I F G H ds vs->B4 F H F' H'->I F' G H' ds vs
 bak:∀{F G G' H:Hp} {ds:List A'} {vs:bp},I F G H ds vs->aU G' G->I F G' H ds vs
 len:∀{F G H:Hp} {ds:List A'} {vs:bp},I F G H ds vs->vs.length=ds.length
 run:∀{σ:St} {ρ:ah} {F G H:Hp} {ds:List A'} {vs:bp} {Q:VK},lI K F σ ρ->aU F H->aU G H->I F G H ds vs->(∀e,fe ρ=.error e->W.p e F H) ->
  (∀d,fe ρ=.ok d->∀v F' H',B4 F H F' H'->I F' G H' (ds++[d]) (vs++[v])->Q v H')->te σ H Q
theorem oX{p:Pat}{I:Hp->Hp->Hp->List A'->bp->Prop}(z:Itm K W I fe te)(r:lI K F σ ρ)(s:aU F H)(w:∀e,aZ fi ix p ft fe ρ=.error e->W.p e F H)(S:∀N,aZ fi ix p ft fe ρ=.ok (.lst N)->∀ys a H2,B4 F H a H2->I a H H2 N ys->R ys H2):iD K W fi σ H λJ H1=>jT J ix (gP K p) (tDT K W ft) te σ R H1:=by
 refine⟨F,ρ,r,s,?_⟩
 cases Q:fi ρ with
 |error e=>exact w e (by unfold aZ;rw[Q];rfl)|ok ds=>
  intro J F1 H1 s1 D;have A:aZ fi ix p ft fe ρ=if ds.length<=q_ then(ay p ft fe (cm ix ρ) ds).bind λr=>.ok (.lst r)else .error .stuck:=by unfold aZ;rw[Q];rfl
  by_cases P:ds.length<=q_
  .rw[u_ P]at A;rw[A]at w S;refine⟨λi m ys H2=>m=ds.length-i/\i<=ds.length/\∃a B,B4 F1 H1 a H2/\I a H1 H2 B ys/\B.length<=i /\
    (match ay p ft fe (cm ix ρ) (ds.drop i)with
     |.ok L=>ay p ft fe (cm ix ρ) ds=.ok (B++L)|.error e=>W.p e F H),⟨ds.length,ac,Gi _,F1,[],B4.refl s1.fh,z.nil _ _ _,Gi _,?_⟩,?_⟩
   .rw[Jq];cases e:ay p ft fe (cm ix ρ) ds with
    |ok L=>rfl|error x=>exact w x (by rw[e];rfl)
   .rintro i m ys H2 ⟨rfl,hi,a,B,s2,C,ly,k⟩;have q:ys.length<=q_:=by rw[z.len C];lia
    by_cases g:i<ds.length
    .have ed:ds.drop i=ds[i]::ds.drop (i+1):=Gq g;rw[ed]at k;refine .inr ⟨D.go i a H2 s2.ff s2.fh g,q,λl H'=>(i+1<=ds.length/\∃a B,B4 F1 H1 a H'/\I a H1 H' B l/\B.length<=i+1 /\
      (match ay p ft fe (cm ix ρ) (ds.drop (i+1))with
       |.ok L=>ay p ft fe (cm ix ρ) ds=.ok (B++L)|.error e=>W.p e F H)),λl H' n=>⟨ds.length-(i+1),ac,rfl,n⟩,λx H' y=>?_⟩
     obtain⟨X,f,q3⟩:=D.yl i a H2 x H' ds[i] s2.ff s2.fh ad y;have r3:lI K X (Lake.inS ix σ) (cm ix ρ):=(r.mono (s1.trans (s2.trans f)).ff).inS ix;have o:B4 F H X H':=s1.trans (s2.trans f);have ec:ay p ft fe (cm ix ρ) (ds[i]::ds.drop (i+1))=(dI p ds[i] (cm ix ρ)).bind λU=>(ft U).bind λb=>if b=d_ then(fe U).bind λy=>(ay p ft fe (cm ix ρ) (ds.drop (i+1))).bind λr=>.ok (y::r)else ay p ft fe (cm ix ρ) (ds.drop (i+1)):=by rw[ay]
     rw[ec]at k;cases u:dI p ds[i] (cm ix ρ)with
     |error e=>rw[u]at k;have:=jX u;subst this;exact(W.ns k).elim|ok U=>
      rw[u]at k;refine Et r3 f.fh q3 u λZ O=>?_;have c:match ((ft U).bind λb=>if b=d_ then(fe U).bind λy=>(ay p ft fe (cm ix ρ) (ds.drop (i+1))).bind λr=>.ok (y::r)else ay p ft fe (cm ix ρ) (ds.drop (i+1)))with
       |.ok L=>ay p ft fe (cm ix ρ) ds=.ok (B++L)|.error e=>W.p e F H:=k
      refine iN O f.fh (λe E=>by rw[E]at c;exact W.mono c o) λb G F5 H5 j=>?_;rw[G]at c;cases b with
      |false=>
       have Y:match ay p ft fe (cm ix ρ) (ds.drop (i+1))with
        |.ok L=>ay p ft fe (cm ix ρ) ds=.ok (B++L)|.error e=>W.p e F H:=c
       exact⟨g,F5,B,s2.trans (f.trans j),z.stp C (f.trans j),ac,Y⟩
      |true=>
       have Y:match ((fe U).bind λy=>(ay p ft fe (cm ix ρ) (ds.drop (i+1))).bind λr=>.ok (y::r))with
        |.ok L=>ay p ft fe (cm ix ρ) ds=.ok (B++L)|.error e=>W.p e F H:=c
       refine z.run (O.mono j.ff) j.fh (s2.trans (f.trans j)).hh (z.stp C (f.trans j)) (λe E=>by rw[E]at Y;exact W.mono Y (o.trans j)) λd hd v F6 H6 s6 q6=>?_;rw[hd]at Y;refine⟨g,F6,B++[d],s2.trans (f.trans (j.trans s6)),q6,by simp;lia,?_⟩
       have h:match ((ay p ft fe (cm ix ρ) (ds.drop (i+1))).bind λr=>.ok (d::r):M (List A'))with
         |.ok L=>ay p ft fe (cm ix ρ) ds=.ok (B++L)|.error e=>W.p e F H:=Y
       cases T:ay p ft fe (cm ix ρ) (ds.drop (i+1))with
       |ok L=>rw[T]at h;show _=GX ((B++[d])++L);rw[FX];exact h|error x=>rw[T]at h;exact h
    .have:i=ds.length:=ac
     subst this;rw[Il]at k;have t:ay p ft fe (cm ix ρ) ds=.ok (B++[]):=k;rw[Hf]at t;exact .inl ⟨D.st a H2 s2.ff s2.fh,q,S B (by rw[t];rfl) ys a H2 (s1.trans s2) (z.bak C s1.hh)⟩
  .rw[x_ P]at A;exact(W.ns (w .stuck A)).elim
end
inductive OwnT(K:Pn)(F G H:Hp):List A'->List V->Prop
 |nil:OwnT K F G H [] []
 |fst {rs rest:List A'} {ys ws:List V} {a:i_} (o:sO K F G H rs ys) (h:H a=a_ (.lst ys)) (f:F a=f_) (n:G a=f_) (u:∀k:Nat,ys[k]?≠a_ (.ref a)) (d:aw K F rest ws):OwnT K F G H (.lst rs::rest) (.ref a::ws)
section
variable{W:cv}{p:Pat}
def itmO(e:∀ρ d,fe ρ=.ok d->∃es,d=.lst es):Itm K W (sO K) fe (tD K W d_ fe) where
 nil:=λ_ _ _=>sO.nil
 stp:=λo s=>o.step s
 bak:=λo s=>o.back s
 len:=λo=>o.len
 run:=λ{σ ρ F G H ds vs Q} r s U o f c=>aF r s f λd J v j i B Y=>by obtain⟨es,rfl⟩:=e _ _ J;obtain⟨a,xs,ev,h,g2,L,g⟩:=Y;subst ev;refine c _ J _ _ _ B ((o.step B).add (λk b=>?_) h g2 (U.free L) g);obtain⟨_,_,_,z,_⟩:=o.at b;rw[L]at z;cases z
def itmP:Itm K W (λF _ _=>aw K F) fe (tD K W d_ fe) where
 nil:=λ_ _ _=>aw.nil
 stp:=λo s=>o.mono s.ff
 bak:=λo _=>o
 len:=λo=>o.length
 run:=λr s _ o Y U=>tD_fr (own:=c_) (aF r s Y λd L v b a B J=>U _ L _ _ _ B ((o.mono B.ff).append (aw.cons J aw.nil)))
def itmT(m:∀ρ d,fe ρ=.ok d->∃es,d=.lst es):Itm K W (OwnT K) (aZ fi ix p ft fe) (Bi (iD K W fi) ix (gP K p) (tDT K W ft) (tD K W d_ fe)) where
 nil:=λ_ _ _=>.nil
 stp:=λo s=>by
  cases o with
  |nil=>exact .nil|fst o h f n u d=>exact .fst (o.step s) (s.hh _ _ h) (s.stays f h) n u (d.mono s.ff)
 bak:=λo s=>by
  cases o with
  |nil=>exact .nil|fst o h f n u d=>exact .fst (o.back s) h f (s.free n) u d
 len:=λo=>by
  cases o with
  |nil=>rfl|fst o h f n u d=>rw[E_,E_,d.length]
 run:=λ{σ ρ F G H ds vs Q} r s e o i g=>by
  cases o with
  |nil=>
   refine oX (itmO m) r s i λj B ys c H2 s2 U a J=>g _ B _ c _ (s2.trans (B4.grow s2.fh J)) ?_;exact .fst ((U.back e).step (B4.grow s2.fh J)) av (s2.fh.free J) (e.free (s2.hh.free J)) (λk l=>by obtain⟨_,_,_,z,_⟩:=U.at l;rw[J]at z;cases z) (aw.nil)
  |fst o h f n u d=>refine oX itmP r s i λj B ys c H2 s2 U b Y=>g _ B _ (upd c b (.lst ys)) _ (s2.trans (B4.lay s2.fh Y)) ?_;have L:=s2.trans (B4.lay (o:=.lst ys) s2.fh Y);exact .fst (o.step L) (L.hh _ _ h) (L.stays f h) n u ((d.mono L.ff).append (aw.cons ⟨b,ys,rfl,SqL.of av,U.mono (B4.lay (o:=.lst ys) s2.fh Y).ff⟩ aw.nil))
end
def ni(i:Nat)(J rest:List A')(x:A')(L:Nat×List A')(fB:ah->M A')(ρ:ah):M B':=(fB (ρ.set i f_)).bind λb=>(asI b).bind λb=>(kD J L b x).bind λB=>.ok (.nx (ρ.set i (a_ (.lst (.lst B::rest)))))
def rn(i:Nat)(B rest:List A')(x:A')(fA fB:ah->M A')(ρ:ah):M B':=(fA (ρ.set i f_)).bind λa=>(asI a).bind λa=>(rowAt B a).bind λJ=>ni i B rest x J fB ρ
def vF(i:Nat)(B rest:List A')(fx fA fB:ah->M A')(ρ:ah):M B':=(fx (ρ.set i f_)).bind λx=>rn i B rest x fA fB ρ
def D6(i:Nat)(fx fA fB:ah->M A')(ρ:ah):List A'->M B'
 |.lst B::rest=>vF i B rest fx fA fB ρ|_=>stk
def lR(i:Nat)(fc fx fA fB:ah->M A'):ah->M B':=λρ=>(fc ρ).bind λd=>(yw d).bind λtb=>D6 i fx fA fB ρ tb
section
variable{W:cv}{D:Ends}
theorem rs_rowsT{p p2:Pat}{fB:ah->M A'}(hL:∀ρ d,fe ρ=.ok d->∃es,d=.lst es)(hi:i<σ.length)(t:tS K W ro F0 H0 OL [] O' (aP (lR i (aZ fi ix p ft (aZ fi2 ix2 p2 ft2 fe)) fx fA fB) g) D σ H):
  tSeq (sX i (iD K W fi) ix (gP K p) (tDT K W ft) (Bi (iD K W fi2) ix2 (gP K p2) (tDT K W ft2) (tD K W d_ fe))) (tSeq (tAsg (tD K W c_ fx) (gSub (tOp (rIx K) (tOp (rIx K) (tVar i) (tC (.int 0))) (tD K W c_ fA)) (tD K W c_ fB) rSetL)) (tS K W ro F0 H0 OL [] O' g)) D σ H:=by
 obtain⟨FB,F,ρ,r,q⟩:=t;have rE:=r.repE;have q0:c9 K W ro F0 H0 FB OL O' D (kz g (lR i (aZ fi ix p ft (aZ fi2 ix2 p2 ft2 fe)) fx fA fB ρ)):=q;refine oX (itmT hL) rE r.st.fh (λe he=>q0.eX r.st (bx (by unfold lR;rw[he];rfl))) λtb hrs vs F2 H2 s2 R A hA=>?_;have q1:c9 K W ro F0 H0 FB OL O' D (kz g (D6 i fx fA fB ρ tb)):=by unfold lR at q0;rw[hrs]at q0;exact q0
 cases R with
 |nil=>exact q1.stuck rfl|@fst B rest ys Q a R h2a f2a ga ua dw=>
 have q1:c9 K W ro F0 H0 FB OL O' D (kz g (vF i B rest fx fA fB ρ)):=q1;have r2:lI K F2 (σ.set i (a_ (.ref A))) (ρ.set i f_):=⟨by rw[Gd,Gd,r.len],λj d e=>by
  by_cases hij:i=j
  .subst hij;rw[z_ (by rw[r.len];exact hi)]at e;cases e
  .rw[v_ hij]at e;obtain⟨v,h1,h2⟩:=rE.sl j d e;exact⟨v,bi,h2.mono s2.ff⟩⟩
 have T:B4 F2 H2 F2 (upd H2 A (.lst (.ref a::Q))):=B4.grow s2.fh hA;have y:=s2.trans T;refine aF r2 T.fh (λe he=>q1.eX (r.st.trans y) (bx (by simp_all[vF]))) λx hx v F3 H3 L qx=>?_;have q2:c9 K W ro F0 H0 FB OL O' D (kz g (rn i B rest x fA fB ρ)):=by unfold vF at q1;rw[hx]at q1;exact q1
 have h3A:H3 A=a_ (.lst (.ref a::Q)):=L.hh _ _ av;have h3a:H3 a=a_ (.lst ys):=L.hh _ _ (T.hh _ _ h2a);refine⟨.ref A,bi,.inl ⟨A,.ref a::Q,0,.ref a,rfl,rfl,SqL.of h3A,by simp[atI,ixN],?_⟩⟩
 refine aF (r2.mono L.ff) L.fh (λe he=>q2.eX (r.st.trans (y.trans L)) (bx (by simp_all[rn]))) λda hda va F4 H4 Y qa=>?_;cases da with
 |int ka=>
  have C:c9 K W ro F0 H0 FB OL O' D (kz g ((rowAt B ka).bind λje=>ni i B rest x je fB ρ)):=by unfold rn at q2;rw[hda]at q2;exact q2
  have h4a:=Y.hh _ _ h3a;have h4A:=Y.hh _ _ h3A;have ow4:=((R.step T).step L).step Y;have X:=y.trans (L.trans Y);cases hj:ixN B.length ka with
  |none=>exact C.stuck (bx (by simp_all[rowAt]))|some j=>
   have hjl:=(uh hj).2.1;obtain⟨b,xs,es,S,g2,g3,g4,g5,g6⟩:=ow4.get j B[j] ad;have erj:B[j]?=a_ (.lst es):=by rw[<- g2];simp[hjl]
   have q4:c9 K W ro F0 H0 FB OL O' D (kz g (ni i B rest x (j,es) fB ρ)):=by
    unfold rowAt at C;rw[hj]at C;have C:c9 K W ro F0 H0 FB OL O' D (kz g (((match B[j]? with
     |some (.lst es)=>.ok (j,es)|_=>.error .stuck):M (Nat×List A')).bind λje=>ni i B rest x je fB ρ)):=C
    rw[erj]at C;exact C
   refine .inl ⟨a,ys,ka,.ref b,rfl,qa,SqL.of h4a,?_,?_⟩
   .unfold atI;rw[R.len,hj];exact S
   refine aF (r2.mono (L.trans Y).ff) Y.fh (λe he=>q4.eX (r.st.trans X) (bx (by simp_all[ni]))) λdb hdb vb l H5 J qb=>?_;cases db with
   |int kb=>
    have q5:c9 K W ro F0 H0 FB OL O' D (kz g ((kD B (j,es) kb x).bind λrs'=>.ok (.nx (ρ.set i (a_ (.lst (.lst rs'::rest))))))):=by unfold ni at q4;rw[hdb]at q4;exact q4
    cases hk:ixN es.length kb with
    |none=>exact q5.stuck (bx (by simp_all[kD]))|some k=>
     have q6:c9 K W ro F0 H0 FB OL O' D (g (ρ.set i (a_ (.lst (.lst (B.set j (.lst (es.set k x)))::rest))))):=by unfold kD at q5;rw[show((j,es):Nat×List A').2=es from rfl,hk]at q5;exact q5
     have h5A:=J.hh _ _ h4A;have h5a:=J.hh _ _ h4a;have h5b:=J.hh _ _ g3;have E:=ow4.step J;have Z:=T.trans (L.trans (Y.trans J));have st:B4 F H l H5:=X.trans J;refine⟨b,xs,kb,k,rfl,qb,h5b,by rw[g6.length];exact hk,?_⟩
     have f5A:l A=f_:=(L.trans (Y.trans J)).stays (s2.fh.free hA) (av (H:=H2) (a:=A) (o:=.lst (.ref a::Q)));have f5a:l a=f_:=Z.stays f2a h2a;have nab:a≠b:=λz=>ua j (by rw[z];exact S);have nAb:A≠b:=λz=>by
      obtain⟨_,_,_,w,_⟩:=R.at (k:=j) (a:=b) S
      simp_all
     have nAa:A≠a:=λz=>by simp_all
     generalize hO:(λc:i_=>c=A\/c=a\/∃m:Nat,ys[m]?=a_ (.ref c))=U;have N:∀c,U c->l c=f_/\H c=f_:=λc h=>by
      subst hO;rcases h with z|z|⟨m,z⟩
      .subst z;exact⟨f5A,s2.hh.free hA⟩
      .subst z;exact⟨f5a,ga⟩
      .obtain⟨_,_,_,_,z1,z2,_⟩:=E.at z;exact⟨z1,z2⟩
     have OA:U A:=by subst hO;exact .inl rfl
     have Oa:U a:=by subst hO;exact .inr (.inl rfl)
     have Oy:∀(m:Nat) (c:i_),ys[m]?=a_ (.ref c)->U c:=λm c h=>by subst hO;exact .inr (.inr ⟨m,h⟩)
     have Ob:=Oy _ _ S;have P:aU l (plus l (upd H5 b (.lst (xs.set k v))) U):=λc o h=>by
      by_cases f:U c
      .rw[(N c f).1]at h;cases h
      .rw[cW f];exact h
     have fh:aU (plus l (upd H5 b (.lst (xs.set k v))) U) (upd H5 b (.lst (xs.set k v))):=λc o h=>by
      by_cases f:U c
      .rw[eO f]at h;exact h
      .rw[cW f]at h;rw[aA λz=>f (by rw[z];exact Ob)];exact J.fh c o h
     have I:=(Y.trans J).ff.trans P;have G:=J.ff.trans P;refine⟨FB,plus l (upd H5 b (.lst (xs.set k v))) U,ρ.set i (a_ (.lst (.lst (B.set j (.lst (es.set k x)))::rest))),?_,q6⟩
     have s:=r.st.trans st;refine⟨⟨s.ff.trans P,λc o h=>?_,fh,λc o h=>?_⟩,r.fb.trans (st.ff.trans P),by rw[Gd,Gd,r.len],λm d e _=>?_,(λm d e h=>nomatch h),(λm n d1 d2 c h=>nomatch h)⟩
     .have:c≠b:=λz=>by
       rw[z]at h;have:=r.st.hh _ _ h;rw[(N b Ob).2]at this;cases this
      rw[aA this];exact s.hh c o h
     .by_cases f:U c
      .exact .inr (r.st.hh.free (N c f).2)
      .rw[cW f]at h;exact s.nw c o h
     .by_cases him:i=m
      .subst him;rw[z_ (by rw[r.len];exact hi)]at e;cases e;refine⟨.ref A,bi,A,.ref a::Q,rfl,SqL.of (by rw[eO OA,aA nAb];exact h5A),.ref a,Q,rfl,⟨a,ys,rfl,SqL.of (by rw[eO Oa,aA nab];exact h5a),?_⟩,dw.mono (Z.ff.trans P)⟩
       refine aw.of_get (by rw[Gd];exact R.len) λm d u e1 e2=>?_;by_cases O:j=m
       .subst O;rw[z_ hjl]at e1;cases e1;rw[S]at e2;cases e2;exact⟨b,xs.set k v,rfl,SqL.of (by rw[eO Ob,av]),aw.set (aY.mono I qx) k (g6.mono G)⟩
       .rw[v_ O]at e1;obtain⟨c,ws',fs,k1,k2,k3,k4,k5,k6⟩:=E.get m d e1;rw[k1]at e2;cases e2;subst k2;have ncb:c≠b:=λz=>O (E.ap j m b S (by rw[<- z];exact k1));exact⟨c,ws',rfl,SqL.of (by rw[eO (Oy m c k1),aA ncb];exact k3),k6.mono P⟩
      .rw[v_ him]at e;obtain⟨u,h1,h2⟩:=rE.sl m d e;exact⟨u,bi,h2.mono (st.ff.trans P)⟩
   |_=>exact q4.stuck (bx (by unfold ni;rw[hdb];rfl))
 |_=>exact q2.stuck (bx (by unfold rn;rw[hda];rfl))
end
section
variable{W:cv}{pt pt2:Pat}{fB:ah->M A'}{p0 pz:MJ}
def re_comp(N':List Gh)(ix:List (Option Nat))(hi:DI K W X tg iter fi)(a:∀L cs s H fp,DG K (aQ X N' sc L cs s H fp) tg pt)(U:kS ix (gP K pt))(B:∀L cs s H fp,PTs (aQ X N' sc L cs s H fp) ifs (tDT K W ft))(b:∀L cs s H fp,DE K W d_ (aQ X N' sc L cs s H fp) elt fe)(c: ~~~(X.calm=d_))(ok: ~~~(bj X.N X.env.scope N' sc ix=d_))(Y: ~~~(sc.kind=.function))(J:autoParam (∀x,Ht iter X.env x=GU x) Jq3):
  PE X (.ListComp elt [⟨tg,iter,ifs,0⟩] sc pos) (Bi (iD K W fi) ix (gP K pt) (tDT K W ft) (tD K W d_ fe)):=Dv N' ix c hi a U B b ok Y J
def ds_rowsT{B}(N':List Gh)(ix:List (Option Nat))(y:X.N.Nodup)(hi:DI K W X tg iter fi)(q:∀L cs s H fp,DG K (aQ X N' sc L cs s H fp) tg pt)(o:kS ix (gP K pt))(l:∀L cs s H fp,PTs (aQ X N' sc L cs s H fp) ifs (tDT K W ft))(r:∀L cs s H fp,PE (aQ X N' sc L cs s H fp) elt (Bi (iD K W fi2) ix2 (gP K pt2) (tDT K W ft2) (tD K W d_ fe)))(A:∀ρ d,fe ρ=.ok d->∃es,d=.lst es)(j:DE K W c_ X ex fx)(F:DE K W c_ X ea fA)(E:DE K W c_ X eb fB)(n:DSs K W ro X OL [] O' sts g)(c: ~~~(X.N[i]?=a_ x))(h: ~~~(X.env.scope.names.lookup x=a_ .local))(u: ~~~(X.calm=d_))(C: ~~~(X.K=K))(Y: ~~~(HB (.ListComp elt [⟨tg,iter,ifs,0⟩] sc pos) (a_ (.Name x py)) spos.line X.env=GU d_))(ok: ~~~(bj X.N X.env.scope N' sc ix=d_))(p: ~~~(sc.kind=.function))(m:autoParam (∀x,Ht iter X.env x=GU x) Jq3)(k:autoParam (Vis X.env.scope x) Jq5)(t:((x==("__debug__":Gh))=c_)⁻¹)(f:((x==("__classdict__":Gh))=c_)⁻¹)(b:autoParam (uX ea) Jq8)(w:autoParam (∀v,JD (.Subscript (.Subscript (.Subscript (.Name x p0) (.Constant (.int 0) B pz) p1) ea p2) eb p3) X.env v=(do
   let J <- IL [v] (Ga (.Subscript (.Subscript (.Name x p0) (.Constant (.int 0) B pz) p1) ea p2) X.env)
   let U <- IL [v,J] (Ga eb X.env)
   K_ p3
   IL [v,J,U] (O7 J U v)
   Qu [v,J,U] [])) Jq3)(a: ~~~(Kk [.Subscript (.Subscript (.Subscript (.Name x p0) (.Constant (.int 0) B pz) p1) ea p2) eb p3] ex p4.line X.env=GU c_))(hw: ~~~(Kl [.Subscript (.Subscript (.Subscript (.Name x p0) (.Constant (.int 0) B pz) p1) ea p2) eb p3] ex X.env=GU f_))(h1: ~~~((Ha [.Subscript (.Subscript (.Subscript (.Name x p0) (.Constant (.int 0) B pz) p1) ea p2) eb p3] X.env).map (·.2)=[JD (.Subscript (.Subscript (.Subscript (.Name x p0) (.Constant (.int 0) B pz) p1) ea p2) eb p3) X.env])):
  DSs K W ro X OL [] O' (.Assign [.Name x py] (.ListComp elt [⟨tg,iter,ifs,0⟩] sc pos) spos::.Assign [.Subscript (.Subscript (.Subscript (.Name x p0) (.Constant (.int 0) B pz) p1) ea p2) eb p3] ex p4::sts) (aP (lR i (aZ fi ix pt ft (aZ fi2 ix2 pt2 ft2 fe)) fx fA fB) g):=by
 subst C;intro F0 H0 B2 s σ H D I z;have e:i<σ.length:=by rw[I.len];exact(oe.mp c).1
 refine iP (k9 N' ix y c h u hi q o l r Y ok p m) (iP (vN j (Dr (pe_ix Ak (pe_ix Ak (pv i c k t f) pe_int λ_ _=>rfl) F b) E set_list w) a hw h1) (n F0 H0)) B2 s σ H D I ?_;exact rs_rowsT A e z
end
def rm(O:bo)(is:bo)(f:ah->M A'):ah->M B':=λρ=>(f (erase O ρ)).bind λd=>(yw d).bind λds=>if ds.length=is.length then .ok (.nx (hG is ds ρ))else stk
@[simp]def e_unpLB(O:bo)(is:bo)(f:ah->M A')(ρ:ah):rm O is f ρ=(f (erase O ρ)).bind λd=>(yw d).bind λds=>if ds.length=is.length then .ok (.nx (hG is ds ρ))else stk:=id rfl
section
variable{W:cv}{f:ah->M A'}{is:List Nat}{p:MJ}{D:Ends}
def rs_unpLB(n:∀i∈is,i∉O)(t:tS K W ro F0 H0 OL O O (rm O is f) D σ H):tAsg (tD K W c_ f) (gLst K is.length (gd is)) D σ H:=by
 obtain⟨FB,F,ρ,r,p⟩:=t;refine aF r.iO r.st.fh (λe L=>p.eX r.st (by unfold rm;rw[L];rfl)) λd U v F1 H1 s1 q=>?_;unfold rm at p;rw[U]at p;cases d with
 |lst ds=>
  have p:c9 K W ro F0 H0 FB OL O D (if ds.length=is.length then .ok (.nx (hG is ds ρ))else stk):=p;split at p
  .rename_i J;obtain⟨a,xs,ev,t,z⟩:=q;exact⟨a,xs,ev,s1.fh.lst t,by rw[z.length,J],mO (r.step s1) n z J λB r'=>p B F1 H1 r'⟩
  .exact p.stuck rfl
 |_=>exact p.stuck rfl
def ds_unpLB(U:DE K W c_ X e f)(Y:X.calm=d_)(h:PGs X es (gd is))(n:(∀i∈is,i∉O)⁻¹)(L: ~~~((Ha es X.env).length=is.length))(B: ~~~((Ha es X.env).findIdx? (·.1)=f_))(J: ~~~(Kk [.Tuple es k p] e pos.line X.env=GU c_))(hw: ~~~(Kl [.Tuple es k p] e X.env=GU f_))(h1: ~~~((Ha [.Tuple es k p] X.env).map (·.2)=[JD (.Tuple es k p) X.env]))(a: ~~~(X.K=K)):
  DS K W ro X OL O O (.Assign [.Tuple es k p] e pos) (rm O is f):=λF0 H0=>by
 subst a;exact PS.imp (vN U (pg_lst Y h L B) J hw h1) λ_ _ _=>rs_unpLB n
end
def Fz(a v:h_):argsOk "min" ⟨[a],dK v⟩:=by unfold argsOk;kernel_rfl
def Ac:(toString "min"++toString ".loop":String)="min.loop":=by decide
section
variable{R:Nj->l_->Prop}{wr:List i_}{P:Nat->h_->Prop}{St:Nat->Gr->Prop}
abbrev lpCN(I S:i_)(d:h_):Code:=.builtin "min.loop" ⟨[.ref I,.none,.ref S],dK d⟩
theorem lp_goN(W:Walks prog w A.in1 I fp wr n P St)(k:Nat->Nat->Bool)(q:CmpOf prog w A.in1 .Lt P k)(s:S∉fp)(d:h_):
  ∀(m j:Nat) (t:l_) (U:h_) (c:Nat),j+1+m=n->St (j+1) t.heap->P (Kn k j) U->LsAt t.heap S #[U,U] c ->
  (∀v g tk,P (Kn k (n-1)) v->(∀b o,b∉wr->b≠S->t.heap.get? b=a_ o->g.get? b=a_ o)->R (.ok (.ret v)) {t with heap:=g,toks:=tk})->JJ (B_ prog w) A (lpCN I S d) R t:=by
 have r:S∉wr:=λz=>s (W.sub _ z);intro m
 induction m with
 |zero=>
  intro j t U c H h Y u x;have p:j+1=n:=ac
  (refine Ii M1 ?_;rw[Hd I_ _];show w_ _ A.in1 (Ng (.ref S) >>= _) _ _ t;refine b_ (Hg u rfl ?_);show w_ _ A.in1 (PY (JC (.ref I)) _ >>= _) _ _ t)
  refine b_ (JZ (W.done t _ _ (p▸h) λg tk B=>?_));have L:=B S _ r u
  (show w_ _ A.in1 (QE S (λ_=>#[]) >>= _) _ _ _;refine b_ (Ny L rfl (b_ (Ks (g_ ?_)))))
  exact x U _ tk (by rw[<- p];exact Y) λb o i l e=>(GN _ _ (HM l)).trans (B b o i e)
 |succ m D=>
  intro j t U c H h Y u x
  (refine Ii M1 ?_;rw[Hd I_ _];show w_ _ A.in1 (Ng (.ref S) >>= _) _ _ t;refine b_ (Hg u rfl ?_);show w_ _ A.in1 (PY (JC (.ref I)) _ >>= _) _ _ t)
  refine b_ (JZ (W.item (j+1) t _ _ ac h λv g tk G a B=>?_));have L:=B S _ r u
  (show w_ _ A.in1 (PY (IL [v,v] (PC .Lt v U >>= _)) _ >>= _) _ _ _);refine b_ (JZ (G9 (b_ (q (j+1) (Kn k j) v U _ _ _ G Y (b_ (G9 (G4 (b_ (Ks (g_ ?_))))))))))
  cases E:(k (j+1) (Kn k j))with
  |true=>
   simp only[Kv];refine b_ (Ny L rfl (b_ (Ks ?_)));rw[Ac];refine g_ ⟨Jo I_ _,D (j+1) _ v _ ac (W.frame _ _ _ a λb C o e=>?_) (by simp only[Kn,E,Kv];exact G) (Iv _ L rfl) λy g2 f p2 J=>?_⟩
   .exact(GN _ _ (λz:S=b=>s (by rw[z];exact C))).trans e
   .exact x y g2 f p2 λb o i l e=>J b o i l ((GN _ _ (HM l)).trans (B b o i e))
  |false=>
   (simp only[Gk,HV];refine b_ (Ks ?_);rw[Ac])
   refine g_ ⟨Jo I_ _,D (j+1) _ U c ac a (by simp only[Kn,E,Gk,HV];exact Y) L λy g2 f p2 J=>?_⟩;exact x y g2 f p2 λb o i l e=>J b o i l (B b o i e)
theorem lp_allN(W:Walks prog w A.in1 I fp wr n P St)(m:Nat->Nat->Bool)(f:CmpOf prog w A.in1 .Lt P m)(L:S∉fp)(d:h_){t:l_}(Y:St 0 t.heap)(p:LsAt t.heap S #[] c)(h0:n=0->∀g tk,(∀b o,b∉wr->b≠S->t.heap.get? b=a_ o->g.get? b=a_ o)->R (.ok (.ret d)) {t with heap:=g,toks:=tk})(s:0<n->∀v g tk,P (Kn m (n-1)) v->(∀b o,b∉wr->b≠S->t.heap.get? b=a_ o->g.get? b=a_ o)->R (.ok (.ret v)) {t with heap:=g,toks:=tk}):
  JJ (B_ prog w) A (lpCN I S d) R t:=by
 have l:S∉wr:=λz=>L (W.sub _ z)
 (refine Ii M1 ?_;rw[Hd I_ _];show w_ _ A.in1 (Ng (.ref S) >>= _) _ _ t;refine b_ (Hg p rfl ?_);show w_ _ A.in1 (PY (JC (.ref I)) _ >>= _) _ _ t)
 rcases Nat.eq_zero_or_pos n with a|a
 .refine b_ (JZ (W.done t _ _ (a▸Y) λg tk B=>?_));exact b_ (Ih (g_ (h0 a g tk λb o i _ e=>B b o i e)))
 .refine b_ (JZ (W.item 0 t _ _ a Y λv g tk u U B=>?_));have h:=B S _ l p
  (show w_ _ A.in1 (QE S (λ_=>#[v,v]) >>= _) _ _ _;refine b_ (Ny h rfl ?_);rw[Ac])
  refine g_ ⟨Jo I_ _,lp_goN W m f L d (n-1) 0 _ v _ ac (W.frame _ _ _ U λb k o e=>?_) u (Iv _ h rfl) λr g2 j p2 J=>?_⟩
  .exact(GN _ _ (λz:S=b=>L (by rw[z];exact k))).trans e
  .exact s a r g2 j p2 λb o i q e=>J b o i q ((GN _ _ (HM q)).trans (B b o i e))
end
section
variable{s:l_}
theorem Ff{x d:h_}{Q:Mq}(h:w_ (B_ prog w) A.in1 (O9 x) (λm t=>∃I fp wr n P St U,m=.ref I/\Walks prog w A.in1 I fp wr n P St/\St 0 t.heap/\(∀b∈fp,b<t.heap.objs.size)/\CmpOf prog w A.in1 .Lt P U /\
   (n=0->∀g tk,(∀b o,b∉wr->t.heap.get? b=a_ o->g.get? b=a_ o)->Q d {t with heap:=g,toks:=tk}) /\
   (0<n->∀v g tk,P (Kn U (n-1)) v->(∀b o,b∉wr->t.heap.get? b=a_ o->g.get? b=a_ o)->Q v {t with heap:=g,toks:=tk})) E s):
  w_ (B_ prog w) A (Ka (.builtin "min") [x] (dK d)) Q E s:=by
 refine Qe (codeAny_call_builtin F.plain_min F.entry_min ?_);have body:w_ (B_ prog w) A.in1 (Builtin.«min» ⟨[x],dK d⟩) (λk s'=>match k with
   |.done f=>(match (GX f:Nj)with|.ok (.ret v)=>Q v s'|.ok _=>False|.error e=>E e s')
   |.again p=>p.quiet=d_/\JJ (B_ prog w) A p (λr s'=>match r with|.ok (.ret v)=>Q v s'|.ok _=>False|.error e=>E e s') s') E s:=by
  show w_ _ A.in1 (LA "min" ["key","default"] 0 ⟨[],dK d⟩ >>= _) _ _ s;refine b_ (Nq (show LA "min" ["key","default"] 0 ⟨[],dK d⟩=GU [f_,a_ d]from rfl) ?_);refine b_ (g_ (b_ (GS h (λm t y=>?_) λ_ _ e=>e)));obtain⟨I,fp,wr,n,P,St,U,rfl,W,a,i,L,h0,h1⟩:=y;refine b_ (GD (?_:_));have j:t.z∉fp:=λz=>Jk _ (i _ z);rw[Ac];refine g_ ⟨Jo I_ _,lp_allN W U L j d (W.frame _ _ _ a λb _ o e=>e_ _ e) (o_ _ rfl) (λc g tk B=>?_) λc v g tk u B=>?_⟩
  .exact h0 c g tk λb o l e=>B b o l (FR (s_ e)) (e_ _ e)
  .exact h1 c v g tk u λb o l e=>B b o l (FR (s_ e)) (e_ _ e)
 simp only[checkBuiltinCall,F.kind_min];cases J:Manifest.signature? "min" with
 |none=>exact g_ body|some Y=>
  have q:Bind.checkArgs "min" Y ⟨[x],dK d⟩=GU ():=by have:=Fz x d;simpa only[argsOk,J] using this
  simp only[q];exact g_ body
theorem DR{xs:Array (Int×Tok)}{d:h_}{Q:Mq}(a:A.handled=f_)(Y:s.heap.IsList l (Lw xs))(h0:xs.size=0->∀g tk,(∀b o,s.heap.get? b=a_ o->g.get? b=a_ o)->Q d {s with heap:=g,toks:=tk})(h1:0<xs.size->∀v g tk,(Lw xs)[Kn (λi j=>A_ (La xs i<La xs j)) (xs.size-1)]?=a_ v->(∀b o,s.heap.get? b=a_ o->g.get? b=a_ o)->Q v {s with heap:=g,toks:=tk}):
  w_ (B_ prog w) A (Ka (.builtin "min") [.ref l] (dK d)) Q E s:=by
 refine Ff (iter_intList Y λt e st L J=>?_);subst e;have hsz:(Lw xs).size=xs.size:=by simp[Lw]
 refine⟨_,_,_,_,_,_,_,rfl,Ot (A:=A.in1) a _ l J (Lw xs),st,L,CmpOf.ints_lt (La xs) (λ_ _=>Mb),λU g tk B=>?_,λU v g tk c B=>?_⟩
 .exact h0 ac g tk (old_kept B)
 .exact h1 ac v g tk (by simpa[Lw] using c) (old_kept B)
end
section
variable{W:cv}{a d:Hb}{p:MJ}
def tMinK(K:Pn)(ta td:TE):TE:=λσ H Q=>ta σ H λx H1=>td σ H1 λy H2=>∃(l:i_) (is:bm),x=.ref l/\SqL K H2 l (is.map V.int)/\Q (match is with|[]=>y|i::is=>.int (is.foldl kx i)) H2
theorem pe_minK(G:X.calm=d_)(E:Gl X "min")(C:X.mg "min"=f_)(K:PE X a ta)(F:PE X d td)(b:j_ [a] X.env=[(c_,Ga a X.env)]):
  PE X (.Call (.Name "min" p) [a] [⟨a_ (HS "default"),d,kp⟩] pos) (tMinK X.K ta td):=by
 intro B2 s σ H Q I h;refine JQ (jd I E C boot_min ?_);have N:PA X [a] (qz ta tNil):=bR K fJ b;refine PyProof.Rows.callWith_kw (E' (N pos B2 s σ H (λvs H1=>match vs with
  |[x]=>td σ H1 λy H2=>∃(l:i_) (is:bm),x=.ref l/\SqL X.K H2 l (is.map V.int)/\Q (match is with|[]=>y|i::is=>.int (is.foldl kx i)) H2
  |_=>False) I h) λus s1 ⟨vs,H1,P,U,q1⟩=>?_) (by rw[b];rfl) (by rw[b];rfl)
 match vs,U,q1 with
 |[x],U,q1=>
  obtain⟨u,rfl,n⟩:=U.one;refine PyProof.Rows.evalAll_cons (b_ (E' (F B2 s1 σ H1 _ P q1) λv s2 A=>?_));obtain⟨y,H2,L,f,l,is,ex,w,q⟩:=A;refine b_ (Lf (g_ (PyProof.Rows.evalAll_nil ?_)));subst ex;cases n;obtain⟨its,k,pl,Y⟩:=L.list w;have hi:=intsAre_of k;obtain⟨xs,e⟩:=hi.allInts.items;have J:is=xs.toList.map (·.1):=by rw[<- hi.numsOf,<- MC,<- e]
  have c:=pl.isList;rw[e]at c;show w_ _ _ (Ka (.builtin "min") [.ref l] (dK v)) _ _ s2;refine DR (L.ok.hd G) c (λh0 g tk B=>?_) λh1 R g tk r B=>?_
  .have:is=[]:=by
    rw[J];have o:xs=#[]:=by simpa using h0
    rw[o];rfl
   subst this;exact⟨y,H2,L.kept B,f,q⟩
  .obtain⟨t,rfl⟩:=Mb r;obtain⟨S,O⟩:=argBest_lt (La xs) (xs.size-1);cases is with
   |nil=>have:=IV JE J;simp at this;lia|cons i is=>
    refine⟨.int _,H2,L.kept B,⟨t,rfl⟩,?_⟩
    have:=pS (is:=is) (i:=i) (m:=La xs (Kn (λi j=>A_ (La xs i<La xs j)) (xs.size-1))) (by
      rw[J,MU];exact getD_mem (by rw[n_,GF];lia)) (λz Y=>by
      rw[J]at Y;obtain⟨j,D,rfl⟩:=mem_getD Y;rw[n_,GF]at D;rw[<- MU];exact O j ac)
    rw[<- this];exact q
end
def wg:A'->A'->M A'
 |.lst ds,.non=>(bM ds).bind λis=>.ok (match is with|[]=>.non|i::is=>.int (is.foldl kx i))
 |_,_=>stk
section
variable{W:cv}{own:Bool}{a d:Hb}{p:MJ}{fd:ah->M A'}
def rd_minK(h:tD K W own (f2 wg fa fd) σ H Q):tMinK K (tD K W c_ fa) (tD K W c_ fd) σ H Q:=by
 obtain⟨F,ρ,r,s,p⟩:=h;refine aF r s (λe B=>p.err (by unfold f2;rw[B];rfl)) λL h1 v F1 H1 s1 q1=>?_;refine aF (r.mono s1.ff) s1.fh (λe B=>W.mono (p.err (by unfold f2;rw[h1,ai,B];rfl)) s1) λJ b Y U H2 s2 q2=>?_;have e1:f2 wg fa fd ρ=wg L J:=by unfold f2;rw[h1,ai,b,ai]
 rw[e1]at p;have p2:=(p.step s1).step s2;cases L with
 |lst ds=>
  cases J with
  |non=>
   obtain⟨l,ys,e3,t,a⟩:=q1;have p3:aE K W own U H2 ((bM ds).bind λis=>.ok (match is with|[]=>.non|i::is=>.int (is.foldl kx i))) Q:=p2;cases eb:bM ds with
   |error y=>rw[eb]at p3;have:=fP eb;subst this;exact aE.stuck p3|ok is=>
    rw[eb]at p3;refine⟨l,is,e3,?_,?_⟩
    .rw[<- cP a eb];exact s2.fh.lst (s2.ff.lst t)
    .have e4:Y=.non:=q2;subst e4;cases is with
     |nil=>exact p3 _ U H2 (B4.refl s2.fh) (by cases own<;>rfl)
     |cons i is=>exact aE.int (own:=own) p3 s2.fh
  |_=>exact aE.stuck p2
 |_=>exact aE.stuck p2
def ER(J:X.mg "min"=f_)(b:DE K W c_ X a fa)(U:DE K W c_ X d fd)(Y: ~~~(X.calm=d_))(L: ~~~(Gl X "min"))(B: ~~~(j_ [a] X.env=[(c_,Ga a X.env)]))(c: ~~~(X.K=K)):
  DE K W own X (.Call (.Name "min" p) [a] [⟨a_ (HS "default"),d,kp⟩] pos) (f2 wg fa fd):=by
 subst c;exact(pe_minK Y L J b U B).imp λ_ _ _=>rd_minK
@[simp]def e_minKI(ds:List A'):wg (.lst ds) .non=(bM ds).bind λis=>.ok (match is with|[]=>.non|i::is=>.int (is.foldl kx i)):=id rfl
end
end Lake
namespace Tactic
open PySem Lake PyProof.Rows
variable{n m i k j q sh st:Nat}{w:Hz}{mg:Ld}{CP:i_}{d:A'}{u a c x:Int}{v:V}{p:List (Nat×Nat)}{rows:List (List Int)}{b l xs ys:List Int}{ks ls:List LK}
def gw:ah->M B':=
 sIf (fB (f2 ltD (ae 1) (fL kJ (aa (ae 0) au))))
   (cn (f2 ixD (ae 0) (ae 1)))
   cB
def j4:ah->M B':=
 sIf (fB (f2 eqM (ae 0) (fL bc au)))
   (cn (fC (.int 0)))
   cB
def iV:ah->M B':=
 (aP (gw)
  (aP (j4)
  (cn (f2 gV (f2 tY (f2 gV (f2 tY (f2 cL (f2 ixD (ae 0) (f2 gV (ae 1) (fL kJ (aa (ae 0) au)))) (ae 1)) (fC (.int 48271))) (fC (.int 2147483647))) (fC (.int 69621))) (fC (.int 2147483629))))))
def aI:List A'->M A':=bq 2 2 (iV)
def lA:ah->M B':=
 (cn (f2 eqM (f2 gV (f2 dr (fL (aI) (aa (ae 0) (aa (fC (.int 1)) au))) (fC (.int 384))) (fC (.int 2))) (fC (.int 1))))
def ck:List A'->M A':=bq 1 1 (lA)
def d9:ah->M B':=
 sIf (v8 (fL (ck) (aa (ae 0) au)))
   (aC [3,5] 8 (f2 gV (ae 7) (f2 cL (f2 v5 (fC (.int 10)) (fC (.int 6))) (fC (.int 1)))))
   cB
def dq:ah->M B':=
 (aP (aC [3,5] 7 (fL (aI) (aa (ae 0) (aa (f2 cL (f2 cL (ae 1) (f2 tY (ae 2) (ae 4))) (ae 6)) au))))
  (aP (aC [3,5] 8 (f2 ixD (fL bc (aa (fC (.int 0)) (aa (f2 gV (f2 dr (ae 7) (fC (.int 4))) (fC (.int 10))) (aa (f2 gV (f2 dr (ae 7) (fC (.int 4))) (fC (.int 10))) (aa (f2 gV (f2 dr (ae 7) (fC (.int 4))) (f2 ixD (fL bc (aa (fC (.int 40)) (aa (f2 cL (f2 v5 (fC (.int 10)) (fC (.int 6))) (fC (.int 1))) au))) (f2 gV (f2 dr (ae 7) (fC (.int 4))) (fC (.int 2))))) au))))) (f2 gV (ae 7) (fC (.int 4)))))
  (aP (d9)
  (gF [3,5] 5 (ae 8)))))
def fj:ah->M B':=
 (aP (aC [3] 5 (fL bc au))
  (aP (jt [3,5] (jv nj (aa (ae 2) au)) (.nm 6) (dq))
  (gF [3] 3 (ae 5))))
def jN:ah->M B':=
 (aP (aC [] 3 (fL bc au))
  (aP (jt [3] (jv nj (aa (ae 2) au)) (.nm 4) (fj))
  (cn (ae 3))))
def bY:List A'->M A':=bq 9 3 (jN)
def j3:ah->M B':=
 sIf (fB (f2 eqM (f2 gV (f2 dr (fL (aI) (aa (ae 0) (aa (fC (.int 0)) au))) (fC (.int 3))) (fC (.int 3))) (fC (.int 1))))
   (cn (fL bc (aa (ae 2) (aa (fL (bY) (aa (ae 0) (aa (f2 cL (fC (.int 3)) (f2 tY (ae 1) (ae 1))) (aa (ae 1) au)))) au))))
   cB
def lx:ah->M B':=
 (aP (aC [] 1 (f2 cL (fC (.int 1)) (f2 gV (fL (aI) (aa (ae 0) (aa (fC (.int 0)) au))) (fC (.int 3)))))
  (aP (aC [] 2 (fL (bY) (aa (ae 0) (aa (fC (.int 3)) (aa (ae 1) au)))))
  (aP (j3)
  (cn (fL bc (aa (ae 2) au))))))
def gJ:List A'->M A':=bq 3 1 (lx)
def rY:ah->M B':=
 (aP (aC [] 2 (f2 gV (f2 dr (fL (aI) (aa (ae 0) (aa (fC (.int 1)) au))) (fC (.int 96))) (fC (.int 4))))
  (aP (aC [] 3 (f2 ixD (f2 ixD (fL bc (aa (fL bc (aa (fC (.int 8)) (aa (fC (.int 8)) (aa (fC (.int 6)) (aa (fC (.int 5)) au))))) (aa (fL bc (aa (fC (.int 6)) (aa (fC (.int 4)) (aa (fC (.int 3)) (aa (fC (.int 3)) au))))) au))) (f2 vj (fL kJ (aa (ae 1) au)) (fC (.int 1)))) (ae 2)))
  (cn (fL bG (aa (ae 2) (aa (f2 gV (f2 dr (fL (aI) (aa (ae 0) (aa (fC (.int 0)) au))) (fC (.int 9))) (f2 cL (ae 3) (fC (.int 1)))) au))))))
def kj:List A'->M A':=bq 4 2 (rY)
def du:ah->M B':=
 (aP (aC [3] 5 (f2 gV (ae 1) (f2 v5 (fC (.int 10)) (fC (.int 9)))))
  (aP (gF [3] 3 (fL bG (aa (ae 5) (aa (f2 cL (f2 cL (ae 5) (fC (.int 1))) (f2 gV (f2 dr (ae 1) (f2 v5 (fC (.int 10)) (fC (.int 9)))) (f2 vj (f2 v5 (fC (.int 10)) (fC (.int 9))) (ae 5)))) au))))
  (aC [3] 1 (f2 dr (ae 1) (f2 v5 (fC (.int 10)) (fC (.int 18)))))))
def i8:ah->M B':=
 (aP (aC [] 1 (f2 dr (fL (aI) (aa (ae 0) (aa (fC (.int 2)) au))) (fC (.int 9))))
  (aP (aC [] 2 (f2 gV (ae 1) (fC (.int 21))))
  (aP (aC [] 1 (f2 dr (ae 1) (fC (.int 21))))
  (aP (aC [] 3 (fL bc au))
  (aP (jt [3] (jv nj (aa (ae 2) au)) (.nm 4) (du))
  (cn (ae 3)))))))
def cG:List A'->M A':=bq 6 1 (i8)
def gT:ah->M B':=
 sIf (v8 (fL (ck) (aa (ae 0) au)))
   (cn (fL (cG) (aa (ae 0) au)))
   cB
def gU:ah->M B':=
 (aP (aC [3] 5 (f2 cL (f2 dr (fL (aI) (aa (ae 0) (aa (fC (.int 2)) au))) (f2 cL (f2 tY (ae 4) (ae 4)) (fC (.int 1)))) (f2 tY (f2 tY (fC (.int 17)) (ae 4)) (f2 gV (f2 dr (ae 1) (fC (.int 32))) (fC (.int 3))))))
  (aP (aC [3] 6 (f2 gV (ae 5) (fC (.int 50))))
  (gF [3] 3 (fL bG (aa (ae 6) (aa (f2 cL (f2 cL (ae 6) (fC (.int 1))) (f2 gV (f2 dr (ae 5) (fC (.int 50))) (fC (.int 9)))) au))))))
def iU:ah->M B':=
 (aP (gT)
  (aP (aC [] 1 (fL (aI) (aa (ae 0) (aa (fC (.int 1)) au))))
  (aP (aC [] 2 (f2 ixD (fL bc (aa (f2 gV (ae 1) (fC (.int 4))) (aa (f2 gV (ae 1) (fC (.int 4))) (aa (fC (.int 20)) au)))) (f2 dr (f2 gV (f2 dr (ae 1) (fC (.int 4))) (fC (.int 8))) (fC (.int 3)))))
  (aP (aC [] 3 (fL bc au))
  (aP (jt [3] (jv nj (aa (ae 2) au)) (.nm 4) (gU))
  (cn (ae 3)))))))
def cY:List A'->M A':=bq 7 1 (iU)
def bQ:ah->M B':=
 (aP (gF [4,7] 7 (f2 gV (ae 6) (ae 8)))
  (aC [4,7] 6 (f2 dr (ae 6) (ae 8))))
def cT:ah->M B':=
 (aP (aC [4] 6 (fL (aI) (aa (ae 0) (aa (f2 cL (ae 1) (ae 5)) au))))
  (aP (aC [4] 7 (fL bc au))
  (aP (jt [4,7] (fIt (fL bc (aa (ae 2) (aa (f2 vj (f2 v5 (fC (.int 10)) (fC (.int 9))) (fC (.int 4))) (aa (f2 v5 (fC (.int 10)) (fC (.int 9))) (aa (f2 cL (f2 v5 (fC (.int 10)) (fC (.int 9))) (fC (.int 1))) (aa (f2 cL (f2 v5 (fC (.int 10)) (fC (.int 9))) (fC (.int 1))) au))))))) (.nm 8) (bQ))
  (aP (rm [4] [9,10,11,12,13] (ae 7))
  (gF [4] 4 (fL bG (aa (ae 9) (aa (ae 10) (aa (f2 cL (ae 10) (f2 gV (ae 11) (f2 vj (f2 vj (f2 v5 (fC (.int 10)) (fC (.int 9))) (fC (.int 4))) (ae 10)))) (aa (ae 12) (aa (ae 13) au)))))))))))
def gM:ah->M B':=
 (aP (aC [] 4 (fL bc au))
  (aP (jt [4] (jv nj (aa (ae 3) au)) (.nm 5) (cT))
  (cn (ae 4))))
def cj:List A'->M A':=bq 14 4 (gM)
def g9:ah->M B':=
 sIf (v8 (fL (ck) (aa (ae 0) au)))
   (cn (fL (cj) (aa (ae 0) (aa (ae 1) (aa (ae 2) (aa (ae 3) au))))))
   cB
def gc:ah->M B':=
 (aP (aC [4] 6 (fL (aI) (aa (ae 0) (aa (f2 cL (ae 1) (f2 tY (fC (.int 3)) (ae 5))) au))))
  (aP (aC [4] 7 (fL (aI) (aa (ae 0) (aa (f2 cL (f2 cL (ae 1) (f2 tY (fC (.int 3)) (ae 5))) (fC (.int 1))) au))))
  (aP (aC [4] 8 (fL (aI) (aa (ae 0) (aa (f2 cL (f2 cL (ae 1) (f2 tY (fC (.int 3)) (ae 5))) (fC (.int 2))) au))))
  (aP (aC [4] 9 (f2 gV (f2 dr (ae 6) (fC (.int 3))) (f2 ixD (fL bc (aa (fC (.int 20)) (aa (fC (.int 20)) (aa (fC (.int 60)) (aa (f2 tY (fC (.int 9)) (f2 v5 (fC (.int 10)) (fC (.int 8)))) au))))) (f2 gV (f2 dr (ae 6) (fC (.int 3))) (fC (.int 4))))))
  (aP (aC [4] 10 (f2 cL (ae 9) (f2 gV (f2 dr (ae 7) (fC (.int 5))) (f2 ixD (fL bc (aa (fC (.int 5)) (aa (fC (.int 30)) (aa (fC (.int 80)) (aa (f2 v5 (fC (.int 10)) (fC (.int 6))) (aa (f2 v5 (fC (.int 10)) (fC (.int 7))) au)))))) (f2 gV (ae 7) (fC (.int 5)))))))
  (aP (aC [4] 11 (f2 ixD (fL bc (aa (f2 gV (f2 dr (ae 8) (fC (.int 2))) (fC (.int 40))) (aa (f2 gV (f2 dr (ae 8) (fC (.int 2))) (f2 cL (f2 v5 (fC (.int 10)) (fC (.int 9))) (fC (.int 1)))) au))) (f2 gV (ae 8) (fC (.int 2)))))
  (aP (aC [4] 12 (f2 ixD (fL bc (aa (f2 gV (f2 dr (ae 8) (fC (.int 80))) (fC (.int 5))) (aa (f2 gV (f2 dr (ae 8) (fC (.int 80))) (fC (.int 5))) (aa (f2 gV (f2 dr (ae 8) (fC (.int 80))) (f2 cL (f2 v5 (fC (.int 10)) (fC (.int 9))) (fC (.int 1)))) au)))) (f2 gV (f2 dr (ae 8) (fC (.int 8))) (fC (.int 3)))))
  (gF [4] 4 (fL bG (aa (f2 gV (ae 6) (ae 2)) (aa (ae 9) (aa (ae 10) (aa (ae 11) (aa (ae 12) au))))))))))))))
def il:ah->M B':=
 (aP (g9)
  (aP (aC [] 4 (fL bc au))
  (aP (jt [4] (jv nj (aa (ae 3) au)) (.nm 5) (gc))
  (cn (ae 4)))))
def cy:List A'->M A':=bq 13 4 (il)
def mh:ah->M B':=
 (cn (aZ (fIt (ae 0)) [f_] (.nm 0) eW (fL gL (aa (ae 0) au))))
def gn:List A'->M A':=bq 1 1 (mh)
def sI:ah->M B':=
 sIf (fOr (Cu (v8 (f1 oE (ae 0)))) (v8 (f1 mf (ae 0))))
   (cn (fC (.bl c_)))
   cB
def Aq:ah->M B':=
 (aP (sI)
  (cn (fS leD leD (fC (.int 0)) (ae 0) (fC (.int 1000000)))))
def ki:List A'->M A':=bq 1 1 (Aq)
def nu:ah->M B':=
 (cn (wN (f1 md (ae 0)) (wN (f2 eqM (fL kJ (aa (ae 0) au)) (ae 1)) (fL allD (aa (aZ (fIt (ae 0)) [f_] (.nm 0) eW (fL (ki) (aa (ae 0) au))) au)))))
def dJ:List A'->M A':=bq 2 2 (nu)
def jm:ah->M B':=
 sIf (Cu (fB (fS leD leD (fC (.int 1)) (ae 1) (fC (.int 6)))))
   sStk
   cB
def jl:ah->M B':=
 sIf (Cu (v8 (fL allD (aa (aZ (fIt (ae 0)) [f_,a_ 1] (.nm 0) eW (fL (dJ) (aa (ae 0) (aa (ae 1) au)))) au))))
   sStk
   cB
def kN:ah->M B':=
 (aP (aC [] 1 (fL kJ (aa (ae 0) au)))
  (aP (jm)
  (aP (jl)
  (cn (fL (gn) (aa (ae 0) au))))))
def aB:List A'->M A':=bq 2 1 (kN)
def iu(CR CP:i_)(n:Nat):ah->M B':=
 sIf (fB (f2 eqM (fL kJ (aa (ae 0) au)) (fC (.int 2))))
   (cn (fL (newP CP (aB)) (aa (f2 ixD (ae 0) (fC (.int 0))) (aa (f2 ixD (ae 0) (fC (.int 1))) au))))
   cB
def jL(CR CP:i_)(n:Nat):ah->M B':=
 (aP (iu CR CP n)
  (cn (fL (newR CR (aB)) (aa (f2 ixD (ae 0) (fC (.int 0))) au))))
def fK(CR CP:i_)(n:Nat):List A'->M A':=bq 1 1 (jL CR CP n)
def ip(R:List A'->M A'):ah->M B':=
 sIf (fB (f2 eqM (ae 1) (fC (.int 0))))
   (cn (fL bc (aa (fL bG au) au)))
   cB
def fE(R:List A'->M A'):ah->M B':=
 (gF [2] 2 (f2 cL (fL bG (aa (ae 4) au)) (ae 5)))
def fy(R:List A'->M A'):ah->M B':=
 (jt [2] (fIt (fL R (aa (fSl dT (ae 0) (l7 (f2 cL (ae 3) (fC (.int 1)))) nP) (aa (f2 vj (ae 1) (fC (.int 1))) au)))) (.nm 5) (fE R))
def fQ(R:List A'->M A'):ah->M B':=
 (aP (ip R)
  (aP (aC [] 2 (fL bc au))
  (aP (jt [2] (C0 (ae 0)) (.tp [3,4]) (fy R))
  (cn (ae 2)))))
def bD:Nat->ah->M B'
 |0=>λ_=>stk|d+1=>fQ (bq 6 2 (bD d))
def jF:List A'->M A':=bq 6 2 (bD 6)
def jJ:ah->M B':=
 (aP (aC [] 3 (fTR (jv nj (aa (fL maxD (aa (fC (.int 0)) (aa (f2 vj (ae 2) (ae 1)) au))) au))))
  (aP (aC [] 4 (fLR (jv zS (aa (fL kJ (aa (ae 3) au)) (aa (fL minD (aa (ae 0) (aa (f2 cL (ae 2) (ae 1)) au))) au)))))
  (cn (aZ (fIt (fL (jF) (aa (ae 4) (aa (f2 vj (ae 2) (fL kJ (aa (ae 3) au))) au)))) [f_,a_ 3] (.nm 0) eW (f2 cL (ae 1) (ae 0))))))
def cN:List A'->M A':=bq 5 3 (jJ)
def jg:ah->M B':=
 (cn (aZ (nv (ae 0)) [f_,f_,a_ 0] (.tp [0,1]) eW (fL bG (aa (f2 cL (fSl dT (ae 2) nP (l7 (ae 0))) (fSl dT (ae 2) (l7 (f2 cL (ae 0) (fC (.int 1)))) nP)) (aa (ae 1) au)))))
def cp:List A'->M A':=bq 1 1 (jg)
def qt:ah->M B':=
 (Bq 4 (ae 5) (fL sumD (aa (aZ (fIt (fL (cp) (aa (ae 5) au))) [f_,f_,a_ 2] (.tp [0,1]) eW (wM (ae 2) (ae 0) (fC (.int 0)))) au)))
def qr:ah->M B':=
 (aP (aC [] 4 (fC (.dic [])))
  (aP (jt [4] (fIt (fL (cN) (aa (ae 0) (aa (ae 1) (aa (ae 3) au))))) (.nm 5) (qt))
  (aC [] 2 (ae 4))))
def um:ah->M B':=
 (aP (aC [] 2 (f2 mkD1 (fL bG au) (fC (.int 1))))
  (aP (jt [] (jv zS (aa (fC (.int 1)) (aa (f2 cL (ae 0) (fC (.int 1))) au))) (.nm 3) (qr))
  (cn (f1 CT (ae 2)))))
def aR:List A'->M A':=bq 6 2 (um)
def gN:ah->M B':=
 (cn (fC (.int 1)))
def b9:List A'->M A':=bq 1 1 (gN)
def i9:ah->M B':=
 (cn (fC (.int 2)))
def br:List A'->M A':=bq 1 1 (i9)
def fw(CR CP:i_)(n:Nat):ah->M B':=
 (aC [] 3 (f2 tY (ae 3) (eK CR CP "many_strips" (b9) (br) (ae 0) au)))
def nr(CR CP:i_)(n:Nat):ah->M B':=
 (aP (aC [] 3 (fL (aR) (aa (ae 1) (aa (ae 2) au))))
  (aP (jt [] (jv nj (aa (ae 1) au)) (.nm 4) (fw CR CP n))
  (cn (ae 3))))
def i3(CR CP:i_)(n:Nat):List A'->M A':=bq 5 3 (nr CR CP n)
def gQ(CR CP:i_)(n:Nat):ah->M B':=
 sIf (fB (f2 gtD (fL (i3 CR CP n) (aa (ae 0) (aa (fL kJ (aa (ae 1) au)) (aa (ae 2) au)))) (fC (.int 5000))))
   sStk
   cB
def iG(CR CP:i_)(n:Nat):ah->M B':=
 (gQ CR CP n)
def bW(CR CP:i_)(n:Nat):List A'->M A':=bq 3 3 (iG CR CP n)
def cJ:ah->M B':=
 (sExt [2] 2 (fL (cN) (aa (ae 0) (aa (ae 1) (aa (ae 3) au)))))
def ji:ah->M B':=
 (aP (aC [] 2 (fL bc au))
  (aP (jt [2] (jv nj (aa (f2 cL (ae 0) (fC (.int 1))) au)) (.nm 3) (cJ))
  (cn (ae 2))))
def cq:List A'->M A':=bq 4 2 (ji)
def eB:ah->M B':=
 sIf (fB (f2 gtD (f2 ixD (ae 0) (fC (.int 0))) (f2 ixD (ae 1) (fC (.int 0)))))
   (cn (fC (.bl c_)))
   cB
def gR:ah->M B':=
 sIf (fB (f2 gtD (ae 4) (ae 5)))
   (cn (fC (.bl c_)))
   cB
def eE:ah->M B':=
 (gR)
def eC:ah->M B':=
 (jt [] (uq (ae 2) (ae 3)) (.tp [4,5]) (eE))
def gv:ah->M B':=
 (aP (eB)
  (aP (jt [] (uq (f2 ixD (ae 0) (fC (.int 1))) (f2 ixD (ae 1) (fC (.int 1)))) (.tp [2,3]) (eC))
  (cn (fC (.bl d_)))))
def cf:List A'->M A':=bq 6 2 (gv)
def g8:ah->M B':=
 sIf (v8 (fL (cf) (aa (ae 2) (aa (ae 1) au))))
   (cn (fC (.bl d_)))
   cB
def bw:ah->M B':=
 (g8)
def dz:ah->M B':=
 (aP (jt [] (fItL (ae 0)) (.nm 2) (bw))
  (cn (fC (.bl c_))))
def b6:List A'->M A':=bq 3 2 (dz)
def gS:ah->M B':=
 sIf (Cu (v8 (fL (b6) (aa (ae 1) (aa (ae 2) au)))))
   (gF [1] 1 (ae 2))
   cB
def c8:ah->M B':=
 (gS)
def mi:ah->M B':=
 (aP (aC [] 1 (fL bc au))
  (aP (jt [1] (fIt (fL xO (aa (ae 0) au))) (.nm 2) (c8))
  (cn (ae 1))))
def gp:List A'->M A':=bq 3 1 (mi)
def e8(CR CP:i_)(n:Nat):ah->M B':=
 (cn (fL kJ (aa (f1 (qW [CR,CP] "gaps") (ae 0)) au)))
def aT(CR CP:i_)(n:Nat):List A'->M A':=bq 1 1 (e8 CR CP n)
def iT(CR CP:i_)(n:Nat):ah->M B':=
 (aP (aC [] 1 (fL nc (aa (aZ (jv nj (aa (eK CR CP "many_kinds" (aT CR CP n) (aT CR CP n) (ae 0) au) au)) [f_] (.nm 0) eW (f1 yv (fC (.int 1)))) au)))
  (cn (fL bG (aa (fC (.int 0)) (aa (fL nc (aa (aZ (jv nj (aa (eK CR CP "many_strips" (b9) (br) (ae 0) au) au)) [f_,a_ 1] (.nm 0) eW (ae 1)) au)) au)))))
def gm(CR CP:i_)(n:Nat):List A'->M A':=bq 2 1 (iT CR CP n)
def bV:ah->M B':=
 sIf (fAnd (v8 (ae 1)) (fB (f2 leD (ae 2) (f2 ixD (f2 ixD (ae 1) (f1 yv (fC (.int 1)))) (fC (.int 1))))))
   (xY 1 (f1 yv (fC (.int 1))) (fL bG (aa (f2 ixD (f2 ixD (ae 1) (f1 yv (fC (.int 1)))) (fC (.int 0))) (aa (fL maxD (aa (ae 3) (aa (f2 ixD (f2 ixD (ae 1) (f1 yv (fC (.int 1)))) (fC (.int 1))) au))) au))))
   (gF [1] 1 (fL bG (aa (ae 2) (aa (ae 3) au))))
def bz:ah->M B':=
 (bV)
def i7:ah->M B':=
 (aP (aC [] 1 (fL bc au))
  (aP (jt [1] (fIt (fL k8 (aa (ae 0) au))) (.tp [2,3]) (bz))
  (cn (ae 1))))
def cF:List A'->M A':=bq 4 1 (i7)
def mz:ah->M B':=
 sIf (fB (fS leD ltD (ae 2) (ae 1) (ae 3)))
   (cn (ae 3))
   cB
def j6:ah->M B':=
 (mz)
def lu:ah->M B':=
 (aP (jt [] (fIt (fL (cF) (aa (ae 0) au))) (.tp [2,3]) (j6))
  (cn (ae 1)))
def eV:List A'->M A':=bq 4 2 (lu)
def nt:ah->M B':=
 (aP (y0 3 (aZ (fIt (ae 0)) [f_] (.nm 0) eW (fL gL (aa (ae 0) au))) (ae 2) (f2 ixD (ae 1) (fC (.int 1))) (f2 ixD (ae 1) (fC (.int 0))))
  (cn (fL nc (aa (aZ (fIt (ae 3)) [f_] (.nm 0) eW (fL nc (aa (ae 0) au))) au))))
def i4:List A'->M A':=bq 4 3 (nt)
def pO:ah->M B':=
 (aP (aC [] 2 (f2 ixD (ae 0) (fC (.int 3))))
  (aP (aC [] 3 (f2 ixD (ae 0) (fC (.int 4))))
  (cn (f2 tY (ae 3) (fL maxD (aa (fC (.int 0)) (aa (f2 vj (ae 1) (ae 2)) au)))))))
def iQ:List A'->M A':=bq 4 2 (pO)
def mm(CR CP:i_)(n:Nat):ah->M B':=
 (cn (f2 ixD (f2 ixD (f1 (qW [CR,CP] "gaps") (ae 0)) (f2 ixD (ae 1) (fC (.int 0)))) (f2 ixD (ae 2) (fC (.int 0)))))
def dX(CR CP:i_)(n:Nat):List A'->M A':=bq 3 3 (mm CR CP n)
def jP(CR CP:i_)(n:Nat):ah->M B':=
 (aP (aC [] 3 (fIte (fB (f2 eqM (f2 ixD (ae 1) (fC (.int 1))) (f2 ixD (ae 2) (fC (.int 1))))) (f1 (qW [CR,CP] "gaps") (ae 0)) (f1 (qW [CP] "beside") (ae 0))))
  (cn (f2 ixD (f2 ixD (ae 3) (f2 ixD (ae 1) (fC (.int 0)))) (f2 ixD (ae 2) (fC (.int 0))))))
def dO(CR CP:i_)(n:Nat):List A'->M A':=bq 4 3 (jP CR CP n)
def eA(CR CP:i_)(n:Nat):ah->M B':=
 sIf (fB (f2 neM (ae 7) (f1 yv (fC (.int 1)))))
   (gF [3] 3 (f2 cL (ae 7) (eK CR CP "apart" (dX CR CP n) (dO CR CP n) (ae 0) (aa (fL bG (aa (ae 6) (aa (ae 4) au))) (aa (ae 2) au)))))
   cB
def bP(CR CP:i_)(n:Nat):ah->M B':=
 (eA CR CP n)
def cI(CR CP:i_)(n:Nat):ah->M B':=
 (jt [3] (nv (ae 5)) (.tp [6,7]) (bP CR CP n))
def jh(CR CP:i_)(n:Nat):ah->M B':=
 (aP (aC [] 3 (fL bc au))
  (aP (jt [3] (nv (ae 1)) (.tp [4,5]) (cI CR CP n))
  (cn (ae 3))))
def dC(CR CP:i_)(n:Nat):List A'->M A':=bq 8 3 (jh CR CP n)
def g0:ah->M B':=
 sIf (fB (f2 gtD (ae 8) (f2 ixD (ae 6) (fC (.int 2)))))
   (cn (fC .non))
   cB
def ik(CR CP:i_)(n:Nat):ah->M B':=
 (aP (aC [] 6 (f2 ixD (ae 1) (ae 4)))
  (aP (aC [] 7 (fL bG (aa (f2 ixD (ae 6) (fC (.int 0))) (aa (ae 5) au))))
  (aP (aC [] 8 (fL (eV) (aa (ae 2) (aa (fL maxD (aa (f2 cL (fL bc (aa (f2 ixD (ae 6) (fC (.int 1))) au)) (fL (dC CR CP n) (aa (ae 0) (aa (f2 ixD (ae 3) (fC (.int 1))) (aa (ae 7) au))))) au)) au))))
  (aP (g0)
  (cn (fL bG (aa (f2 cL (f2 ixD (ae 3) (fC (.int 0))) (fL (iQ) (aa (ae 6) (aa (ae 8) au)))) (aa (fL (i4) (aa (f2 ixD (ae 3) (fC (.int 1))) (aa (ae 7) (aa (ae 8) au)))) au))))))))
def cx(CR CP:i_)(n:Nat):List A'->M A':=bq 9 6 (ik CR CP n)
def f9:ah->M B':=
 sIf (fB (f2 vZ (ae 10) (fC .non)))
   (oV 5 (ae 10) (fC (.bl d_)))
   cB
def c7(CR CP:i_)(n:Nat):ah->M B':=
 (aP (aC [5] 10 (fL (cx CR CP n) (aa (ae 0) (aa (ae 1) (aa (ae 2) (aa (ae 8) (aa (ae 7) (aa (ae 9) au))))))))
  (f9))
def di(CR CP:i_)(n:Nat):ah->M B':=
 (jt [5] (jv nj (aa (eK CR CP "many_strips" (b9) (br) (ae 0) au) au)) (.nm 9) (c7 CR CP n))
def dh(CR CP:i_)(n:Nat):ah->M B':=
 (jt [5] (fIt (wM (ae 3) (ae 6) (fL bc au))) (.nm 8) (di CR CP n))
def jI(CR CP:i_)(n:Nat):ah->M B':=
 (aP (aC [] 5 (fC (.dil [])))
  (aP (jt [5] (fIt (fL (cp) (aa (ae 4) au))) (.tp [6,7]) (dh CR CP n))
  (cn (ae 5))))
def cM(CR CP:i_)(n:Nat):List A'->M A':=bq 11 5 (jI CR CP n)
def jW(CR CP:i_)(n:Nat):ah->M B':=
 sIf (fB (f2 eqM (ae 5) (fL bG au)))
   (nh 4 (ae 5) (fL bc (aa (fL (gm CR CP n) (aa (ae 0) au)) au)))
   (nh 4 (ae 5) (fL (gp) (aa (fL (cM CR CP n) (aa (ae 0) (aa (ae 1) (aa (ae 2) (aa (ae 4) (aa (ae 5) au)))))) au)))
def fV(CR CP:i_)(n:Nat):ah->M B':=
 (jW CR CP n)
def rW(CR CP:i_)(n:Nat):ah->M B':=
 (aP (oW [] (fL (bW CR CP n) (aa (ae 0) (aa (ae 1) (aa (ae 3) au)))))
  (aP (aC [] 4 (fC (.dic [])))
  (aP (jt [4] (fIt (fL (cq) (aa (fL kJ (aa (ae 1) au)) (aa (ae 3) au)))) (.nm 5) (fV CR CP n))
  (cn (ae 4)))))
def kg(CR CP:i_)(n:Nat):List A'->M A':=bq 6 4 (rW CR CP n)
def d8(CR CP:i_)(n:Nat):ah->M B':=
 sIf (fB (f2 eqM (ae 4) (fL bG au)))
   (cn (f2 eqM (f2 ixKD (ae 3) (ae 4)) (fL bc (aa (fL (gm CR CP n) (aa (ae 0) au)) au))))
   cB
def fg:ah->M B':=
 sIf (Cu (v8 (fL allD (aa (aZ (fItL (ae 6)) [f_,a_ 5] (.nm 0) eW (f2 inLD (ae 0) (ae 1))) au))))
   (cn (fC (.bl c_)))
   cB
def dZ(CR CP:i_)(n:Nat):ah->M B':=
 (aP (d8 CR CP n)
  (aP (aC [] 5 (fL (cM CR CP n) (aa (ae 0) (aa (ae 1) (aa (ae 2) (aa (ae 3) (aa (ae 4) au)))))))
  (aP (aC [] 6 (fL AD (aa (aZ (fIt (f2 ixKD (ae 3) (ae 4))) [f_] (.nm 0) eW (fL bG (aa (ae 0) (aa (fC (.bl d_)) au)))) au)))
  (aP (fg)
  (cn (fL allD (aa (aZ (fItL (ae 5)) [f_,a_ 6] (.nm 0) (fB (f2 tX (ae 0) (ae 1))) (fL (b6) (aa (ae 1) (aa (ae 0) au)))) au)))))))
def bH(CR CP:i_)(n:Nat):List A'->M A':=bq 7 5 (dZ CR CP n)
def nF:ah->M B':=
 sIf (fB (f2 neM (fL kW (aa (ae 4) au)) (fL kW (aa (ae 5) au))))
   (cn (fC (.bl c_)))
   cB
def rX(CR CP:i_)(n:Nat):ah->M B':=
 (aP (oW [] (fL (bW CR CP n) (aa (ae 0) (aa (ae 1) (aa (ae 3) au)))))
  (aP (aC [] 5 (fL (cq) (aa (fL kJ (aa (ae 1) au)) (aa (ae 3) au))))
  (aP (nF)
  (cn (fL allD (aa (aZ (fIt (ae 5)) [f_,a_ 0,a_ 1,a_ 2,a_ 4] (.nm 0) eW (fL (bH CR CP n) (aa (ae 1) (aa (ae 2) (aa (ae 3) (aa (ae 4) (aa (ae 0) au))))))) au))))))
def kh(CR CP:i_)(n:Nat):List A'->M A':=bq 6 5 (rX CR CP n)
def mB(CR CP:i_)(n:Nat):ah->M B':=
 sIf (fB (f2 notBD (fL (kh CR CP n) (aa (ae 4) (aa (fL gL (aa (ae 1) au)) (aa (fL gL (aa (ae 2) au)) (aa (ae 3) (aa (ae 5) au)))))) (fC (.bl d_))))
   (cn (f1 yv (fC (.int 1))))
   cB
def pP(CR CP:i_)(n:Nat):ah->M B':=
 (aP (aC [] 4 (fL (fK CR CP n) (aa (ae 0) au)))
  (aP (aC [] 5 (fL (kg CR CP n) (aa (ae 4) (aa (fL gL (aa (ae 1) au)) (aa (fL gL (aa (ae 2) au)) (aa (ae 3) au))))))
  (aP (mB CR CP n)
  (cn (f2 wg (aZ (fIt (f2 ixKD (ae 5) (fTR (jv nj (aa (fL kJ (aa (ae 1) au)) au))))) [f_] (.nm 0) eW (f2 ixD (ae 0) (fC (.int 0)))) (fC .non))))))
def cg(CR CP:i_)(n:Nat):List A'->M A':=bq 6 4 (pP CR CP n)
def eI:ah->M B':=
 (aP (aC [4] 6 (aZ (jv nj (aa (ae 0) au)) [f_,a_ 5] (.nm 0) (fB (f2 w9 (ae 0) (ae 1))) (ae 0)))
  (sExt [4] 4 (aZ (fIt (ae 6)) [f_,a_ 1,a_ 3,a_ 5] (.nm 0) (fB (fS leD leD (f1 yv (ae 1)) (f2 vj (ae 0) (ae 2)) (ae 1))) (f2 cL (ae 3) (fL bc (aa (ae 0) au))))))
def eG:ah->M B':=
 (aP (aC [] 4 (fL bc au))
  (aP (jt [4] (fIt (ae 2)) (.nm 5) (eI))
  (aC [] 2 (ae 4))))
def mj:ah->M B':=
 (aP (aC [] 2 (fL bc (aa (fL bc au) au)))
  (aP (jt [] (jv nj (aa (ae 0) au)) (.nm 3) (eG))
  (cn (ae 2))))
def gq:List A'->M A':=bq 7 2 (mj)
def dB:ah->M B':=
 (aC [] 3 (f2 cL (ae 3) (aZ (fIt (ae 3)) [f_,a_ 4] (.nm 0) eW (f2 cL (f2 cL (fSl dT (ae 0) nP (l7 (ae 1))) (fL bc (aa (fL bG (aa (f2 ixD (f2 ixD (ae 0) (ae 1)) (fC (.int 0))) (aa (fC (.int 1)) au))) au))) (fSl dT (ae 0) (l7 (f2 cL (ae 1) (fC (.int 1)))) nP)))))
def iw:ah->M B':=
 sIf (fB (f2 eqM (ae 2) (fC (.int 2))))
   (jt [] (jv nj (aa (ae 0) au)) (.nm 4) (dB))
   cB
def jM:ah->M B':=
 (aP (aC [] 3 (aZ (fIt (fL (gq) (aa (ae 0) (aa (ae 1) au)))) [f_] (.nm 0) eW (aZ (fIt (ae 0)) [f_] (.nm 0) eW (fL bG (aa (ae 0) (aa (fC (.int 0)) au))))))
  (aP (iw)
  (cn (ae 3))))
def dN:List A'->M A':=bq 5 3 (jM)
def iZ:ah->M B':=
 sIf (fB (f2 eqM (ae 2) (fL bc au)))
   (cn (ae 1))
   cB
def gh:ah->M Bool:=
 (v8 (fC (.bl d_)))
def dj:ah->M B':=
 (aP (aC [] 2 (aZ (fIt (ae 0)) [f_,f_,a_ 1] (.tp [0,1]) (fB (fS leD ltD (ae 0) (ae 2) (ae 1))) (ae 1)))
  (aP (iZ)
  (aC [] 1 (fL maxD (aa (ae 2) au)))))
def pQ(CR CP:i_)(n:Nat):ah->M B':=
 (gC (gh) (dj) n)
def iR(CR CP:i_)(n:Nat):List A'->M A':=bq 3 2 (pQ CR CP n)
def iy:ah->M B':=
 sIf (fB (f2 eqM (f2 ixD (ae 1) (fC (.int 1))) (f2 ixD (ae 2) (fC (.int 1)))))
   (cn (f2 ixD (f2 ixD (f2 ixD (ae 0) (fC (.int 0))) (f2 ixD (ae 1) (fC (.int 0)))) (f2 ixD (ae 2) (fC (.int 0)))))
   cB
def jO:ah->M B':=
 (aP (iy)
  (cn (f2 ixD (f2 ixD (f2 ixD (ae 0) (fC (.int 1))) (f2 ixD (ae 1) (fC (.int 0)))) (f2 ixD (ae 2) (fC (.int 0))))))
def cO:List A'->M A':=bq 3 3 (jO)
def iq:ah->M B':=
 sIf (fB (f2 gtD (ae 14) (ae 10)))
   (cn (fC .non))
   cB
def bf(CR CP:i_)(n:Nat):ah->M B':=
 (aP (xX [4,5] (.tp [8,9,10,11,12]) (f2 ixD (ae 1) (ae 6)))
  (aP (xZ d_ 13 (aZ (fZip (ae 4) (ae 5)) [f_,f_,a_ 0,a_ 7,a_ 8] (.tp [0,1]) eW (f2 cL (ae 1) (fL (cO) (aa (ae 2) (aa (ae 0) (aa (fL bG (aa (ae 4) (aa (ae 3) au))) au)))))))
  (aP (aC [4,5] 14 (fL (iR CR CP n) (aa (ae 2) (aa (fL maxD (aa (f2 cL (fL bc (aa (ae 9) au)) (ae 13)) au)) au))))
  (aP (iq)
  (aP (gF [4,5] 4 (fL bG (aa (ae 8) (aa (ae 7) au))))
  (gF [4,5] 5 (ae 14)))))))
def jK(CR CP:i_)(n:Nat):ah->M B':=
 (aP (aC [] 4 (fL bc au))
  (aP (aC [4] 5 (fL bc au))
  (aP (jt [4,5] (fIt (ae 3)) (.tp [6,7]) (bf CR CP n))
  (cn (ae 5)))))
def dM(CR CP:i_)(n:Nat):List A'->M A':=bq 15 4 (jK CR CP n)
def gz:ah->M B':=
 (aC [] 3 (f2 cL (ae 3) (f2 tY (f2 ixD (f2 ixD (ae 0) (f2 ixD (ae 4) (fC (.int 0)))) (fC (.int 4))) (fL maxD (aa (fC (.int 0)) (aa (f2 vj (ae 5) (f2 ixD (f2 ixD (ae 0) (f2 ixD (ae 4) (fC (.int 0)))) (fC (.int 3)))) au))))))
def pR:ah->M B':=
 (aP (aC [] 3 (fC (.int 0)))
  (aP (jt [] (fZip (ae 1) (ae 2)) (.tp [4,5]) (gz))
  (cn (ae 3))))
def iS:List A'->M A':=bq 6 3 (pR)
def dH:ah->M B':=
 sIf (fB (f2 vZ (ae 6) (fC .non)))
   (gF [4] 4 (fL (iS) (aa (ae 1) (aa (ae 5) (aa (ae 6) au)))))
   cB
def aX(CR CP:i_)(n:Nat):ah->M B':=
 (aP (aC [4] 6 (fL (dM CR CP n) (aa (ae 0) (aa (ae 1) (aa (ae 2) (aa (ae 5) au))))))
  (dH))
def iH(CR CP:i_)(n:Nat):ah->M B':=
 (aP (aC [] 4 (fL bc au))
  (aP (jt [4] (fIt (fL (dN) (aa (fL kJ (aa (ae 1) au)) (aa (ae 3) (aa (fL kJ (aa (ae 0) au)) au))))) (.nm 5) (aX CR CP n))
  (cn (f2 wg (ae 4) (fC .non)))))
def bX(CR CP:i_)(n:Nat):List A'->M A':=bq 7 4 (iH CR CP n)
def cH:ah->M B':=
 sIf (fB (f2 isND (ae 0) (fC .non)))
   (cn (f2 isND (ae 1) (fC .non)))
   cB
def dE:ah->M B':=
 (aP (cH)
  (cn (wN (f2 geD (ae 0) (fC (.int 0))) (fOrV (f2 isND (ae 1) (fC .non)) (f2 leD (ae 0) (ae 1))))))
def bu:List A'->M A':=bq 2 2 (dE)
def zg(CR CP:i_)(n:Nat):ah->M B':=
 sIf (fB (f2 neM (ae 6) (fL (bX CR CP n) (aa (ae 1) (aa (ae 5) (aa (ae 4) (aa (ae 2) au)))))))
   (cn (fC (.bl c_)))
   cB
def qp:ah->M B':=
 sIf (fAnd (fB (f2 eqM (fL kJ (aa (ae 1) au)) (fC (.int 1)))) (fB (f2 ltD (ae 3) (fC (.int 5)))))
   (aP (gF [10] 10 (fL bG (aa (f2 cL (ae 1) (fL bc (aa (fL (bY) (aa (ae 0) (aa (fC (.int 12)) (aa (fL kJ (aa (f2 ixD (ae 1) (fC (.int 0))) au)) au)))) au))) (aa (ae 5) (aa (ae 4) au)))))
  cB)
   cB
def Fm(CR CP:i_)(n:Nat):ah->M B':=
 sIf (Cu (v8 (fL (bu) (aa (fL (cg CR CP n) (aa (f2 ixD (ae 11) (fC (.int 0))) (aa (f2 ixD (ae 11) (fC (.int 1))) (aa (f2 ixD (ae 11) (fC (.int 2))) (aa (ae 2) au))))) (aa (ae 6) au)))))
   (cn (fC (.bl c_)))
   cB
def uO(CR CP:i_)(n:Nat):ah->M B':=
 (Fm CR CP n)
def n5(CR CP:i_)(n:Nat):ah->M B':=
 sIf (fAnd (fB (f2 ltD (ae 2) (fC (.int 3)))) (fB (f2 ltD (ae 3) (f2 vj (fC (.int 6)) (fL kJ (aa (ae 1) au))))))
   (cn (fL (bu) (aa (fL (cg CR CP n) (aa (ae 1) (aa (ae 5) (aa (ae 4) (aa (f2 cL (ae 2) (fC (.int 1))) au))))) (aa (ae 6) au))))
   cB
def g_law(CR CP:i_)(n:Nat):ah->M B':=
 (aP (aC [] 1 (fL (gJ) (aa (ae 0) au)))
  (aP (xX [] (.tp [2,3]) (fL (kj) (aa (ae 0) (aa (ae 1) au))))
  (aP (aC [] 4 (fL (cY) (aa (ae 0) au)))
  (aP (aC [] 5 (fL (cy) (aa (ae 0) (aa (fC (.int 21)) (aa (fL kJ (aa (f2 ixD (ae 1) (fC (.int 0))) au)) (aa (ae 3) au))))))
  (aP (aC [] 6 (fL (cg CR CP n) (aa (ae 1) (aa (ae 5) (aa (ae 4) (aa (ae 2) au))))))
  (aP (zg CR CP n)
  (aP (aC [] 7 (fL (aI) (aa (ae 0) (aa (fC (.int 2)) au))))
  (aP (lR 8 (aZ (fIt (ae 1)) [f_] (.nm 0) eW (aZ (fIt (ae 0)) [f_] (.nm 0) eW (fL gL (aa (ae 0) au)))) (fC (.int 0)) (f2 gV (ae 7) (fL kJ (aa (f2 ixD (ae 1) (fC (.int 0))) au))) (f2 gV (f2 dr (ae 7) (fC (.int 3))) (fL kJ (aa (f2 ixD (ae 1) (fC (.int 0))) au))))
  (aP (aC [] 9 (aZ (fIt (ae 5)) [f_,f_,f_,f_,f_] (.tp [0,1,2,3,4]) eW (fL bG (aa (ae 0) (aa (ae 1) (aa (f2 cL (ae 2) (fC (.int 5))) (aa (ae 3) (aa (ae 4) au))))))))
  (aP (aC [] 10 (fL bc (aa (fL bG (aa (ae 8) (aa (ae 5) (aa (ae 4) au)))) (aa (fL bG (aa (ae 1) (aa (ae 9) (aa (ae 4) au)))) (aa (fL bG (aa (ae 1) (aa (ae 5) (aa (fSl dT (ae 4) (l7 (fC (.int 1))) nP) au)))) au)))))
  (aP (qp)
  (aP (jt [] (fIt (ae 10)) (.nm 11) (uO CR CP n))
  (aP (n5 CR CP n)
  (cn (fC (.bl d_))))))))))))))))
def m_law(CR CP:i_)(n:Nat):List A'->M A':=bq 12 1 (g_law CR CP n)
noncomputable def top(i:Nat):G1:=Qm.main.body.getD i (.Pass ⟨0,0,0,0⟩)
abbrev xW:G1:=top 42
abbrev xU:G1:=top 43
abbrev oU:G1:=top 46
abbrev xT:G1:=top 47
abbrev Bp:G1:=top 58
abbrev lP:G1:=top 45
abbrev tm:G1:=top 50
abbrev kX:G1:=top 44
abbrev qC:G1:=top 49
abbrev t9:G1:=top 37
abbrev s_is_gap:G1:=top 35
abbrev vy:G1:=top 36
abbrev ij:G1:=top 38
abbrev vA:G1:=top 48
abbrev hU:G1:=top 17
abbrev oT:G1:=top 18
abbrev nK:G1:=top 19
abbrev t6:G1:=top 20
abbrev kY:G1:=inClass (top 39) 2
abbrev lQ:G1:=inClass (top 40) 1
abbrev vw:G1:=top 23
abbrev mH:G1:=top 24
abbrev nM:G1:=top 25
abbrev t7:G1:=top 15
abbrev qB:G1:=top 27
abbrev tf:G1:=top 28
abbrev hV:G1:=inClass (top 39) 1
abbrev t8:G1:=top 11
abbrev lO:G1:=top 8
abbrev xP:G1:=top 9
abbrev vx:G1:=top 13
abbrev xQ:G1:=top 6
abbrev tw:G1:=inClass (top 39) 3
abbrev vD:G1:=inClass (top 40) 2
abbrev nL:G1:=top 12
abbrev qA:G1:=top 14
abbrev oR:G1:=top 26
abbrev Bm:G1:=top 29
abbrev oS:G1:=top 30
abbrev Bo:G1:=top 31
abbrev xR:G1:=top 59
abbrev tj:G1:=top 53
abbrev vB:G1:=top 54
abbrev xS:G1:=top 52
abbrev vC:G1:=top 51
abbrev vz:G1:=top 55
abbrev xV:G1:=top 56
abbrev mI:G1:=top 57
abbrev nO:G1:=top 60
abbrev s_law:G1:=top 61
abbrev s_nR:G1:=inClass (top 39) 0
abbrev s_nP:G1:=inClass (top 40) 0
structure Zs(K:Pn)(mg:Ld)(CR CP:i_):Prop where
 kR:Kls K mg "Rules" CR
 kP:Kls K mg "Pair" CP
 iX:∀C∈[CR,CP],Cls K C/\jq K C "gaps"
 se:∀C∈[CP],Cls K C/\jq K C "beside"
 Cy:mg "all"=f_
 z_bool:mg "bool"=f_
 z_dict:mg "dict"=f_
 iM:mg "enumerate"=f_
 z_int:mg "int"=f_
 jx:mg "isinstance"=f_
 gB:mg "len"=f_
 lK:mg "list"=f_
 xG:mg "max"=f_
 z_min:mg "min"=f_
 cA:mg "range"=f_
 o7:mg "sorted"=f_
 z_sum:mg "sum"=f_
 mD:mg "tuple"=f_
 z_zip:mg "zip"=f_
 qP:∃t,mg "GREATEST_GAP"=a_ (.int 1000000 t)
 wC:∃t,mg "MOST_KINDS"=a_ (.int 6 t)
 wB:∃t,mg "MOST_PLANS"=a_ (.int 5000 t)
 kit:Kit K
 yY:∃f fd,Def K mg "_law_cell" xW ["_law_script","_law_k"] f fd
 yW:∃f fd,Def K mg "_law_free" xU ["_law_script"] f fd
 qf:∃f fd,Def K mg "_law_gap_rows" oU ["_law_script","_law_start","_law_kinds"] f fd
 yV:∃f fd,Def K mg "_law_gaps" xT ["_law_script"] f fd
 C9:∃f fd,Def K mg "_law_few" Bp ["_law_script","_law_gaps_here"] f fd
 mx:∃f fd,Def K mg "_law_free_closed" lP ["_law_script"] f fd
 uF:∃f fd,Def K mg "_law_closed" tm ["_law_script"] f fd
 lC:∃f fd,Def K mg "_law_free_flights" kX ["_law_script","_law_start","_law_kinds","_law_many"] f fd
 qT:∃f fd,Def K mg "_law_flights" qC ["_law_script","_law_start","_law_kinds","_law_many"] f fd
 uC:∃f fd,Def K mg "copied_rows" t9 ["rows"] f fd
 d_is_gap:∃f fd,Def K mg "is_gap" s_is_gap ["number"] f fd
 xf:∃f fd,Def K mg "is_gap_row" vy ["row","kinds"] f fd
 qS:∃f fd,Def K mg "checked_rows" ij ["rows"] f fd
 xh:∃f fd,Def K mg "_law_rules" vA ["_law_gaps_here"] f fd
 bD:∃f fd,Def K mg "choices_of" hU ["pool","size"] f fd
 qe:∃f fd,Def K mg "beginnings_of" oT ["many","shift","size"] f fd
 nV:∃f fd,Def K mg "smaller_by_one" nK ["some"] f fd
 uz:∃f fd,Def K mg "many_orders" t6 ["many","shift"] f fd
 xc:∃f fd,Def K mg "many_plans" vw ["rules","many","shift"] f fd
 mX:∃f fd,Def K mg "refuse_too_many" mH ["rules","flights","shift"] f fd
 nX:∃f fd,Def K mg "all_beginnings" nM ["many","shift"] f fd
 uA:∃f fd,Def K mg "is_no_worse" t7 ["one","other"] f fd
 qR:∃f fd,Def K mg "has_no_worse" qB ["labels","label"] f fd
 uD:∃f fd,Def K mg "best_labels" tf ["labels"] f fd
 uB:∃f fd,Def K mg "first_label" t8 ["rules"] f fd
 mw:∃f fd,Def K mg "joined_stretches" lO ["closed"] f fd
 yR:∃f fd,Def K mg "next_open" xP ["closed","time"] f fd
 xd:∃f fd,Def K mg "lasts_with" vx ["lasts","spot","time"] f fd
 yS:∃f fd,Def K mg "late_cost" xQ ["flight","time"] f fd
 nW:∃f fd,Def K mg "last_gap_times" nL ["rules","lasts","spot"] f fd
 qQ:∃f fd,Def K mg "label_behind" qA ["rules","flights","closed","label","flight","strip"] f fd
 q9:∃f fd,Def K mg "labels_behind" oR ["rules","flights","closed","paper","some"] f fd
 C7:∃f fd,Def K mg "paper_of" Bm ["rules","flights","closed","shift"] f fd
 qc:∃f fd,Def K mg "is_right_list" oS ["rules","flights","closed","paper","some"] f fd
 C8:∃f fd,Def K mg "is_paper" Bo ["rules","flights","closed","shift","paper"] f fd
 yT:∃f fd,Def K mg "_law_told" xR ["_law_gaps_here","_law_flights_here","_law_closed_here","_law_shift"] f fd
 uE:∃f fd,Def K mg "_law_orders" tj ["_law_many","_law_shift"] f fd
 xi:∃f fd,Def K mg "_law_plans" vB ["_law_many","_law_shift","_law_strips"] f fd
 yU:∃f fd,Def K mg "_law_open" xS ["_law_closed_here","_law_time"] f fd
 xj:∃f fd,Def K mg "_law_apart" vC ["_law_gaps_here","_law_one","_law_other"] f fd
 xg:∃f fd,Def K mg "_law_times" vz ["_law_gaps_here","_law_flights_here","_law_closed_here","_law_plan"] f fd
 yX:∃f fd,Def K mg "_law_cost" xV ["_law_flights_here","_law_plan","_law_times_here"] f fd
 mY:∃f fd,Def K mg "_law_least_cost" mI ["_law_gaps_here","_law_flights_here","_law_closed_here","_law_shift"] f fd
 nY:∃f fd,Def K mg "_law_no_dearer" nO ["_law_found","_law_least"] f fd
 d_law:∃f fd,Def K mg "law" s_law ["_law_script"] f fd/\∀(s:l_) (v:h_),Mn s fd ⟨[v],[]⟩ [("_law_script",v)]
 m_M_R_many_strips:∃f fd,Mth K CR "many_strips" "Rules.many_strips" kY ["self"] f fd
 m_M_P_many_strips:∃f fd,Mth K CP "many_strips" "Pair.many_strips" lQ ["self"] f fd
 m_M_R_many_kinds:∃f fd,Mth K CR "many_kinds" "Rules.many_kinds" hV ["self"] f fd
 m_M_P_many_kinds:∃f fd,Mth K CP "many_kinds" "Rules.many_kinds" hV ["self"] f fd
 m_M_R_apart:∃f fd,Mth K CR "apart" "Rules.apart" tw ["self","one","other"] f fd
 m_M_P_apart:∃f fd,Mth K CP "apart" "Pair.apart" vD ["self","one","other"] f fd
 n_R:∃f fd,Mth K CR "__init__" "Rules.__init__" s_nR ["self","gaps"] f fd/\Stat K CR (.type "type") "__init__" f
 n_P:∃f fd,Mth K CP "__init__" "Pair.__init__" s_nP ["self","gaps","beside"] f fd
 ne:CR≠CP
noncomputable abbrev Zq(_:Nat)(_:GH)(_:Hz)(_:Gr):=Zs
def putGB(a b:V):uZ ("beside":Gh) b [(("gaps":Gh),a)]=[(("gaps":Gh),a),(("beside":Gh),b)]:=by rfl
section
variable{P:GH}{base:Gr}{K:Pn}{CR:i_}(Z:Zq n P w base K mg CR CP)
include Z
def aS:YO Z.yY P w base 1 c_ (aI):=
 fY ["_law_script","_law_k"] λz J B=>(af (cK (bL o_lt (ag 1) (az gY Z.gB FY (da1 (ag 0)))) (aj (ax (aK cE (ag 0) (ag 1)))) bh) (af (cK (bL (A7 B.units) (ag 0) (ao (aV bC))) (aj (ax ab)) bh) (aj (ax (aq cb (aq lY (aq cb (aq lY (ao (aq bF (aK cE (ag 0) (aq cb (ag 1) (az gY Z.gB FY (da1 (ag 0))))) (ag 1))) ab) ab) ab) ab)))))
def jE:YO Z.yW P w base 2 c_ (ck):=
 fY ["_law_script"] λz J B=>(aj (ax (nE (A7 B.units) (aq cb (aq bU (dY (aS Z) B (da2 (ag 0) ab)) ab) ab) ab)))
def fZ:YO Z.qf P w base 3 c_ (bY):=
 fY ["_law_script","_law_start","_law_kinds","_law_rows","_law_k","_law_row","_law_j","_law_cell_here","_law_gap"] λz B J=>(af (iY B (aV bC)) (af (bB (pt:=.nm 4) (e9 Z.cA (da1 (ag 2))) (gX B) (af (iY B (aV bC)) (aW (O2:=[3,5]) (af (bB (pt:=.nm 6) (e9 Z.cA (da1 (ag 2))) (gX B) (af (b8 B (dY (aS Z) J (da2 (ag 0) (ao (aq bF (ao (aq bF (ag 1) (aq lY (ag 2) (ag 4)))) (ag 6)))))) (af (b8 B (aK cE (ao (aV (da4 ab (aq cb (aq bU (ag 7) ab) ab) (aq cb (aq bU (ag 7) ab) ab) (aq cb (aq bU (ag 7) ab) (aK cE (ao (aV (da2 ab (ao (aq bF (aq kv ab ab) ab))))) (aq cb (aq bU (ag 7) ab) ab)))))) (aq cb (ag 7) ab))) (af (cK (jk (dY (jE Z) J (da1 (ag 0)))) (aj (b8 B (aq cb (ag 7) (ao (aq bF (aq kv ab ab) ab))))) bh) (aj (dG (i:=5) (ag 8))))))) (aW (O2:=[3]) (aj (dG (i:=3) (ag 5)))))))) (aW (O2:=[]) (aj (ax (ag 3))))))
def vW:YO Z.yV P w base 4 c_ (gJ):=
 fY ["_law_script","_law_kinds","_law_gaps_here"] λz J B=>(af (b8 J (ao (aq bF ab (aq cb (dY (aS Z) B (da2 (ag 0) ab)) ab)))) (af (b8 J (dY (fZ Z) B (da3 (ag 0) ab (ag 1)))) (af (cK (bL (A7 B.units) (aq cb (aq bU (dY (aS Z) B (da2 (ag 0) ab)) ab) ab) ab) (aj (ax (ao (aV (da2 (ag 2) (dY (fZ Z) B (da3 (ag 0) (ao (aq bF ab (aq lY (ag 1) (ag 1)))) (ag 1)))))))) bh) (aj (ax (ao (aV (da1 (ag 2)))))))))
def yq:YO Z.C9 P w base 2 c_ (kj):=
 fY ["_law_script","_law_gaps_here","_law_shift","_law_most"] λz B J=>(af (b8 B (aq cb (aq bU (dY (aS Z) J (da2 (ag 0) ab)) ab) ab)) (af (b8 B (aK cE (aK cE (ao (aV (da2 (ao (aV (da4 ab ab ab ab))) (ao (aV (da4 ab ab ab ab)))))) (aq nT (az gY Z.gB FY (da1 (ag 1))) ab)) (ag 2))) (aj (ax (c5 (da2 (ag 2) (aq cb (aq bU (dY (aS Z) J (da2 (ag 0) ab)) ab) (ao (aq bF (ag 3) ab)))))))))
def lg:YO Z.mx P w base 2 c_ (cG):=
 fY ["_law_script","_law_rest","_law_many","_law_closed_here","_law_k","_law_start"] λz B J=>(af (b8 B (aq bU (dY (aS Z) J (da2 (ag 0) ab)) ab)) (af (b8 B (aq cb (ag 1) ab)) (af (b8 B (aq bU (ag 1) ab)) (af (iY B (aV bC)) (af (bB (pt:=.nm 4) (e9 Z.cA (da1 (ag 2))) (gX B) (af (b8 B (aq cb (ag 1) (aq kv ab ab))) (af (dG (i:=3) (c5 (da2 (ag 5) (ao (aq bF (ao (aq bF (ag 5) ab)) (aq cb (aq bU (ag 1) (aq kv ab ab)) (aq nT (aq kv ab ab) (ag 5)))))))) (aj (b8 B (aq bU (ag 1) (aq kv ab ab))))))) (aW (O2:=[]) (aj (ax (ag 3)))))))))
def qL:YO Z.uF P w base 3 c_ (cY):=
 fY ["_law_script","_law_cell_here","_law_many","_law_closed_here","_law_k","_law_there","_law_start"] λz B J=>(af (cK (jk (dY (jE Z) J (da1 (ag 0)))) (aj (ax (dY (lg Z) J (da1 (ag 0))))) bh) (af (b8 B (dY (aS Z) J (da2 (ag 0) ab))) (af (b8 B (aK cE (ao (aV (da3 (aq cb (ag 1) ab) (aq cb (ag 1) ab) ab))) (aq bU (aq cb (aq bU (ag 1) ab) ab) ab))) (af (iY B (aV bC)) (af (bB (pt:=.nm 4) (e9 Z.cA (da1 (ag 2))) (gX B) (af (b8 B (ao (aq bF (aq bU (dY (aS Z) J (da2 (ag 0) ab)) (ao (aq bF (aq lY (ag 4) (ag 4)) ab))) (aq lY (aq lY ab (ag 4)) (aq cb (aq bU (ag 1) ab) ab))))) (af (b8 B (aq cb (ag 5) ab)) (aj (dG (i:=3) (c5 (da2 (ag 6) (ao (aq bF (ao (aq bF (ag 6) ab)) (aq cb (aq bU (ag 5) ab) ab)))))))))) (aW (O2:=[]) (aj (ax (ag 3)))))))))
def ku:YO Z.lC P w base 2 c_ (cj):=
 fY ["_law_script","_law_start","_law_kinds","_law_many","_law_flights_here","_law_k","_law_rest","_law_parts","_law_top","_law_kind","_law_first","_law_wide","_law_due","_law_price"] λz B J=>(af (iY B (aV bC)) (af (bB (pt:=.nm 5) (e9 Z.cA (da1 (ag 3))) (gX B) (af (b8 B (dY (aS Z) J (da2 (ag 0) (ao (aq bF (ag 1) (ag 5)))))) (af (iY B (aV bC)) (aW (O2:=[4,7]) (af (bB (pt:=.nm 8) (bJ (ao (aV (da5 (ag 2) (aq nT (aq kv ab ab) ab) (aq kv ab ab) (ao (aq bF (aq kv ab ab) ab)) (ao (aq bF (aq kv ab ab) ab)))))) (gX B) (af (dG (i:=7) (aq cb (ag 6) (ag 8))) (aj (b8 B (aq bU (ag 6) (ag 8)))))) (aW (O2:=[4]) (af (ds_unpLB (ag 7) rfl (aH (i:=9) B (aH (i:=10) B (aH (i:=11) B (aH (i:=12) B (aH (i:=13) B cC)))))) (aj (dG (i:=4) (c5 (da5 (ag 9) (ag 10) (ao (aq bF (ag 10) (aq cb (ag 11) (aq nT (aq nT (aq kv ab ab) ab) (ag 10))))) (ag 12) (ag 13)))))))))))) (aW (O2:=[]) (aj (ax (ag 4))))))
def p9:YO Z.qT P w base 3 c_ (cy):=
 fY ["_law_script","_law_start","_law_kinds","_law_many","_law_flights_here","_law_k","_law_cell_here","_law_wide","_law_worth","_law_first","_law_last","_law_due","_law_price"] λz B J=>(af (cK (jk (dY (jE Z) J (da1 (ag 0)))) (aj (ax (dY (ku Z) J (da4 (ag 0) (ag 1) (ag 2) (ag 3))))) bh) (af (iY B (aV bC)) (af (bB (pt:=.nm 5) (e9 Z.cA (da1 (ag 3))) (gX B) (af (b8 B (dY (aS Z) J (da2 (ag 0) (ao (aq bF (ag 1) (aq lY ab (ag 5))))))) (af (b8 B (dY (aS Z) J (da2 (ag 0) (ao (aq bF (ao (aq bF (ag 1) (aq lY ab (ag 5)))) ab))))) (af (b8 B (dY (aS Z) J (da2 (ag 0) (ao (aq bF (ao (aq bF (ag 1) (aq lY ab (ag 5)))) ab))))) (af (b8 B (aq cb (aq bU (ag 6) ab) (aK cE (ao (aV (da4 ab ab ab (aq lY ab (aq kv ab ab))))) (aq cb (aq bU (ag 6) ab) ab)))) (af (b8 B (ao (aq bF (ag 9) (aq cb (aq bU (ag 7) ab) (aK cE (ao (aV (da5 ab ab ab (aq kv ab ab) (aq kv ab ab)))) (aq cb (ag 7) ab)))))) (af (b8 B (aK cE (ao (aV (da2 (aq cb (aq bU (ag 8) ab) ab) (aq cb (aq bU (ag 8) ab) (ao (aq bF (aq kv ab ab) ab)))))) (aq cb (ag 8) ab))) (af (b8 B (aK cE (ao (aV (da3 (aq cb (aq bU (ag 8) ab) ab) (aq cb (aq bU (ag 8) ab) ab) (aq cb (aq bU (ag 8) ab) (ao (aq bF (aq kv ab ab) ab)))))) (aq cb (aq bU (ag 8) ab) ab))) (aj (dG (i:=4) (c5 (da5 (aq cb (ag 6) (ag 2)) (ag 9) (ag 10) (ag 11) (ag 12))))))))))))) (aW (O2:=[]) (aj (ax (ag 4)))))))
def qI:YO Z.uC P w base 1 c_ (gn):=
 fY ["rows"] λz B J=>(aj (ax (ao (cS ["row"] [f_] (bJ (ag 0)) (λ_ _ _ _ _=>dQ dkK) (aG rfl) (λ_ _ _ _ _=>bS) (λ_ _ _ _ _=>(ao (cu qo Z.lK G_ (da1 (ag 0)))))))))
def Dz:YO Z.d_is_gap P w base 1 c_ (ki):=
 fY ["number"] λz B J=>(af (cK (PW.pt (dw_or (su (jk (C6 Z.kit Z.jx Z.z_int (ag 0)))) (dw_or1 (jk (yP Z.kit Z.jx Z.z_bool (ag 0)))))) (aj (ax lB)) bh) (aj (ax (de_chain o_le o_le ab (ag 0) (yQ Z.qP)))))
theorem tN:YO Z.xf P w base 2 c_ (dJ):=
 fY ["row","kinds"] λz J B=>(aj (ax (EV (yO Z.kit Z.jx Z.lK (ag 0)) (EV (nE (A7 B.units) (az gY Z.gB FY (da1 (ag 0))) (ag 1)) (EN (az (Fo rfl) Z.Cy N3 (da1 (ao (cS ["number"] [f_] (bJ (ag 0)) (λ_ _ _ _ _=>dQ be) (aG rfl) (λ_ _ _ _ _=>bS) (λ_ _ _ _ _=>(dY (Dz Z) B (da1 (ag 0)))))))))))))
def jC:YO Z.qS P w base 3 c_ (aB):=
 fY ["rows","kinds"] λz J B=>(af (b8 J (az gY Z.gB FY (da1 (ag 0)))) (af (cK (su (oH o_le o_le ab (ag 1) (yQ Z.wC))) (aj EF) bh) (af (cK (su (jk (az (Fo rfl) Z.Cy N3 (da1 (ao (cS ["row","kinds"] [f_,a_ 1] (bJ (ag 0)) (λ_ _ _ _ _=>dQ dkK) (aG rfl) (λ_ _ _ _ _=>bS) (λ_ _ _ _ _=>(dY (tN Z) B (da2 (ag 0) (ag 1)))))))))) (aj EF) bh) (aj (ax (dY (qI Z) B (da1 (ag 0))))))))
end
def sc_nR:j8 ["self","gaps"] ["self","gaps"] (aO s_nR):=⟨rfl,rfl,rfl,by decide +kernel,rfl,by decide +kernel,by decide +kernel⟩
theorem okn_R{P : GH}{w : Hz}{K : Pn}{mg : Gh -> Option h_}{base : Gr}{C Y f : i_}{a fd : IG}(L : Def K mg "checked_rows" ij ["rows"] Y a)(m : jr P w K mg base CX0 3 Y a ["rows"] (spF K c_ (aB) 1))(N : Fun K "__init__" "Rules.__init__" s_nR f fd)(l : Cls K C)(na : jq K C "gaps"): jr P w K mg base CX0 4 f fd ["self", "gaps"] (spI1 K C (aB)) := by
  refine N.okX sc_nR (λvs H Q E h => ?_) (λcdv A outer s H vs Q E j h => ?_)
  · obtain⟨p,dx,v,F,d,rfl,_⟩ := h
    rfl
  · obtain⟨p,dx,v,F,d,rfl,k,n,s1,g,q⟩ := h
    refine⟨_,yi (ps_fld (pv 0) (ym m j (by rfl) L.mg L.fn.kp L.bd .nil vQ (bR (pv 1) fJ)) rfl),?_⟩
    refine⟨v,rfl,F,[d],s1,⟨v,[],rfl,g,rfl⟩,rfl,?_⟩
    skip;cases U : aB [d]with
    | error e => rw[U]at q; exact q| ok r =>
      rw[U]at q;intro u F' H' st b;have J : F' p = f_ := by
        cases i : F' p with
        | none => rfl| some o =>
          rcases st.nw p o i with z | z
          · simp_all
          simp_all
      refine⟨_,rfl,p,C,dx,[],rfl,st.hh _ _ k,l,na,ad,?_⟩
      refine q u F' _ st.ff (λc o e => ?_) J st.nw (λc o e B => by rw[aA B]; exact st.hh _ _ e) av b;have B : c ≠ p :=λz => by simp_all
      rw[aA B];exact st.fh _ _ e
def sc_nP:j8 ["self","gaps","beside"] ["self","gaps","beside"] (aO s_nP):=⟨rfl,rfl,rfl,by decide +kernel,rfl,by decide +kernel,by decide +kernel⟩
def okn_P{P:GH}{K:Pn}{base:Gr}{CR:i_}{R f O:i_}{T fd U:IG}{mc:h_}(x:Def K mg "checked_rows" ij ["rows"] R T)(OK:jr P w K mg base CX0 3 R T ["rows"] (spF K c_ (aB) 1))(S:Stat K CR mc "__init__" O)(bI:Binds K U ["self","gaps"] [])(FI:jr P w K mg base CX0 4 O U ["self","gaps"] (spI1 K CP (aB)))(mR:mg "Rules"=a_ (.ref CR))(y:mg "len"=f_)(N:Fun K "__init__" "Pair.__init__" s_nP f fd)(t:Cls K CP)(na:jq K CP "gaps")(nb:jq K CP "beside"):jr P w K mg base CX0 5 f fd ["self","gaps","beside"] (spI2 K CP (aB)):=by
 refine N.okX sc_nP (λvs H Q E h=>?_) (λcdv A outer s H vs Q E G h=>?_)
 .obtain⟨p,dx,v,g,F,d,n,rfl,_⟩:=h;rfl
 .obtain⟨p,dx,v,g,F,d,n,rfl,hp,hF,s1,qd,k,q⟩:=h;cases m:aB [d]with
  |error e=>rw[m]at q;exact GG q|ok r=>
   rw[m,ai]at q;cases B:aB [n]with
   |error e=>rw[B]at q;exact GG q|ok j=>
    rw[B,ai]at q;by_cases L:twoL r j=d_
    .rw[u_ L]at q;obtain⟨xs,ys,rfl,rfl,hl⟩:∃xs ys,r=.lst xs/\j=.lst ys/\xs.length=ys.length:=by
      cases r with
      |lst xs=>
       cases j with
       |lst ys=>exact⟨_,_,rfl,rfl,L5 L⟩|_=>cases L
      |_=>cases L
     refine⟨_,iP (tH (pe_cmeth S (by rfl) mR FI G bI .nil vQ (bR (pv 0) (bR (pv 1) fJ))))
      (iP (ps_fld (pv 0) (ym OK (G.mono am) (by rfl) x.mg x.fn.kp x.bd .nil vQ (bR (pv 2) fJ)) rfl)
      (yi (ps_if (Di op_ne (lW jV (by rfl) y FY (bR (Du (pv 0) rfl) fJ)) (lW jV (by rfl) y FY (bR (Du (pv 0) rfl) fJ)) (DH _)) Dk Dj))),?_⟩
     refine⟨_,rfl,_,rfl,p,dx,v,F,d,rfl,hp,hF,s1,qd,?_⟩
     rw[m];intro u F1 H1 a1 a2 a3 a4 Z X W;refine⟨g,rfl,F1,[n],a2,⟨g,[],rfl,aY.mono a1 k,rfl⟩,rfl,?_⟩
     skip;rw[B];intro C a H2 st D;have J:a p=f_:=by
      cases l:a p with
      |none=>rfl|some o=>
       rcases st.nw p o l with z|z
       .rw[a3]at z;cases z
       .rw[X]at z;cases z
     refine⟨_,rfl,p,CP,dx,_,rfl,st.hh _ _ X,t,nb,(by show 1<1000;decide),?_⟩
     rw[putGB];have i:aU a (upd H2 p (.ins CP dx [("gaps",u),("beside",C)])):=λc o e=>by
      have Y:c≠p:=λz=>by rw[z,J]at e;cases e
      rw[aA Y];exact st.fh _ _ e
     obtain⟨g1,xs1,e1,t1,z1⟩:=aY.mono st.ff W;obtain⟨g2,xs2,e2,t2,z2⟩:=id D;refine⟨_,rfl,p,CP,dx,_,_,rfl,av,t,nb,rfl,g2,_,by rw[e2],.inl (i.lst t2),_,rfl,p,CP,dx,_,_,rfl,av,t,na,rfl,g1,_,by rw[e1],.inl (i.lst t1),rfl,_,rfl,?_⟩
     refine iteNS (by rw[z1.length,z2.length,hl]) ?_;refine q u C a _ (a1.trans st.ff) i J (λb o e=>?_) (λc o e Y=>by rw[aA Y];exact st.hh _ _ (Z c o e Y)) av (aY.mono st.ff W) D;rcases st.nw b o e with z|z
     .exact a4 b o z
     .refine .inr ?_;cases l:H b with
      |none=>rfl|some o'=>
       by_cases I:b=p
       .subst I;rw[J]at e;cases e
       .rw[Z b o' l I]at z;cases z
    .rw[x_ L]at q;exact GG q
section
variable{P:GH}{base:Gr}{K:Pn}{CR:i_}(Z:Zq n P w base K mg CR CP)
include Z
def on_P:∃f fd,Mth K CP "__init__" "Pair.__init__" s_nP ["self","gaps","beside"] f fd/\jr P w K mg base CX0 5 f fd ["self","gaps","beside"] (spI2 K CP (aB)):=
 let ⟨_,_,Y⟩:=jC Z;let ⟨_,_,N,S⟩:=Z.n_R;let ⟨_,_,M⟩:=Z.n_P;⟨_,_,M,okn_P Y.d Y.o S N.bd (okn_R (C:=CP) Y.d Y.o N.fn Z.kP.cl (Z.iX CP ad).2) Z.kR.mg Z.gB M.fn Z.kP.cl (Z.iX CP ad).2 (Z.se CP ad).2⟩
def on_R:∃f fd,Mth K CR "__init__" "Rules.__init__" s_nR ["self","gaps"] f fd/\jr P w K mg base CX0 4 f fd ["self","gaps"] (spI1 K CR (aB)):=
 let ⟨_,_,Y⟩:=jC Z;let ⟨_,_,N,_⟩:=Z.n_R;⟨_,_,N,okn_R Y.d Y.o N.fn Z.kR.cl (Z.iX CR ad).2⟩
def tQ:YO Z.xh P w base 7 c_ (fK CR CP n):=
 fY ["_law_gaps_here"] λz a Y=>let ⟨_,_,U,J⟩:=on_P Z;let ⟨_,_,L,B⟩:=on_R Z;(af (cK (bL (A7 Y.units) (az gY Z.gB FY (da1 (ag 0))) ab) (aj (ax (de_newP ⟨Z.kP.mks,U.mt.at_,U.mt.fn,Z.kP.kp⟩ J Y Z.kP.mg U.bd (da2 (aK cE (ag 0) ab) (aK cE (ag 0) ab))))) bh) (aj (ax (de_newR ⟨Z.kR.mks,L.mt.at_,L.mt.fn,Z.kR.kp⟩ B (Y.mono am) Z.kR.mg L.bd (da1 (aK cE (ag 0) ab))))))
end
def dU:j8 ["pool","size","choices","place","one","rest"] ["pool","size"] (aO hU):=⟨rfl,rfl,rfl,by decide +kernel,rfl,by decide +kernel,by decide +kernel⟩
def qF{P:GH}{K:Pn}{base:Gr}{CR:i_}(Z:Zs K mg CR CP){J:i_}{L:IG}(B:Def K mg "choices_of" hU ["pool","size"] J L){d:Nat}{h:ah->M B'}(U:jr P w K mg base CX0 d J L ["pool","size"] (spF K c_ (bq 6 2 h) 2)):jr P w K mg base CX0 (d+1) J L ["pool","size"] (spF K c_ (bq 6 2 (fQ (bq 6 2 h))) 2):=
 fn_D (O':=[]) B.fn dU c_ (fQ (bq 6 2 h)) λcdv A outer s H E Y=>
  (af (cK (bL (A7 Y.units) (ag 1) ab)
   (aj (ax (ao (aV (bA (c5 bC) bC)))))
   bh)
  (af (yL (i:=2) (own:=d_) dU.nd (aV bC))
  (af (bB (pt:=.tp [3,4]) (di_enum Z.iM (ag 0)) (jS rfl (aH (i:=3) dU.nd (aH (i:=4) dU.nd cC)))
   (aj (bB (pt:=.nm 5) (bJ (EU U Y B.mg B.fn.kp B.bd (bA (ao (C5 x_sl (ag 0) (mU (ao (aq bF (ag 3) ab))) mV)) (bA (aq nT (ag 1) ab) bC)))) (gX dU.nd)
   (aj (dG (i:=2) (ao (aq bF (c5 (bA (ag 4) bC)) (ag 5))))))))
  (aW (O2:=[]) (aj (ax (ag 2)))))))
theorem kE{P:GH}{w:Hz}{K:Pn}{mg:Ld}{base:Gr}{CR CP:i_}(Z:Zs K mg CR CP){B:i_}{J:IG}(L:Def K mg "choices_of" hU ["pool","size"] B J):∀d:Nat,jr P w K mg base CX0 d B J ["pool","size"] (spF K c_ (bq 6 2 (bD d)) 2)
 |0=>fn_stk|d+1=>qF Z L (kE Z L d)
section
variable{P:GH}{base:Gr}{K:Pn}{CR:i_}(Z:Zq n P w base K mg CR CP)
include Z
def tO:YO Z.bD P w base 6 c_ (jF):=let ⟨_,_,D⟩:=Z.bD;⟨_,_,D,(kE Z D 6)⟩
def jc:YO Z.qe P w base 7 d_ (cN):=
 fY ["many","shift","size","sure","free"] λz B J=>(af (b8 B (AG Z.mD Z.cA (da1 (az (zf rfl) Z.xG Me (da2 ab (aq nT (ag 2) (ag 1))))))) (af (b8 B (ao (de_lrng2 Z.lK Z.cA (da2 (az gY Z.gB FY (da1 (ag 3))) (az (c_min rfl) Z.z_min boot_min (da2 (ag 0) (ao (aq bF (ag 2) (ag 1))))))))) (aj (ax (cS ["some","sure"] [f_,a_ 3] (bJ (dY (tO Z) J (da2 (ag 4) (aq nT (ag 2) (az gY Z.gB FY (da1 (ag 3))))))) (λ_ _ _ _ _=>dQ dkK) (aG rfl) (λ_ _ _ _ _=>bS) (λ_ _ _ _ _=>(ao (aq bF (ag 1) (ag 0)))))))))
def iA:YO Z.nV P w base 1 c_ (cp):=
 fY ["some"] λz B J=>(aj (ax (ao (cS ["place","flight","some"] [f_,f_,a_ 0] (uw Z.iM (ag 0)) (λ_ _ _ _ _=>jS rfl (bZ (i:=0) dkK (bZ (i:=1) dkK cC))) (jG am) (λ_ _ _ _ _=>bS) (λ_ _ _ _ _=>(c5 (da2 (ao (aq bF (ao (C5 x_sl (ag 2) mV (mU (ag 0)))) (ao (C5 x_sl (ag 2) (mU (ao (aq bF (ag 0) ab))) mV)))) (ag 1))))))))
def qG:YO Z.uz P w base 8 c_ (aR):=
 fY ["many","shift","counts","size","grown","some"] λz B J=>(af (b8 B (ao (de_disp1 J.units (c5 bC) ab))) (af (bB (pt:=.nm 3) (di_rng2 Z.cA (da2 ab (ao (aq bF (ag 0) ab)))) (gX B) (af (iY B EO) (af (bB (pt:=.nm 5) (bJ (ao (dY (jc Z) J (da3 (ag 0) (ag 1) (ag 3))))) (gX B) (aj (ds_putD (i:=4) J.units (ag 5) (az (c_sum rfl) Z.z_sum boot_sum (da1 (ao (cS ["smaller","flight","counts"] [f_,f_,a_ 2] (bJ (dY (iA Z) J (da1 (ag 5)))) (λ_ _ _ _ _=>jS rfl (bZ (i:=0) dkK (bZ (i:=1) dkK cC))) (jG am) (λ_ _ _ _ _=>bS) (λ_ _ _ _ _=>(ET J.units (ag 2) (ag 0) ab))))))))) (aW (O2:=[]) (aj (b8 B (ag 4))))))) (aj (ax (de_sumV rfl Z.z_sum (ag 2))))))
def eS:YM Z.m_M_R_many_strips P w mg base 1 c_ (b9):=
 fM ["self"] λz B J=>(aj (ax ab))
def eU:YM Z.m_M_P_many_strips P w mg base 1 c_ (br):=
 fM ["self"] λz B J=>(aj (ax ab))
def tL:YO Z.xc P w base 9 c_ (i3 CR CP n):=
 fY ["rules","many","shift","plans","flight"] λz L U=>let ⟨_,_,Y,J⟩:=eU Z;let ⟨_,_,a,B⟩:=eS Z;(af (b8 L (dY (qG Z) U (da2 (ag 1) (ag 2)))) (af (bB (pt:=.nm 4) (e9 Z.cA (da1 (ag 1))) (gX L) (aj (b8 L (aq lY (ag 3) (mv Z.kR.cl a.mt B (U.mono am) a.bd Z.kP.cl Y.mt J (U.mono am) Y.bd (ag 0)))))) (aj (ax (ag 3)))))
def hZ:YO Z.mX P w base 10 c_ (bW CR CP n):=
 fY ["rules","flights","shift"] λz J B=>(aj (cK (bL o_gt (dY (tL Z) B (da3 (ag 0) (az gY Z.gB FY (da1 (ag 1))) (ag 2))) (yQ Z.wB)) (aj EF) bh))
def iB:YO Z.nX P w base 8 c_ (cq):=
 fY ["many","shift","beginnings","size"] λz B J=>(af (iY B (aV bC)) (af (bB (pt:=.nm 3) (e9 Z.cA (da1 (ao (aq bF (ag 0) ab)))) (gX B) (aj (ds_ext (i:=2) (dY (jc Z) J (da3 (ag 0) (ag 1) (ag 3)))))) (aW (O2:=[]) (aj (ax (ag 2))))))
def qH:YO Z.uA P w base 1 c_ (cf):=
 fY ["one","other","row","bounds","last","bound"] λz B J=>(af (cK (bL o_gt (aK cE (ag 0) ab) (aK cE (ag 1) ab)) (aj (ax lB)) bh) (af (bB (pt:=.tp [2,3]) (EL Z.z_zip (aK cE (ag 0) ab) (aK cE (ag 1) ab)) (jS rfl (aH (i:=2) B (aH (i:=3) B cC))) (aj (bB (pt:=.tp [4,5]) (EL Z.z_zip (ag 2) (ag 3)) (jS rfl (aH (i:=4) B (aH (i:=5) B cC))) (aj (cK (bL o_gt (ag 4) (ag 5)) (aj (ax lB)) bh))))) (aj (ax lB))))
def jB:YO Z.qR P w base 2 c_ (b6):=
 fY ["labels","label","one"] λz B J=>(af (bB (pt:=.nm 2) (EM (ag 0)) (gX B) (aj (cK (jk (dY (qH Z) J (da2 (ag 2) (ag 1)))) (aj (ax lB)) bh))) (aj (ax lB)))
def qJ:YO Z.uD P w base 3 c_ (gp):=
 fY ["labels","best","label"] λz B J=>(af (iY B (aV bC)) (af (bB (pt:=.nm 2) (bJ (ao (az (Fj J.units) Z.o7 Nt (da1 (ag 0))))) (gX B) (aj (cK (su (jk (dY (jB Z) J (da2 (ag 1) (ag 2))))) (aj (dG (i:=1) (ag 2))) bh))) (aW (O2:=[]) (aj (ax (ag 1))))))
def nR:YM Z.m_M_R_many_kinds P w mg base 1 c_ (aT CR CP n):=
 fM ["self"] λz B J=>(aj (ax (az gY Z.gB FY (da1 (xb (Cs:=[CR,CP]) Z.iX (ag 0))))))
def nS:YM Z.m_M_P_many_kinds P w mg base 1 c_ (aT CR CP n):=
 fM ["self"] λz B J=>(aj (ax (az gY Z.gB FY (da1 (xb (Cs:=[CR,CP]) Z.iX (ag 0))))))
def kH:YO Z.uB P w base 2 c_ (gm CR CP n):=
 fY ["rules","row"] λz e Y=>let ⟨_,_,a,U⟩:=nS Z;let ⟨_,_,c,J⟩:=eU Z;let ⟨_,_,b,L⟩:=nR Z;let ⟨_,_,d,B⟩:=eS Z;(af (b8 e (cu uJ Z.mD IE (da1 (ao (cS ["kind"] [f_] (e9 Z.cA (da1 (mv Z.kR.cl b.mt L Y b.bd Z.kP.cl a.mt U Y a.bd (ag 0)))) (λ_ _ _ _ _=>dQ dkK) (aG rfl) (λ_ _ _ _ _=>bS) (λ_ _ _ _ _=>(xa vY ab))))))) (aj (ax (c5 (da2 ab (cu uJ Z.mD IE (da1 (ao (cS ["strip","row"] [f_,a_ 1] (e9 Z.cA (da1 (mv Z.kR.cl d.mt B Y d.bd Z.kP.cl c.mt J Y c.bd (ag 0)))) (λ_ _ _ _ _=>dQ dkK) (aG rfl) (λ_ _ _ _ _=>bS) (λ_ _ _ _ _=>(ag 1)))))))))))
def l9:YO Z.mw P w base 1 c_ (cF):=
 fY ["closed","joined","start","stop"] λz B J=>(af (iY B (aV bC)) (af (bB (pt:=.tp [2,3]) (bJ (ao (az Fl Z.o7 Nt (da1 (ag 0))))) (jS rfl (aH (i:=2) B (aH (i:=3) B cC))) (aj (cK (PW.pt (ED (jk (ag 1)) (yK (bL o_le (ag 2) (aK cE (aK cE (ag 1) (xa vY ab)) ab))))) (aj (ds_setI (i:=1) (c5 (da2 (aK cE (aK cE (ag 1) (xa vY ab)) ab) (az (zf rfl) Z.xG Me (da2 (ag 3) (aK cE (aK cE (ag 1) (xa vY ab)) ab))))) (xa vY ab))) (aj (dG (i:=1) (c5 (da2 (ag 2) (ag 3)))))))) (aW (O2:=[]) (aj (ax (ag 1))))))
def vT:YO Z.yR P w base 2 c_ (eV):=
 fY ["closed","time","start","stop"] λz B J=>(af (bB (pt:=.tp [2,3]) (bJ (dY (l9 Z) J (da1 (ag 0)))) (jS rfl (aH (i:=2) B (aH (i:=3) B cC))) (aj (cK (oH o_le o_lt (ag 2) (ag 1) (ag 3)) (aj (ax (ag 3))) bh))) (aj (ax (ag 1))))
theorem tM:YO Z.xd P w base 1 c_ (i4):=
 fY ["lasts","spot","time","rows"] λz B J=>(ds_rows (i:=3) ["row"] [f_] B (bJ (ag 0)) (λ_ _ _ _ _=>dQ be) (aG rfl) (λ_ _ _ _ _=>bS) (λ_ _ _ _ _=>(cu qo Z.lK G_ (da1 (ag 0)))) wm (ag 2) (aK cE (ag 1) ab) (aK cE (ag 1) ab) (aj (ax (cu uJ Z.mD IE (da1 (ao (cS ["row"] [f_] (bJ (ag 3)) (λ_ _ _ _ _=>dQ be) (aG rfl) (λ_ _ _ _ _=>bS) (λ_ _ _ _ _=>(cu uJ Z.mD IE (da1 (ag 0)))))))))))
def vU:YO Z.yS P w base 1 c_ (iQ):=
 fY ["flight","time","due","price"] λz B J=>(af (b8 B (aK cE (ag 0) ab)) (af (b8 B (aK cE (ag 0) ab)) (aj (ax (aq lY (ag 3) (az (zf rfl) Z.xG Me (da2 ab (aq nT (ag 1) (ag 2)))))))))
def yr:YM Z.m_M_R_apart P w mg base 1 c_ (dX CR CP n):=
 fM ["self","one","other"] λz B J=>(aj (ax (aK cE (aK cE (xb (Cs:=[CR,CP]) Z.iX (ag 0)) (aK cE (ag 1) ab)) (aK cE (ag 2) ab))))
def yt:YM Z.m_M_P_apart P w mg base 1 c_ (dO CR CP n):=
 fM ["self","one","other","rows"] λz B J=>(af (b8 B (de_ite (bL (A7 J.units) (aK cE (ag 1) ab) (aK cE (ag 2) ab)) (xb (Cs:=[CR,CP]) Z.iX (ag 0)) (xb (Cs:=[CP]) Z.se (ag 0)))) (aj (ax (aK cE (aK cE (ag 3) (aK cE (ag 1) ab)) (aK cE (ag 2) ab)))))
def mK:YO Z.nW P w base 2 c_ (dC CR CP n):=
 fY ["rules","lasts","spot","times","strip","row","kind","last"] λz L U=>let ⟨_,_,Y,J⟩:=yt Z;let ⟨_,_,a,B⟩:=yr Z;(af (iY L (aV bC)) (af (bB (pt:=.tp [4,5]) (uw Z.iM (ag 1)) (jS rfl (aH (i:=4) L (aH (i:=5) L cC))) (aj (bB (pt:=.tp [6,7]) (uw Z.iM (ag 5)) (jS rfl (aH (i:=6) L (aH (i:=7) L cC))) (aj (cK (bL (o_ne U.units) (ag 7) (xa vY ab)) (aj (dG (i:=3) (ao (aq bF (ag 7) (de_meth2 Z.kR.cl a.mt B U a.bd Z.kP.cl Y.mt J U Y.bd (ag 0) (da2 (c5 (da2 (ag 6) (ag 4))) (ag 2))))))) bh))))) (aW (O2:=[]) (aj (ax (ag 3))))))
def p8:YO Z.qQ P w base 3 c_ (cx CR CP n):=
 fY ["rules","flights","closed","label","flight","strip","told","spot","time"] λz J B=>(af (b8 J (aK cE (ag 1) (ag 4))) (af (b8 J (c5 (da2 (aK cE (ag 6) ab) (ag 5)))) (af (b8 J (dY (vT Z) B (da2 (ag 2) (az (zf rfl) Z.xG Me (da1 (ao (aq bF (ao (aV (da1 (aK cE (ag 6) ab)))) (dY (mK Z) B (da3 (ag 0) (aK cE (ag 3) ab) (ag 7)))))))))) (af (cK (bL o_gt (ag 8) (aK cE (ag 6) ab)) (aj (ax mr)) bh) (aj (ax (c5 (da2 (ao (aq bF (aK cE (ag 3) ab) (dY (vU Z) B (da2 (ag 6) (ag 8))))) (dY (tM Z) B (da3 (aK cE (ag 3) ab) (ag 7) (ag 8)))))))))))
def jb:YO Z.q9 P w base 4 c_ (cM CR CP n):=
 fY ["rules","flights","closed","paper","some","found","smaller","flight","label","strip","behind"] λz L U=>let ⟨_,_,Y,J⟩:=eU Z;let ⟨_,_,a,B⟩:=eS Z;(af (iY L de_newL) (af (bB (pt:=.tp [6,7]) (bJ (dY (iA Z) U (da1 (ag 4)))) (jS rfl (aH (i:=6) L (aH (i:=7) L cC))) (aj (bB (pt:=.nm 8) (bJ (ET U.units (ag 3) (ag 6) (ao (aV bC)))) (gX L) (aj (bB (pt:=.nm 9) (e9 Z.cA (da1 (mv Z.kR.cl a.mt B (U.mono am) a.bd Z.kP.cl Y.mt J (U.mono am) Y.bd (ag 0)))) (gX L) (af (b8 L (dY (p8 Z) U (da6 (ag 0) (ag 1) (ag 2) (ag 8) (ag 7) (ag 9)))) (aj (cK (bL o_notN (ag 10) mr) (aj (ds_putT (i:=5) U.units (ag 10) lB)) bh)))))))) (aW (O2:=[]) (aj (ax (ag 5))))))
def yo:YO Z.C7 P w base 11 c_ (kg CR CP n):=
 fY ["rules","flights","closed","shift","paper","some"] λz J B=>(af (EG (own:=c_) (dY (hZ Z) B (da3 (ag 0) (ag 1) (ag 3)))) (af (iY J EO) (af (bB (pt:=.nm 5) (bJ (dY (iB Z) B (da2 (az gY Z.gB FY (da1 (ag 1))) (ag 3)))) (gX J) (aj (cK (bL (A7 B.units) (ag 5) (c5 bC)) (aj (Ay (i:=4) B.units (ag 5) (ao (aV (da1 (dY (kH Z) B (da1 (ag 0)))))))) (aj (Ay (i:=4) B.units (ag 5) (dY (qJ Z) B (da1 (dY (jb Z) B (da5 (ag 0) (ag 1) (ag 2) (ag 4) (ag 5)))))))))) (aW (O2:=[]) (aj (ax (ag 4)))))))
def nQ:YO Z.qc P w base 5 c_ (bH CR CP n):=
 fY ["rules","flights","closed","paper","some","behind","told"] λz J B=>(af (cK (bL (A7 B.units) (ag 4) (c5 bC)) (aj (ax (nE (A7 B.units) (aK (x_ixK B.units) (ag 3) (ag 4)) (ao (aV (da1 (dY (kH Z) B (da1 (ag 0))))))))) bh) (af (b8 J (dY (jb Z) B (da5 (ag 0) (ag 1) (ag 2) (ag 3) (ag 4)))) (af (b8 J (ao (cu (c_dictLD B.units) Z.z_dict Ci (da1 (ao (cS ["label"] [f_] (bJ (aK (x_ixK B.units) (ag 3) (ag 4))) (λ_ _ _ _ _=>dQ dkK) (aG rfl) (λ_ _ _ _ _=>bS) (λ_ _ _ _ _=>(c5 (da2 (ag 0) lB))))))))) (af (cK (su (jk (az (Fo rfl) Z.Cy N3 (da1 (ao (cS ["label","behind"] [f_,a_ 5] (EM (ag 6)) (λ_ _ _ _ _=>dQ dkK) (aG rfl) (λ_ _ _ _ _=>bS) (λ_ _ _ _ _=>(nE (o_inL B.units) (ag 0) (ag 1))))))))) (aj (ax lB)) bh) (aj (ax (az (Fo rfl) Z.Cy N3 (da1 (ao (cS ["label","told"] [f_,a_ 6] (EM (ag 5)) (λ_ _ _ _ _=>dQ dkK) (aG rfl) (λ_ _ _ _ _=>tG (bL (o_notInL B.units) (ag 0) (ag 1))) (λ_ _ _ _ _=>(dY (jB Z) B (da2 (ag 1) (ag 0))))))))))))))
def yp:YO Z.C8 P w base 11 c_ (kh CR CP n):=
 fY ["rules","flights","closed","shift","paper","beginnings"] λz J B=>(af (EG (own:=c_) (dY (hZ Z) B (da3 (ag 0) (ag 1) (ag 3)))) (af (b8 J (dY (iB Z) B (da2 (az gY Z.gB FY (da1 (ag 1))) (ag 3)))) (af (cK (bL (o_ne B.units) (ao (az (xp B.units) Z.o7 Nt (da1 (ag 4)))) (ao (az (xp B.units) Z.o7 Nt (da1 (ag 5))))) (aj (ax lB)) bh) (aj (ax (az (Fo rfl) Z.Cy N3 (da1 (ao (cS ["some","rules","flights","closed","paper"] [f_,a_ 0,a_ 1,a_ 2,a_ 4] (bJ (ag 5)) (λ_ _ _ _ _=>dQ dkK) (aG rfl) (λ_ _ _ _ _=>bS) (λ_ _ _ _ _=>(dY (nQ Z) B (da5 (ag 1) (ag 2) (ag 3) (ag 4) (ag 0)))))))))))))
def jD:YO Z.yT P w base 12 c_ (cg CR CP n):=
 fY ["_law_gaps_here","_law_flights_here","_law_closed_here","_law_shift","_law_rules_here","_law_paper"] λz J B=>(af (b8 J (dY (tQ Z) B (da1 (ag 0)))) (af (b8 J (dY (yo Z) B (da4 (ag 4) (ao (cu qo Z.lK G_ (da1 (ag 1)))) (ao (cu qo Z.lK G_ (da1 (ag 2)))) (ag 3)))) (af (cK (bL o_notB (dY (yp Z) B (da5 (ag 4) (ao (cu qo Z.lK G_ (da1 (ag 1)))) (ao (cu qo Z.lK G_ (da1 (ag 2)))) (ag 3) (ag 5))) lB) (aj (ax (xa vY ab))) bh) (aj (ax (ER Z.z_min (ao (cS ["_law_label"] [f_] (bJ (aK (x_ixK B.units) (ag 5) (AG Z.mD Z.cA (da1 (az gY Z.gB FY (da1 (ag 1))))))) (λ_ _ _ _ _=>dQ dkK) (aG rfl) (λ_ _ _ _ _=>bS) (λ_ _ _ _ _=>(aK cE (ag 0) ab)))) mr))))))
def qK:YO Z.uE P w base 1 c_ (gq):=
 fY ["_law_many","_law_shift","_law_orders_here","_law_place","_law_longer","_law_order","_law_left"] λz B J=>(af (b8 B (ao (aV (da1 (ao (aV bC)))))) (af (bB (pt:=.nm 3) (e9 Z.cA (da1 (ag 0))) (gX B) (af (iY B (aV bC)) (af (bB (pt:=.nm 5) (bJ (ag 2)) (gX B) (af (oI (i:=6) c_ ["_law_flight","_law_order"] [f_,a_ 5] B (e9 Z.cA (da1 (ag 0))) (λ_ _ _ _ _=>dQ dkK) (aG rfl) (λ_ _ _ _ _=>tG (bL (o_notIn J.units) (ag 0) (ag 1))) (λ_ _ _ _ _=>(ag 0))) (aj (ds_ext (i:=4) (cS ["_law_flight","_law_shift","_law_place","_law_order"] [f_,a_ 1,a_ 3,a_ 5] (bJ (ag 6)) (λ_ _ _ _ _=>dQ dkK) (aG rfl) (λ_ _ _ _ _=>tG (oH o_le o_le (xa vY (ag 1)) (aq nT (ag 0) (ag 2)) (ag 1))) (λ_ _ _ _ _=>(ao (aq bF (ag 3) (ao (aV (da1 (ag 0)))))))))))) (aW (O2:=[]) (aj (b8 B (ag 4))))))) (aj (ax (ag 2)))))
def tR:YO Z.xi P w base 2 c_ (dN):=
 fY ["_law_many","_law_shift","_law_strips","_law_plans_here","_law_place"] λz B J=>(af (oI (i:=3) c_ ["_law_order"] [f_] B (bJ (dY (qK Z) J (da2 (ag 0) (ag 1)))) (λ_ _ _ _ _=>dQ dkK) (aG rfl) (λ_ _ _ _ _=>bS) (λ_ _ _ _ _=>(ao (cS ["_law_flight"] [f_] (bJ (ag 0)) (λ_ _ _ _ _=>dQ dkK) (aG rfl) (λ_ _ _ _ _=>bS) (λ_ _ _ _ _=>(c5 (da2 (ag 0) ab))))))) (af (cK (bL (A7 J.units) (ag 2) ab) (aj (bB (pt:=.nm 4) (e9 Z.cA (da1 (ag 0))) (gX B) (aj (b8 B (ao (aq bF (ag 3) (ao (cS ["_law_plan","_law_place"] [f_,a_ 4] (bJ (ag 3)) (λ_ _ _ _ _=>dQ dkK) (aG rfl) (λ_ _ _ _ _=>bS) (λ_ _ _ _ _=>(ao (aq bF (ao (aq bF (ao (C5 x_sl (ag 0) mV (mU (ag 1)))) (ao (aV (da1 (c5 (da2 (aK cE (aK cE (ag 0) (ag 1)) ab) ab))))))) (ao (C5 x_sl (ag 0) (mU (ao (aq bF (ag 1) ab))) mV))))))))))))) bh) (aj (ax (ag 3)))))
def vV:YO Z.yU P w base 1 c_ (iR CR CP n):=
 fY ["_law_closed_here","_law_time","_law_stops"] λz B J=>(aj (ds_while (m:=n) (jk lB) (af (oI (i:=2) c_ ["_law_start","_law_stop","_law_time"] [f_,f_,a_ 1] B (bJ (ag 0)) (λ_ _ _ _ _=>jS rfl (bZ (i:=0) dkK (bZ (i:=1) dkK cC))) (jG am) (λ_ _ _ _ _=>tG (oH o_le o_lt (ag 0) (ag 2) (ag 1))) (λ_ _ _ _ _=>(ag 1))) (af (cK (bL (A7 J.units) (ag 2) (ao (aV bC))) (aj (ax (ag 1))) bh) (aj (b8 B (az (zf rfl) Z.xG Me (da1 (ag 2)))))))))
def tU:YO Z.xj P w base 1 c_ (cO):=
 fY ["_law_gaps_here","_law_one","_law_other"] λz J B=>(af (cK (bL (A7 B.units) (aK cE (ag 1) ab) (aK cE (ag 2) ab)) (aj (ax (aK cE (aK cE (aK cE (ag 0) ab) (aK cE (ag 1) ab)) (aK cE (ag 2) ab)))) bh) (aj (ax (aK cE (aK cE (aK cE (ag 0) ab) (aK cE (ag 1) ab)) (aK cE (ag 2) ab)))))
def tP:YO Z.xg P w base 2 c_ (dM CR CP n):=
 fY ["_law_gaps_here","_law_flights_here","_law_closed_here","_law_plan","_law_spots","_law_times_here","_law_flight","_law_strip","_law_kind","_law_first","_law_last","_law_due","_law_price","_law_ahead","_law_time"] λz B J=>(af (iY B (aV bC)) (af (iY B (aV bC)) (aW (O2:=[4,5]) (af (bB (pt:=.tp [6,7]) (bJ (ag 3)) (jS rfl (aH (i:=6) B (aH (i:=7) B cC))) (af (EE (aK cE (ag 1) (ag 6)) (jS rfl (aH (i:=8) B (aH (i:=9) B (aH (i:=10) B (aH (i:=11) B (aH (i:=12) B cC))))))) (af (ds_compA (i:=13) d_ ["_law_spot","_law_time","_law_gaps_here","_law_strip","_law_kind"] [f_,f_,a_ 0,a_ 7,a_ 8] B (di_zip Z.z_zip (ag 4) (ag 5)) (λ_ _ _ _ _=>jS rfl (bZ (i:=0) dkK (bZ (i:=1) dkK cC))) (jG am) (λ_ _ _ _ _=>bS) (λ_ _ _ _ _=>(ao (aq bF (ag 1) (dY (tU Z) J (da3 (ag 2) (ag 0) (c5 (da2 (ag 4) (ag 3))))))))) (aW (O2:=[4,5]) (af (b8 B (dY (vV Z) J (da2 (ag 2) (az (zf rfl) Z.xG Me (da1 (ao (aq bF (ao (aV (da1 (ag 9)))) (ag 13)))))))) (af (cK (bL o_gt (ag 14) (ag 10)) (aW (O2:=[]) (aj (ax mr))) bh) (af (dG (i:=4) (c5 (da2 (ag 8) (ag 7)))) (aj (dG (i:=5) (ag 14)))))))))) (aW (O2:=[]) (aj (ax (ag 5))))))))
def vX:YO Z.yX P w base 1 c_ (iS):=
 fY ["_law_flights_here","_law_plan","_law_times_here","_law_cost_here","_law_spot","_law_time"] λz B J=>(af (b8 B ab) (af (bB (pt:=.tp [4,5]) (di_zip Z.z_zip (ag 1) (ag 2)) (jS rfl (aH (i:=4) B (aH (i:=5) B cC))) (aj (b8 B (ao (aq bF (ag 3) (aq lY (aK cE (aK cE (ag 0) (aK cE (ag 4) ab)) ab) (az (zf rfl) Z.xG Me (da2 ab (aq nT (ag 5) (aK cE (aK cE (ag 0) (aK cE (ag 4) ab)) ab)))))))))) (aj (ax (ag 3)))))
def lX:YO Z.mY P w base 3 c_ (bX CR CP n):=
 fY ["_law_gaps_here","_law_flights_here","_law_closed_here","_law_shift","_law_costs","_law_plan","_law_times_here"] λz B J=>(af (iY B (aV bC)) (af (bB (pt:=.nm 5) (bJ (dY (tR Z) J (da3 (az gY Z.gB FY (da1 (ag 1))) (ag 3) (az gY Z.gB FY (da1 (ag 0)))))) (gX B) (af (b8 B (dY (tP Z) J (da4 (ag 0) (ag 1) (ag 2) (ag 5)))) (aj (cK (bL o_notN (ag 6) mr) (aj (dG (i:=4) (dY (vX Z) J (da3 (ag 1) (ag 5) (ag 6))))) bh)))) (aW (O2:=[]) (aj (ax (ER Z.z_min (ag 4) mr))))))
def iC:YO Z.nY P w base 1 c_ (bu):=
 fY ["_law_found","_law_least"] λz B J=>(af (cK (bL o_isN (ag 0) mr) (aj (ax (nE o_isN (ag 1) mr))) bh) (aj (ax (EV (nE o_ge (ag 0) ab) (EN (de_or (nE o_isN (ag 1) mr) (EN (nE o_le (ag 0) (ag 1)))))))))
def ok_law:YO (let ⟨f,fd,D,_⟩:=Z.d_law;⟨f,fd,D⟩) P w base 13 c_ (m_law CR CP n):=
 fY ["_law_script","_law_gaps_here","_law_shift","_law_many","_law_closed_here","_law_flights_here","_law_least","_law_cell_here","_law_eased","_law_later","_law_changes","_law_change"] λz J B=>(af (b8 J (dY (vW Z) B (da1 (ag 0)))) (af (EE (dY (yq Z) B (da2 (ag 0) (ag 1))) (jS rfl (aH (i:=2) J (aH (i:=3) J cC)))) (af (b8 J (dY (qL Z) B (da1 (ag 0)))) (af (b8 J (dY (p9 Z) B (da4 (ag 0) ab (az gY Z.gB FY (da1 (aK cE (ag 1) ab))) (ag 3)))) (af (b8 J (dY (jD Z) B (da4 (ag 1) (ag 5) (ag 4) (ag 2)))) (af (cK (bL (o_ne B.units) (ag 6) (dY (lX Z) B (da4 (ag 1) (ag 5) (ag 4) (ag 2)))) (aj (ax lB)) bh) (af (b8 J (dY (aS Z) B (da2 (ag 0) ab))) (ds_rowsT (i:=8) ["_law_rows"] [f_] J (bJ (ag 1)) (λ_ _ _ _ _=>dQ dkK) (aG rfl) (λ_ _ _ _ _=>bS) (λ_ _ _ _ _=>(re_comp ["_law_row"] [f_] (bJ (ag 0)) (λ_ _ _ _ _=>dQ dkK) (aG rfl) (λ_ _ _ _ _=>bS) (λ_ _ _ _ _=>(cu qo Z.lK G_ (da1 (ag 0)))))) wm ab (aq cb (ag 7) (az gY Z.gB FY (da1 (aK cE (ag 1) ab)))) (aq cb (aq bU (ag 7) ab) (az gY Z.gB FY (da1 (aK cE (ag 1) ab)))) (af (oI (i:=9) c_ ["_law_kind","_law_first","_law_last","_law_due","_law_price"] [f_,f_,f_,f_,f_] J (bJ (ag 5)) (λ_ _ _ _ _=>jS rfl (bZ (i:=0) dkK (bZ (i:=1) dkK (bZ (i:=2) dkK (bZ (i:=3) dkK (bZ (i:=4) dkK cC)))))) (jG am) (λ_ _ _ _ _=>bS) (λ_ _ _ _ _=>(c5 (da5 (ag 0) (ag 1) (ao (aq bF (ag 2) ab)) (ag 3) (ag 4))))) (af (iY J (aV (da3 (c5 (da3 (ag 8) (ag 5) (ag 4))) (c5 (da3 (ag 1) (ag 9) (ag 4))) (c5 (da3 (ag 1) (ag 5) (ao (C5 x_sl (ag 4) (mU ab) mV))))))) (af (cK (PW.pt (ED (bL (A7 B.units) (az gY Z.gB FY (da1 (ag 1))) ab) (yK (bL o_lt (ag 3) ab)))) (af (dG (i:=10) (c5 (da3 (ao (aq bF (ag 1) (ao (aV (da1 (dY (fZ Z) B (da3 (ag 0) ab (az gY Z.gB FY (da1 (aK cE (ag 1) ab)))))))))) (ag 5) (ag 4)))) (aW (O2:=[]) bh)) (aW (O2:=[]) bh)) (af (bB (pt:=.nm 11) (bJ (ag 10)) (gX J) (aj (cK (su (jk (dY (iC Z) B (da2 (dY (jD Z) B (da4 (aK cE (ag 11) ab) (aK cE (ag 11) ab) (aK cE (ag 11) ab) (ag 2))) (ag 6))))) (aj (ax lB)) bh))) (af (cK (PW.pt (ED (bL o_lt (ag 2) ab) (yK (bL o_lt (ag 3) (aq nT ab (az gY Z.gB FY (da1 (ag 1)))))))) (aj (ax (dY (iC Z) B (da2 (dY (jD Z) B (da4 (ag 1) (ag 5) (ag 4) (ao (aq bF (ag 2) ab)))) (ag 6))))) bh) (aj (ax lB)))))))))))))))
end
noncomputable abbrev fF:=Int×Int
variable{cs as:List fF}
noncomputable def stD(p:fF):A':=.tup [.int p.1,.int p.2]
theorem vh:∀cs:List fF,fH (cs.map stD)=.ok (cs.map λp=>[p.1,p.2])
 |[]=>rfl|p::cs=>by simp[fH,tupD,stD,bM,vh cs]
theorem D0(cs:List fF):∃J:List fF,k8 [.lst (cs.map stD)]=.ok (.lst (J.map stD))/\J.Perm cs/\J.Pairwise (λp q=>p.1<=q.1):=by
 cases d:cs with
 |nil=>exact⟨[],by simp[k8,oQ,bM,cZ],HN _,HL⟩|cons p ps=>
  rw[<- d];have hi:∃e,bM (cs.map stD)=.error e:=⟨.stuck,by rw[d];simp[bM,stD,asI]⟩
  obtain⟨e,i⟩:=hi;have U:((cs.map λp=>[p.1,p.2]).all λt=> !t.isEmpty)=d_:=by simp
  have es:k8 [.lst (cs.map stD)]=.ok (.lst ((cZ rK (cs.map λp=>[p.1,p.2])).map ba)):=by simp only[k8,oQ,Kv,i,vh,ai,U]
  have c:=cz (lt:=rK) (cs.map λp=>[p.1,p.2]);have f:=i6 Dw (cs.map λp=>[p.1,p.2]);generalize cZ rK (cs.map λp=>[p.1,p.2])=L at *
  let B:bm->fF:=λl=>(l.getD 0 0,l.getD 1 0)
  have Y:∀l∈L,∃p:fF,l=[p.1,p.2]:=λl h=>by have:=c.mem_iff.mp h;simp only[FP]at this;obtain⟨p,_,e⟩:=this;exact⟨p,e.symm⟩
  refine⟨L.map B,?_,?_,?_⟩
  .rw[es,D_]
   congr 2
   refine Hk λl h=>?_;obtain⟨p,rfl⟩:=Y l h;rfl
  .have:=c.map B;rw[D_]at this;have e2:P7 (B∘λp=>[p.1,p.2]) cs=cs:=by
    rw[Hk (g:=id)]
    .simp
    .intro p _;rfl
   rwa [e2]at this
  .rw[KG];refine f.imp_of_mem λ{a b} k j h=>?_;obtain⟨p,rfl⟩:=Y a k;obtain⟨q,rfl⟩:=Y b j;show p.1<=q.1;simp only[rK]at h;by_cases e1:q.1=p.1
   .lia
   .rw[x_ e1]at h;have:=NR h;lia
@[simp]def getI_c0(a:A')(l:List A'):iL (a::l) 0=.ok a:=by simp[iL,atI,ixN,u_]
@[simp] theorem getI_c1(a b:A')(l:List A'):iL (a::b::l) 1=.ok b:=by unfold iL atI ixN;rw[u_ ac,u_ (by simp<;>lia)];rfl
@[simp] theorem getI_c2(a b c:A')(l:List A'):iL (a::b::c::l) 2=.ok c:=by unfold iL atI ixN;rw[u_ ac,u_ (by simp<;>lia)];rfl
@[simp] theorem getI_c3(a b c d:A')(l:List A'):iL (a::b::c::d::l) 3=.ok d:=by unfold iL atI ixN;rw[u_ ac,u_ (by simp<;>lia)];rfl
@[simp] theorem getI_c4(a b c d e:A')(l:List A'):iL (a::b::c::d::e::l) 4=.ok e:=by unfold iL atI ixN;rw[u_ ac,u_ (by simp<;>lia)];rfl
section
variable(CR CP:i_)
noncomputable def gG(r:bm):A':=.lst (r.map .int)
def aJ(rows:List bm):A':=.lst (rows.map gG)
def qu(k:Nat)(r:bm):Prop:=r.length=k/\∀x∈r,0<=x/\x<=1000000
def fG(k:Nat)(rows:List bm):Prop:=rows.length=k/\∀r∈rows,qu k r
def Bu{lo:Int}(h:(aL lo m)[i]?=a_ d):i<m/\d=.int (lo+i):=by unfold aL at h;rw[FQ]at h;obtain⟨a,h1,B⟩:=Nu.mp h;have hi:=(oe.mp h1).1;rw[HY]at hi;rw[Kj hi]at h1;cases h1;exact⟨hi,B.symm⟩
theorem gA(h:(aL 0 m)[i]?=a_ d):i<m/\d=.int i:=by obtain⟨h1,B⟩:=Bu h;simp_all
def cw(lo:Int)(m:Nat):(aL lo m).length=m:=by simp[aL]
end
section
variable(CR CP:i_)
def Eh(n:Nat)(x:Int)(h0:0<=x)(h1:x<=1000000):ki [.int x]=.ok (.bl d_):=by simp[ki,Aq,sI,h0,h1]
theorem ui(n:Nat)(k:Nat)(r:bm)(Y:k<=6)(h:qu k r):dJ [gG r,.int k]=.ok (.bl d_):=by
 have L:r.length<=16777216:=by have:=h.1;lia
 have B:k<=16777216:=ac
 have e:ay (.nm 0) eW (fL (ki) (aa (ae 0) au)) [f_] (r.map .int)=.ok ((r.map λ_=>d_).map A'.bl):=by
  have:=fT (p:=.nm 0) (fe:=fL (ki) (aa (ae 0) au)) (ρ0:=[f_]) (λ_=>.bl d_) (r.map .int) (λd U=>by obtain⟨x,J,rfl⟩:=FP.mp U;exact⟨[a_ (.int x)],ad,by simp[Eh n x (h.2 x J).1 (h.2 x J).2]⟩)
  rw[this,D_,D_];rfl
 simp[dJ,nu,gG,e,L,B,h.1,-D_]
theorem EY(n:Nat)(rows:List bm)(U:rows.length<=1000):gn [aJ rows]=.ok (aJ rows):=by
 have B:rows.length<=16777216:=ac
 have e:ay (.nm 0) eW (fL gL (aa (ae 0) au)) [f_] (rows.map gG)=.ok (rows.map gG):=by
  have:=fT (p:=.nm 0) (fe:=fL gL (aa (ae 0) au)) (ρ0:=[f_]) id (rows.map gG) (λd J=>by obtain⟨x,L,rfl⟩:=FP.mp J;exact⟨[a_ (gG x)],ad,by simp[gG]⟩)
  rw[this,Og]
 simp[gn,mh,aJ,e,B]
theorem sH(n:Nat)(k:Nat)(rows:List bm)(h1:1<=k)(U:k<=6)(h:fG k rows):aB [aJ rows]=.ok (aJ rows):=by
 have B:rows.length<=16777216:=by have:=h.1;lia
 have e:ay (.nm 0) eW (fL (dJ) (aa (ae 0) (aa (ae 1) au))) [f_,a_ (.int rows.length)] (rows.map gG)=.ok ((rows.map λ_=>d_).map A'.bl):=by
  have:=fT (p:=.nm 0) (fe:=fL (dJ) (aa (ae 0) (aa (ae 1) au))) (ρ0:=[f_,a_ (.int rows.length)]) (λ_=>.bl d_) (rows.map gG) (λd L=>by obtain⟨x,J,rfl⟩:=FP.mp L;exact⟨[a_ (gG x),a_ (.int rows.length)],ad,by simp[h.1,ui n k x U (h.2 x J)]⟩)
  rw[this,D_,D_];rfl
 have a:(1:Int)<=rows.length:=by have:=h.1;lia
 have Y:(rows.length:Int)<=6:=by have:=h.1;lia
 have e3:=EY n rows ac;simp only[aJ]at e3;simp[aB,kN,jm,jl,aJ,e,e3,B,a,Y,-D_]
def aD(rows:List bm):A'->A'
 |.non=>.ins CR [("gaps",aJ rows)]|o=>.ins CP [("gaps",aJ rows),("beside",o)]
def uk(rows:List bm)(o:A')(J:o=.non\/∃B,o=aJ B):qW [CR,CP] "gaps" (aD CR CP rows o)=.ok (aJ rows):=by
 have h1:((("gaps":Gh)==("gaps":Gh))=d_):=by decide +kernel
 rcases J with rfl|⟨B,rfl⟩
 .show(if ([CR,CP].contains CR)=d_ then(match GW ("gaps":Gh) [(("gaps":Gh),aJ rows)]with|some d=>GX d|none=>stk)else stk)=_;simp
 .show(if ([CR,CP].contains CP)=d_ then(match GW ("gaps":Gh) [(("gaps":Gh),aJ rows),(("beside":Gh),aJ B)]with|some d=>GX d|none=>stk)else stk)=_;simp
end
structure Fli where
 kind:Int
 first:Int
 last:Int
 due:Int
 price:Int
def flD(f:Fli):A':=.tup [.int f.kind,.int f.first,.int f.last,.int f.due,.int f.price]
structure qv(k:Nat)(f:Fli):Prop where
 k0:0<=f.kind
 k1:f.kind<k
 f0:0<=f.first
 f1:f.first<=f.last
 l1:f.last<=1000000000
 d0:0<=f.due
 d1:f.due<=1000000000
 p0:0<=f.price
 p1:f.price<=1000000000
@[simp]def flatD_int(i:Int):gO (.int i)=d_:=by rfl
theorem minZ_le(a b:Int):kx a b<=a/\kx a b<=b/\(kx a b=a\/kx a b=b):=by unfold kx;split<;>lia
def nU(fl:List Fli)(i:Int):Fli:=match fl[i.toNat]? with
 |some f=>f|none=>⟨0,0,0,0,0⟩
theorem getFl{fl:List Fli}{i:Int}(h0:0<=i)(h1:i<fl.length):iL (fl.map flD) i=.ok (flD (nU fl i))/\nU fl i∈fl:=by
 have B:i.toNat<fl.length:=ac
 have e:nU fl i=fl[i.toNat]:=by unfold nU;rw[y_ B]
 refine⟨?_,bi⟩
 have:=ko (ds:=fl.map flD) (k:=i.toNat) bi;grind
def Cov(cs:List fF)(t:Int):Prop:=∃p∈cs,p.1<=t/\t<p.2
def eJ(cs:List fF)(t u:Int):Prop:=t<=u/\¬Cov cs u/\∀v,t<=v->v<u->Cov cs v
def eJ.uniq{t v:Int}(h:eJ cs t u)(k:eJ cs t v):u=v:=by
 rcases Int.lt_trichotomy u v with e|e|e
 .exact FZ (k.2.2 u h.1 e) h.2.1
 .exact e
 .exact FZ (h.2.2 v k.1 e) k.2.1
def EW(t:Int):¬Cov [] t:=λ⟨_,h,_⟩=>by simp at h
def AH{p:fF}{t:Int}:Cov (p::cs) t↔(p.1<=t/\t<p.2)\/Cov cs t:=by
 constructor
 .rintro⟨q,h,B⟩;rcases p_.mp h with e|e
  .subst e;exact .inl B
  .exact .inr ⟨q,e,B⟩
 .rintro(h|⟨q,h,B⟩)
  .exact⟨p,ad,h⟩
  .exact⟨q,by simp[h],B⟩
def iJ{J:List fF}{t:Int}:Cov (as++J) t↔Cov as t\/Cov J t:=by
 constructor
 .rintro⟨q,h,B⟩;rcases FL.mp h with e|e
  .exact .inl ⟨q,e,B⟩
  .exact .inr ⟨q,e,B⟩
 .rintro(⟨q,h,B⟩|⟨q,h,B⟩)
  .exact⟨q,by simp[h],B⟩
  .exact⟨q,by simp[h],B⟩
def cov_perm{B:List fF}(h:as.Perm B){t:Int}:Cov as t↔Cov B t:=⟨λ⟨p,m,q⟩=>⟨p,h.mem_iff.mp m,q⟩,λ⟨p,m,q⟩=>⟨p,h.mem_iff.mpr m,q⟩⟩
def zc{p:fF}{t:Int}:Cov [p] t↔p.1<=t/\t<p.2:=by rw[AH];simp[EW]
noncomputable def tAt(B:bm)(i:Nat):Int:=B.getD i 0
noncomputable def rwAt(rows:List bm)(i:Int):bm:=rows.getD i.toNat []
def at2(rows:List bm)(i j:Int):Int:=(rwAt rows i).getD j.toNat 0
def apS(rows B:List bm)(a b:fF):Int:=if a.2=b.2 then at2 rows a.1 b.1 else at2 B a.1 b.1
theorem v7(g:fG k rows){i:Int}(h0:0<=i)(h1:i<k):iL (rows.map gG) i=.ok (gG (rwAt rows i))/\qu k (rwAt rows i):=by
 have J:=g.1;have B:i.toNat<rows.length:=ac
 have e:rwAt rows i=rows[i.toNat]:=by simp[rwAt,B]
 refine⟨?_,by rw[e];exact g.2 _ (GA B)⟩
 have:=ko (ds:=rows.map gG) (k:=i.toNat) (by simpa using B);rw[show((i.toNat:Nat):Int)=i by lia]at this;rw[this,e];simp
theorem getA(g:fG k rows){i j:Int}(h0:0<=i)(h1:i<k)(Y:0<=j)(U:j<k):iL ((rwAt rows i).map .int) j=.ok (.int (at2 rows i j))/\0<=at2 rows i j:=by
 have J:=(v7 g h0 h1).2;have L:=J.1;have B:j.toNat<(rwAt rows i).length:=ac
 have e:at2 rows i j=(rwAt rows i)[j.toNat]:=by simp[at2,B]
 refine⟨?_,by rw[e];exact(J.2 _ (GA B)).1⟩
 simp_all[getI_int]
def lookA1(d:A'):GW ("apart":Gh) [(("gaps":Gh),d)]=f_:=by rfl
def lookA2(d e:A'):GW ("apart":Gh) [(("gaps":Gh),d),(("beside":Gh),e)]=f_:=by rfl
section
variable(CR CP:i_)
def Fp(rows B:List bm):qW [CP] "beside" (aD CR CP rows (aJ B))=.ok (aJ B):=by
 have h1:((("beside":Gh)==("gaps":Gh))=c_):=by decide +kernel
 have J:((("beside":Gh)==("beside":Gh))=d_):=by decide +kernel
 show(if ([CP].contains CP)=d_ then(match GW ("beside":Gh) [(("gaps":Gh),aJ rows),(("beside":Gh),aJ B)]with|some d=>GX d|none=>stk)else stk)=_;rw[u_ ad,Hx,h1];show(match GW ("beside":Gh) [(("beside":Gh),aJ B)]with|some d=>GX d|none=>stk)=_;rw[Hx,J]
end
def sP(js:List fF):Prop:=js.Pairwise (λp q=>p.2<q.1)/\∀p∈js,p.1<p.2
theorem Am(n:Nat):ixN (n+1) (-1)=a_ n:=by unfold ixN;simp<;>lia
@[simp]def getI_last(ds:List A')(d:A'):iL (ds++[d]) (-1)=.ok d:=by unfold iL atI;rw[FK,Lr,Am];simp
def j7(js B:List fF):Prop:=sP js/\(∀t,Cov js t↔Cov B t)/\js.length<=B.length/\∀j∈js,∃d∈B,d.1=j.1
def j7.new{js B:List fF}{p:fF}(h:j7 js B)(Y:p.1<p.2)(J:∀x∈js,x.2<p.1):j7 (js++[p]) (B++[p]):=by
 obtain⟨⟨h1,l⟩,k,i,g⟩:=h;refine⟨⟨?_,?_⟩,?_,by simp;exact i,?_⟩
 .rw[Gm];exact⟨h1,ad,λa f b L=>by simp at L;subst L;exact J a f⟩
 .intro x U;rcases FL.mp U with e|e
  .exact l x e
  .simp at e;subst e;exact Y
 .intro t;rw[iJ,iJ,k]
 .intro j c;rcases FL.mp c with e|e
  .obtain⟨d,m,z⟩:=g j e;exact⟨d,by simp[m],z⟩
  .simp at e;subst e;exact⟨j,ad,rfl⟩
theorem j7.more{J B:List fF}{q p:fF}(h:j7 (J++[q]) B)(u:p.1<p.2)(h1:q.1<=p.1)(v:p.1<=q.2):j7 (J++[(q.1,dR p.2 q.2)]) (B++[p]):=by
 obtain⟨⟨L,c⟩,r,o,Y⟩:=h;have s:q.1<q.2:=c q ad;have k:p.2<=dR p.2 q.2:=by unfold dR;split<;>lia
 have i:q.2<=dR p.2 q.2:=by unfold dR;split<;>lia
 have g:dR p.2 q.2=p.2\/dR p.2 q.2=q.2:=by unfold dR;split<;>lia
 rw[Gm]at L;refine⟨⟨?_,?_⟩,?_,by simp at o ⊢;lia,?_⟩
 .rw[Gm];exact⟨L.1,ad,λa n b U=>by simp at U;subst U;exact L.2.2 a n q ad⟩
 .intro x f;rcases FL.mp f with e|e
  .exact c x (by simp[e])
  .simp at e;subst e;show q.1<dR p.2 q.2;lia
 .intro t;have:=r t;rw[iJ,zc]at this;rw[iJ,iJ,<- this,zc,zc];show Cov J t\/q.1<=t/\t<dR p.2 q.2↔_;constructor
  .rintro(z|z)
   .exact .inl (.inl z)
   .by_cases e:t<q.2
    .exact .inl (.inr ⟨z.1,e⟩)
    .exact .inr ac
  .rintro((z|z)|z)
   .exact .inl z
   .exact .inr ac
   .exact .inr ac
 .intro j l;rcases FL.mp l with e|e
  .obtain⟨d,m,z⟩:=Y j (by simp[e]);exact⟨d,by simp[m],z⟩
  .simp at e;subst e;obtain⟨d,m,z⟩:=Y q ad;exact⟨d,by simp[m],z⟩
theorem wL{g:ah->M B'}{c:Option A'}{t:Int}(r:fF->A')(Y:∀p:fF,g [c,a_ (.int t),a_ (.int p.1),a_ (.int p.2)]=if p.1<=t/\t<p.2 then .ok (.rt (r p))else .ok (.nx [c,a_ (.int t),a_ (.int p.1),a_ (.int p.2)])):
  ∀(js:List fF) (J B:Option A'),(∃p∈js,(p.1<=t/\t<p.2)/\bK (.tp [2,3]) g (js.map stD) [c,a_ (.int t),J,B]=.ok (.rt (r p)))\/(¬Cov js t/\∃U L,bK (.tp [2,3]) g (js.map stD) [c,a_ (.int t),J,B]=.ok (.nx [c,a_ (.int t),U,L]))
 |[],J,B=>.inr ⟨EW t,J,B,rfl⟩|p::js,J,B=>by
  have d:dI (.tp [2,3]) (stD p) [c,a_ (.int t),J,B]=.ok [c,a_ (.int t),a_ (.int p.1),a_ (.int p.2)]:=by simp[stD]
  by_cases h:p.1<=t/\t<p.2
  .refine .inl ⟨p,ad,h,?_⟩;rw[r_,bK,d,ai,Y,u_ h];rfl
  .have e:bK (.tp [2,3]) g ((p::js).map stD) [c,a_ (.int t),J,B]=bK (.tp [2,3]) g (js.map stD) [c,a_ (.int t),a_ (.int p.1),a_ (.int p.2)]:=by
    rw[r_,bK,d,ai,Y,x_ h];rfl
   rcases wL r Y js (a_ (.int p.1)) (a_ (.int p.2))with⟨q,f,b,a⟩|⟨b,a⟩
   .exact .inl ⟨q,by simp[f],b,by rw[e];exact a⟩
   .refine .inr ⟨λz=>?_,by rw[e];exact a⟩;rcases AH.mp z with z|z
    .exact h z
    .exact b z
theorem sP.tri:∀{js:List fF},sP js->∀p∈js,∀q∈js,p=q\/p.2<q.1\/q.2<p.1
 |[],_,p,B,_,_=>by simp at B|a::js,⟨h1,U⟩,p,B,q,L=>by
  rw[GR]at h1;rcases p_.mp B with e|e<;>rcases p_.mp L with e2|e2
  .exact .inl (e.trans e2.symm)
  .subst e;exact .inr (.inl (h1.1 q e2))
  .subst e2;exact .inr (.inr (h1.1 p e))
  .exact sP.tri (js:=js) ⟨h1.2,λx J=>U x (by simp[J])⟩ p e q e2
section
variable(CR CP:i_)
theorem Ed(n:Nat)(cs:List fF)(G:cs.length<64)(E:∀p∈cs,p.1<p.2):∃js:List fF,cF [.lst (cs.map stD)]=.ok (.lst (js.map stD))/\sP js/\(∀t,Cov js t↔Cov cs t)/\js.length<=cs.length:=by
 obtain⟨a,e,r,hw⟩:=D0 cs;have z:a.length=cs.length:=r.length_eq;have key:=ic (p:=.tp [2,3]) (g:=bz)
  (λk ρ=>∃js h f,ρ=[a_ (.lst (cs.map stD)),a_ (.lst (js.map stD)),h,f]/\j7 js (a.take k)) (a.map stD) 0 [a_ (.lst (cs.map stD)),a_ (.lst []),f_,f_] ⟨[],f_,f_,rfl,⟨by simp[sP],λt=>Iff.rfl,ad,ad⟩⟩ (by
  rintro i d ρ A ⟨js,h,f,rfl,B⟩;rw[FQ]at A;obtain⟨p,Y,rfl⟩:=Nu.mp A;obtain⟨hi,o⟩:=oe.mp Y;have l:a.take (0+i+1)=a.take (0+i)++[p]:=by rw[GY,LG,Y];rfl
  have U:p.1<p.2:=E p (r.mem_iff.mp (Gn Y));have L:∀j∈js,j.1<=p.1:=λj v=>by obtain⟨d,C,I⟩:=B.2.2.2 j v;rw[GY]at C;obtain⟨m,F,s⟩:=List.mem_take_iff_getElem.mp C;have:=HJ.mp hw m i ac hi ac;rw[s,o]at this;lia
  have w:js.length<64:=by have:=B.2.2.1;rw[GL]at this;lia
  refine⟨_,by simp[stD];rfl,?_⟩
  rw[l];rcases List.eq_nil_or_concat js with c|⟨J,q,c⟩
  .subst c;refine⟨_,.inl (by simp[bz,bV];rfl),[p],a_ (.int p.1),a_ (.int p.2),by simp[stD],by simpa using B.new U ad⟩
  .rw[List.concat_eq_append]at c;subst c;by_cases y:p.1<=q.2
   .refine⟨_,.inl (by simp[bz,bV,stD,y,gO,mn,Am];rfl),J++[(q.1,dR p.2 q.2)],a_ (.int p.1),a_ (.int p.2),?_,B.more U (L q ad) y⟩
    simp[stD]
   .have u:∀x∈J++[q],x.2<p.1:=λx D=>by
     rcases FL.mp D with e|e
     .have h1:=(Gm.mp B.1.1).2.2 x e q ad;have H:=B.1.2 q ad;lia
     .simp at e;subst e;lia
    simp at w;have b:J.length+1<16777216:=ac
    refine⟨_,.inl (by simp[bz,bV,stD,y,b];rfl),J++[q]++[p],a_ (.int p.1),a_ (.int p.2),by simp[stD],B.new U u⟩)
 obtain⟨ρ',e2,js,h,f,rfl,B⟩:=key;refine⟨js,?_,B.1,λt=>?_,?_⟩
 .simp[cF,i7,e,e2]
 .rw[B.2.1 t,GY,n_,IT];exact cov_perm r
 .have:=B.2.2.1;rw[GL,n_]at this;lia
theorem DJ(n:Nat)(cs:List fF)(t:Int)(b:cs.length<64)(Y:∀p∈cs,p.1<p.2):∃u,eV [.lst (cs.map stD),.int t]=.ok (.int u)/\eJ cs t u:=by
 obtain⟨js,e,U,L,_⟩:=Ed n cs b Y;rcases wL (g:=j6) (c:=a_ (.lst (cs.map stD))) (t:=t) (λp=>.int p.2) (λp=>by by_cases h1:p.1<=t<;>by_cases B:t<p.2<;>simp[j6,mz,h1,B]) js f_ f_ with⟨p,J,h,e2⟩|⟨h,f,d,e2⟩
 .refine⟨p.2,by simp[eV,lu,e,e2],ac,λz=>?_,λv h1 B=>(L v).mp ⟨p,J,ac,B⟩⟩
  obtain⟨q,a,i⟩:=(L _).mpr z;rcases U.tri p J q a with e|e|e
  .subst e;lia
  .lia
  .have:=U.2 p J;lia
 .exact⟨t,by simp[eV,lu,e,e2],Gg _,λz=>h ((L t).mpr z),λv h1 B=>by lia⟩
end
def BO(f:Fli)(t:Int):Int:=f.price*dR 0 (t-f.due)
section
variable(CR CP:i_)
theorem late_ok(n:Nat)(f:Fli)(t:Int)(h0:0<=f.price)(h1:f.price<=1000000000):iQ [flD f,.int t]=.ok (.int (BO f t)):=by
 have J: -18446744073709551616<f.price:=ac
 have B:f.price<18446744073709551616:=ac
 simp[iQ,pO,flD,J,B,BO]
end
theorem tV(n:Nat):∀B:bm,lh (B.map .int) (n+1)=d_
 |[]=>by rfl|p::cs=>by simp[lh,H8]
def wQ(ns:bm):eqM (.lst (ns.map .int)) (.lst [])=.ok (.bl ns.isEmpty):=by
 have h:H8 (.lst (ns.map .int)) 40=d_:=by simp[H8,tV]
 unfold eqM;rw[h];cases ns<;>simp[H8,lh,eqD,Aw]
structure Gp where
 k:Nat
 rows:List bm
 two:Bool
 r2:List bm
variable{g:Gp}
structure Gp.Good(g:Gp):Prop where
 k1:1<=g.k
 k3:g.k<=3
 rows:fG g.k g.rows
 r2:fG g.k g.r2
def Gp.o(g:Gp):A':=if g.two=d_ then aJ g.r2 else .non
noncomputable def Gp.s(g:Gp):Nat:=if g.two=d_ then 2 else 1
def Gp.D(g:Gp):A':=.lst (if g.two=d_ then [aJ g.rows,aJ g.r2]else [aJ g.rows])
noncomputable def tupI(r:bm):A':=.tup (r.map .int)
def kK(L:List bm):A':=.tup (L.map tupI)
def bO(c:Int)(L:List bm):A':=.tup [.int c,kK L]
def lG(s k:Nat)(L:List bm):Prop:=L.length=s/\∀r∈L,r.length=k
noncomputable def rp(B:Nat->Int):Nat->bm->bm
 |_,[]=>[]|j,x::xs=>if x= -1 then rp B (j+1) xs else(x+B j)::rp B (j+1) xs
def uT(B:Nat->Nat->Int):Nat->List bm->bm
 |_,[]=>[]|i,r::L=>rp (B i) 0 r++uT B (i+1) L
theorem tB(B:Nat->Int):∀(j:Nat) (xs:bm),(rp B j xs).length<=xs.length
 |_,[]=>by simp[rp]|j,x::xs=>by have:=tB B (j+1) xs;grind[rp]
theorem AV(B:Nat->Nat->Int)(k:Nat):∀(i:Nat) (L:List bm),(∀r∈L,r.length=k)->(uT B i L).length<=k*L.length
 |i,[],_=>by simp[uT]|i,y::L,h=>by have h1:=AV B k (i+1) L λr J=>h r (by simp[J]);have U:=tB (B i) 0 y;grind[uT,FK,E_,QK]
section
variable(CR CP:i_)
def gmeth(n:Nat)(e:CR≠CP)(U:g.Good){s b t:Int}(c:0<=a)(Y:a<g.k)(r:0<=b)(q:b<g.k)(d:g.two=c_->s=t)(fo p o:ah->M A')(ρ:ah)(h0:fo ρ=.ok (aD CR CP g.rows g.o))(h1:p ρ=.ok (.tup [.int a,.int s]))(j:o ρ=.ok (.tup [.int b,.int t])):
  eK CR CP "apart" (dX CR CP n) (dO CR CP n) fo (aa p (aa o au)) ρ=.ok (.int (apS g.rows g.r2 (a,s) (b,t))):=by
 obtain⟨l,_⟩:=v7 U.rows c Y;obtain⟨k,_⟩:=getA U.rows c Y r q;unfold eK;rw[h0,ai];cases h:g.two with
 |false=>
  have J:g.o=.non:=by simp[Gp.o,h]
  have L:=d h;have i:isC CR "apart" (aD CR CP g.rows g.o)=d_:=by rw[J];show((CR==CR)&&(GW ("apart":Gh) [(("gaps":Gh),aJ g.rows)]).isNone)=d_;rw[lookA1];simp
  have B:=uk CR CP g.rows g.o (.inl J);rw[u_ i];simp[h1,j,dX,mm,B,aJ,l,gG,k,apS,L]
 |true=>
  have J:g.o=aJ g.r2:=by simp[Gp.o,h]
  have i:isC CR "apart" (aD CR CP g.rows g.o)=c_:=by
   rw[J];show((CP==CR)&&(GW ("apart":Gh) [(("gaps":Gh),aJ g.rows),(("beside":Gh),aJ g.r2)]).isNone)=c_;have:(CP==CR)=c_:=by simp;exact λz=>e z.symm
   rw[this];rfl
  have f:isC CP "apart" (aD CR CP g.rows g.o)=d_:=by rw[J];show((CP==CP)&&(GW ("apart":Gh) [(("gaps":Gh),aJ g.rows),(("beside":Gh),aJ g.r2)]).isNone)=d_;rw[lookA2];simp
  have B:=uk CR CP g.rows g.o (.inr ⟨_,J⟩);have m:qW [CP] "beside" (aD CR CP g.rows g.o)=.ok (aJ g.r2):=by rw[J];exact Fp CR CP g.rows g.r2
  obtain⟨v,_⟩:=v7 U.r2 c Y;obtain⟨u,_⟩:=getA U.r2 c Y r q;rw[x_ (by rw[i];simp),u_ f];by_cases L:s=t
  .simp[h1,j,dO,jP,B,m,aJ,l,gG,k,apS,L]
  .simp[h1,j,dO,jP,B,m,aJ,v,gG,u,apS,L]
theorem E4(n:Nat)(c:CR≠CP){g:Gp}(p:g.Good)(b t:Int)(r:0<=b)(q:b<g.k)(B U:Option A')(i:Nat)(Y:g.two=c_->(i:Int)=t):∀(L:bm) (j:Nat) (J:bm) (e d:Option A'),j+L.length<=g.k->J.length+L.length<=1000 ->
  ∃h f,bK (.tp [6,7]) (bP CR CP n) (eY j (L.map .int)) [a_ (aD CR CP g.rows g.o),B,a_ (.tup [.int b,.int t]),a_ (.lst (J.map .int)),a_ (.int i),U,e,d]=.ok (.nx [a_ (aD CR CP g.rows g.o),B,a_ (.tup [.int b,.int t]),a_ (.lst ((J++rp (λj=>apS g.rows g.r2 (j,i) (b,t)) j L).map .int)),a_ (.int i),U,h,f])
 |[],j,J,e,d,_,_=>⟨e,d,by simp[eY,bK,rp]⟩|x::L,j,J,e,d,w,v=>by
  simp only[E_]at w v;by_cases l:x= -1
  .obtain⟨h,f,k⟩:=E4 n c p b t r q B U i Y L (j+1) J (a_ (.int j)) (a_ (.int x)) ac ac;refine⟨h,f,?_⟩
   rw[r_,eY,bK];simp only[rp,u_ l];rw[<- k];simp[bP,eA,l]
  .obtain⟨h,f,k⟩:=E4 n c p b t r q B U i Y L (j+1) (J++[x+apS g.rows g.r2 (j,i) (b,t)]) (a_ (.int j)) (a_ (.int x)) ac (by simp;lia);refine⟨h,f,?_⟩
   have z:=gmeth CR CP n c p (a:=j) (s:=i) (b:=b) (t:=t) ac ac r q Y (ae 0) (fL bG (aa (ae 6) (aa (ae 4) au))) (ae 2) (erase [3] [a_ (aD CR CP g.rows g.o),B,a_ (.tup [.int b,.int t]),a_ (.lst (J.map .int)),a_ (.int i),U,a_ (.int j),a_ (.int x)]) (by rfl) (by rfl) (by rfl);have m:J.length<16777216:=ac
   rw[r_,eY,bK];simp only[rp,x_ l];rw[FX,List.singleton_append]at k;rw[<- k];have y:dI (.tp [6,7]) (.tup [.int j,.int x]) [a_ (aD CR CP g.rows g.o),B,a_ (.tup [.int b,.int t]),a_ (.lst (J.map .int)),a_ (.int i),U,e,d]=.ok [a_ (aD CR CP g.rows g.o),B,a_ (.tup [.int b,.int t]),a_ (.lst (J.map .int)),a_ (.int i),U,a_ (.int j),a_ (.int x)]:=by simp
   have o:bP CR CP n [a_ (aD CR CP g.rows g.o),B,a_ (.tup [.int b,.int t]),a_ (.lst (J.map .int)),a_ (.int i),U,a_ (.int j),a_ (.int x)]=.ok (.nx [a_ (aD CR CP g.rows g.o),B,a_ (.tup [.int b,.int t]),a_ (.lst ((J++[x+apS g.rows g.r2 (j,i) (b,t)]).map .int)),a_ (.int i),U,a_ (.int j),a_ (.int x)]):=by
    have u:ae 7 (erase [3] [a_ (aD CR CP g.rows g.o),B,a_ (.tup [.int b,.int t]),a_ (.lst (J.map .int)),a_ (.int i),U,a_ (.int j),a_ (.int x)])=.ok (.int x):=by simp[erase]
    have es:gF [3] 3 (f2 cL (ae 7) (eK CR CP "apart" (dX CR CP n) (dO CR CP n) (ae 0) (aa (fL bG (aa (ae 6) (aa (ae 4) au))) (aa (ae 2) au)))) [a_ (aD CR CP g.rows g.o),B,a_ (.tup [.int b,.int t]),a_ (.lst (J.map .int)),a_ (.int i),U,a_ (.int j),a_ (.int x)]=.ok (.nx [a_ (aD CR CP g.rows g.o),B,a_ (.tup [.int b,.int t]),a_ (.lst ((J++[x+apS g.rows g.r2 (j,i) (b,t)]).map .int)),a_ (.int i),U,a_ (.int j),a_ (.int x)]):=by unfold gF f2;rw[z,u];simp[ju,put,m,JW]
    simp[bP,eA,l,-e_appB,es]
   rw[y,ai,o];rfl
end
section
variable(CR CP:i_)
theorem lg_all(n:Nat)(a:CR≠CP){g:Gp}(p:g.Good)(b t:Int)(s:0<=b)(q:b<g.k)(y:0<=t/\t<g.s)(B:Option A'):∀(L:List bm) (i:Nat) (J:bm) (d c Y U:Option A'),i+L.length<=g.s->(∀r∈L,r.length=g.k)->J.length+g.k*L.length<=1000 ->
  ∃v u f e,bK (.tp [4,5]) (cI CR CP n) (eY i (L.map tupI)) [a_ (aD CR CP g.rows g.o),B,a_ (.tup [.int b,.int t]),a_ (.lst (J.map .int)),d,c,Y,U]=.ok (.nx [a_ (aD CR CP g.rows g.o),B,a_ (.tup [.int b,.int t]),a_ (.lst ((J++uT (λi j=>apS g.rows g.r2 (j,i) (b,t)) i L).map .int)),v,u,f,e])
 |[],i,J,d,c,Y,U,_,_,_=>⟨d,c,Y,U,by simp[eY,bK,uT]⟩|r::L,i,J,d,c,Y,U,hi,l,o=>by
  have z:=l r ad;simp only[E_]at hi o;rw[QK]at o;have k:g.two=c_->(i:Int)=t:=λh=>by
   have G:g.s=1:=by simp[Gp.s,h]
   lia
  obtain⟨f,e,e1⟩:=E4 CR CP n a p b t s q B (a_ (tupI r)) i k r 0 J Y U ac ac;have m:=tB (λj=>apS g.rows g.r2 (j,i) (b,t)) 0 r;obtain⟨E,D,C,A,F⟩:=lg_all n a p b t s q y B L (i+1) (J++rp (λj=>apS g.rows g.r2 (j,i) (b,t)) 0 r) (a_ (.int i)) (a_ (tupI r)) f e ac (λx w=>l x (by simp[w])) be;simp_all[uT,FX,r_,eY,bK,cI,tupI,ai]
theorem lg_ok(n:Nat)(B:CR≠CP)(J:g.Good)(b t:Int)(d:0<=b)(c:b<g.k)(a:0<=t/\t<g.s){L:List bm}(U:lG g.s g.k L):dC CR CP n [aD CR CP g.rows g.o,kK L,.tup [.int b,.int t]]=.ok (.lst ((uT (λi j=>apS g.rows g.r2 (j,i) (b,t)) 0 L).map .int)):=by
 have Y:=J.k3;have m:g.s<=2:=by unfold Gp.s;split<;>lia
 have o:=U.1;have p:g.k*L.length<=3*2:=Iy Y ac;obtain⟨l,k,h,f,e⟩:=lg_all CR CP n B J b t d c a (a_ (kK L)) L 0 [] f_ f_ f_ f_ ac U.2 (by simp;lia);rw[II,IP]at e;simp only[kK]at e ⊢;simp[dC,jh,e,-D_]
end
def jf(L:List bm)(i:Nat):bm:=L.getD i []
def gu{s:Nat}{L:List bm}(h:lG s k L)(hi:i<s):jf L i∈L/\(jf L i).length=k/\iL (L.map tupI) (i:Int)=.ok (tupI (jf L i))/\L.take (i+1)=L.take i++[jf L i]:=by
 have B:i<L.length:=by rw[h.1];exact hi
 have e:jf L i=L[i]:=by simp[jf,B]
 have m:jf L i∈L:=by rw[e];exact GA B
 refine⟨m,h.2 _ m,?_,?_⟩
 .rw[ko (by simpa using B),e];simp
 .rw[List.take_add_one,y_ B,e];rfl
theorem iW:∀(xs:bm) (x:Int),xs.foldl dR x=x\/xs.foldl dR x∈xs
 |[],x=>.inl rfl|y::xs,x=>by
  rw[FU];have B:dR x y=x\/dR x y=y:=by unfold dR;split<;>lia
  rcases iW xs (dR x y)with h|h
  .rcases B with z|z
   .exact .inl (h.trans z)
   .exact .inr (by rw[h,z];simp)
  simp_all
def cnt(cs:List fF)(t:Int):Nat:=cs.countP λp=>A_ (t<p.2)
theorem cnt_mono{t:Int}(h:t<=u):cnt cs u<=cnt cs t:=by unfold cnt;exact List.countP_mono_left λp _ B=>by simp at B ⊢;lia
theorem cnt_lt:∀{cs:List fF} {p:fF} {t:Int},p∈cs->t<p.2->cnt cs p.2<cnt cs t
 |[],p,t,B,_=>by simp at B|a::cs,p,t,B,J=>by
  have Y:=cnt_mono (cs:=cs) (t:=t) (u:=p.2) ac;unfold cnt at *;rw[Pw,Pw];rcases p_.mp B with e|e
  .subst e;simp[J];lia
  .have L:=cnt_lt (cs:=cs) e J;unfold cnt at L;by_cases h1:p.2<a.2
   .have:t<a.2:=ac
    simp[h1,this];lia
   .by_cases U:t<a.2<;>simp[h1,U]<;>lia
def vm(cs:List fF)(t:Int):bm:=(cs.filter λp=>A_ (p.1<=t)&&A_ (t<p.2)).map (·.2)
theorem sC(t:Int):∀cs:List fF,ay (.tp [0,1]) (fB (fS leD ltD (ae 0) (ae 2) (ae 1))) (ae 1) [f_,f_,a_ (.int t)] (cs.map stD)=.ok ((vm cs t).map .int)
 |[]=>rfl|p::cs=>by have B:=sC t cs;rw[r_,ay];unfold vm at B ⊢;by_cases h1:p.1<=t<;>by_cases J:t<p.2<;>simp[stD,h1,J,B]
def Cc(L:List bm)(U:∀r∈L,r.length<=1000):ay (.nm 0) eW (fL gL (aa (ae 0) au)) [f_] (L.map tupI)=.ok (L.map gG):=by
 have h:=fT (p:=.nm 0) (fe:=fL gL (aa (ae 0) au)) (ρ0:=[f_]) (λd=>match d with|.tup ds=>.lst ds|d=>d) (L.map tupI) (λd B=>by obtain⟨r,J,rfl⟩:=FP.mp B;simp[tupI])
 rw[h,D_];rfl
def EZ(L:List bm)(U:∀r∈L,r.length<=1000):ay (.nm 0) eW (fL nc (aa (ae 0) au)) [f_] (L.map gG)=.ok (L.map tupI):=by
 have h:=fT (p:=.nm 0) (fe:=fL nc (aa (ae 0) au)) (ρ0:=[f_]) (λd=>match d with|.lst ds=>.tup ds|d=>d) (L.map gG) (λd B=>by obtain⟨r,J,rfl⟩:=FP.mp B;simp[gG])
 rw[h,D_];rfl
def putL(L:List bm)(i j:Nat)(x:Int):List bm:=L.set i ((jf L i).set j x)
def lU{s:Nat}{L:List bm}(h:lG s k L)(hi:i<s)(x:Int):lG s k (putL L i j x):=by
 refine⟨by unfold putL;rw[Gd];exact h.1,λr B=>?_⟩
 unfold putL at B;rcases Jv B with z|z
 .exact h.2 r z
 .rw[z,Gd];exact(gu h hi).2.1
theorem yz(h:i<n):ixN n (i:Int)=a_ i:=by simp_all[ixN,u_]
theorem lS{s:Nat}{L:List bm}(J:lG s k L)(hi:i<s)(Y:j<k)(x:Int):rowAt (L.map gG) (i:Int)=.ok (i,(jf L i).map .int)/\kD (L.map gG) (i,(jf L i).map .int) (j:Int) (.int x)=.ok ((putL L i j x).map gG):=by
 have B:i<L.length:=by rw[J.1];exact hi
 have e:jf L i=L[i]:=by simp[jf,B]
 have U:=(gu J hi).2.1;constructor
 .unfold rowAt;rw[n_,yz B];simp[B,e,gG]
 .unfold kD;simp only[n_];rw[yz ac];unfold putL;simp[Ms,gG]
def Bg(g:Gp)(L:List bm)(f:Fli)(s:Nat):Int:=(uT (λi j=>apS g.rows g.r2 (j,i) (f.kind,s)) 0 L).foldl dR f.first
def after(g:Gp)(c:Int)(L:List bm)(f:Fli)(s:Nat)(u:Int):A':=if f.last<u then .non else bO (c+BO f u) (putL L s f.kind.toNat u)
def lG.short{s:Nat}{L:List bm}(h:lG s k L)(J:k<=1000):∀r∈L,r.length<=1000:=λr B=>by rw[h.2 r B];exact J
section
variable(CR CP:i_)
theorem lasts_ok(n:Nat){s:Nat}{L:List bm}(B:lG s k L)(c:s<=10)(d:k<=10)(hi:i<s)(a:j<k)(x:Int):i4 [kK L,.tup [.int j,.int i],.int x]=.ok (kK (putL L i j x)):=by
 have h1:=Cc L (B.short ac);have J:=lU (j:=j) B hi x;have b:=EZ (putL L i j x) (J.short ac);obtain⟨e1,e2⟩:=lS B hi a x;have Y:L.length<=16777216:=by have:=B.1;lia
 have U:(putL L i j x).length<=16777216:=by have:=J.1;lia
 simp only[kK];simp[i4,nt,y0,D7,qD,vG,yw,asI,h1,Y,e1,e2,b,U]
theorem Fs(n:Nat)(d:CR≠CP)(r:g.Good)(K:cs.length<=20)(k:∀p∈cs,p.1<p.2){fl:List Fli}(h:∀f∈fl,qv g.k f)(c:Int){L:List bm}(a:lG g.s g.k L){s:Nat}(N:q<fl.length)(G:s<g.s)(E:eJ cs (Bg g L (nU fl q) s) u):
  cx CR CP n [aD CR CP g.rows g.o,.lst (fl.map flD),.lst (cs.map stD),bO c L,.int q,.int s]=.ok (after g c L (nU fl q) s u):=by
 obtain⟨o,H⟩:=getFl (fl:=fl) (i:=q) ac ac;have J:=h _ H;have C:=r.k3;have F:g.s<=2:=by unfold Gp.s;split<;>lia
 have m:=lg_ok CR CP n d r (nU fl q).kind s J.k0 J.k1 ⟨ac,ac⟩ a;have l:=AV (λi j=>apS g.rows g.r2 (j,i) ((nU fl q).kind,s)) g.k 0 L a.2;have I:g.k*L.length<=3*2:=Iy C (by have:=a.1;lia);obtain⟨v,ev,D⟩:=DJ n cs (Bg g L (nU fl q) s) ac k;have b:=D.uniq E;subst b;have y:=late_ok n (nU fl q) v J.p0 J.p1;obtain⟨Y,U⟩:∃Y:Nat,(nU fl q).kind=Y:=⟨(nU fl q).kind.toNat,by have:=J.k0;lia⟩
 have x:=lasts_ok n a ac ac G (j:=Y) (by have:=J.k1;lia) v;rw[<- U]at x;have e:(nU fl q).kind.toNat=Y:=ac
 unfold Bg at ev;generalize t:uT (λi j=>apS g.rows g.r2 (j,i) ((nU fl q).kind,s)) 0 L=A at m l ev;have z:maxD [.lst (.int (nU fl q).first::A.map .int)]=.ok (.int (A.foldl dR (nU fl q).first)):=by show(bM (((nU fl q).first::A).map .int)).bind maxL=_;rw[dv,ai,maxL]
 have w:1+A.length<=16777216:=ac
 unfold after;simp only[flD]at o y;by_cases B:(nU fl q).last<v
 .rw[u_ B];simp[cx,ik,g0,o,bO,m,cL,w,z,ev,B,-wU]
 .rw[x_ B,e];simp[cx,ik,g0,o,bO,m,cL,w,z,ev,B,y,x,-wU]
end
def labP(p:Int×List bm):A':=bO p.1 p.2
noncomputable def leR:bm->bm->Bool
 |x::xs,y::ys=>A_ (x<=y)&&leR xs ys|_,_=>d_
def leL:List bm->List bm->Bool
 |r::L,t::M=>leR r t&&leL L M|_,_=>d_
def geR(r:bm):Prop:=∀x∈r,-1<=x
def geL(L:List bm):Prop:=∀r∈L,geR r
def nw(p q:Int×List bm):Bool:=A_ (p.1<=q.1)&&leL p.2 q.2
structure Lab(g:Gp)(p:Int×List bm):Prop where
 good:lG g.s g.k p.2
 ge:geL p.2
theorem Af:∀r:bm,leR r r=d_
 |[]=>rfl|x::r=>by simp[leR,Af r]
theorem Ag:∀L:List bm,leL L L=d_
 |[]=>rfl|r::L=>by simp[leL,Af r,Ag L]
def DF(p:Int×List bm):nw p p=d_:=by simp[nw,Ag]
theorem wq:∀{a b c:bm},a.length=b.length->b.length=c.length->leR a b=d_->leR b c=d_->leR a c=d_
 |[],_,_,_,_,_,_=>by rfl|x::a,[],_,h,_,_,_=>by simp at h|x::a,y::b,[],_,h,_,_=>by rfl|x::a,y::b,z::c,h1,L,J,B=>by simp[leR]at J B ⊢;exact⟨ac,wq (by simpa using h1) (by simpa using L) J.2 B.2⟩
theorem wt{k:Nat}:∀{a b c:List bm},a.length=b.length->b.length=c.length->(∀r∈a,r.length=k)->(∀r∈b,r.length=k)->(∀r∈c,r.length=k)->leL a b=d_->leL b c=d_->leL a c=d_
 |[],_,_,_,_,_,_,_,_,_=>by rfl|x::a,[],_,h,_,_,_,_,_,_=>by simp at h|x::a,y::b,[],_,h,_,_,_,_,_=>by rfl|x::a,y::b,z::c,h1,d,Y,k2,U,L,J=>by simp[leL]at L J ⊢;have e1:=Y x ad;have e2:=k2 y ad;have e3:=U z ad;exact⟨wq ac ac L.1 J.1,wt (by simpa using h1) (by simpa using d) (λr B=>Y r (by simp[B])) (λr B=>k2 r (by simp[B])) (λr B=>U r (by simp[B])) L.2 J.2⟩
theorem pq{b d:Int}(h1:a<=b)(B:c<=d):dR a c<=dR b d:=by grind[dR]
theorem zP(c:Nat->Int):∀(a b:bm) (j:Nat) (x y:Int),a.length=b.length->geR a->leR a b=d_->x<=y->(rp c j a).foldl dR x<=(rp c j b).foldl dR y
 |[],[],j,x,y,_,_,_,h=>by simp_all[rp]|[],_::_,_,_,_,h,_,_,_=>by simp at h|_::_,[],_,_,_,h,_,_,_=>by simp at h|u::a,v::b,j,x,y,f,d,B,h=>by
  simp[leR]at B;have g:=d u ad;have Y:=zP c a b (j+1);have J:a.length=b.length:=by simpa using f
  have L:geR a:=λz e=>d z (by simp[e]);unfold rp;by_cases h1:u= -1
  .rw[u_ h1];by_cases U:v= -1
   .rw[u_ U];exact Y x y J L B.2 h
   .rw[x_ U,FU];refine Y x _ J L B.2 (Hi h ?_);unfold dR;split<;>lia
  .have U:¬v= -1:=ac
   rw[x_ h1,x_ U,FU,FU];exact Y _ _ J L B.2 (pq h ac)
theorem AS(L:Nat->Nat->Int){k:Nat}:∀(a b:List bm) (i:Nat) (x y:Int),a.length=b.length->(∀r∈a,r.length=k)->(∀r∈b,r.length=k)->geL a->leL a b=d_->x<=y->(uT L i a).foldl dR x<=(uT L i b).foldl dR y
 |[],[],i,x,y,_,_,_,_,_,h=>by simp_all[uT]|[],_::_,_,_,_,h,_,_,_,_,_=>by simp at h|_::_,[],_,_,_,h,_,_,_,_,_=>by simp at h|u::a,v::b,i,x,y,c,U,k2,Y,B,h=>by simp[leL]at B;rw[uT,uT,KH,KH];exact AS L a b (i+1) _ _ (by simpa using c) (λr J=>U r (by simp[J])) (λr J=>k2 r (by simp[J])) (λr J=>Y r (by simp[J])) B.2 (zP (L i) u v 0 x y (by rw[U u ad,k2 v ad]) (Y u ad) B.1 h)
theorem eJ.mono{b v:Int}(h:a<=b)(J:eJ cs a u)(B:eJ cs b v):u<=v:=by refine Classical.byContradiction λz=>B.2.1 (J.2.2 v ?_ ac);have:=B.1;lia
theorem E5:∀(a b:bm) (j:Nat) (x y:Int),a.length=b.length->leR a b=d_->x<=y->leR (a.set j x) (b.set j y)=d_
 |[],[],_,_,_,_,_,_=>rfl|[],_::_,_,_,_,h,_,_=>by rfl|_::_,[],_,_,_,h,_,_=>by simp at h|u::a,v::b,0,x,y,_,h,B=>by simp_all[leR]|u::a,v::b,j+1,x,y,J,h,B=>by simp[leR]at h ⊢;exact⟨h.1,E5 a b j x y (by simpa using J) h.2 B⟩
theorem E6:∀(a b:List bm) (i:Nat) (r t:bm),a.length=b.length->leL a b=d_->leR r t=d_->leL (a.set i r) (b.set i t)=d_
 |[],[],_,_,_,_,_,_=>rfl|[],_::_,_,_,_,h,_,_=>by rfl|_::_,[],_,_,_,h,_,_=>by simp at h|u::a,v::b,0,x,y,_,h,B=>by simp_all[leL]|u::a,v::b,j+1,x,y,J,h,B=>by simp[leL]at h ⊢;exact⟨h.1,E6 a b j x y (by simpa using J) h.2 B⟩
theorem E7:∀(a b:List bm) (i:Nat),a.length=b.length->leL a b=d_->leR (jf a i) (jf b i)=d_
 |[],[],_,_,_=>by rfl|[],_::_,_,h,_=>by rfl|_::_,[],_,h,_=>by simp at h|u::a,v::b,0,_,h=>by simp[leL]at h;simpa[jf] using h.1|u::a,v::b,i+1,B,h=>by simp[leL]at h;have:=E7 a b i (by simpa using B) h.2;simp_all[jf]
theorem E9(f:Fli){t:Int}(h:t<=u)(B:0<=f.price):BO f t<=BO f u:=by unfold BO;exact MP (pq (Gg _) ac) B
theorem Cm{p q:Int×List bm}(L:Lab g p)(U:Lab g q)(h:nw p q=d_)(f:Fli)(c:qv g.k f){s:Nat}(Y:s<g.s){v:Int}(b:eJ cs (Bg g p.2 f s) u)(a:eJ cs (Bg g q.2 f s) v)(d:¬f.last<v):
  ¬f.last<u/\nw (p.1+BO f u,putL p.2 s f.kind.toNat u) (q.1+BO f v,putL q.2 s f.kind.toNat v)=d_:=by
 simp[nw]at h;have B:p.2.length=q.2.length:=by rw[L.good.1,U.good.1]
 have J:u<=v:=b.mono (AS _ p.2 q.2 0 f.first f.first B L.good.2 U.good.2 L.ge h.2 (Gg _)) a;have e:=E9 f J c.p0;refine⟨ac,?_⟩
 simp only[nw,t_,FO];refine⟨ac,?_⟩
 unfold putL;refine E6 _ _ _ _ _ B h.2 (E5 _ _ _ _ _ ?_ (E7 _ _ _ B h.2) J);rw[(gu L.good Y).2.1,(gu U.good Y).2.1]
section
variable(CR CP:i_)
theorem nw_row(n:Nat)(c b a Y:Option A'):∀(r t:bm) (J B:Option A'),∃U L,bK (.tp [4,5]) (eE) (kB (r.map .int) (t.map .int)) [c,b,a,Y,J,B]=if leR r t=d_ then .ok (.nx [c,b,a,Y,U,L])else .ok (.rt (.bl c_))
 |[],t,J,B=>⟨J,B,by rfl⟩|x::r,[],J,B=>⟨J,B,by rfl⟩|x::r,y::t,J,B=>by
  obtain⟨U,L,d⟩:=nw_row n c b a Y r t (a_ (.int x)) (a_ (.int y));refine⟨U,L,?_⟩
  rw[r_,r_,kB,bK];by_cases h:x<=y
  .have h':¬y<x:=ac
   simp only[leR,h,decide_true,Nw];rw[<- d];simp[eE,gR,h']
  .have h':y<x:=ac
   simp[leR,h,eE,gR,h']
theorem DD(n:Nat)(Y U:Option A'):∀(L M:List bm) (b a J B:Option A'),∃f e d c,bK (.tp [2,3]) (eC) (kB (L.map tupI) (M.map tupI)) [Y,U,b,a,J,B]=if leL L M=d_ then .ok (.nx [Y,U,f,e,d,c])else .ok (.rt (.bl c_))
 |[],t,b,a,J,B=>⟨b,a,J,B,by rfl⟩|x::r,[],b,a,J,B=>⟨b,a,J,B,by rfl⟩|r::L,t::M,b,a,J,B=>by
  obtain⟨i,g,m⟩:=nw_row n Y U (a_ (tupI r)) (a_ (tupI t)) r t J B;obtain⟨f,e,d,c,j⟩:=DD n Y U L M (a_ (tupI r)) (a_ (tupI t)) i g;refine⟨f,e,d,c,?_⟩
  rw[r_,r_,kB,bK];have l:dI (.tp [2,3]) (.tup [tupI r,tupI t]) [Y,U,b,a,J,B]=.ok [Y,U,a_ (tupI r),a_ (tupI t),J,B]:=by simp
  have k:eC [Y,U,a_ (tupI r),a_ (tupI t),J,B]=if leR r t=d_ then .ok (.nx [Y,U,a_ (tupI r),a_ (tupI t),i,g])else .ok (.rt (.bl c_)):=by rw[<- m];simp[eC,tupI]
  rw[l,ai,k];by_cases h:leR r t=d_
  .simp only[leL,h,Kv,Nw];exact j
  simp_all[leL,Nd]
theorem nw_ok(n:Nat)(p q:Int×List bm):cf [labP p,labP q]=.ok (.bl (nw p q)):=by
 obtain⟨Y,U,L,J,e⟩:=DD n (a_ (labP p)) (a_ (labP q)) p.2 q.2 f_ f_ f_ f_;simp only[labP,bO,kK]at e ⊢;by_cases h:p.1<=q.1
 .have h':¬q.1<p.1:=ac
  by_cases B:leL p.2 q.2=d_
  .rw[u_ B]at e;simp[cf,gv,eB,h',e,nw,h,B]
  .rw[x_ B]at e;simp[cf,gv,eB,h',e,nw,h,B]
 .have h':q.1<p.1:=ac
  simp[cf,gv,eB,h',nw,h]
end
def lookM1(d:A'):GW ("many_strips":Gh) [(("gaps":Gh),d)]=f_:=by rfl
def lookM2(d e:A'):GW ("many_strips":Gh) [(("gaps":Gh),d),(("beside":Gh),e)]=f_:=by rfl
section
variable(CR CP:i_)
def yD(n:Nat)(J:CR≠CP)(fo:ah->M A')(ρ:ah)(h0:fo ρ=.ok (aD CR CP g.rows g.o)):eK CR CP "many_strips" (b9) (br) fo au ρ=.ok (.int g.s):=by
 unfold eK;rw[h0,ai];cases h:g.two with
 |false=>
  have B:g.o=.non:=by simp[Gp.o,h]
  have U:isC CR "many_strips" (aD CR CP g.rows g.o)=d_:=by rw[B];show((CR==CR)&&(GW ("many_strips":Gh) [(("gaps":Gh),aJ g.rows)]).isNone)=d_;rw[lookM1];simp
  rw[u_ U];simp[b9,gN,Gp.s,h]
 |true=>
  have B:g.o=aJ g.r2:=by simp[Gp.o,h]
  have U:isC CR "many_strips" (aD CR CP g.rows g.o)=c_:=by
   rw[B];show((CP==CR)&&(GW ("many_strips":Gh) [(("gaps":Gh),aJ g.rows),(("beside":Gh),aJ g.r2)]).isNone)=c_;have:(CP==CR)=c_:=by simp;exact λz=>J z.symm
   rw[this];rfl
  have L:isC CP "many_strips" (aD CR CP g.rows g.o)=d_:=by rw[B];show((CP==CP)&&(GW ("many_strips":Gh) [(("gaps":Gh),aJ g.rows),(("beside":Gh),aJ g.r2)]).isNone)=d_;rw[lookM2];simp
  rw[x_ (by rw[U];simp),u_ L];simp[br,i9,Gp.s,h]
end
def lookK1(d:A'):GW ("many_kinds":Gh) [(("gaps":Gh),d)]=f_:=by rfl
def lookK2(d e:A'):GW ("many_kinds":Gh) [(("gaps":Gh),d),(("beside":Gh),e)]=f_:=by rfl
section
variable(CR CP:i_)
def gkinds(n:Nat)(U:CR≠CP)(b:g.Good)(fo:ah->M A')(ρ:ah)(h0:fo ρ=.ok (aD CR CP g.rows g.o)):eK CR CP "many_kinds" (aT CR CP n) (aT CR CP n) fo au ρ=.ok (.int g.k):=by
 have L:=b.rows.1;unfold eK;rw[h0,ai];cases h:g.two with
 |false=>
  have J:g.o=.non:=by simp[Gp.o,h]
  have a:isC CR "many_kinds" (aD CR CP g.rows g.o)=d_:=by rw[J];show((CR==CR)&&(GW ("many_kinds":Gh) [(("gaps":Gh),aJ g.rows)]).isNone)=d_;rw[lookK1];simp
  have B:=uk CR CP g.rows g.o (.inl J);rw[u_ a];simp[aT,e8,B,aJ,L]
 |true=>
  have J:g.o=aJ g.r2:=by simp[Gp.o,h]
  have a:isC CR "many_kinds" (aD CR CP g.rows g.o)=c_:=by
   rw[J];show((CP==CR)&&(GW ("many_kinds":Gh) [(("gaps":Gh),aJ g.rows),(("beside":Gh),aJ g.r2)]).isNone)=c_;have:(CP==CR)=c_:=by simp;exact λz=>U z.symm
   rw[this];rfl
  have Y:isC CP "many_kinds" (aD CR CP g.rows g.o)=d_:=by rw[J];show((CP==CP)&&(GW ("many_kinds":Gh) [(("gaps":Gh),aJ g.rows),(("beside":Gh),aJ g.r2)]).isNone)=d_;rw[lookK2];simp
  have B:=uk CR CP g.rows g.o (.inr ⟨_,J⟩);rw[x_ (by rw[a];simp),u_ Y];simp[aT,e8,B,aJ,L]
def L0(g:Gp):List bm:=Gz g.s (Gz g.k (-1))
def FF(g:Gp):lG g.s g.k (L0 g):=⟨by simp[L0],λr B=>by rw[KO B];simp⟩
theorem wK(n:Nat)(L:CR≠CP)(Y:g.Good):gm CR CP n [aD CR CP g.rows g.o]=.ok (bO 0 (L0 g)):=by
 have r:=Y.k3;have k:g.s<=2:=by unfold Gp.s;split<;>lia
 have ek:=gkinds CR CP n L Y (ae 0) [a_ (aD CR CP g.rows g.o),f_] ad;have es:=yD CR CP n L (g:=g) (ae 0) [a_ (aD CR CP g.rows g.o),a_ (tupI (Gz g.k (-1)))] ad;have h: -4611686018427387904<=(g.k:Int):=ac
 have k2:(g.k:Int)<4611686018427387904:=ac
 have j: -4611686018427387904<=(g.s:Int):=ac
 have i:(g.s:Int)<4611686018427387904:=ac
 have a:ay (.nm 0) eW (f1 yv (fC (.int 1))) [f_] (aL 0 g.k)=.ok ((Gz g.k (-1)).map A'.int):=by have:=fT (p:=.nm 0) (fe:=f1 yv (fC (.int 1))) (ρ0:=[f_]) (λ_=>.int (-1)) (aL 0 g.k) (λd _=>⟨[a_ d],ad,ad⟩);rw[this,PZ,cw,O1]
 have o:∀d:A',ay (.nm 0) eW (ae 1) [f_,a_ d] (aL 0 g.s)=.ok (Gz g.s d):=λd=>by have:=fT (p:=.nm 0) (fe:=ae 1) (ρ0:=[f_,a_ d]) (λ_=>d) (aL 0 g.s) (λe _=>⟨[a_ e,a_ d],ad,ad⟩);rw[this,PZ,cw]
 have f:(aL 0 g.k).length<=16777216:=by rw[cw];lia
 have c:(aL 0 g.s).length<=16777216:=by rw[cw];lia
 have q:g.k<=16777216:=ac
 have b:g.s<=16777216:=ac
 have e1:bq 2 1 (iT CR CP n) [aD CR CP g.rows g.o]=.ok (bO 0 (L0 g)):=by
  have B:=o (tupI (Gz g.k (-1)));simp only[tupI]at B es;have m:kK (L0 g)=.tup (Gz g.s (.tup ((Gz g.k (-1)).map A'.int))):=by simp[kK,L0,tupI]
  rw[bO,m];generalize l:(Gz g.k (-1)).map A'.int=U at a B es ⊢;have J:U.length<=16777216:=by rw[<- l];simp;lia
  simp[iT,ek,h,k2,f,a,J,es,j,i,c,B,b,-O1]
 exact e1
end
theorem u4(a b:Int):a<=dR a b/\b<=dR a b/\(dR a b=a\/dR a b=b):=by unfold dR;split<;>lia
def nx(cs:List fF)(t:Int):Int:=open Classical in if h:∃u,eJ cs t u then h.choose else 0
def nx_eq{t:Int}(h:eJ cs t u):nx cs t=u:=by
 have B:∃u,eJ cs t u:=⟨u,h⟩
 unfold nx;rw[dif_pos B];exact B.choose_spec.uniq h
structure V where
 g:Gp
 fl:List Fli
 cs:List fF
structure V.Good(v:V):Prop where
 g:v.g.Good
 fl:∀f∈v.fl,qv v.g.k f
 many:v.fl.length<=40
 cs:v.cs.length<=20
 st:∀p∈v.cs,p.1<p.2
def V.f(v:V)(i:Nat):Fli:=nU v.fl i
theorem V.Good.fAt(B:v.Good)(h:i<v.fl.length):iL (v.fl.map flD) (i:Int)=.ok (flD (v.f i))/\qv v.g.k (v.f i):=by obtain⟨h1,J⟩:=getFl (fl:=v.fl) (i:=(i:Int)) ac ac;exact⟨h1,B.fl _ J⟩
def V.bt(v:V)(l:LK)(q s:Nat):Int:=nx v.cs (Bg v.g l.2 (v.f q) s)
def V.beh(v:V)(l:LK)(q s:Nat):Option LK:=if (v.f q).last<v.bt l q s then f_ else a_ (l.1+BO (v.f q) (v.bt l q s),putL l.2 s (v.f q).kind.toNat (v.bt l q s))
def labO:Option LK->A'
 |none=>.non|some l=>Lake.bO l
def labD_eq(l:LK):Lake.bO l=bO l.1 l.2:=rfl
section
variable(CR CP:i_)
def nextV(n:Nat)(B:v.Good)(t:Int):eV [.lst (v.cs.map stD),.int t]=.ok (.int (nx v.cs t))/\eJ v.cs t (nx v.cs t):=by obtain⟨u,e,h⟩:=DJ n v.cs t (Jf B.cs am) B.st;rw[nx_eq h];exact⟨e,h⟩
end
def V.Good.nxt(B:v.Good)(t:Int):eJ v.cs t (nx v.cs t):=(nextV 0 B t).2
section
variable(CR CP:i_)
def behV(n:Nat)(J:CR≠CP)(B:v.Good){l:LK}(Y:Lab v.g l){s:Nat}(U:q<v.fl.length)(L:s<v.g.s):
  cx CR CP n [aD CR CP v.g.rows v.g.o,.lst (v.fl.map flD),.lst (v.cs.map stD),Lake.bO l,.int q,.int s]=.ok (labO (v.beh l q s)):=by
 have e:=Fs CR CP n J B.g B.cs B.st B.fl l.1 Y.good U L (B.nxt (Bg v.g l.2 (nU v.fl q) s));rw[labD_eq,e];unfold after V.beh V.bt V.f;by_cases c:(nU v.fl q).last<nx v.cs (Bg v.g l.2 (nU v.fl q) s)
 .rw[u_ c,u_ c];rfl
 .rw[x_ c,x_ c];rfl
end
theorem V.Good.bt_ge(B:v.Good)(l:LK)(s:Nat)(J:q<v.fl.length):0<=v.bt l q s:=by have h1:=(B.nxt (Bg v.g l.2 (v.f q) s)).1;have U:(v.f q).first<=Bg v.g l.2 (v.f q) s:=(Lake.fold_max _ _).2.1;have L:=(B.fAt J).2.f0;unfold V.bt;lia
def Aa{r:bm}{y:Int}(h:y∈r.set j x):y∈r\/y=x:=Jv h
theorem V.Good.uM(b:v.Good){l Y:LK}(B:Lab v.g l){s:Nat}(d:q<v.fl.length)(a:s<v.g.s)(h:v.beh l q s=a_ Y):Lab v.g Y:=by
 unfold V.beh at h;split at h
 .cases h
 .cases h;refine⟨lU B.good a _,λr c x J=>?_⟩
  have e:=b.bt_ge l s d;have L:r∈l.2.set s ((jf l.2 s).set (v.f q).kind.toNat (v.bt l q s)):=c;rcases Jv L with z|z
  .exact B.ge r z x J
  .rw[z]at J;rcases Aa J with U|U
   .exact B.ge _ (gu B.good a).1 x U
   .lia
def V.Good.beh_mono(B:v.Good){p q p':LK}(a:Lab v.g p)(Y:Lab v.g q)(h:nw q p=d_){s:Nat}(hi:i<v.fl.length)(U:s<v.g.s)(e:v.beh p i s=a_ p'):∃L,v.beh q i s=a_ L/\nw L p'=d_:=by
 unfold V.beh at e;split at e
 .cases e
 .rename_i c;cases e;obtain⟨h1,b⟩:=Cm Y a h (v.f i) (B.fAt hi).2 U (B.nxt _) (B.nxt _) c;refine⟨_,?_,b⟩
  have J:¬(v.f i).last<v.bt q i s:=h1;unfold V.beh;rw[x_ J];rfl
def V.l0(v:V):LK:=(0,L0 v.g)
def V.l0_lab(v:V):Lab v.g v.l0:=⟨FF v.g,λr J x B=>by have h1:r∈Gz v.g.s (Gz v.g.k (-1)):=J;rw[KO h1]at B;rw[KO B];exact Gg _⟩
def V.along(v:V):LK->List (Nat×Nat)->Option LK
 |l,[]=>a_ l|l,p::ps=>(v.beh l p.1 p.2).bind λB=>v.along B ps
theorem V.mC(v:V):∀(ps B:List (Nat×Nat)) (l:LK),v.along l (ps++B)=(v.along l ps).bind λJ=>v.along J B
 |[],B,l=>rfl|p::ps,B,l=>by
  rw[Px,V.along,V.along];cases v.beh l p.1 p.2 with
  |none=>rfl|some J=>exact v.mC ps B J
def V.Pl(v:V)(ps:List (Nat×Nat)):Prop:=∀p∈ps,p.1<v.fl.length/\p.2<v.g.s
theorem V.Good.xx{v:V}(U:v.Good):∀(ps:List (Nat×Nat)) {l B:LK},Lab v.g l->v.Pl ps->v.along l ps=a_ B->Lab v.g B
 |[],l,B,L,_,h=>by cases h;exact L|p::ps,l,B,L,J,h=>by
  rw[V.along]at h;cases e:v.beh l p.1 p.2 with
  |none=>simp_all|some m=>rw[e]at h;exact U.xx ps (U.uM L (J p ad).1 (J p ad).2 e) (λq Y=>J q (by simp[Y])) h
abbrev Pap:=List (bm×bT)
variable{P Q:Pap}
noncomputable def look(P:Pap)(b:bm):bT:=((P.find? λp=>A_ (p.1=b)).map (·.2)).getD []
def nC(ls:bT):A':=.lst (ls.map Lake.bO)
def lH(P:Pap):List (bm×A'):=P.map λp=>(p.1,nC p.2)
theorem Ap(b:bm):∀P:Pap,(rV (lH P) b).getD (.lst [])=nC (look P b)
 |[]=>rfl|p::P=>by
  have B:=Ap b P;unfold rV look lH at *;rw[r_,H9,H9];by_cases c:p.1=b
  .simp[c]
  .simp only[c,Oi];exact B
theorem has_dicP(b:bm)(P:Pap):(rV (lH P) b).isSome=A_ (b∈P.map (·.1)):=by grind[rV,lH,r_,H9,decide_false]
theorem put_dicP(b:bm)(P:Pap)(ls:bT)(h:b∉P.map (·.1)):l5 (lH P) b (nC ls)=lH (P++[(b,ls)]):=by unfold l5;rw[has_dicP,x_ ac];simp[lH]
def Ad(P Q:Pap)(b:bm):look (P++Q) b=if b∈P.map (·.1)then look P b else look Q b:=by
 unfold look;rw[List.find?_append]
 induction P with
 |nil=>simp|cons p P B=>
  rw[H9];by_cases c:p.1=b
  .simp[c]
  .have:¬b=p.1:=λz=>c z.symm;simp only[c,Oi,r_,p_,this,false_or];exact B
def gK(h:b∉P.map (·.1)):look P b=[]:=by
 unfold look;rw[List.find?_eq_none.mpr]
 .rfl
 .intro x B;simp only[FO];exact λz=>h (FP.mpr ⟨x,B,z⟩)
def V.add(v:V)(l:LK)(q:Nat)(ks:bT)(s:Nat):bT:=match v.beh l q s with
 |none=>ks|some B=>Lake.putL ks B
def V.FD(v:V)(q:Nat)(ks:bT)(l:LK):bT:=(FN v.g.s).foldl (v.add l q) ks
def V.xy(v:V)(P:Pap)(ks:bT)(x:bm×Nat):bT:=(look P x.1).foldl (v.FD x.2) ks
noncomputable def smL(b:bm):List (bm×Nat):=(FN b.length).map λi=>(b.eraseIdx i,(b.getD i 0).toNat)
def V.jY(v:V)(P:Pap)(b:bm):bT:=(smL b).foldl (v.xy P) []
def zX{k x:LK}:x∈Lake.putL ks k↔x∈ks\/x=k:=by
 unfold Lake.putL;split
 .rename_i h;constructor
  .exact .inl
  .rintro(z|z)
   .exact z
   .rw[z];simpa using h
 .simp
theorem V.FC(v:V){l x:LK}{q:Nat}:∀(J:bo) (ks:bT),x∈J.foldl (v.add l q) ks↔x∈ks\/∃s∈J,v.beh l q s=a_ x
 |[],ks=>by simp|s::J,ks=>by
  rw[FU,v.FC J];unfold V.add;cases e:v.beh l q s with
  |none=>
   constructor
   .rintro(h|⟨s',h1,B⟩)
    .exact .inl h
    .exact .inr ⟨s',by simp[h1],B⟩
   .rintro(h|⟨s',h1,B⟩)
    .exact .inl h
    .rcases p_.mp h1 with z|z
     .rw[z,e]at B;cases B
     .exact .inr ⟨s',z,B⟩
  |some L=>
   simp only[zX];constructor
   .rintro((h|h)|⟨s',h1,B⟩)
    .exact .inl h
    .exact .inr ⟨s,ad,by rw[e,h]⟩
    .exact .inr ⟨s',by simp[h1],B⟩
   .rintro(h|⟨s',h1,B⟩)
    .exact .inl (.inl h)
    .rcases p_.mp h1 with z|z
     .rw[z,e]at B;cases B;exact .inl (.inr rfl)
     .exact .inr ⟨s',z,B⟩
theorem V.AY(v:V){x:LK}{q:Nat}:∀(ls ks:bT),x∈ls.foldl (v.FD q) ks↔x∈ks\/∃l∈ls,∃s,s<v.g.s/\v.beh l q s=a_ x
 |[],ks=>by simp|l::ls,ks=>by
  rw[FU,v.AY ls];unfold V.FD;rw[v.FC];constructor
  .rintro((h|⟨s,h1,B⟩)|⟨J,h1,B⟩)
   .exact .inl h
   .exact .inr ⟨l,ad,s,Gs.mp h1,B⟩
   .exact .inr ⟨J,by simp[h1],B⟩
  .rintro(h|⟨J,h1,s,B,L⟩)
   .exact .inl (.inl h)
   .rcases p_.mp h1 with z|z
    .exact .inl (.inr ⟨s,Gs.mpr B,by rw[<- z];exact L⟩)
    .exact .inr ⟨J,z,s,B,L⟩
theorem V.AX(v:V){P:Pap}{x:LK}:∀(xs:List (bm×Nat)) (ks:bT),x∈xs.foldl (v.xy P) ks↔x∈ks\/∃p∈xs,∃l∈look P p.1,∃s,s<v.g.s/\v.beh l p.2 s=a_ x
 |[],ks=>by simp|p::xs,ks=>by
  rw[FU,v.AX xs];unfold V.xy;rw[v.AY];constructor
  .rintro((h|h)|⟨p',h1,B⟩)
   .exact .inl h
   .exact .inr ⟨p,ad,h⟩
   .exact .inr ⟨p',by simp[h1],B⟩
  .rintro(h|⟨p',h1,B⟩)
   .exact .inl (.inl h)
   .rcases p_.mp h1 with z|z
    .exact .inl (.inr (by rw[<- z];exact B))
    .exact .inr ⟨p',z,B⟩
def V.uL(v:V){x:LK}:x∈v.jY P b↔∃i,i<b.length/\∃l∈look P (b.eraseIdx i),∃s,s<v.g.s/\v.beh l (b.getD i 0).toNat s=a_ x:=by
 unfold V.jY;rw[v.AX];constructor
 .rintro(h|⟨p,h1,B⟩)
  .cases h
  .obtain⟨i,hi,rfl⟩:=FP.mp h1;exact⟨i,Gs.mp hi,B⟩
 .rintro⟨i,hi,h⟩;exact .inr ⟨_,FP.mpr ⟨i,Gs.mpr hi,rfl⟩,h⟩
def zY(ks:bT)(k:LK):(Lake.putL ks k).length<=ks.length+1:=by unfold Lake.putL;split<;>simp
theorem V.uU(v:V)(l:LK)(q:Nat):∀(B:bo) (ks:bT),(B.foldl (v.add l q) ks).length<=ks.length+B.length
 |[],ks=>by simp|s::B,ks=>by
  rw[FU];have h1:=v.uU l q B (v.add l q ks s);have J:(v.add l q ks s).length<=ks.length+1:=by
   unfold V.add;split
   .lia
   .exact zY _ _
  simp only[E_];lia
theorem V.oK(v:V)(q:Nat):∀(ls ks:bT),(ls.foldl (v.FD q) ks).length<=ks.length+v.g.s*ls.length
 |[],ks=>by simp|l::ls,ks=>by
  rw[FU];have h1:=v.oK q ls (v.FD q ks l);have B:(v.FD q ks l).length<=ks.length+v.g.s:=by have:=v.uU l q (FN v.g.s) ks;rw[HY]at this;exact this
  rw[E_,MM];lia
theorem V.uV(v:V)(P:Pap)(N:Nat):∀(xs:List (bm×Nat)) (ks:bT),(∀p∈xs,(look P p.1).length<=N)->(xs.foldl (v.xy P) ks).length<=ks.length+v.g.s*N*xs.length
 |[],ks,_=>by simp|p::xs,ks,h=>by
  rw[FU];have h1:=v.uV P N xs (v.xy P ks p) λq B=>h q (by simp[B]);have U:(v.xy P ks p).length<=ks.length+v.g.s*N:=by have L:=v.oK p.2 (look P p.1) ks;have J:=Kq v.g.s (h p ad);unfold V.xy;lia
  rw[E_,MM];lia
theorem Gp.s2(g:Gp):1<=g.s/\g.s<=2:=by unfold Gp.s;split<;>lia
def iE(B:bT)(l:LK):bT:=if B.any (λx=>nw x l)=d_ then B else B++[l]
def qq(ks:bT):bT:=(cZ ltL ks).foldl iE []
theorem ug:∀(ls B:bT) (x:LK),x∈B->x∈ls.foldl iE B
 |[],B,x,h=>h|l::ls,B,x,h=>ug ls _ x (by
   unfold iE;split
   .exact h
   .simp[h])
theorem Ah:∀(ls B:bT) (x:LK),x∈ls.foldl iE B->x∈B\/x∈ls
 |[],B,x,h=>.inl h|l::ls,B,x,h=>by
  rcases Ah ls _ x h with z|z
  .unfold iE at z;split at z
   .exact .inl z
   .rcases FL.mp z with y|y
    .exact .inl y
    .exact .inr (by simp at y;simp[y])
  simp_all
theorem Aj:∀(ls B:bT) (x:LK),x∈ls->∃y∈ls.foldl iE B,nw y x=d_
 |l::ls,B,x,h=>by
  rcases p_.mp h with z|z
  .subst z;rw[FU];by_cases c:B.any (λy=>nw y x)=d_
   .obtain⟨y,J,e⟩:=MF.mp c;exact⟨y,ug ls _ y (by unfold iE;rw[u_ c];exact J),e⟩
   .exact⟨x,ug ls _ x (by unfold iE;rw[x_ c];simp),DF x⟩
  .exact Aj ls _ x z
theorem Ai:∀(ls B:bT),(ls.foldl iE B).length<=B.length+ls.length
 |[],B=>by simp|l::ls,B=>by
  rw[FU];have h1:=Ai ls (iE B l);have J:(iE B l).length<=B.length+1:=by unfold iE;split<;>simp
  rw[E_];lia
def uK{x:LK}(h:x∈qq ks):x∈ks:=by
 rcases Ah _ _ _ h with z|z
 .cases z
 .exact(cz ks).mem_iff.mp z
def AO{x:LK}(h:x∈ks):∃y∈qq ks,nw y x=d_:=Aj _ _ _ ((cz ks).mem_iff.mpr h)
theorem best_len(ks:bT):(qq ks).length<=ks.length:=by have h:=Ai (cZ ltL ks) [];rw[(cz ks).length_eq]at h;simp_all[qq]
section
variable(CR CP:i_)
theorem uj(n:Nat)(B:Option A')(l:LK):∀(ls:bT) (J:Option A'),(ls.any (λx=>nw x l)=d_/\bK (.nm 2) (bw) (ls.map Lake.bO) [B,a_ (Lake.bO l),J]=.ok (.rt (.bl d_)))\/(ls.any (λx=>nw x l)=c_/\∃Y,bK (.nm 2) (bw) (ls.map Lake.bO) [B,a_ (Lake.bO l),J]=.ok (.nx [B,a_ (Lake.bO l),Y]))
 |[],J=>.inr ⟨rfl,J,rfl⟩|x::ls,J=>by
  have e:cf [Lake.bO x,Lake.bO l]=.ok (.bl (nw x l)):=nw_ok n x l;rw[r_,bK,iI,ai];simp only[Gb,FV,List.any_cons];by_cases c:nw x l=d_
  .left;rw[c]at e;refine⟨by simp[c],?_⟩
   have L:bw [B,a_ (Lake.bO l),a_ (Lake.bO x)]=.ok (.rt (.bl d_)):=by simp[bw,g8,e]
   rw[L];rfl
  .have U:nw x l=c_:=by simpa using c
   rw[U]at e;have L:bw [B,a_ (Lake.bO l),a_ (Lake.bO x)]=.ok (.nx [B,a_ (Lake.bO l),a_ (Lake.bO x)]):=by simp[bw,g8,e]
   rw[L,ai,U,Bool.false_or];exact uj n B l ls (a_ (Lake.bO x))
def has_ok(n:Nat)(ls:bT)(l:LK):b6 [nC ls,Lake.bO l]=.ok (.bl (ls.any λx=>nw x l)):=by
 unfold nC;rcases uj n (a_ (.lst (ls.map Lake.bO))) l ls f_ with⟨h1,B⟩|⟨h1,J,B⟩
 .simp[b6,dz,h1,B]
 .simp[b6,dz,h1,B]
theorem xw(n:Nat)(J:Option A'):∀(ls B:bT) (L:Option A'),B.length+ls.length<16777216->∃U,bK (.nm 2) (c8) (ls.map Lake.bO) [J,a_ (nC B),L]=.ok (.nx [J,a_ (nC (ls.foldl iE B)),U])
 |[],B,L,_=>⟨L,rfl⟩|l::ls,B,L,h=>by
  rw[E_]at h;have e:=has_ok n B l;have b:B.length<16777216:=ac
  have d:(iE B l).length<=B.length+1:=by unfold iE;split<;>simp
  obtain⟨U,Y⟩:=xw n J ls (iE B l) (a_ (Lake.bO l)) ac;refine⟨U,?_⟩
  rw[r_,bK,iI,ai,FU,<- Y];simp only[Gb,FV];by_cases c:B.any (λx=>nw x l)=d_
  .rw[c]at e;have a:c8 [J,a_ (nC B),a_ (Lake.bO l)]=.ok (.nx [J,a_ (nC (iE B l)),a_ (Lake.bO l)]):=by
    unfold iE;rw[u_ c];unfold nC at *;simp[c8,gS,e]
   rw[a,ai]
  simp_all[iE,x_,nC,c8,gS,ai]
def best_ok(n:Nat)(ks:bT)(h:ks.length<16777216):gp [.dil ks]=.ok (nC (qq ks)):=by obtain⟨J,e⟩:=xw n (a_ (.dil ks)) (cZ ltL ks) [] f_ (by rw[(cz ks).length_eq];simpa using h);have B:nC []=.lst []:=rfl;rw[B]at e;have es:xO [.dil ks]=.ok (.lst ((cZ ltL ks).map Lake.bO)):=rfl;simp[gp,mi,es,e,qq]
end
theorem d7{α:Type}{p:Pat}{fe:ah->M A'}{ρ0:ah}(g f:α->A'):∀(L:List α),(∀x∈L,∃ρ,dI p (g x) ρ0=.ok ρ/\fe ρ=.ok (f x))->ay p eW fe ρ0 (L.map g)=.ok (L.map f)
 |[],_=>rfl|d::ds,h=>by obtain⟨ρ,e1,e2⟩:=h d ad;rw[r_,ay,e1];simp only[ai,eW,e2,d7 g f ds λx B=>h x (by simp[B])];simp
theorem mT:∀(b:bm) (j:Nat),eY j (b.map .int)=(FN b.length).map λi=>A'.tup [.int ((j+i:Nat):Int),.int (b.getD i 0)]
 |[],_=>rfl|x::b,j=>by
  rw[r_,eY,mT b (j+1),E_,Ig,r_,D_]
  congr 1
  refine Hk λi _=>?_;simp only[MQ];have:j+1+i=j+(i+1):=ac
  rw[this];rfl
theorem Bj(CR CP:i_)(n:Nat)(b:bm)(d:b.length<=100):cp [ba b]=.ok (.lst ((FN b.length).map λi=>A'.tup [ba (b.eraseIdx i),.int (b.getD i 0)])):=by
 have U:ay (.tp [0,1]) eW (fL bG (aa (f2 cL (fSl dT (ae 2) nP (l7 (ae 0))) (fSl dT (ae 2) (l7 (f2 cL (ae 0) (fC (.int 1)))) nP)) (aa (ae 1) au))) [f_,f_,a_ (ba b)] (eY 0 (b.map .int))=.ok ((FN b.length).map λi=>A'.tup [ba (b.eraseIdx i),.int (b.getD i 0)]):=by
  rw[mT];refine d7 _ _ _ λi hi=>?_;have hi:=Gs.mp hi;refine⟨[a_ (.int ((0+i:Nat):Int)),a_ (.int (b.getD i 0)),a_ (ba b)],ad,?_⟩
  have c:cX (b.map A'.int).length 0 f_=0:=rfl;have a:cX (b.map A'.int).length (b.map A'.int).length (a_ ((0+i:Nat):Int))=i:=by simp only[cX];rw[x_ ac,n_];lia
  have Y:cX (b.map A'.int).length 0 (a_ (((0+i:Nat):Int)+1))=i+1:=by simp only[cX];rw[x_ ac,n_];lia
  have s1:dT (ba b) f_ (a_ ((0+i:Nat):Int))=.ok (.tup ((b.take i).map .int)):=by unfold ba dT;simp only[];rw[c,a,x_ (by simp;lia)];rw[cut_take _ ac];simp
  have s2:dT (ba b) (a_ (((0+i:Nat):Int)+1)) f_=.ok (.tup ((b.drop (i+1)).map .int)):=by
   unfold ba dT;simp only[];rw[Y,x_ ad];rw[uG _ ac];have:(((0+i:Nat):Int)+1).toNat=i+1:=ac
   rw[this];simp
  have L:((b.take i).map A'.int).length+((b.drop (i+1)).map A'.int).length<=16777216:=by simp;lia
  simp only[e_L,e_cons,e_2,e_slF,e_varS,e_var0,e_pNone,e_pSome,e_c,ai,e_asI,s1,cL,s2,JW,L,Kv,e_nil];simp[bG,ba,MB,JW]
 have B:(eY 0 (b.map A'.int)).length<=16777216:=by rw[mT];simp;lia
 have J:kM (ba b)=.ok (b.map .int):=rfl;simp[cp,jg,J,B,U]
theorem kZ(lo:Int)(m:Nat):aL lo (m+1)=.int lo::aL (lo+1) m:=by
 unfold aL;rw[Ig,r_,D_]
 congr 1
 .simp
 .refine Hk λk _=>?_;lia
def wy(b:bm):nq (ba b)=.ok b:=by simp[ba,nq,dv]
def Labs(v:V)(P:Pap):Prop:=∀b,∀l∈look P b,Lab v.g l
def notN_lab(l:LK):vZ (Lake.bO l) .non=.ok (.bl d_):=rfl
def notN_non:vZ .non .non=.ok (.bl c_):=rfl
section
variable(CR CP:i_)
@[reducible] def evB(v:V)(P:Pap)(a:Option A')(ks:bT)(Y U L J B:Option A'):ah:=[a_ (aD CR CP v.g.rows v.g.o),a_ (.lst (v.fl.map flD)),a_ (.lst (v.cs.map stD)),a_ (.dic (lH P)),a,a_ (.dil ks),Y,U,L,J,B]
theorem r9(n:Nat)(U:CR≠CP){v:V}(f:v.Good)(P:Pap)(Y L:Option A'){l:LK}(i:Lab v.g l){q:Nat}(g:q<v.fl.length):∀(r j:Nat) (ks:bT) (a B:Option A'),j+r=v.g.s->ks.length+r<16777216->∃b J,
  bK (.nm 9) (c7 CR CP n) (aL (j:Int) r) (evB CR CP v P Y ks L (a_ (.int q)) (a_ (Lake.bO l)) a B)=.ok (.nx (evB CR CP v P Y ((KD j r).foldl (v.add l q) ks) L (a_ (.int q)) (a_ (Lake.bO l)) b J))
 |0,j,ks,a,B,_,_=>⟨a,B,rfl⟩|r+1,j,ks,a,B,h,t=>by
  have e:=behV CR CP n U f i g (s:=j) ac;have o:(v.add l q ks j).length<=ks.length+1:=v.uU l q [j] ks;obtain⟨b,J,p⟩:=r9 n U f P Y L i g r (j+1) (v.add l q ks j) (a_ (.int j)) (a_ (labO (v.beh l q j))) ac ac;refine⟨b,J,?_⟩
  have d:ks.length<16777216:=ac
  have u:c7 CR CP n (evB CR CP v P Y ks L (a_ (.int q)) (a_ (Lake.bO l)) (a_ (.int j)) B)=.ok (.nx (evB CR CP v P Y (v.add l q ks j) L (a_ (.int q)) (a_ (Lake.bO l)) (a_ (.int j)) (a_ (labO (v.beh l q j))))):=by
   unfold V.add;cases k:v.beh l q j with
   |none=>rw[k]at e;simp only[labO]at e ⊢;simp[c7,f9,e,notN_non]|some m=>rw[k]at e;simp only[labO]at e ⊢;have c:=m7 m;simp[c7,f9,e,notN_lab,oV,wX,c,isTr,d,-e_notN]
  rw[kZ,bK,iI,ai,MD,FU];simp_all
theorem rN(n:Nat)(Y:CR≠CP){v:V}(k:v.Good)(P:Pap)(a U:Option A'){q:Nat}(o:q<v.fl.length):∀(ls:bT) (ks:bT) (c J B:Option A'),(∀l∈ls,Lab v.g l)->ks.length+v.g.s*ls.length<16777216->∃f d L,
  bK (.nm 8) (di CR CP n) (ls.map Lake.bO) (evB CR CP v P a ks U (a_ (.int q)) c J B)=.ok (.nx (evB CR CP v P a (ls.foldl (v.FD q) ks) U (a_ (.int q)) f d L))
 |[],ks,c,J,B,_,_=>⟨c,J,B,rfl⟩|l::ls,ks,c,J,B,h,t=>by
  rw[E_,MM]at t;obtain⟨s1,s2⟩:=v.g.s2;have s:(v.FD q ks l).length<=ks.length+v.g.s:=by have:=v.uU l q (FN v.g.s) ks;rw[HY]at this;exact this
  obtain⟨j,b,e⟩:=r9 CR CP n Y k P a U (h l ad) o v.g.s 0 ks J B ac ac;obtain⟨f,d,L,x⟩:=rN n Y k P a U o ls (v.FD q ks l) (a_ (Lake.bO l)) j b (λm r=>h m (by simp[r])) ac;refine⟨f,d,L,?_⟩
  have i:=yD CR CP n Y (g:=v.g) (ae 0) [a_ (aD CR CP v.g.rows v.g.o),a_ (.lst (v.fl.map flD)),a_ (.lst (v.cs.map stD)),a_ (.dic (lH P)),a,f_,U,a_ (.int q),a_ (Lake.bO l),J,B] ad;have p:(-4611686018427387904:Int)<=(v.g.s:Int):=ac
  have k2:(v.g.s:Int)<4611686018427387904:=ac
  have w:((0:Nat):Int)=0:=rfl;have u:KD 0 v.g.s=FN v.g.s:=by rw[LH]
  rw[w,u]at e;have y:di CR CP n (evB CR CP v P a ks U (a_ (.int q)) (a_ (Lake.bO l)) J B)=.ok (.nx (evB CR CP v P a (v.FD q ks l) U (a_ (.int q)) (a_ (Lake.bO l)) j b)):=by unfold V.FD;simp only[evB]at e ⊢;simp[di,i,p,k2,e]
  simp_all[r_,bK,iI,ai,FU,evB,Gb,FV]
def smD(x:bm×Nat):A':=.tup [ba x.1,.int x.2]
theorem rj(n:Nat)(f:CR≠CP){v:V}(o:v.Good)(P:Pap)(p:Labs v P)(N:Nat)(U:Option A'):∀(xs:List (bm×Nat)) (ks:bT) (c b L J B:Option A'),(∀x∈xs,x.2<v.fl.length/\(look P x.1).length<=N)->ks.length+v.g.s*N*xs.length<16777216->∃k j i g Y,
  bK (.tp [6,7]) (dh CR CP n) (xs.map smD) (evB CR CP v P U ks c b L J B)=.ok (.nx (evB CR CP v P U (xs.foldl (v.xy P) ks) k j i g Y))
 |[],ks,c,b,L,J,B,_,_=>⟨c,b,L,J,B,rfl⟩|x::xs,ks,c,b,L,J,B,h,t=>by
  rw[E_,MM]at t;obtain⟨h1,z⟩:=h x ad;have A:=Kq v.g.s z;have s:(v.xy P ks x).length<=ks.length+v.g.s*N:=by have C:=v.oK x.2 (look P x.1) ks;unfold V.xy;lia
  obtain⟨m,l,d,e⟩:=rN CR CP n f o P U (a_ (ba x.1)) h1 (look P x.1) ks L J B (p x.1) ac;obtain⟨k,j,i,g,Y,q⟩:=rj n f o P p N U xs (v.xy P ks x) (a_ (ba x.1)) (a_ (.int x.2)) m l d (λy r=>h y (by simp[r])) ac;refine⟨k,j,i,g,Y,?_⟩
  have u:=Ap x.1 P;have w:dh CR CP n (evB CR CP v P U ks (a_ (ba x.1)) (a_ (.int x.2)) L J B)=.ok (.nx (evB CR CP v P U (v.xy P ks x) (a_ (ba x.1)) (a_ (.int x.2)) m l d)):=by unfold V.xy;simp only[evB]at e ⊢;simp[dh,isDic,wy,u,nC,e]
  rw[r_,bK,FU];have a:dI (.tp [6,7]) (smD x) (evB CR CP v P U ks c b L J B)=.ok (evB CR CP v P U ks (a_ (ba x.1)) (a_ (.int x.2)) L J B):=rfl;rw[a,ai,w,ai];exact q
theorem smL_smD(h:∀x∈b,0<=x):((FN b.length).map λi=>A'.tup [ba (b.eraseIdx i),.int (b.getD i 0)])=(smL b).map smD:=by
 unfold smL;rw[D_];refine Hk λi hi=>?_;have hi:=Gs.mp hi;have h0:0<=b.getD i 0:=by rw[m_,y_ hi];exact h _ (GA hi)
 show _=A'.tup [ba (b.eraseIdx i),.int ((b.getD i 0).toNat:Int)];grind
theorem Fq(n:Nat)(L:CR≠CP)(c:v.Good)(P:Pap)(g:Labs v P)(N:Nat)(b:bm)(U:∀x∈b,0<=x/\x<v.fl.length)(f:b.length<=40)(h:∀i,i<b.length->(look P (b.eraseIdx i)).length<=N)(d:v.g.s*N*b.length<16777216):
  cM CR CP n [aD CR CP v.g.rows v.g.o,.lst (v.fl.map flD),.lst (v.cs.map stD),.dic (lH P),ba b]=.ok (.dil (v.jY P b)):=by
 have Y:=Bj CR CP n b ac;rw[smL_smD (λx B=>(U x B).1)]at Y;have J:(smL b).length=b.length:=by simp[smL]
 obtain⟨m,l,k,j,a,e⟩:=rj CR CP n L c P g N (a_ (ba b)) (smL b) [] f_ f_ f_ f_ f_ (λx B=>by
  obtain⟨i,hi,rfl⟩:=FP.mp B;have hi:=Gs.mp hi;refine⟨?_,h i hi⟩
  have:b.getD i 0∈b:=by rw[m_,y_ hi];exact GA hi
  have:=U _ this;simp only;lia) (by rw[J];simpa using d)
 simp only[evB]at e;simp[cM,jI,Y,e,V.jY]
end
def BB(r:bm):gH (r.map .int)=d_:=by
 induction r with
 |nil=>rfl|cons x r B=>simp[gH,dW,B]
theorem Bz(L:List bm):gH (L.map ba)=d_:=by
 induction L with
 |nil=>rfl|cons x r B=>simp_all[gH,dW,ba,BB]
def BA(ls:bT):gH (ls.map Lake.bO)=d_:=by
 induction ls with
 |nil=>rfl|cons x r B=>simp[gH,dW,Lake.bO,Bz,B]
def Dn(ls:bT):dW (nC ls)=d_:=by simp[nC,dW,BA]
def ne_tup(b:bm):eqM (ba b) (.tup [])=.ok (.bl b.isEmpty)/\neM (ba b) (.tup [])=.ok (.bl !b.isEmpty):=by simp[ba,H8,tV,eqM,lh,eqD,Aw,neM]
def V.ent(v:V)(P:Pap)(b:bm):bT:=if b=[]then [v.l0]else qq (v.jY P b)
def V.pap(v:V)(P:Pap):List bm->Pap
 |[]=>P|b::B=>v.pap (P++[(b,v.ent P b)]) B
theorem jQ(h:i<b.length):(b.eraseIdx i).length+1=b.length:=be
theorem getD_in(h:i<b.length):b.getD i 0∈b:=by simp_all
section
variable(CR CP:i_)
theorem rC(n:Nat)(L:CR≠CP){v:V}(J B:Option A'):∀(r:Nat) (j:Int) (c:Int) (Y:Option A'),∃a,
  bK (.nm 4) (fw CR CP n) (aL j r) [a_ (aD CR CP v.g.rows v.g.o),J,B,a_ (.int c),Y]=.ok (.nx [a_ (aD CR CP v.g.rows v.g.o),J,B,a_ (.int (c*v.g.s^r)),a])
 |0,j,c,Y=>⟨Y,by simp[aL,bK]⟩|r+1,j,c,Y=>by
  obtain⟨s1,s2⟩:=v.g.s2;obtain⟨a,e⟩:=rC n L J B r (j+1) (c*v.g.s) (a_ (.int j));refine⟨a,?_⟩
  have b:=yD CR CP n L (g:=v.g) (ae 0) [a_ (aD CR CP v.g.rows v.g.o),J,B,a_ (.int c),a_ (.int j)] ad;have U:tY (.int c) (.int v.g.s)=.ok (.int (c*v.g.s)):=EB (by simp only[vq,t_,FO];lia);have d:fw CR CP n [a_ (aD CR CP v.g.rows v.g.o),J,B,a_ (.int c),a_ (.int j)]=.ok (.nx [a_ (aD CR CP v.g.rows v.g.o),J,B,a_ (.int (c*v.g.s)),a_ (.int j)]):=by simp[fw,b,U,-EB,-EC]
  have ep:c*(v.g.s:Int)^(r+1)=c*v.g.s*v.g.s^r:=by rw[Int.pow_succ,Int.mul_comm ((v.g.s:Int)^r),Int.mul_assoc]
  rw[kZ,bK,iI,ai,ep];simp only[Gb,FV];rw[d,ai];exact e
theorem plans_ok(n:Nat)(B:CR≠CP){s:Nat}(Y:m<=64)(L:aR [.int m,.int s]=.ok (.int c)):i3 CR CP n [aD CR CP v.g.rows v.g.o,.int m,.int s]=.ok (.int (c*v.g.s^m)):=by
 obtain⟨U,e⟩:=rC CR CP n B (v:=v) (a_ (.int m)) (a_ (.int s)) m 0 c f_;have J:(-4611686018427387904:Int)<=(m:Int):=ac
 have k2:(m:Int)<4611686018427387904:=ac
 simp[i3,nr,L,J,k2,e]
theorem vH(n:Nat)(J:CR≠CP){s:Nat}(U:m<=64)(Y:v.fl.length=m)(L:aR [.int m,.int s]=.ok (.int c))(a:c*v.g.s^m<=5000):bW CR CP n [aD CR CP v.g.rows v.g.o,.lst (v.fl.map flD),.int s]=.ok .non:=by
 have ep:=plans_ok CR CP n J (v:=v) U L;have B:¬5000<c*(v.g.s:Int)^m:=ac
 simp[bW,iG,gQ,Y,ep,B]
end
section
variable(CR CP:i_)
def iK(l:bm):Prop:=l.Pairwise (·<·)
noncomputable def iv(a:Int):Nat->bm
 |0=>[]|m+1=>a::iv (a+1) m
theorem i5:∀(m:Nat) (a x:Int),x∈iv a m↔a<=x/\x<a+m
 |0,a,x=>by simp[iv]|m+1,a,x=>by rw[iv,p_,i5 m (a+1) x];lia
theorem fO:∀(m:Nat) (a:Int),(iv a m).length=m
 |0,_=>rfl|m+1,a=>by rw[iv,E_,fO m (a+1)]
theorem fN:∀(m:Nat) (a:Int),iK (iv a m)
 |0,_=>HL|m+1,a=>by rw[iv];refine QO (λx B=>?_) (fN m (a+1));have:=(i5 m (a+1) x).mp B;lia
noncomputable def chs:Nat->bm->List bm
 |0,_=>[[]]|_+1,[]=>[]|k+1,a::B=>(chs k B).map (a::·)++chs (k+1) B
def my(B:bm):chs 0 B=[[]]:=by cases B<;>rfl
theorem jU:∀(B:bm) (k:Nat) (t:bm),t∈chs k B↔t.length=k/\t.Sublist B
 |B,0,t=>by simp_all[my,Gj]|[],k+1,t=>by simp only[chs,Gv,false_iff];rintro⟨h,J⟩;have:=List.sublist_nil.mp J;rw[this]at h;simp at h
 |a::B,k+1,t=>by
  rw[chs,FL,jU B (k+1) t];simp only[FP];constructor
  .rintro(⟨u,L,rfl⟩|⟨h1,J⟩)
   .obtain⟨h1,J⟩:=(jU B k u).mp L;simp_all
   .exact⟨h1,J.cons a⟩
  .rintro⟨h1,J⟩;cases J with
   |cons _ h=>exact .inr ⟨h1,h⟩|cons_cons _ h=>rename_i u;exact .inl ⟨u,(jU B k u).mpr ⟨by simpa using h1,h⟩,rfl⟩
theorem qk:∀(B:bm) (k:Nat),(chs k B).length<=2^B.length
 |B,0=>by rw[my];exact Nat.one_le_two_pow|[],k+1=>by simp[chs]|a::B,k+1=>by rw[chs,FK,n_,E_,Mz];have:=qk B k;have:=qk B (k+1);lia
theorem sub_iv:∀(m:Nat) (a:Int) (t:bm),t.Sublist (iv a m)↔iK t/\∀x∈t,a<=x/\x<a+m
 |m,a,t=>by
  constructor
  .intro h;exact⟨Kz h (fN m a),λx B=>(i5 m a x).mp (h.subset B)⟩
  .intro h
   induction m generalizing a t with
   |zero=>
    cases t with
    |nil=>simp|cons x t=>have:=h.2 x ad;lia
   |succ m L=>
    cases t with
    |nil=>simp|cons x t=>obtain⟨h1,J⟩:=h;have B:=J x ad;grind[iv,iK,GR]
theorem tE:∀(m:Nat) (a:Int) (b:bm),iK b->(∀x∈b,a<=x)->(∀i,a<=i->i<a+m->i∈b)->∃t,b=iv a m++t/\iK t/\∀x∈t,a+m<=x
 |0,a,b,h1,U,_=>⟨b,rfl,h1,λx Y=>by simp_all⟩|m+1,a,b,h1,U,g=>by
  have f:=g a ac ac;cases b with
  |nil=>simp_all|cons x b=>
   unfold iK at h1;rw[GR]at h1;have Y:=U x ad;have e:x=a:=by
    rcases p_.mp f with z|z
    .exact z.symm
    .have:=h1.1 a z;lia
   subst e;obtain⟨t,rfl,L,J⟩:=tE m (x+1) b h1.2 (λy B=>by have:=h1.1 y B;lia) (λi d c=>by grind)
   exact⟨t,rfl,L,λy B=>by have:=J y B;lia⟩
structure Beg(many shift size:Nat)(b:bm):Prop where
 rise:iK b
 len:b.length=size
 sure:∀i:Int,0<=i->i<(size:Int)-shift->i∈b
 bnd:∀x∈b,0<=x/\x<many/\x<(size:Int)+shift
def qV(L B J:Nat):List bm:=(chs (J-(J-B)) (iv ((J-B:Nat):Int) (NG L (J+B)-(J-B)))).map (iv 0 (J-B)++·)
theorem uN{L B J:Nat}(k:J<=L)(b:bm):b∈qV L B J↔Beg L B J b:=by
 unfold qV;rw[FP];constructor
 .rintro⟨t,j,rfl⟩;obtain⟨h1,g⟩:=(jU _ _ _).mp j;obtain⟨f,a⟩:=(sub_iv _ _ _).mp g;refine⟨?_,?_,λi Y e=>?_,λx U=>?_⟩
  .unfold iK;rw[Gm];refine⟨fN _ _,f,λx U y h=>?_⟩
   have:=(i5 _ _ _).mp U;have:=a y h;lia
  .simp_all[FK,fO]
  .exact He _ ((i5 _ _ _).mpr ⟨ac,ac⟩)
  .rcases FL.mp U with z|z
   .have:=(i5 _ _ _).mp z;lia
   .have:=a x z;lia
 .rintro⟨h1,g,f,a⟩;obtain⟨t,rfl,d,c⟩:=tE (J-B) 0 b h1 (λx U=>(a x U).1) (λi Y e=>f i Y ac);refine⟨t,(jU _ _ _).mpr ⟨?_,(sub_iv _ _ _).mpr ⟨d,λx U=>?_⟩⟩,rfl⟩
  .rw[FK,fO]at g;lia
  .have:=c x U;have:=a x (FW _ U);lia
theorem hX(h:iK l):l.Nodup:=QN (λh e=>by lia) h
theorem iz:∀(m:Nat) (a:Int),aL a m=(iv a m).map .int
 |0,a=>rfl|m+1,a=>by
  have B:=iz m (a+1);unfold aL at B ⊢;rw[Ig,r_,D_,iv,r_,<- B]
  congr 1
  .simp
  .refine Hk λk _=>?_;simp;lia
theorem AK(n:Nat)(R:List A'->M A')(a Y U:Option A')(J:Int):∀(L B:List bm) (b:Option A'),B.length+L.length<=1000->(∀r∈L,r.length<=100)->∃c,bK (.nm 5) (fE R) (L.map ba) [a,Y,a_ (.lst (B.map ba)),U,a_ (.int J),b]=.ok (.nx [a,Y,a_ (.lst ((B++L.map (J::·)).map ba)),U,a_ (.int J),c])
 |[],B,b,_,_=>⟨b,by simp[bK]⟩|r::L,B,b,h,g=>by
  simp only[E_]at h;obtain⟨c,e⟩:=AK n R a Y U J L (B++[J::r]) (a_ (ba r)) (by simp;lia) λx i=>g x (by simp[i]);refine⟨c,?_⟩
  have k:B.length<16777216:=ac
  have j:=g r ad;have f:r.length+1<=16777216:=ac
  have d:1+r.length<=16777216:=ac
  have l:fE R [a,Y,a_ (.lst (B.map ba)),U,a_ (.int J),a_ (ba r)]=.ok (.nx [a,Y,a_ (.lst ((B++[J::r]).map ba)),U,a_ (.int J),a_ (ba r)]):=by simp[fE,ba,cL,k,f,d]
  rw[r_,bK];simp only[iI,Gb,FV,ai,l];rw[e];simp
theorem AJ(n:Nat)(R:List A'->M A')(B:bm)(k:Nat)(p:B.length<=8)(f:∀j,R [.lst ((B.drop j).map .int),.int k]=.ok (.lst ((chs k (B.drop j)).map ba))):
  ∀(J:bm) (j:Nat) (L:List bm) (c b U:Option A'),B.drop j=J->L.length+(chs (k+1) J).length<=1000->∃h g d,bK (.tp [3,4]) (fy R) (eY j (J.map .int)) [a_ (.lst (B.map .int)),a_ (.int ((k:Int)+1)),a_ (.lst (L.map ba)),c,b,U]=.ok (.nx [a_ (.lst (B.map .int)),a_ (.int ((k:Int)+1)),a_ (.lst ((L++chs (k+1) J).map ba)),h,g,d])
 |[],j,L,c,b,U,_,_=>⟨c,b,U,by simp[eY,bK,chs]⟩|a::J,j,L,c,b,U,o,q=>by
  have Y:B.drop (j+1)=J:=by rw[<- JN,o];rfl
  rw[chs,FK,n_]at q;obtain⟨d,e1⟩:=AK n R (a_ (.lst (B.map .int))) (a_ (.int ((k:Int)+1))) (a_ (.int (j:Int))) a (chs k J) L U ac (λr e=>by have:=((jU _ _ _).mp e).2.length_le;grind)
  obtain⟨m,l,i,e2⟩:=AJ n R B k p f J (j+1) (L++(chs k J).map (a::·)) (a_ (.int (j:Int))) (a_ (.int a)) d Y (by simp;lia);refine⟨m,l,i,?_⟩
  have e:=f (j+1);rw[Y]at e;have z:((j:Int)+1).toNat=j+1:=ac
  have s:(0:Int)<=(j:Int)+1:=ac
  simp_all[uG,KN,fy,r_,eY,bK,ai,chs]
theorem sG(n:Nat):∀(d k:Nat) (B:bm),k<d->B.length<=8->bq 6 2 (bD d) [.lst (B.map .int),.int k]=.ok (.lst ((chs k B).map ba))
 |0,k,B,h,_=>by lia|d+1,0,B,h,J=>by simp[my,bD,fQ,ip,ba]|d+1,k+1,B,h,J=>by
  have L:=qk B (k+1);have c:2^B.length<=2^8:=GO am J;obtain⟨b,a,Y,e⟩:=AJ n (bq 6 2 (bD d)) B k J (λj=>sG n d k (B.drop j) ac (by rw[Hy];lia)) B 0 [] f_ f_ f_ rfl (by simp;lia);have U:¬((k:Int)+1=0):=ac
  rw[II,IP]at e;simp[bD,fQ,ip,U,e,-e_run];simp only[e_run,E_,Kf,r_,IP,Px,II,Gz];simp[U,e]
theorem begin_ok(n L B J:Nat)(y:L<=41)(s:B<=3)(w:J<=L):cN [.int L,.int B,.int J]=.ok (.lst ((qV L B J).map ba)):=by
 have e1:dR 0 ((J:Int)-B)=((J-B:Nat):Int):=by unfold dR;split<;>lia
 have e2:kx (L:Int) ((J:Int)+B)=((NG L (J+B):Nat):Int):=by unfold kx;split<;>lia
 have q: -4611686018427387904<=((J-B:Nat):Int):=ac
 have k2:((J-B:Nat):Int)<4611686018427387904:=ac
 have p: -4611686018427387904<=((NG L (J+B):Nat):Int):=ac
 have o:((NG L (J+B):Nat):Int)<4611686018427387904:=ac
 have m:(((NG L (J+B):Nat):Int)-((J-B:Nat):Int)).toNat=NG L (J+B)-(J-B):=ac
 have l:(J:Int)-((J-B:Nat):Int)=((J-(J-B):Nat):Int):=ac
 have k:J-B<=16777216:=ac
 have j:NG L (J+B)-(J-B)<=16777216:=ac
 have v:=sG n 6 (J-(J-B)) (iv ((J-B:Nat):Int) (NG L (J+B)-(J-B))) ac (by rw[fO];lia);have i:jF [.lst ((iv ((J-B:Nat):Int) (NG L (J+B)-(J-B))).map .int),.int ((J-(J-B):Nat):Int)]=.ok (.lst ((chs (J-(J-B)) (iv ((J-B:Nat):Int) (NG L (J+B)-(J-B)))).map ba)):=v;have U:=qk (iv ((J-B:Nat):Int) (NG L (J+B)-(J-B))) (J-(J-B));rw[fO]at U;have z:2^(NG L (J+B)-(J-B))<=2^8:=GO am ac;have Y:∀t∈chs (J-(J-B)) (iv ((J-B:Nat):Int) (NG L (J+B)-(J-B))),t.length<=41:=λt g=>by have:=((jU _ _ _).mp g).1;lia
 generalize u:chs (J-(J-B)) (iv ((J-B:Nat):Int) (NG L (J+B)-(J-B)))=C at i U Y;have a:∀C:List bm,(∀t∈C,t.length<=41)->ay (.nm 0) eW (f2 cL (ae 1) (ae 0)) [f_,a_ (ba (iv 0 (J-B)))] (C.map ba)=.ok ((C.map (iv 0 (J-B)++·)).map ba):=by
  intro C
  induction C with
  |nil=>intro _;rfl|cons t C d=>
   intro h;have g:=h t ad;have e:J-B+t.length<=16777216:=ac
   rw[r_,ay];have d:=d λx r=>h x (by simp[r]);simp only[iI,FV,ai,e_yes,Kv,e_2,e_varS,e_var0,d];simp[ba,cL,fO,e]
 have b:=a C Y;have f:C.length<=16777216:=ac
 have eb:qV L B J=C.map (iv 0 (J-B)++·):=by unfold qV;rw[u]
 rw[eb];have c:ba (iv 0 (J-B))=.tup ((iv 0 (J-B)).map .int):=rfl;rw[c]at b;simp[cN,jJ,e1,e2,q,k2,p,o,m,iz,fO,k,j,l,i,f,b,-D_]
theorem AQ(L B J:Nat)(h:B<=3)(Y:J<=L):(qV L B J).length<=256:=by unfold qV;rw[n_];have U:=qk (iv ((J-B:Nat):Int) (NG L (J+B)-(J-B))) (J-(J-B));rw[fO]at U;have a:2^(NG L (J+B)-(J-B))<=2^8:=GO am ac;lia
def Ft(J B:Nat):qV J B 0=[[]]:=by simp[qV,my,iv]
theorem qj:∀(k:Nat) (B:bm),B.Nodup->(chs k B).Nodup
 |0,B,_=>by simp[my]|k+1,[],_=>by simp[chs]|k+1,a::B,h=>by
  rw[IH]at h;rw[chs,HG];refine⟨?_,qj (k+1) B h.2,λx U y L e=>?_⟩
  .refine KG.mpr ((qj k B h.2).imp λ{x y} J e=>J (by simpa using e))
  .obtain⟨t,_,rfl⟩:=FP.mp U;subst e;exact h.1 (((jU _ _ _).mp L).2.subset ad)
def sN(L B J:Nat):(qV L B J).Nodup:=by unfold qV;exact KG.mpr ((qj _ _ (hX (fN _ _))).imp λ{x y} U e=>U (List.append_cancel_left e))
def iv_snoc:∀(m:Nat) (a:Int),iv a (m+1)=a::iv (a+1) m:=λ_ _=>rfl
end
theorem Ee:∀(m:Nat) (a:Int) (i:Nat),i<m->(iv a m)[i]?=a_ (a+i)
 |m+1,a,0,_=>by simp[iv]|m+1,a,i+1,h=>by
  rw[iv,Hc,Ee m (a+1) i ac]
  congr 1
  lia
theorem zH(B sh:Nat):∀(n:Nat) (f:Nat->Nat),(∀i,i<n->f i<=B)->(∀i,i+sh+1<n->f i=0)->((FN n).map f).sum<=(sh+1)*B/\((FN n).map f).sum<=n*B
 |0,f,_,_=>by simp|n+1,f,h1,J=>by
  obtain⟨a,b⟩:=zH B sh n (λi=>f (i+1)) (λi hi=>h1 _ ac) λi hi=>J _ ac;have h0:=h1 0 ac;rw[Ig,r_,Qo,D_];have e:(f∘Nat.succ)=λi=>f (i+1):=rfl;rw[e];have c:f 0+((FN n).map λi=>f (i+1)).sum<=(n+1)*B:=by rw[QJ];lia
  refine⟨?_,c⟩
  by_cases z:sh+1<n+1
  .simp_all
  .exact Cb c (Kc _ ac)
theorem V.AW(v:V)(P:Pap):∀(xs:List (bm×Nat)) (ks:bT),(xs.foldl (v.xy P) ks).length<=ks.length+(xs.map λp=>v.g.s*(look P p.1).length).sum
 |[],ks=>by simp|p::xs,ks=>by rw[FU];have h1:=v.AW P xs (v.xy P ks p);have B:=v.oK p.2 (look P p.1) ks;rw[r_,Qo];unfold V.xy at h1 ⊢;lia
structure V.Few(v:V)(sh:Nat)(P:Pap):Prop where
 lab:Labs v P
 key:∀b∈P.map (·.1),b.length<=v.fl.length/\Beg v.fl.length sh b.length b
 few:∀b,(look P b).length<=(v.g.s*(sh+1))^b.length
def V.Few.nil(v:V)(sh:Nat):v.Few sh []:=⟨λb l h=>(by cases h),λb h=>(by cases h),λb=>(by simp[look])⟩
section
variable{c:List Int}
theorem V.Few.many(h:v.Few sh P)(J:(v.g.s*(sh+1))^v.fl.length<=262144)(b:bm):(look P b).length<=262144:=by
 by_cases B:b∈P.map (·.1)
 .have h1:=h.few b;have L:(v.g.s*(sh+1))^b.length<=(v.g.s*(sh+1))^v.fl.length:=GO (by have:=v.g.s2;exact Nat.mul_pos ac ac) (h.key b B).1;lia
 .rw[gK B];simp
theorem V.Few.behs_len(h:v.Few sh P)(U:c.length=k+1)(J:Beg v.fl.length sh (k+1) c):(v.jY P c).length<=(v.g.s*(sh+1))^(k+1):=by
 have h1:=v.AW P (smL c) [];have g:((smL c).map λp=>v.g.s*(look P p.1).length)=(FN (k+1)).map λi=>v.g.s*(look P (c.eraseIdx i)).length:=by rw[smL,D_,U];rfl
 have o:=(zH (v.g.s*(v.g.s*(sh+1))^k) sh (k+1) (λi=>v.g.s*(look P (c.eraseIdx i)).length) (λi hi=>by
  have:=h.few (c.eraseIdx i);rw[Oh,U,u_ hi]at this;exact Kq _ this) λi hi=>by
   have:c.eraseIdx i∉P.map (·.1):=λz=>by
    have b:=(h.key _ z).2;rw[Oh,U,u_ ac]at b;have f:=b.sure (i:Int) ac (by have:((k+1-1:Nat):Int)=k:=ac;lia);obtain⟨t,l,_⟩:=tE (k+1-sh) 0 c J.rise (λx d=>(J.bnd x d).1) λx h0 h1=>J.sure x h0 ac;have n:c[i]?=a_ (i:Int):=by rw[l,GC (by rw[fO];lia),Ee _ _ _ ac];simp
    obtain⟨j,a,L,q⟩:=J_.mp f;obtain⟨B,m⟩:=oe.mp n;have Y:=HJ.mp J.rise;rcases Pe L with z|z
    .have:=Y j i a B z;lia
    .have:=Y i j B a z;lia
   rw[gK this];simp).1
 unfold V.jY;rw[g]at h1;have e:(sh+1)*(v.g.s*(v.g.s*(sh+1))^k)=(v.g.s*(sh+1))^(k+1):=by rw[Mz,<- QA,QL (sh+1) v.g.s,QL]
 simp only[Kf,GY]at h1;lia
theorem V.Few.ents(Y:v.Good)(h:v.Few sh P)(J:Beg v.fl.length sh c.length c):(∀l∈v.ent P c,Lab v.g l)/\(v.ent P c).length<=(v.g.s*(sh+1))^c.length:=by
 refine⟨λl B=>?_,?_⟩
 .unfold V.ent at B;split at B
  .rw[Gj.mp B];exact v.l0_lab
  .obtain⟨i,hi,U,e1,s,e2,e3⟩:=v.uL.mp (uK B);have:=J.bnd _ (getD_in hi);exact Y.uM (h.lab _ U e1) ac e2 e3
 .unfold V.ent;split
  .simp_all
  .rename_i e;obtain⟨k,L⟩:∃k,c.length=k+1:=⟨c.length-1,by have:=List.length_pos_iff.mpr e;lia⟩
   rw[L]at J ⊢;have h1:=h.behs_len L J;exact Cb (best_len _) h1
def u9(B:c∉P.map (·.1)):look (P++[(c,ls)]) c=ls:=by rw[Ad,x_ B];simp[look]
def ou(B:b≠c):look (P++[(c,ls)]) b=look P b:=by
 rw[Ad];split
 .rfl
 .rename_i J;rw[gK J,gK];simpa using B
def V.Few.next(Y:v.Good)(h:v.Few sh P)(L:c∉P.map (·.1))(B:c.length<=v.fl.length)(U:Beg v.fl.length sh c.length c):v.Few sh (P++[(c,v.ent P c)]):=by
 obtain⟨e1,e2⟩:=h.ents Y U;refine⟨λb l B=>?_,λb J=>?_,λb=>?_⟩
 .by_cases e:b=c
  .rw[e,u9 L]at B;exact e1 l B
  .rw[ou e]at B;exact h.lab b l B
 .rw[IJ,FL]at J;rcases J with z|z
  .exact h.key b z
  .have:b=c:=by simpa using z
   rw[this];exact⟨B,U⟩
 .by_cases e:b=c
  .rw[e,u9 L];exact e2
  .rw[ou e];exact h.few b
theorem V.Few.room(h:v.Few sh P)(L:(v.g.s*(sh+1))^v.fl.length<=262144)(B:c.length<=18):v.g.s*262144*c.length<16777216/\(v.jY P c).length<16777216:=by
 obtain⟨s1,s2⟩:=v.g.s2;have h1:v.g.s*262144*c.length<=2*262144*18:=Iy ac B;have J:=v.uV P 262144 (smL c) [] λp _=>h.many L p.1;have U:(smL c).length=c.length:=by simp[smL]
 rw[U]at J;unfold V.jY;simp at J;lia
end
section
variable(CR CP:i_)
theorem rD(n:Nat)(U:CR≠CP){v:V}(l:v.Good){sh:Nat}(w:v.fl.length<=18)(u:(v.g.s*(sh+1))^v.fl.length<=262144)(j:Option A'):∀(B:List bm) (P:Pap) (k:Option A'),v.Few sh P->(P.map (·.1)++B).Nodup->(∀b∈B,b.length<=v.fl.length/\Beg v.fl.length sh b.length b)->(P.map (·.1)++B).length<16777216->v.Few sh (v.pap P B)/\∃m,
  bK (.nm 5) (fV CR CP n) (B.map ba) [a_ (aD CR CP v.g.rows v.g.o),a_ (.lst (v.fl.map flD)),a_ (.lst (v.cs.map stD)),j,a_ (.dic (lH P)),k]=.ok (.nx [a_ (aD CR CP v.g.rows v.g.o),a_ (.lst (v.fl.map flD)),a_ (.lst (v.cs.map stD)),j,a_ (.dic (lH (v.pap P B))),m])
 |[],P,k,h,_,_,_=>⟨h,k,rfl⟩|b::B,P,k,h,E,F,C=>by
  have d:b∉P.map (·.1):=λz=>(HG.mp E).2.2 b z b ad rfl;obtain⟨g,Y⟩:=F b ad;have s:∀x∈b,0<=x/\x<v.fl.length:=λx y=>⟨(Y.bnd x y).1,(Y.bnd x y).2.1⟩
  have K:=h.next l d g Y
  have D:(P++[(b,v.ent P b)]).map (·.1)++B=P.map (·.1)++b::B:=by simp
  obtain⟨N,m,I⟩:=rD n U l w u j B (P++[(b,v.ent P b)]) (a_ (ba b)) K (by rw[D];exact E) (λc Q=>F c (by simp[Q])) (by rw[D];exact C);refine⟨N,m,?_⟩
  have o:=Dn (v.ent P b);have a:(lH P).length<16777216:=by simp only[FK,n_]at C;simp only[lH,n_];lia
  have J:=put_dicP b P (v.ent P b) d;have A:=(ne_tup b).1;have t:fV CR CP n [a_ (aD CR CP v.g.rows v.g.o),a_ (.lst (v.fl.map flD)),a_ (.lst (v.cs.map stD)),j,a_ (.dic (lH P)),a_ (ba b)]=.ok (.nx [a_ (aD CR CP v.g.rows v.g.o),a_ (.lst (v.fl.map flD)),a_ (.lst (v.cs.map stD)),j,a_ (.dic (lH (P++[(b,v.ent P b)]))),a_ (ba b)]):=by
   by_cases e:b=[]
   .have p:=wK CR CP n U l.g;have q:v.ent P b=[v.l0]:=by unfold V.ent;rw[u_ e]
    have O:nC (v.ent P b)=.lst [bO 0 (L0 v.g)]:=by rw[q];rfl
    rw[O]at o J;have L:eqM (ba b) (.tup [])=.ok (.bl d_):=by rw[A,e];rfl
    rw[<- J];simp[fV,jW,L,p,wy,o,a,mW]
   .have q:v.ent P b=qq (v.jY P b):=by unfold V.ent;rw[x_ e]
    have L:eqM (ba b) (.tup [])=.ok (.bl c_):=by
     rw[A];cases b with
     |nil=>exact FZ rfl e|cons x b=>rfl
    obtain⟨H,G⟩:=h.room u (c:=b) ac;have r:=Fq CR CP n U l P h.lab 262144 b s ac (λi _=>h.many u _) H;have f:=best_ok n (v.jY P b) G;rw[<- q]at f;rw[<- J];simp[fV,jW,L,r,f,wy,o,a,mW]
  rw[r_,bK,iI,ai];simp only[Gb,FV];rw[t,ai];exact I
end
theorem foldl_congr{α β:Type}{f g:β->α->β}:∀(l:List α) (b:β),(∀x∈l,∀b,f b x=g b x)->l.foldl f b=l.foldl g b
 |[],_,_=>rfl|x::l,b,h=>by rw[FU,FU,h x ad];exact foldl_congr l _ λy B=>h y (by simp[B])
theorem V.Ck(v:V)(h:∀c:bm,c.length<b.length->look P c=look Q c):v.jY P b=v.jY Q b:=by unfold V.jY;refine foldl_congr _ _ λx B ks=>?_;obtain⟨i,hi,rfl⟩:=FP.mp B;have hi:=Gs.mp hi;unfold V.xy;rw[h (b.eraseIdx i) (by have:=jQ hi;lia)]
def V.Ez(v:V)(h:∀c:bm,c.length<b.length->look P c=look Q c):v.ent P b=v.ent Q b:=by unfold V.ent;rw[v.Ck h]
def V.oj(v:V)(P:Pap)(b:bm)(B:List bm):v.pap P (b::B)=v.pap (P++[(b,v.ent P b)]) B:=rfl
theorem V.A3(v:V):∀(B:List bm) (P:Pap),(v.pap P B).map (·.1)=P.map (·.1)++B
 |[],P=>by simp[V.pap]|b::B,P=>by rw[v.oj,v.A3 B];simp
theorem V.u7(v:V){c:bm}:∀(B:List bm) (P:Pap),c∉B->look (v.pap P B) c=look P c
 |[],P,_=>rfl|b::B,P,h=>by simp only[p_,not_or]at h;rw[v.oj,v.u7 B _ h.2,ou h.1]
theorem V.A2(v:V):∀(B:List bm) (P:Pap),(P.map (·.1)++B).Nodup->B.Pairwise (λa b=>a.length<=b.length)->∀b∈B,look (v.pap P B) b=v.ent (v.pap P B) b
 |b::B,P,L,J,c,h=>by
  rw[GR]at J;have g:(P++[(b,v.ent P b)]).map (·.1)++B=P.map (·.1)++b::B:=by simp
  have f:b∉B:=by have:=(HG.mp L).2.1;rw[IH]at this;exact this.1
  have Y:b∉P.map (·.1):=λz=>(HG.mp L).2.2 b z b ad rfl;rcases p_.mp h with e|e
  .subst e;rw[v.oj,v.u7 B _ f,u9 Y];refine v.Ez λd i=>?_;have U:d∉B:=λz=>by have:=J.1 d z;lia
   rw[v.u7 B _ U,ou (λz=>by simp_all)]
  .rw[v.oj];exact v.A2 B _ (by rw[g];exact L) J.2 c e
def BL(m s:Nat):List bm:=(FN (m+1)).flatMap (qV m s)
theorem nH{s:Nat}:b∈BL m s↔∃k,k<=m/\Beg m s k b:=by
 unfold BL;rw[ME];constructor
 .rintro⟨k,B,J⟩;have B:=Gs.mp B;exact⟨k,ac,(uN ac b).mp J⟩
 .rintro⟨k,B,J⟩;exact⟨k,Gs.mpr ac,(uN B b).mpr J⟩
theorem sf{m s:Nat}:∀(j r:Nat),j+r<=m+1->((KD j r).flatMap (qV m s)).Nodup/\((KD j r).flatMap (qV m s)).Pairwise (λa b=>a.length<=b.length)/\∀b∈(KD j r).flatMap (qV m s),j<=b.length
 |j,0,_=>⟨ad,ad,ad⟩|j,r+1,h=>by
  obtain⟨h1,Y,U⟩:=sf (m:=m) (s:=s) (j+1) r ac;have L:∀b∈qV m s j,b.length=j:=λb B=>((uN ac b).mp B).len;rw[MD,Jl];refine⟨?_,?_,λb B=>?_⟩
  .rw[HG];refine⟨sN m s j,h1,λa J b B e=>?_⟩
   have c:=L a J;have g2:=U b B;rw[e]at c;lia
  .rw[Gm];refine⟨?_,Y,λa J b B=>?_⟩
   .exact Mg (λ{a b} J B _=>by simp_all) (sN m s j)
   .have:=L a J;have:=U b B;lia
  .rcases FL.mp B with z|z
   .rw[L b z];exact k_ _
   .have:=U b z;lia
theorem BL_ok(m s:Nat):(BL m s).Nodup/\(BL m s).Pairwise (λa b=>a.length<=b.length):=by have:=sf (m:=m) (s:=s) 0 (m+1) ac;unfold BL;rw[LH];exact⟨this.1,this.2.1⟩
def FG(m s:Nat):(BL m s).head? =a_ []:=by simp[BL,Ig,Jl,Ft]
theorem Au{m s:Nat}(B:s<=3):∀l:bo,(∀k∈l,k<=m)->(l.flatMap (qV m s)).length<=256*l.length
 |[],_=>by simp|k::l,h=>by have h1:=AQ m s k B (h k ad);have L:=Au B l λj J=>h j (by simp[J]);grind
theorem BL_len{s:Nat}(L:m<=41)(B:s<=3):(BL m s).length<=11000:=by
 have:=Au (m:=m) (s:=s) B (FN (m+1)) λk J=>by have:=Gs.mp J;lia
 rw[HY]at this;unfold BL;lia
section
variable(CR CP:i_)
theorem AU(n:Nat){m s:Nat}(Y:m<=41)(U:s<=3):∀(r j:Nat) (B:List bm) (J:Option A'),j+r<=m+1->B.length+256*r<=100000->∃L,
  bK (.nm 3) (cJ) ((iv j r).map .int) [a_ (.int m),a_ (.int s),a_ (.lst (B.map ba)),J]=.ok (.nx [a_ (.int m),a_ (.int s),a_ (.lst ((B++(KD j r).flatMap (qV m s)).map ba)),L])
 |0,j,B,J,_,_=>⟨J,by simp[bK,iv]⟩|r+1,j,B,J,h1,f=>by
  have d:=AQ m s j U ac;obtain⟨L,e⟩:=AU n Y U r (j+1) (B++qV m s j) (a_ (.int j)) ac (by simp;lia);refine⟨L,?_⟩
  have c:=begin_ok n m s j Y U ac;have a:(B.map ba).length+((qV m s j).map ba).length<=16777216:=by simp;lia
  have b:cJ [a_ (.int m),a_ (.int s),a_ (.lst (B.map ba)),a_ (.int j)]=.ok (.nx [a_ (.int m),a_ (.int s),a_ (.lst ((B++qV m s j).map ba)),a_ (.int j)]):=by simp only[n_]at a;simp[cJ,c,a]
  rw[iv,r_,bK,iI,ai];simp_all[Gb,FV,ai,MD,Jl,FX]
theorem AR(n:Nat){s:Nat}(J:m<=41)(B:s<=3):cq [.int m,.int s]=.ok (.lst ((BL m s).map ba)):=by
 obtain⟨L,e⟩:=AU n J B (m+1) 0 [] f_ ac (by simp;lia);have U:(-4611686018427387904:Int)<=(m:Int)+1:=ac
 have k2:(m:Int)+1<4611686018427387904:=ac
 simp_all[LH,II,IP,BL,cq,ji,iz]
theorem paper_ok(n:Nat)(B:CR≠CP)(L:v.Good){s:Nat}(J:v.fl.length<=18)(h:(v.g.s*(s+1))^v.fl.length<=262144)(U:s<=3)(a:aR [.int v.fl.length,.int s]=.ok (.int c))(d:c*v.g.s^v.fl.length<=5000):v.Few s (v.pap [] (BL v.fl.length s))/\kg CR CP n [aD CR CP v.g.rows v.g.o,.lst (v.fl.map flD),.lst (v.cs.map stD),.int s]=.ok (.dic (lH (v.pap [] (BL v.fl.length s)))):=by
 have o:=L.many;have r:=(BL_ok v.fl.length s).1;have q:=BL_len (m:=v.fl.length) (s:=s) ac U;obtain⟨Y,l,e⟩:=rD CR CP n B L J h (a_ (.int s)) (BL v.fl.length s) [] f_ (V.Few.nil v s) bi (λb f=>by obtain⟨k,p,g⟩:=nH.mp f;exact⟨by rw[g.len];lia,by rw[g.len];exact g⟩) (by simp;lia)
 refine⟨Y,?_⟩
 have h1:=vH CR CP n B (v:=v) (m:=v.fl.length) ac rfl a d;have j:=AR n (m:=v.fl.length) ac U;have i:lH []=[]:=rfl;rw[i]at e;simp[kg,rW,h1,j,e]
end
theorem ph(n:Nat):∀L:List bm,lh (L.map ba) (n+2)=d_
 |[]=>rfl|r::L=>by simp[lh,H8,ba,tV,ph n L]
def ne_tups(L:List bm):neM (.lst (L.map ba)) (.lst (L.map ba))=.ok (.bl c_):=by
 have h:H8 (.lst (L.map ba)) 40=d_:=by rw[H8];exact ph _ L
 unfold neM;rw[h];simp[oG h]
theorem Ep(b:bm):∀P:Pap,b∈P.map (·.1)->rV (lH P) b=a_ (nC (look P b))
 |[],h=>by cases h|p::P,h=>by
  unfold rV lH look;rw[r_,H9,H9];by_cases e:p.1=b
  .simp[e]
  .have B:b∈P.map (·.1):=by
    rcases p_.mp h with z|z
    .exact FZ z.symm e
    .exact z
   have:=Ep b P B;grind[rV,lH,look]
theorem rF:∀ls:bT,ja (ls.map λl=>A'.tup [Lake.bO l,.bl d_])=.ok ls
 |[]=>rfl|l::ls=>by rw[r_];show(oC (Lake.bO l)).bind _=_;rw[m7,ai,rF ls];rfl
theorem As(x:LK):∀(ls B:bT),x∈ls.foldl Lake.putL B↔x∈B\/x∈ls
 |[],B=>by simp|l::ls,B=>by rw[FU,As x ls,zX,p_];exact or_assoc
theorem xq{α:Type}(t:α->Bool):∀l:List α,fU (l.map λx=>A'.bl (t x))=.ok (l.map t)
 |[]=>rfl|a::l=>by rw[r_,fU,xq t l];rfl
theorem all_map{α:Type}(t:α->Bool)(l:List α):allD [.lst (l.map λx=>A'.bl (t x))]=.ok (.bl (l.all t)):=by simp[e_all,xq,ai,List.all_map]
theorem AI{α:Type}{p:Pat}{ft:ah->M Bool}{fe:ah->M A'}{ρ0:ah}(g f:α->A')(t:α->Bool):∀(L:List α),(∀x∈L,∃ρ,dI p (g x) ρ0=.ok ρ/\ft ρ=.ok (t x)/\(t x=d_->fe ρ=.ok (f x)))->ay p ft fe ρ0 (L.map g)=.ok ((L.filter t).map f)
 |[],_=>rfl|x::L,h=>by
  obtain⟨ρ,h1,Y,U⟩:=h x ad;have B:=AI g f t L λy J=>h y (by simp[J]);rw[r_,ay,h1,ai,Y,ai];by_cases c:t x=d_
  .simp[c,U c,B]
  .simp[c,B]
section
variable(CR CP:i_)
def has_dil(n:Nat)(ls:bT)(l:LK):b6 [.dil ls,Lake.bO l]=.ok (.bl (ls.any λx=>nw x l)):=by
 rcases uj n (a_ (.dil ls)) l ls f_ with⟨h1,B⟩|⟨h1,J,B⟩
 .simp[b6,dz,h1,B]
 .simp[b6,dz,h1,B]
def V.jz(v:V)(Q:Pap)(b:bm):Bool:=if b=[]then d_ else
 (((look Q b).foldl Lake.putL []).all λx=>A_ (x∈v.jY Q b))&&(((v.jY Q b).filter λx=> !decide (x∈(look Q b).foldl Lake.putL [])).all λx=>((look Q b).foldl Lake.putL []).any λy=>nw y x)
theorem D9(n:Nat)(a:CR≠CP)(s:v.Good)(c:Labs v P)(B:∀b,(look P b).length<=262144)(G:b∈P.map (·.1))(first:b=[]->look P b=[v.l0])(q:∀x∈b,0<=x/\x<v.fl.length)(g:b.length<=18):bH CR CP n [aD CR CP v.g.rows v.g.o,.lst (v.fl.map flD),.lst (v.cs.map stD),.dic (lH P),ba b]=.ok (.bl (v.jz P b)):=by
 have U:ixKD (.dic (lH P)) (ba b)=.ok (nC (look P b)):=by rw[wV,wy,ai,Ep b P G]
 have t:=(ne_tup b).1;by_cases e:b=[]
 .have o:=wK CR CP n a s.g;have H:=first e;have L:eqM (ba b) (.tup [])=.ok (.bl d_):=by rw[t,e];rfl
  have E:eqM (nC [v.l0]) (.lst [bO 0 (L0 v.g)])=.ok (.bl d_):=by
    have h:H8 (.lst [Lake.bO v.l0]) 40=d_:=by simp[Lake.bO,H8,lh,ph]
    show eqM (.lst [Lake.bO v.l0]) (.lst [Lake.bO v.l0])=_;unfold eqM;rw[h];simp[oG h]
  rw[H]at U;have:v.jz P b=d_:=by unfold V.jz;rw[u_ e]
  rw[this];simp[bH,dZ,d8,L,U,o,E,-wV]
 .have L:eqM (ba b) (.tup [])=.ok (.bl c_):=by
   rw[t];cases b with
   |nil=>exact FZ rfl e|cons x b=>rfl
  obtain⟨s1,s2⟩:=v.g.s2;have C:v.g.s*262144*b.length<16777216:=Jf (Iy (show v.g.s*262144<=2*262144 by lia) g) am;have r:=v.uV P 262144 (smL b) [] λp _=>B p.1;have f:=Fq CR CP n a s P c 262144 b q ac (λi _=>B _) C;have k:(v.jY P b).length<=16777216:=by
   unfold V.jY;have:(smL b).length=b.length:=by simp[smL]
   rw[this]at r;simp only[Kf,GY]at r;lia
  have I:v.jz P b=((((look P b).foldl Lake.putL []).all λx=>A_ (x∈v.jY P b))&&(((v.jY P b).filter λx=> !decide (x∈(look P b).foldl Lake.putL [])).all λx=>((look P b).foldl Lake.putL []).any λy=>nw y x)):=by unfold V.jz;rw[x_ e]
  have d:(look P b).length<=16777216:=by have:=B b;lia
  have j:((look P b).foldl Lake.putL []).length<=16777216:=by
   have:∀ls J:bT,(ls.foldl Lake.putL J).length<=J.length+ls.length:=λls=>by
    induction ls with
    |nil=>intro J;simp|cons l ls D=>intro J;have h1:=D (Lake.putL J l);have O:=zY J l;grind
   have h1:=this (look P b) [];simp only[Kf,GY]at h1;lia
  have u:AD [.lst ((look P b).map λl=>A'.tup [Lake.bO l,.bl d_])]=.ok (.dil ((look P b).foldl Lake.putL [])):=by rw[ur,rF,ai]
  rw[I];generalize (look P b).foldl Lake.putL []=T at *;have z:ay (.nm 0) eW (fL bG (aa (ae 0) (aa (fC (.bl d_)) au))) [f_] ((look P b).map Lake.bO)=.ok ((look P b).map λl=>A'.tup [Lake.bO l,.bl d_]):=
   d7 Lake.bO _ _ λl _=>⟨[a_ (Lake.bO l)],ad,ad⟩
  have m:∀x,inLD (Lake.bO x) (.dil (v.jY P b))=.ok (.bl (A_ (x∈v.jY P b))):=λx=>by show(oC (Lake.bO x)).bind _=_;rw[m7,ai]
  have w:ay (.nm 0) eW (f2 inLD (ae 0) (ae 1)) [f_,a_ (.dil (v.jY P b))] (T.map Lake.bO)=.ok (T.map λx=>A'.bl (A_ (x∈v.jY P b))):=
   d7 Lake.bO _ _ λl F=>⟨[a_ (Lake.bO l),a_ (.dil (v.jY P b))],ad,by simp[m l]⟩
  have Y:∀x,tX (Lake.bO x) (.dil T)=.ok (.bl !decide (x∈T)):=λx=>by show(oC (Lake.bO x)).bind _=_;rw[m7,ai]
  have K:ay (.nm 0) (fB (f2 tX (ae 0) (ae 1))) (fL (b6) (aa (ae 1) (aa (ae 0) au))) [f_,a_ (.dil T)] ((v.jY P b).map Lake.bO)=.ok (((v.jY P b).filter λx=> !decide (x∈T)).map λx=>A'.bl (T.any λy=>nw y x)):=
   AI Lake.bO _ _ _ λl F=>⟨[a_ (Lake.bO l),a_ (.dil T)],ad,by simp[Y l],λ_=>by simp[has_dil n]⟩
  have A:=all_map (λx=>A_ (x∈v.jY P b)) T;have N:=all_map (λx=>T.any λy=>nw y x) ((v.jY P b).filter λx=> !decide (x∈T));generalize (T.all λx=>A_ (x∈v.jY P b))=p1 at *;generalize (((v.jY P b).filter λx=> !decide (x∈T)).all λx=>T.any λy=>nw y x)=p2 at *;cases p1 with
  |false=>simp[bH,dZ,d8,fg,L,U,f,z,u,w,A,d,j,nC,-wV,-ur,-e_all]|true=>simp[bH,dZ,d8,fg,L,U,f,z,u,w,K,A,N,d,j,k,nC,-wV,-ur,-e_all]
theorem yA(n:Nat)(U:CR≠CP)(f:v.Good)(r:v.fl.length<=18){s:Nat}(d:s<=3)(i:aR [.int v.fl.length,.int s]=.ok (.int c))(o:c*v.g.s^v.fl.length<=5000)(Y:Labs v P)(B:∀b,(look P b).length<=262144)(J:P.map (·.1)=BL v.fl.length s)(first:look P []=[v.l0]):kh CR CP n [aD CR CP v.g.rows v.g.o,.lst (v.fl.map flD),.lst (v.cs.map stD),.int s,.dic (lH P)]=.ok (.bl ((BL v.fl.length s).all (v.jz P))):=by
 have y:=BL_len (m:=v.fl.length) (s:=s) ac d;have h:=vH CR CP n U (v:=v) (m:=v.fl.length) ac rfl i o;have q:=AR n (m:=v.fl.length) ac d;have l:(lH P).map (·.1)=BL v.fl.length s:=by rw[<- J];unfold lH;rw[D_];rfl
 have s1:kW [.dic (lH P)]=.ok (.lst ((cZ BK (BL v.fl.length s)).map ba)):=by rw[sk,l,u_ (FG _ _)]
 have s2:kW [.lst ((BL v.fl.length s).map ba)]=.ok (.lst ((cZ BK (BL v.fl.length s)).map ba)):=by rw[sj,mE,ai,u_ (FG _ _)]
 have L:=ne_tups (cZ BK (BL v.fl.length s));have t:ay (.nm 0) eW (fL (bH CR CP n) (aa (ae 1) (aa (ae 2) (aa (ae 3) (aa (ae 4) (aa (ae 0) au)))))) [f_,a_ (aD CR CP v.g.rows v.g.o),a_ (.lst (v.fl.map flD)),a_ (.lst (v.cs.map stD)),a_ (.dic (lH P))] ((BL v.fl.length s).map ba)=.ok ((BL v.fl.length s).map λb=>A'.bl (v.jz P b)):=
  d7 ba _ _ λb p=>⟨[a_ (ba b),a_ (aD CR CP v.g.rows v.g.o),a_ (.lst (v.fl.map flD)),a_ (.lst (v.cs.map stD)),a_ (.dic (lH P))],ad,by obtain⟨k,w,g⟩:=nH.mp p;have:=D9 CR CP n U f Y B bi (λe=>by rw[e];exact first) (λx a=>⟨(g.bnd x a).1,(g.bnd x a).2.1⟩) (by rw[g.len];lia);simp[this]⟩
 have j:(BL v.fl.length s).length<=16777216:=ac
 have u:=all_map (v.jz P) (BL v.fl.length s);simp[kh,rX,nF,h,q,s1,s2,L,t,j,u,-sk,-sj,-e_all]
end
def V.Bs(J:look P b=v.ent P b):v.jz P b=d_:=by
 unfold V.jz;split
 .rfl
 .rename_i e;have Y:look P b=qq (v.jY P b):=by rw[J];unfold V.ent;rw[x_ e]
  have B:∀x,x∈(look P b).foldl Lake.putL []↔x∈qq (v.jY P b):=λx=>by rw[As,<- Y];simp
  simp only[t_,Im,FO,MF];refine⟨λx L=>uK ((B x).mp L),λx L=>?_⟩
  obtain⟨y,U,hw⟩:=AO (GI.mp L).1;exact⟨y,(B y).mpr U,hw⟩
theorem rg{α:Type}{R:α->α->Prop}(Y:∀a,¬R a a)(U:∀a b,R a b->R b a->False):∀{l m:List α},l.Pairwise R->m.Pairwise R->(∀x,x∈l↔x∈m)->l=m
 |[],[],_,_,_=>rfl|[],b::m,_,_,h=>by have:=(h b).mpr ad;simp_all|a::l,[],_,_,h=>by have:=(h a).mp ad;simp_all|a::l,b::m,d,c,h=>by
  have J:=GR.mp d;have B:=GR.mp c;have e:a=b:=by
   rcases p_.mp ((h a).mp ad)with z|z
   .exact z
   .rcases p_.mp ((h b).mpr ad)with y|y
    .exact y.symm
    .exact(U a b (J.1 b y) (B.1 a z)).elim
  subst e
  congr 1
  refine rg Y U J.2 B.2 λx=>⟨λL=>?_,λL=>?_⟩
  .rcases p_.mp ((h x).mp (by simp[L]))with z|z
   .subst z;exact(Y x (J.1 x L)).elim
   .exact z
  .rcases p_.mp ((h x).mpr (by simp[L]))with z|z
   .subst z;exact(Y x (B.1 x L)).elim
   .exact z
theorem zT{a:bm}(J:iK a)(B:iK b)(h:∀x,x∈a↔x∈b):a=b:=rg (R:=(·<·)) (λa=>by lia) (λa b=>by lia) J B h
theorem r6(h:i<p.length):p.take (i+1)=p.take i++[p.getD i (0,0)]:=by simp_all
noncomputable def qN(p:List (Nat×Nat))(i:Nat):Nat×Nat:=p.getD i (0,0)
def V.pf(v:V)(p:List (Nat×Nat))(i:Nat):Fli:=v.f (qN p i).1
def V.ap(v:V)(p:List (Nat×Nat))(j i:Nat):Int:=apS v.g.rows v.g.r2 ((v.pf p j).kind,((qN p j).2:Int)) ((v.pf p i).kind,((qN p i).2:Int))
def V.low(v:V)(p:List (Nat×Nat))(B:bm)(i j:Nat):Int:=(FN j).foldl (λt l=>dR t (tAt B l+v.ap p l i)) (v.pf p i).first
def V.u5(v:V)(p:List (Nat×Nat))(B:bm)(i j:Nat):v.low p B i (j+1)=dR (v.low p B i j) (tAt B j+v.ap p j i):=by simp[V.low,MN,KH]
theorem V.lZ(v:V)(p:List (Nat×Nat))(B:bm)(i:Nat):∀j,(v.pf p i).first<=v.low p B i j
 |0=>Gg _|j+1=>by have h1:=v.lZ p B i j;have J:=u4 (v.low p B i j) (tAt B j+v.ap p j i);rw[v.u5];lia
theorem V.u6(v:V)(p:List (Nat×Nat))(B:bm)(i:Nat):∀j l,l<j->tAt B l+v.ap p l i<=v.low p B i j
 |0,l,h=>FZ h (Lq _)|j+1,l,h=>by
  have J:=u4 (v.low p B i j) (tAt B j+v.ap p j i);rw[v.u5];by_cases e:l=j
  .simp_all
  .have:=v.u6 p B i j l ac;lia
theorem V.DY(v:V)(p:List (Nat×Nat))(B:bm)(i:Nat)(t:Int)(h0:(v.pf p i).first<=t):∀j,(∀l,l<j->tAt B l+v.ap p l i<=t)->v.low p B i j<=t
 |0,_=>h0|j+1,h=>by have h1:=v.DY p B i t h0 j λl J=>h l ac;have L:=h j ac;rw[v.u5];rcases(u4 (v.low p B i j) (tAt B j+v.ap p j i)).2.2 with e|e<;>lia
def tAt_app{B us:bm}(h:i<B.length):tAt (B++us) i=tAt B i:=by unfold tAt;rw[m_,m_,GC h]
def tAt_new(B us:bm)(t:Int):tAt (B++t::us) B.length=t:=by simp[tAt]
def V.tms(v:V)(p:List (Nat×Nat)):Nat->bm
 |0=>[]|i+1=>v.tms p i++[nx v.cs (v.low p (v.tms p i) i i)]
def V.t(v:V)(p:List (Nat×Nat))(i:Nat):Int:=nx v.cs (v.low p (v.tms p i) i i)
theorem V.sV(v:V)(p:List (Nat×Nat)):∀i,(v.tms p i).length=i
 |0=>rfl|i+1=>by rw[V.tms,FK,v.sV p i];rfl
theorem V.ng(v:V)(p:List (Nat×Nat)):∀(m i:Nat),i<m->tAt (v.tms p m) i=v.t p i
 |0,i,h=>FZ h (Lq _)|m+1,i,h=>by
  rw[V.tms];by_cases e:i=m
  .subst e;have:=tAt_new (v.tms p i) [] (nx v.cs (v.low p (v.tms p i) i i));rw[v.sV]at this;exact this
  .rw[tAt_app (by rw[v.sV];lia)];exact v.ng p m i ac
def V.okT(v:V)(p:List (Nat×Nat))(i:Nat):Prop:=v.t p i<=(v.pf p i).last
theorem lT(h:i<p.length):qN p i∈p:=by simp_all[qN,m_,y_]
def V.Good.Ds(B:v.Good)(J:v.Pl p)(h:i<p.length):iL (v.fl.map flD) ((qN p i).1:Int)=.ok (flD (v.pf p i))/\qv v.g.k (v.pf p i):=B.fAt (J _ (lT h)).1
def Gp.Good.apS0(B:g.Good){a b:fF}(Y:0<=a.1)(U:a.1<g.k)(L:0<=b.1)(J:b.1<g.k):0<=apS g.rows g.r2 a b:=by
 unfold apS;split
 .exact(getA B.rows Y U L J).2
 .exact(getA B.r2 Y U L J).2
def V.Good.ap0(B:v.Good)(J:v.Pl p)(U:j<p.length)(hi:i<p.length):0<=v.ap p j i:=by have L:=(B.Ds J U).2;have g2:=(B.Ds J hi).2;exact B.g.apS0 L.k0 L.k1 g2.k0 g2.k1
def V.Good.t_low(B:v.Good)(p:List (Nat×Nat))(i:Nat):v.low p (v.tms p i) i i<=v.t p i:=(B.nxt _).1
theorem V.Good.t0(B:v.Good)(J:v.Pl p)(h:i<p.length):0<=v.t p i:=by have h1:=B.t_low p i;have U:=v.lZ p (v.tms p i) i i;have L:=(B.Ds J h).2.f0;lia
theorem V.Good.t_gap(B:v.Good)(p:List (Nat×Nat)){l:Nat}(h:l<i):v.t p l+v.ap p l i<=v.t p i:=by have h1:=B.t_low p i;have J:=v.u6 p (v.tms p i) i i l h;rw[v.ng p i l h]at J;lia
def V.tab(v:V)(p:List (Nat×Nat)):Nat->List bm
 |0=>L0 v.g|i+1=>putL (v.tab p i) (qN p i).2 (v.pf p i).kind.toNat (v.t p i)
def V.cst(v:V)(p:List (Nat×Nat)):Nat->Int
 |0=>0|i+1=>v.cst p i+BO (v.pf p i) (v.t p i)
def V.lab(v:V)(p:List (Nat×Nat))(i:Nat):LK:=(v.cst p i,v.tab p i)
theorem V.sW(v:V){p:List (Nat×Nat)}(B:v.Pl p):∀i,i<=p.length->lG v.g.s v.g.k (v.tab p i)
 |0,_=>FF v.g|i+1,h=>lU (v.sW B i ac) (B _ (lT ac)).2 _
def lAt(L:List bm)(r a:Nat):Int:=tAt (jf L r) a
theorem lAt_put{s:Nat}{L:List bm}(B:lG s k L){r a:Nat}(hi:i<s)(b:j<k)(U:r<s)(x:Int):lAt (putL L i j x) r a=if r=i/\a=j then x else lAt L r a:=by
 have Y:=B.1;unfold lAt putL;by_cases c:r=i
 .subst c;have e1:jf (L.set r ((jf L r).set j x)) r=(jf L r).set j x:=by
   unfold jf;rw[m_,z_ ac];rfl
  rw[e1];have J:=(gu B U).2.1;by_cases d:a=j
  .subst d;rw[u_ ⟨rfl,rfl⟩];unfold tAt;rw[m_,z_ ac];rfl
  .rw[x_ (λz=>d z.2)];unfold tAt;rw[m_,m_,v_ (λz=>d z.symm)]
 .rw[x_ (λz=>c z.1)];have e1:jf (L.set i ((jf L i).set j x)) r=jf L r:=by
   show(L.set i ((jf L i).set j x)).getD r []=L.getD r [];generalize (jf L i).set j x=w;rw[m_,v_ (λz=>c z.symm),m_]
  rw[e1]
def V.LasAt(v:V)(p:List (Nat×Nat))(i r a:Nat)(x:Int):Prop:=(x= -1/\∀j,j<i->¬((qN p j).2=r/\(v.pf p j).kind=a))\/∃j,j<i/\(qN p j).2=r/\(v.pf p j).kind=a/\x=v.t p j/\∀l,l<i->(qN p l).2=r->(v.pf p l).kind=a->v.t p l<=v.t p j
theorem V.Good.Ea{v:V}(U:v.Good){p:List (Nat×Nat)}(L:v.Pl p):∀i,i<=p.length->∀r a,r<v.g.s->a<v.g.k->v.LasAt p i r a (lAt (v.tab p i) r a)
 |0,_,r,a,b,k=>.inl ⟨by simp_all[V.tab,L0,lAt,jf,tAt],λj h=>by lia⟩|i+1,hi,r,a,b,k=>by
  have q:=U.Ea L i ac r a b k;have g:=(U.Ds L (i:=i) ac).2;have t:=g.k0;have s:=g.k1;have c:=(L _ (lT (p:=p) (i:=i) ac)).2;have J:=lAt_put (v.sW L i ac) c (j:=(v.pf p i).kind.toNat) ac (a:=a) b (v.t p i);have B:v.tab p (i+1)=putL (v.tab p i) (qN p i).2 (v.pf p i).kind.toNat (v.t p i):=rfl;rw[B,J];by_cases e:(qN p i).2=r/\(v.pf p i).kind=a
  .rw[u_ ⟨e.1.symm,ac⟩];refine .inr ⟨i,ac,e.1,e.2,rfl,λl h1 Y o=>?_⟩;by_cases z:l=i
   .simp_all
   .have n:=U.t_gap p (l:=l) (i:=i) ac;have m:=U.ap0 L (j:=l) (i:=i) ac ac;lia
  .rw[x_ (λz=>e ⟨z.1.symm,ac⟩)];rcases q with⟨h1,Y⟩|⟨j,h1,Y,o,n,m⟩
   .refine .inl ⟨h1,λj u=>?_⟩;by_cases z:j=i
    .rw[z];exact e
    .exact Y j ac
   .refine .inr ⟨j,ac,Y,o,n,λl w f d=>?_⟩;by_cases z:l=i
    .rw[z]at f d;exact FZ ⟨f,d⟩ e
    .exact m l ac f d
theorem zQ(L:Nat->Int):∀(xs:bm) (j:Nat) (y:Int),y∈rp L j xs↔∃a,a<xs.length/\tAt xs a≠ -1/\y=tAt xs a+L (j+a)
 |[],j,y=>by simp[rp]|x::xs,j,y=>by
  have U:=zQ L xs (j+1) y;have sh:(∃a,a<xs.length/\tAt xs a≠ -1/\y=tAt xs a+L (j+1+a))↔∃a,0<a/\a<(x::xs).length/\tAt (x::xs) a≠ -1/\y=tAt (x::xs) a+L (j+a):=by
   constructor
   .rintro⟨a,h1,J,B⟩;refine⟨a+1,ac,bi,J,?_⟩
    rw[B];have:j+1+a=j+(a+1):=ac
    rw[this];rfl
   .rintro⟨a,h0,h1,J,B⟩;obtain⟨b,rfl⟩:∃b,a=b+1:=⟨a-1,ac⟩
    refine⟨b,bi,J,?_⟩
    rw[B];have:j+1+b=j+(b+1):=ac
    rw[this];rfl
  by_cases e:x= -1
  .rw[rp,u_ e,U,sh];constructor
   .rintro⟨a,_,h⟩;exact⟨a,h⟩
   .rintro⟨a,h1,J,B⟩;cases a with
    |zero=>exact FZ e (by simpa[tAt] using J)|succ a=>exact⟨a+1,ac,h1,J,B⟩
  .rw[rp,x_ e,p_,U,sh];constructor
   .rintro(h|⟨a,_,h⟩)
    .exact⟨0,ad,by simp_all[tAt],by simp_all[tAt]⟩
    .exact⟨a,h⟩
   .rintro⟨a,h1,J,B⟩;cases a with
    |zero=>exact .inl (by simpa[tAt] using B)|succ a=>exact .inr ⟨a+1,ac,h1,J,B⟩
theorem uS(Y:Nat->Nat->Int):∀(L:List bm) (i:Nat) (y:Int),y∈uT Y i L↔∃r a,r<L.length/\a<(jf L r).length/\lAt L r a≠ -1/\y=lAt L r a+Y (i+r) a
 |[],i,y=>by simp[uT]|b::L,i,y=>by
  rw[uT,FL,zQ,uS Y L (i+1) y];constructor
  .rintro(⟨a,h1,J,B⟩|⟨r,a,h1,J,B,U⟩)
   .exact⟨0,a,ad,h1,J,by rw[B,GY];rfl⟩
   .refine⟨r+1,a,bi,J,B,?_⟩
    rw[U];have:i+1+r=i+(r+1):=ac
    rw[this];rfl
  .rintro⟨r,a,h1,J,B,U⟩;cases r with
   |zero=>exact .inl ⟨a,J,B,by rw[U,GY];rfl⟩|succ r=>
    refine .inr ⟨r,a,bi,J,B,?_⟩;rw[U];have:i+1+r=i+(r+1):=ac
    rw[this];rfl
def foldl_max(xs:bm)(x:Int):(xs.foldl dR x=x\/xs.foldl dR x∈xs)/\x<=xs.foldl dR x/\∀y∈xs,y<=xs.foldl dR x:=⟨iW xs x,(Lake.fold_max xs x).2⟩
theorem V.Good.las_low(Y:v.Good)(U:v.Pl p)(hi:i<p.length):Bg v.g (v.tab p i) (v.pf p i) (qN p i).2=v.low p (v.tms p i) i i:=by
 unfold Bg;obtain⟨m,k,h⟩:=foldl_max (uT (λr a=>apS v.g.rows v.g.r2 ((a:Int),(r:Int)) ((v.pf p i).kind,((qN p i).2:Int))) 0 (v.tab p i)) (v.pf p i).first;have b:=v.sW U i ac;refine P_ ?_ ?_
 .rcases m with e|e
  .rw[e];exact v.lZ p _ _ _
  .obtain⟨r,a,h1,t,s,f⟩:=(uS _ _ _ _).mp e;rw[f];have L:r<v.g.s:=by rw[<- b.1];exact h1
   have n:a<v.g.k:=by rw[<- (gu b L).2.1];exact t
   rcases Y.Ea U i ac r a L n with⟨z,_⟩|⟨j,c,q,o,d,_⟩
   .exact FZ z s
   .have:=v.u6 p (v.tms p i) i i j c;rw[v.ng p i j c]at this;simp_all[V.ap]
 .refine v.DY p _ _ _ k _ λl B=>?_;rw[v.ng p i l B];have g:=(Y.Ds U (i:=l) ac).2;have x:=g.k0;have w:=g.k1;have L:=(U _ (lT (p:=p) (i:=l) ac)).2;have J:((v.pf p l).kind.toNat:Int)=(v.pf p l).kind:=ac
  have h0:=Y.t0 U (i:=l) ac;rcases Y.Ea U i ac (qN p l).2 (v.pf p l).kind.toNat L ac with⟨_,z⟩|⟨j,f,c,q,o,d⟩
  .exact FZ ⟨rfl,J.symm⟩ (z l B)
  .have y:=d l B rfl J.symm;have u:=h (lAt (v.tab p i) (qN p l).2 (v.pf p l).kind.toNat+apS v.g.rows v.g.r2 ((v.pf p l).kind,((qN p l).2:Int)) ((v.pf p i).kind,((qN p i).2:Int))) ((uS _ _ _ _).mpr ⟨(qN p l).2,(v.pf p l).kind.toNat,by rw[b.1];exact L,by rw[(gu b L).2.1];lia,ac,by rw[GY,J]⟩);unfold V.ap;lia
open Classical in
theorem V.Good.k7{v:V}(hv:v.Good){p:List (Nat×Nat)}(hp:v.Pl p):∀i,i<=p.length->v.along v.l0 (p.take i)=if ∀j,j<i->v.okT p j then some (v.lab p i)else none
 |0,_=>by rfl|i+1,h=>by
  have hi:i<p.length:=ac
  rw[r6 hi,v.mC,hv.k7 hp i ac];by_cases c:∀j,j<i->v.okT p j
  .rw[if_pos c];show(v.beh (v.lab p i) (qN p i).1 (qN p i).2).bind (λl'=>v.along l' [])=_;have ebt:v.bt (v.lab p i) (qN p i).1 (qN p i).2=v.t p i:=by
    unfold V.bt V.t;have:=hv.las_low hp hi;unfold V.pf at this;show nx v.cs (Bg v.g (v.tab p i) (v.f (qN p i).1) (qN p i).2)=_;rw[this]
   unfold V.beh;rw[ebt];by_cases c2:(v.f (qN p i).1).last<v.t p i
   .rw[if_pos c2,if_neg (λz=>by have:=z i ac;unfold V.okT V.pf at this;lia)];rfl
   .have hall:∀j,j<i+1->v.okT p j:=λj hj=>by
     by_cases z:j=i
     .rw[z];unfold V.okT V.pf;lia
     .exact c j ac
    rw[if_neg c2,if_pos hall];rfl
  .rw[if_neg c,if_neg (λz=>c λj hj=>z j ac)];rfl
structure Co(m sh:Nat)(o:bm):Prop where
 per:o.Perm (iv 0 m)
 near:∀(i:Nat) (x:Int),o[i]?=a_ x->(i:Int)-sh<=x/\x<=i+sh
def rh(l:bm):bm:=cZ ltZ l
def kU:x∈rh l↔x∈l:=(cz l).mem_iff
theorem o9(h:l.Nodup):iK (rh l):=by
 have h1:=i6 ordZ l;have B:(cZ ltZ l).Nodup:=(cz l).nodup_iff.mpr h;refine(h1.and B).imp λ{a b} ⟨z,n⟩=>?_;have:¬b<a:=by simpa[ltZ] using z
 have:a≠b:=n;lia
section
variable{o:List Int}
def Co.len(h:Co m sh o):o.length=m:=by rw[h.per.length_eq,fO]
def Co.nodup(h:Co m sh o):o.Nodup:=h.per.nodup_iff.mpr (hX (fN m 0))
theorem Co.bnd(h:Co m sh o)(B:x∈o):0<=x/\x<m:=by have:=(i5 m 0 x).mp (h.per.mem_iff.mp B);lia
theorem Co.beg(h:Co m sh o)(U:k<=m):Beg m sh k (rh (o.take k)) where
 rise:=o9 ((HX k o).nodup h.nodup)
 len:=by have:(rh (o.take k)).length=(o.take k).length:=(cz _).length_eq;rw[this,GL,h.len];lia
 sure:=λi h0 h1=>by have hi:i∈o:=h.per.mem_iff.mpr ((i5 m 0 i).mpr ac);obtain⟨p,B⟩:=Iz.mp hi;have:=h.near p i B;refine kU.mpr (Iz.mpr ⟨p,?_⟩);grind
 bnd:=λx L=>by
  obtain⟨p,B⟩:=Iz.mp (kU.mp L);have J:p<k:=by have:=(oe.mp B).1;rw[GL]at this;lia
  rw[List.getElem?_take,u_ J]at B;have:=h.near p x B;have:=h.bnd (Gn B);lia
theorem Co.step(h:Co m sh o)(f:o[i]?=a_ x):∃j,j<(rh (o.take (i+1))).length/\(rh (o.take (i+1))).eraseIdx j=rh (o.take i)/\(rh (o.take (i+1))).getD j 0=x:=by
 have q:=(oe.mp f).1;have U:o.take (i+1)=o.take i++[x]:=by rw[LG,f];rfl
 have c:x∈rh (o.take (i+1)):=kU.mpr (by rw[U];simp);obtain⟨j,L,k⟩:=Jx c;have p:(o.take i++[x]).Nodup:=by rw[<- U];exact(HX _ o).nodup h.nodup
 have g:iK (rh (o.take (i+1))):=o9 ((HX _ o).nodup h.nodup);refine⟨j,L,?_,by rw[m_,y_ L,k];rfl⟩
 refine zT (g.sublist (List.eraseIdx_sublist _ _)) (o9 ((HX _ o).nodup h.nodup)) λy=>?_;have e:=HJ.mp g;have n:x∉o.take i:=λz=>(HG.mp p).2.2 x z x ad rfl;rw[kU];constructor
 .intro J;obtain⟨l,B,d,Y⟩:=J_.mp J;have a:y≠x:=λz=>by
   rcases Pe d with w|w
   .have:=e l j B L w;lia
   .have:=e j l L B w;lia
  have:y∈rh (o.take (i+1)):=by rw[<- Y];exact GA B
  rw[kU,U,FL]at this;rcases this with z|z
  .exact z
  .exact FZ (Gj.mp z) a
 .intro J;have b:y∈rh (o.take (i+1)):=kU.mpr (by rw[U];simp[J]);obtain⟨l,B,Y⟩:=Jx b;exact J_.mpr ⟨l,B,λz=>n (by subst z;rw[<- k,Y];exact J),Y⟩
end
theorem ordI_id(m sh:Nat):Co m sh (iv 0 m):=⟨HN _,λi x h=>by have hi:=(oe.mp h).1;rw[fO]at hi;rw[Ee m 0 i hi]at h;cases h;lia⟩
theorem V.Good.cover{v:V}(g:v.Good){sh:Nat}{P:Pap}(L:Labs v P)(B:∀b∈BL v.fl.length sh,look P b=v.ent P b){p:List (Nat×Nat)}(d:v.Pl p){o:bm}(m:Co v.fl.length sh o)(E:p.map (λx=>(x.1:Int))=o):∀i,i<=v.fl.length->∀l,v.along v.l0 (p.take i)=a_ l->∃y∈look P (rh (o.take i)),nw y l=d_
 |0,_,l,h=>by
  rw[List.take_zero]at h;cases h;refine⟨v.l0,?_,DF _⟩
  have:rh (o.take 0)=[]:=rfl;rw[this,B [] (nH.mpr ⟨0,ac,(m.beg (k:=0) ac)⟩)];simp[V.ent]
 |i+1,hi,l,h=>by
  have Y:i<p.length:=by have:=IV JE E;rw[n_,m.len]at this;lia
  rw[r6 Y,v.mC]at h;cases e1:v.along v.l0 (p.take i)with
  |none=>rw[e1]at h;cases h|some r=>
   rw[e1]at h;obtain⟨c,U⟩:=d _ (lT Y);have e2:v.beh r (qN p i).1 (qN p i).2=a_ l:=by
    have h':(v.beh r (qN p i).1 (qN p i).2).bind (λK=>v.along K [])=a_ l:=h;cases e3:v.beh r (qN p i).1 (qN p i).2 with
    |none=>simp_all|some Q=>rw[e3]at h';cases h';rfl
   have t:v.Pl (p.take i):=λx N=>d x (IM N);obtain⟨y,G,s⟩:=g.cover L B d m E i ac r e1;have q:=g.xx (p.take i) v.l0_lab t e1;have f:=L _ y G;obtain⟨I,e4,a⟩:=g.beh_mono q f s c U e2;have ex:o[i]?=a_ ((qN p i).1:Int):=by rw[<- E,FQ,y_ Y];unfold qN;rw[m_,y_ Y];rfl
   obtain⟨j,O,A,w⟩:=m.step ex;have C:rh (o.take (i+1))∈BL v.fl.length sh:=nH.mpr ⟨i+1,hi,m.beg hi⟩;have D:I∈v.jY P (rh (o.take (i+1))):=v.uL.mpr ⟨j,O,y,by rw[A];exact G,(qN p i).2,U,by rw[w];exact e4⟩;have u:rh (o.take (i+1))≠[]:=λz=>by simp_all
   have H:look P (rh (o.take (i+1)))=qq (v.jY P (rh (o.take (i+1)))):=by rw[B _ C];unfold V.ent;rw[x_ u]
   obtain⟨z,F,e⟩:=AO D;refine⟨z,by rw[H];exact F,?_⟩
   have n:=g.uM q c U e2;have J:=g.uM f c U e4;have d:=(L _ z (by rw[H];exact F))
   simp[nw]at e a ⊢;exact⟨ac,wt (by rw[d.good.1,J.good.1]) (by rw[J.good.1,n.good.1]) d.good.2 J.good.2 n.good.2 e.2 a.2⟩
section
variable(CR CP:i_)
theorem Eo(n:Nat)(B:g.Good):fK CR CP n [g.D]=.ok (aD CR CP g.rows g.o):=by
 have J:=B.k1;have Y:=B.k3;have e1:=sH n g.k g.rows J ac B.rows;have e2:=sH n g.k g.r2 J ac B.r2;cases h:g.two with
 |false=>simp[fK,jL,iu,Gp.D,Gp.o,h,newR,e1,aD]|true=>
  have L:twoL (aJ g.rows) (aJ g.r2)=d_:=by simp[twoL,aJ,B.rows.1,B.r2.1]
  have U:newP CP (aB) [aJ g.rows,aJ g.r2]=.ok (.ins CP [("gaps",aJ g.rows),("beside",aJ g.r2)]):=by simp[newP,e1,e2,L]
  have e3:aD CR CP g.rows (aJ g.r2)=.ins CP [("gaps",aJ g.rows),("beside",aJ g.r2)]:=rfl;simp[fK,jL,iu,Gp.D,Gp.o,h,U,e3]
def BR(n:Nat)(B:g.Good){s b t:Int}(L:0<=a)(J:a<g.k)(d:0<=b)(c:b<g.k)(U:g.two=c_->s=t):cO [g.D,.tup [.int a,.int s],.tup [.int b,.int t]]=.ok (.int (apS g.rows g.r2 (a,s) (b,t))):=by
 obtain⟨j,_⟩:=v7 B.rows L J;obtain⟨i,_⟩:=getA B.rows L J d c;obtain⟨f,_⟩:=v7 B.r2 L J;obtain⟨e,_⟩:=getA B.r2 L J d c;by_cases Y:s=t
 .cases h:g.two<;>simp[cO,jO,iy,Gp.D,h,Y,aJ,j,gG,i,apS]
 .cases h:g.two with
  |false=>exact FZ (U h) Y|true=>simp[cO,jO,iy,Gp.D,h,Y,aJ,f,gG,e,apS]
def Eu:∃ds,g.D=.lst ds/\ds.length=g.s:=by unfold Gp.D Gp.s;cases g.two<;>exact⟨_,rfl,rfl⟩
theorem open2(n:Nat)(cs:List fF)(r:cs.length<=20):∀(m:Nat) (t:Int) (U:Option A'),cnt cs t+1<m->∃u,eJ cs t u/\gC (gh) (dj) m [a_ (.lst (cs.map stD)),a_ (.int t),U]=.ok (.rt (.int u))
 |0,t,U,h=>by lia|m+1,t,U,h=>by
  have Y:=sC t cs;have L:cs.length<=16777216:=ac
  have o:gh [a_ (.lst (cs.map stD)),a_ (.int t),U]=.ok d_:=by simp[gh]
  have B:=wQ (vm cs t);cases e:vm cs t with
  |nil=>
   rw[e]at B Y;refine⟨t,⟨Gg _,λ⟨p,i,h1,s⟩=>?_,λv a b=>by lia⟩,?_⟩
   .have:p.2∈vm cs t:=by
     unfold vm;exact FP.mpr ⟨p,GI.mpr ⟨i,by simp[h1,s]⟩,rfl⟩
    rw[e]at this;simp at this
   .rw[gC,o,ai,u_ rfl];simp only[IP,List.isEmpty_nil]at Y B;have k:dj [a_ (.lst (cs.map stD)),a_ (.int t),U]=.ok (.rt (.int t)):=by simp[dj,L,Y,iZ,B]
    rw[k];rfl
  |cons x xs=>
   rw[e]at B Y;obtain⟨u,l⟩:∃u,u=xs.foldl dR x:=⟨_,rfl⟩
   have J:u∈vm cs t:=by
    rw[e,l];rcases iW xs x with z|z
    .rw[z];simp
    .simp[z]
   unfold vm at J;obtain⟨p,i,g⟩:=FP.mp J;obtain⟨d,c⟩:=GI.mp i;simp at c;have j:=cnt_lt d c.2;rw[g]at j;obtain⟨v,f,ev⟩:=open2 n cs r m u (a_ (.lst ((x::xs).map .int))) ac;refine⟨v,⟨?_,f.2.1,λy a b=>?_⟩,?_⟩
   .have:=f.1;lia
   .by_cases w:y<u
    .exact⟨p,d,ac,ac⟩
    .exact f.2.2 y ac b
   .rw[gC,o,ai,u_ rfl];have q:maxD [.lst ((x::xs).map .int)]=.ok (.int u):=by
     show(bM ((x::xs).map .int)).bind maxL=_;rw[dv,ai,maxL,l]
    simp only[List.isEmpty_cons]at B;have k:dj [a_ (.lst (cs.map stD)),a_ (.int t),U]=.ok (.nx [a_ (.lst (cs.map stD)),a_ (.int u),a_ (.lst ((x::xs).map .int))]):=by simp only[r_]at Y B q ⊢;simp[dj,L,Y,iZ,B,q,-wU]
    rw[k];exact ev
theorem open2_ok(n:Nat)(L:64<=n)(cs:List fF)(J:cs.length<=20)(t:Int):∃u,eJ cs t u/\iR CR CP n [.lst (cs.map stD),.int t]=.ok (.int u):=by have U:cnt cs t<=cs.length:=List.countP_le_length;obtain⟨u,B,e⟩:=open2 n cs J n t f_ ac;exact⟨u,B,by simp[iR,pQ,e]⟩
end
theorem xE:∀B:List (fF×Int),kB ((B.map (·.1)).map stD) ((B.map (·.2)).map .int)=B.map λh=>.tup [stD h.1,.int h.2]
 |[]=>by rw[kB.eq_def];rfl|h::B=>by simp only[r_,kB,xE B]
theorem wJ:∀r:bm,mn (r.map .int)=d_
 |[]=>by simp[mn]|x::r=>by simp[mn,wJ r]
noncomputable def prD(x:Nat×Nat):A':=.tup [.int x.1,.int x.2]
def ko{ds:List A'}(h:i<ds.length):iL ds (i:Int)=.ok ds[i]:=by unfold iL atI;rw[yz h];show(match ds[i]? with|some d=>GX d|none=>stk)=_;rw[y_ h]
def V.sp(v:V)(p:List (Nat×Nat))(i:Nat):fF:=((v.pf p i).kind,((qN p i).2:Int))
def V.his(v:V)(p:List (Nat×Nat))(i:Nat):List (fF×Int):=(FN i).map λj=>(v.sp p j,v.t p j)
def V.his_fst(v:V)(p:List (Nat×Nat))(i:Nat):(v.his p (i+1)).map (·.1)=(v.his p i).map (·.1)++[v.sp p i]:=by simp[V.his,MN]
theorem V.pN(v:V)(p:List (Nat×Nat)):∀i,(v.his p i).map (·.2)=v.tms p i
 |0=>rfl|i+1=>by
  have e:(v.his p (i+1)).map (·.2)=(v.his p i).map (·.2)++[v.t p i]:=by simp[V.his,MN]
  rw[e,v.pN p i];rfl
def V.El(v:V)(p:List (Nat×Nat))(i:Nat):(v.his p i).length=i:=by simp[V.his]
section
variable(CR CP:i_)
theorem ahd_ok(n:Nat)(J:v.Good)(B:v.Pl p)(hi:i<p.length):ay (.tp [0,1]) eW (f2 cL (ae 1) (fL (cO) (aa (ae 2) (aa (ae 0) (aa (fL bG (aa (ae 4) (aa (ae 3) au))) au))))) [f_,f_,a_ v.g.D,a_ (.int (qN p i).2),a_ (.int (v.pf p i).kind)] (kB (((v.his p i).map (·.1)).map stD) (((v.his p i).map (·.2)).map .int))=.ok (((FN i).map λj=>v.t p j+v.ap p j i).map .int):=by
 rw[xE];unfold V.his;rw[D_,D_];refine d7 _ _ _ λj U=>?_;have U:=Gs.mp U;have a:=(J.Ds B (i:=j) ac).2;have Y:=(J.Ds B hi).2;have L:v.g.two=c_->((qN p j).2:Int)=((qN p i).2:Int):=λh=>by
  have e1:v.g.s=1:=by simp[Gp.s,h]
  have h1:=(B _ (lT hi)).2;have b:=(B _ (lT (p:=p) (i:=j) ac)).2;lia
 have ea:=BR n J.g a.k0 a.k1 Y.k0 Y.k1 L;refine⟨[a_ (stD (v.sp p j)),a_ (.int (v.t p j)),a_ v.g.D,a_ (.int (qN p i).2),a_ (.int (v.pf p i).kind)],rfl,?_⟩
 simp[V.sp,stD,ea,V.ap]
def tlow(v:V)(p:List (Nat×Nat))(i:Nat):((FN i).map λj=>v.t p j+v.ap p j i).foldl dR (v.pf p i).first=v.low p (v.tms p i) i i:=by
 unfold V.low;rw[P8];have key:∀(l:bo) (a:Int),(∀j∈l,j<i)->l.foldl (λx y=>dR x (v.t p y+v.ap p y i)) a=l.foldl (λx y=>dR x (tAt (v.tms p i) y+v.ap p y i)) a:=by
  intro l
  induction l with
  |nil=>intro a _;rfl|cons y l J=>intro a h;rw[FU,FU,v.ng p i y (h y ad),J _ λj B=>h j (by simp[B])]
 exact key _ _ λj B=>Gs.mp B
theorem Bh(n:Nat)(H:64<=n)(o:v.Good)(w:v.Pl p)(G:p.length<=40)(hi:i<p.length)(r t s a Y U L J:Option A'):
  ((v.pf p i).last<v.t p i/\bf CR CP n [a_ v.g.D,a_ (.lst (v.fl.map flD)),a_ (.lst (v.cs.map stD)),r,a_ (.lst (((v.his p i).map (·.1)).map stD)),a_ (.lst (((v.his p i).map (·.2)).map .int)),a_ (.int (qN p i).1),a_ (.int (qN p i).2),t,s,a,Y,U,L,J]=.ok (.rt .non)) \/
  (v.okT p i/\∃E D m l k h g,bf CR CP n [a_ v.g.D,a_ (.lst (v.fl.map flD)),a_ (.lst (v.cs.map stD)),r,a_ (.lst (((v.his p i).map (·.1)).map stD)),a_ (.lst (((v.his p i).map (·.2)).map .int)),a_ (.int (qN p i).1),a_ (.int (qN p i).2),t,s,a,Y,U,L,J]=.ok (.nx [a_ v.g.D,a_ (.lst (v.fl.map flD)),a_ (.lst (v.cs.map stD)),r,a_ (.lst (((v.his p (i+1)).map (·.1)).map stD)),a_ (.lst (((v.his p (i+1)).map (·.2)).map .int)),a_ (.int (qN p i).1),a_ (.int (qN p i).2),E,D,m,l,k,h,g])):=by
 obtain⟨f,N⟩:=o.Ds w hi;have z:=ahd_ok n o w hi;have x:=tlow v p i;generalize K:((FN i).map λj=>v.t p j+v.ap p j i)=A at z x;have I:A.length=i:=by rw[<- K];simp
 obtain⟨u,F,C⟩:=open2_ok CR CP n H v.cs o.cs (v.low p (v.tms p i) i i);have e1:u=v.t p i:=(nx_eq F).symm;subst e1;have b:(kB (((v.his p i).map (·.1)).map stD) (((v.his p i).map (·.2)).map .int)).length<=16777216:=by rw[xE,n_,v.El];lia
 have q:(v.his p i).length<16777216:=by rw[v.El];lia
 have d:maxD [.lst (.int (v.pf p i).first::A.map .int)]=.ok (.int (v.low p (v.tms p i) i i)):=by rw[<- x];exact(show(bM ((.int (v.pf p i).first::A.map .int))).bind maxL=_ from by rw[show(A'.int (v.pf p i).first::A.map .int)=((v.pf p i).first::A).map .int from rfl,dv];rfl)
 have y:ay (.tp [0,1]) eW (f2 cL (ae 1) (fL (cO) (aa (ae 2) (aa (ae 0) (aa (fL bG (aa (ae 4) (aa (ae 3) au))) au))))) [f_,f_,a_ v.g.D,a_ (.int (qN p i).2),a_ (.int (v.pf p i).kind)] (kB (((v.his p i).map (·.1)).map stD) (((v.his p i).map (·.2)).map .int))=.ok (A.map .int):=z;have B:cL (.lst [.int (v.pf p i).first]) (.lst (A.map .int))=.ok (.lst (.int (v.pf p i).first::A.map .int)):=by show(if [A'.int (v.pf p i).first].length+(A.map A'.int).length<=16777216 then _ else _)=_;rw[u_ (by simp;lia)];rfl
 have e:mQ d_ (.lst (A.map .int))=d_:=by exact wJ A
 by_cases c:(v.pf p i).last<v.t p i
 .refine .inl ⟨c,?_⟩;simp only[flD]at f;simp[bf,f,y,b,e,B,d,C,iq,c,-wU,-D_]
 .refine .inr ⟨by unfold V.okT;lia,a_ (.int (v.pf p i).kind),a_ (.int (v.pf p i).first),a_ (.int (v.pf p i).last),a_ (.int (v.pf p i).due),a_ (.int (v.pf p i).price),a_ (.lst (A.map .int)),a_ (.int (v.t p i)),?_⟩;simp only[flD]at f;rw[v.his_fst,v.pN p (i+1),V.tms,IJ,IJ,<- v.pN];simp[bf,f,y,b,e,B,d,C,iq,c,-wU,-D_,q,V.sp,stD];rw[v.pN];rfl
end
section
variable(CR CP:i_)
theorem zy(n:Nat)(y:64<=n){v:V}(w:v.Good){p:List (Nat×Nat)}(x:v.Pl p)(f:p.length<=40)(l:Option A'):∀(r i:Nat) (k g d b Y U L J B:Option A'),i+r=p.length->(∀j,j<i->v.okT p j) ->
  ((¬∀j,j<p.length->v.okT p j)/\bK (.tp [6,7]) (bf CR CP n) ((p.drop i).map prD) [a_ v.g.D,a_ (.lst (v.fl.map flD)),a_ (.lst (v.cs.map stD)),l,a_ (.lst (((v.his p i).map (·.1)).map stD)),a_ (.lst (((v.his p i).map (·.2)).map .int)),k,g,d,b,Y,U,L,J,B]=.ok (.rt .non)) \/
  ((∀j,j<p.length->v.okT p j)/\∃ρ,bK (.tp [6,7]) (bf CR CP n) ((p.drop i).map prD) [a_ v.g.D,a_ (.lst (v.fl.map flD)),a_ (.lst (v.cs.map stD)),l,a_ (.lst (((v.his p i).map (·.1)).map stD)),a_ (.lst (((v.his p i).map (·.2)).map .int)),k,g,d,b,Y,U,L,J,B]=.ok (.nx ρ)/\ae 5 ρ=.ok (.lst ((v.tms p p.length).map .int)))
 |0,i,k,g,d,b,Y,U,L,J,B,h,a=>.inr ⟨λj D=>a j ac,_,by
   have:p.drop i=[]:=by rw[show i=p.length by lia];exact Il
   rw[this];rfl,by
   have:i=p.length:=ac
   subst this;rw[v.pN];rfl⟩
 |r+1,i,k,g,d,b,Y,U,L,J,B,h,a=>by
  have hi:i<p.length:=ac
  have F:p.drop i=qN p i::p.drop (i+1):=by rw[Gq hi];unfold qN;rw[m_,y_ hi];rfl
  rw[F,r_,bK];rcases Bh CR CP n y w x f hi l d b Y U L J B with⟨c,e⟩|⟨c,C,A,t,s,q,o,m,e⟩
  .refine .inl ⟨λz=>by have:=z i hi;unfold V.okT at this;lia,?_⟩;show(dI (.tp [6,7]) (prD (qN p i)) _).bind _=_;simp[prD,e,-D_,-KN]
  .rcases zy n y w x f l r (i+1) (a_ (.int (qN p i).1)) (a_ (.int (qN p i).2)) C A t s q o m ac (λj D=>by
    by_cases z:j=i
    .rw[z];exact c
    .exact a j ac)with⟨h1,u⟩|⟨h1,ρ,u,E⟩
   .refine .inl ⟨h1,?_⟩;rw[<- u];simp[prD,e,-D_,-KN]
   .refine .inr ⟨h1,ρ,?_,E⟩;rw[<- u];simp[prD,e,-D_,-KN]
theorem yx(n:Nat)(a:64<=n)(U:v.Good)(Y:v.Pl p)(J:p.length<=40):
  ((¬∀j,j<p.length->v.okT p j)/\dM CR CP n [v.g.D,.lst (v.fl.map flD),.lst (v.cs.map stD),.lst (p.map prD)]=.ok .non) \/
  ((∀j,j<p.length->v.okT p j)/\dM CR CP n [v.g.D,.lst (v.fl.map flD),.lst (v.cs.map stD),.lst (p.map prD)]=.ok (.lst ((v.tms p p.length).map .int))):=by
 have d:(v.his p 0).map (·.1)=[]:=rfl;rcases zy CR CP n a U Y J (a_ (.lst (p.map prD))) p.length 0 f_ f_ f_ f_ f_ f_ f_ f_ f_ ac (λj c=>by lia)with⟨h1,L⟩|⟨h1,ρ,L,b⟩
 .refine .inl ⟨h1,?_⟩;have B:bK (.tp [6,7]) (bf CR CP n) (p.map prD) [a_ v.g.D,a_ (.lst (v.fl.map flD)),a_ (.lst (v.cs.map stD)),a_ (.lst (p.map prD)),a_ (.lst []),a_ (.lst []),f_,f_,f_,f_,f_,f_,f_,f_,f_]=.ok (.rt .non):=L;simp[dM,jK,B]
 .refine .inr ⟨h1,?_⟩;have B:bK (.tp [6,7]) (bf CR CP n) (p.map prD) [a_ v.g.D,a_ (.lst (v.fl.map flD)),a_ (.lst (v.cs.map stD)),a_ (.lst (p.map prD)),a_ (.lst []),a_ (.lst []),f_,f_,f_,f_,f_,f_,f_,f_,f_]=.ok (.nx ρ):=L;simp[dM,jK,B,b]
theorem EX(n:Nat){v:V}(b:v.Good){p:List (Nat×Nat)}(c:v.Pl p)(a Y:Option A'):∀(r i:Nat) (J B:Option A'),i+r=p.length->∃U L,
  bK (.tp [4,5]) (gz) (kB ((p.drop i).map prD) (((v.tms p p.length).drop i).map .int)) [a_ (.lst (v.fl.map flD)),a,Y,a_ (.int (v.cst p i)),J,B]=.ok (.nx [a_ (.lst (v.fl.map flD)),a,Y,a_ (.int (v.cst p p.length)),U,L])
 |0,i,J,B,h=>⟨J,B,by
   have:i=p.length:=ac
   subst this;rw[Il,IP,kB.eq_def];rfl⟩
 |r+1,i,J,B,h=>by
  have hi:i<p.length:=ac
  obtain⟨f,d⟩:=b.Ds c hi;obtain⟨U,L,e⟩:=EX n b c a Y r (i+1) (a_ (prD (qN p i))) (a_ (.int (v.t p i))) ac;refine⟨U,L,?_⟩
  have k:p.drop i=qN p i::p.drop (i+1):=by rw[Gq hi];unfold qN;rw[m_,y_ hi];rfl
  have l:=v.sV p p.length;have j:(v.tms p p.length).drop i=v.t p i::(v.tms p p.length).drop (i+1):=by rw[Gq ac];have:=v.ng p p.length i hi;unfold tAt at this;rw[m_,y_ ac]at this;rw[show(v.tms p p.length)[i]=v.t p i from this]
  rw[k,j,r_,r_,kB,bK,<- e];simp only[flD]at f;have o:=d.p0;have m:=d.p1;have g:tY (.int (v.pf p i).price) (.int (dR 0 (v.t p i-(v.pf p i).due)))=.ok (.int (BO (v.pf p i) (v.t p i))):=EC (by simp only[vq,t_,FO];lia);simp[gz,prD,f,g,V.cst,-EC,-EB]
theorem BM(n:Nat)(L:v.Good)(U:v.Pl p):iS [.lst (v.fl.map flD),.lst (p.map prD),.lst ((v.tms p p.length).map .int)]=.ok (.int (v.cst p p.length)):=by obtain⟨J,B,e⟩:=EX n L U (a_ (.lst (p.map prD))) (a_ (.lst ((v.tms p p.length).map .int))) p.length 0 f_ f_ ac;have Y:bK (.tp [4,5]) (gz) (kB (p.map prD) ((v.tms p p.length).map .int)) [a_ (.lst (v.fl.map flD)),a_ (.lst (p.map prD)),a_ (.lst ((v.tms p p.length).map .int)),a_ (.int 0),f_,f_]=.ok (.nx [a_ (.lst (v.fl.map flD)),a_ (.lst (p.map prD)),a_ (.lst ((v.tms p p.length).map .int)),a_ (.int (v.cst p p.length)),J,B]):=e;simp[iS,pR,Y]
end
def lD(o:bm):A':=.lst (o.map .int)
def near(B:Nat)(p f:Int):Bool:=A_ (-(B:Int)<=f-p)&&A_ (f-p<=B)
def lvl(B:Nat)(P:Nat->bm->Int->Bool):Nat->List bm
 |0=>[[]]|s+1=>(lvl B P s).flatMap λo=>((iv 0 B).filter (P s o)).map λf=>o++[f]
theorem DU{B:Nat}{P:Nat->bm->Int->Bool}:∀{s:Nat} {o:bm},o∈lvl B P s->o.length=s
 |0,o,h=>by simp[lvl]at h;simp[h]|s+1,o,h=>by rw[lvl,ME]at h;obtain⟨o',h1,J⟩:=h;obtain⟨f,_,rfl⟩:=FP.mp J;rw[FK,DU h1];rfl
def lj(J B:Nat):Nat->List bm:=lvl J λs o f=>A_ (f∉o)&&near B s f
theorem fq{J B:Nat}:∀{s:Nat} (o:bm),o∈lj J B s↔o.length=s/\o.Nodup/\(∀x∈o,0<=x/\x<(J:Int))/\∀(i:Nat) (hi:i<o.length),near B i o[i]=d_
 |0,o=>by
  constructor
  .intro h;have:o=[]:=by simpa[lj,lvl] using h
   subst this;simp
  .rintro⟨h,_⟩;rw[HZ.mp h];simp[lj,lvl]
 |s+1,o=>by
  unfold lj;rw[lvl,ME];constructor
  .rintro⟨o',h1,k⟩;obtain⟨f,j,rfl⟩:=FP.mp k;obtain⟨c,b,Y,U⟩:=(fq o').mp h1;obtain⟨l,d⟩:=GI.mp j;rw[t_,FO]at d;have f3:=(i5 _ _ _).mp l;refine⟨by rw[FK,c];rfl,?_,λx L=>?_,λi hi=>?_⟩
   .rw[HG];exact⟨b,ad,λx L y g=>by simp at g;subst g;exact λe=>d.1 (e▸L)⟩
   .rcases FL.mp L with z|z
    .exact Y x z
    .simp at z;subst z;lia
   .by_cases z:i<o'.length
    .rw[List.getElem_append_left z];exact U i z
    .have:i=s:=by rw[FK]at hi;simp at hi;lia
     subst this;rw[List.getElem_append_right ac];simp only[c,JS,List.getElem_cons_zero];exact d.2
  .rintro⟨c,b,Y,U⟩;have e:o=o.take s++[o[s]'(by omega)]:=by rw[List.take_append_getElem,G5 ac]
   have a:=b;rw[e,HG]at a;refine⟨o.take s,(fq _).mpr ⟨by rw[GL];lia,a.1,λx L=>Y x (IM L),λi hi=>?_⟩,FP.mpr ⟨o[s]'(by omega),GI.mpr ⟨(i5 _ _ _).mpr ?_,?_⟩,e.symm⟩⟩
   .rw[JM];exact U i _
   .have:=Y _ (GA (show s<o.length by lia));lia
   .rw[t_,FO];exact⟨λz=>a.2.2 _ z _ ad rfl,U s ac⟩
theorem mZ{p:Pat}{ft:ah->M Bool}{fe:ah->M A'}{ρ0:ah}(b:Int->Bool)(f:Int->A'):∀xs:bm,(∀x∈xs,∃ρ,dI p (.int x) ρ0=.ok ρ/\ft ρ=.ok (b x)/\(b x=d_->fe ρ=.ok (f x)))->ay p ft fe ρ0 (xs.map .int)=.ok ((xs.filter b).map f)
 |[],_=>rfl|x::xs,h=>by
  obtain⟨ρ,e1,e2,e3⟩:=h x ad;have J:=mZ b f xs λy L=>h y (by simp[L]);rw[r_,ay,e1,ai,e2,ai];by_cases B:b x=d_
  .rw[u_ B,e3 B,ai,J,ai,NI B];rfl
  .rw[x_ B,J,NJ B]
def any_int(f:Int)(b:bm):((b.map A'.int).any λd=>eqD d (.int f))=A_ (f∈b):=by
 rw[Ll];simp only[MF,FP,FO];constructor
 .rintro⟨d,⟨x,J,rfl⟩,B⟩;simp[eqD]at B;rw[<- B];exact J
 .intro h;exact⟨.int f,⟨f,h,rfl⟩,by simp[eqD]⟩
def notInL(f:Int)(b:bm):w9 (.int f) (.lst (b.map .int))=.ok (.bl (!decide (f∈b))):=by show(if (H8 (.int f) 40&&lh (b.map A'.int) 40)=d_ then GX (A'.bl (!(b.map A'.int).any λd=>eqD d (.int f)))else stk)=_;rw[any_int];simp[H8]
theorem wc:∀{l m:bm},l.Nodup->(∀x∈l,x∈m)->l.length<=m.length
 |[],m,_,_=>Gi _|a::l,m,h,J=>by rw[IH]at h;have L:=J a ad;have:=wc (l:=l) (m:=m.erase a) h.2 λx B=>(Of (show x≠a from λe=>h.1 (e▸B))).mpr (J x (by simp[B]));rw[Nv L]at this;have:=List.length_pos_of_mem L;simp;lia
theorem Ew{f:bm->List bm}{c:Nat}:∀l:List bm,(∀o∈l,(f o).length<=c)->(l.flatMap f).length<=l.length*c
 |[],_=>by simp|o::l,h=>by rw[Jl,FK,E_,QJ];have:=Ew l λx B=>h x (by simp[B]);have:=h o ad;lia
def Ex(J B s:Nat)(o:bm):List bm:=((iv 0 J).filter λf=>A_ (f∉o)&&near B s f).map λf=>o++[f]
def pF(J B s:Nat):lj J B (s+1)=(lj J B s).flatMap (Ex J B s):=rfl
theorem extO_len(J B s:Nat)(o:bm):(Ex J B s o).length<=2*B+1:=by
 unfold Ex;rw[n_];have:=wc (l:=(iv 0 J).filter λf=>A_ (f∉o)&&near B s f) (m:=iv ((s:Int)-B) (2*B+1)) (Kz List.filter_sublist (hX (fN J 0))) λx L=>(i5 _ _ _).mpr (by have:=(GI.mp L).2;unfold near at this;simp only[t_,FO]at this;lia)
 rw[fO]at this;exact this
theorem oA(J B:Nat):∀s:Nat,(lj J B s).length<=(2*B+1)^s
 |0=>by simp[lj,lvl]|s+1=>by rw[pF,Mz];exact Cb (Ew _ λo _=>extO_len J B s o) (Kc _ (oA J B s))
section
variable{CR:i_}
theorem law_in(n B J s:Nat)(w:B<=41)(u:J<=3)(c:s<=41)(a:Option A'):∀(U L:List bm) (b Y:Option A'),(∀o∈U,o.length<50)->L.length+(U.flatMap (Ex B J s)).length<=10000000 ->
  ∃l k,bK (.nm 5) (eI) (U.map lD) [a_ (.int B),a_ (.int J),a,a_ (.int s),a_ (.lst (L.map lD)),b,Y]=.ok (.nx [a_ (.int B),a_ (.int J),a,a_ (.int s),a_ (.lst ((L++U.flatMap (Ex B J s)).map lD)),l,k])
 |[],L,b,Y,_,_=>⟨b,Y,by simp[bK]⟩|o::U,L,b,Y,i,y=>by
  rw[Jl,FK]at y;obtain⟨p,m,e2⟩:=law_in n B J s w u c a U (L++Ex B J s o) (a_ (lD o)) (a_ (.lst (((iv 0 B).filter λf=> !decide (f∈o)).map .int))) (λx t=>i x (by simp[t])) (by rw[FK];lia);refine⟨p,m,?_⟩
  have r:(-4611686018427387904:Int)<=(B:Int):=ac
  have k2:(B:Int)<4611686018427387904:=ac
  have q:((B:Int)).toNat=B:=ac
  have v:=i o ad;have C:ay (.nm 0) (fB (f2 w9 (ae 0) (ae 1))) (ae 0) [f_,a_ (lD o)] ((iv 0 B).map .int)=.ok (((iv 0 B).filter λf=> !decide (f∈o)).map .int):=
   mZ _ _ _ λx _=>⟨[a_ (.int x),a_ (lD o)],ad,by simp[show w9 (.int x) (lD o)=.ok (.bl (!decide (x∈o)))from notInL x o],λ_=>by simp⟩
  have j:ay (.nm 0) (fB (fS leD leD (f1 yv (ae 1)) (f2 vj (ae 0) (ae 2)) (ae 1))) (f2 cL (ae 3) (fL bc (aa (ae 0) au))) [f_,a_ (.int J),a_ (.int s),a_ (lD o)] (((iv 0 B).filter λf=> !decide (f∈o)).map .int)=.ok ((((iv 0 B).filter λf=> !decide (f∈o)).filter λf=>near J s f).map λf=>lD (o++[f])):=
   mZ _ _ _ λx _=>⟨[a_ (.int x),a_ (.int J),a_ (.int s),a_ (lD o)],ad,by
    unfold near;by_cases h1: -(J:Int)<=x-s
    .simp[fS,leD,yv,vj,h1]
    .simp[fS,leD,yv,vj,h1],λ_=>by
    have:o.length+1<=16777216:=ac
    simp[cL,lD,this]⟩
  have A:(((iv 0 B).filter λf=> !decide (f∈o)).filter λf=>near J s f).map (λf=>lD (o++[f]))=(Ex B J s o).map lD:=by
   unfold Ex;rw[List.filter_filter,D_]
   congr 1
   refine List.filter_congr λf _=>?_;rw[Bool.and_comm];simp
  rw[A]at j;have e:((iv 0 B).filter λf=> !decide (f∈o)).length<=16777216:=Cb (List.length_filter_le _ _) (by rw[fO];lia);have d:(iv 0 B).length<=16777216:=by rw[fO];lia
  have g:(Ex B J s o).length<=16777216:=ac
  have h:L.length+(Ex B J s o).length<=16777216:=ac
  have z:eI [a_ (.int B),a_ (.int J),a,a_ (.int s),a_ (.lst (L.map lD)),a_ (lD o),Y]=.ok (.nx [a_ (.int B),a_ (.int J),a,a_ (.int s),a_ (.lst ((L++Ex B J s o).map lD)),a_ (lD o),a_ (.lst (((iv 0 B).filter λf=> !decide (f∈o)).map .int))]):=by simp[eI,r,k2,q,iz,C,j,e,g,h,d]
  rw[r_,bK];simp only[iI,Gb,FV,ai,z];rw[e2,Jl,FX]
theorem E8(n J B:Nat)(j:J<=41)(i:B<=3)(l:∀k,k<=J->(lj J B k).length<=10000000):∀(m s:Nat) (a Y U L:Option A'),s+m<=J ->
  ∃q p c b,bK (.nm 3) (eG) ((iv (s:Int) m).map .int) [a_ (.int J),a_ (.int B),a_ (.lst ((lj J B s).map lD)),a,Y,U,L]=.ok (.nx [a_ (.int J),a_ (.int B),a_ (.lst ((lj J B (s+m)).map lD)),q,p,c,b])
 |0,s,a,Y,U,L,_=>⟨a,Y,U,L,by simp[bK,iv]⟩|m+1,s,a,Y,U,L,h=>by
  have d:=l (s+1) ac;obtain⟨c,b,e⟩:=law_in n J B s j i ac (a_ (.lst ((lj J B s).map lD))) (lj J B s) [] U L (λo w=>by have:=DU w;lia) (by rw[<- pF];simpa using d);rw[<- pF,II,IP]at e;obtain⟨v,u,t,r,e2⟩:=E8 n J B j i l m (s+1) (a_ (.int s)) (a_ (.lst ((lj J B (s+1)).map lD))) c b ac;have e3:s+1+m=s+(m+1):=ac
  have g:((s+1:Nat):Int)=(s:Int)+1:=ac
  rw[e3,g]at e2;refine⟨v,u,t,r,?_⟩
  have f:eG [a_ (.int J),a_ (.int B),a_ (.lst ((lj J B s).map lD)),a_ (.int s),Y,U,L]=.ok (.nx [a_ (.int J),a_ (.int B),a_ (.lst ((lj J B (s+1)).map lD)),a_ (.int s),a_ (.lst ((lj J B (s+1)).map lD)),c,b]):=by simp[eG,e]
  rw[iv_snoc,r_,bK];simp only[iI,Gb,FV,ai,f];rw[e2]
theorem BN(n B J:Nat)(a:B<=41)(Y:J<=3)(b:∀k,k<=B->(lj B J k).length<=10000000):gq [.int B,.int J]=.ok (.lst ((lj B J B).map lD)):=by
 obtain⟨h,g,f,d,e⟩:=E8 n B J a Y b B 0 f_ f_ f_ f_ ac;rw[GY]at e;have c:(lj B J 0).map lD=[.lst []]:=rfl;rw[c]at e;have U:(-4611686018427387904:Int)<=(B:Int):=ac
 have k2:(B:Int)<4611686018427387904:=ac
 have L:((B:Int)).toNat=B:=ac
 have e1:(((0:Nat):Int))=0:=rfl;rw[e1]at e;simp[gq,mj,U,k2,L,iz,e]
end
def cutD_to(l:List A')(a:Nat)(h:a<=l.length):dT (.lst l) f_ (a_ (a:Int))=.ok (.lst (l.take a)):=by simp
theorem xk(l:List A')(a:Nat)(h:a<=l.length):dT (.lst l) (a_ (a:Int)) f_=.ok (.lst (l.drop a)):=by
 show GX (A'.lst (yZ l (a_ (a:Int)) f_))=_
 congr 2
 unfold yZ cX;dsimp only;rw[x_ ac,IQ,Kh h];rw[G5 (by rw[Hy];lia)]
def plD(p:List (Nat×Nat)):A':=.lst (p.map prD)
def plO(o:bm):List (Nat×Nat):=o.map λf=>(f.toNat,0)
def up1(k:Nat)(p:List (Nat×Nat)):List (Nat×Nat):=p.set k ((qN p k).1,1)
def plK(m s:Nat):Nat->List (List (Nat×Nat))
 |0=>(lj m s m).map plO|k+1=>plK m s k++(plK m s k).map (up1 k)
theorem tJ(m s:Nat):∀k,(plK m s k).length=(lj m s m).length*2^k
 |0=>by simp[plK]|k+1=>by rw[plK,FK,n_,tJ m s k,Mz,<- QA];lia
theorem oi{m s:Nat}:∀{k:Nat} {p:List (Nat×Nat)},p∈plK m s k->p.length=m
 |0,p,h=>by obtain⟨o,J,rfl⟩:=FP.mp h;simp[plO,((fq o).mp J).1]
 |k+1,p,h=>by
  rcases FL.mp h with h|h
  .exact oi h
  .obtain⟨q,B,rfl⟩:=FP.mp h;unfold up1;rw[Gd];exact oi B
theorem tI{m s:Nat}:∀{k:Nat} {p:List (Nat×Nat)},k<=m->(p∈plK m s k↔p.map (λx=>(x.1:Int))∈lj m s m/\∀i x,p[i]?=a_ x->x.2<=1/\(k<=i->x.2=0))
 |0,p,_=>by
  constructor
  .intro h;obtain⟨o,a,rfl⟩:=FP.mp h;have g:=((fq o).mp a).2.2.1;have e:(plO o).map (λx=>(x.1:Int))=o:=by
    unfold plO;rw[D_]
    conv=>rhs;rw[<- Og o]
    refine Hk λf d=>?_;have:=(g f d).1;simp;lia
   refine⟨by rw[e];exact a,λi x B=>?_⟩
   obtain⟨f,_,rfl⟩:=FP.mp (Gn B);exact⟨ad,λ_=>rfl⟩
  .rintro⟨h1,J⟩;refine FP.mpr ⟨_,h1,?_⟩;unfold plO;rw[D_]
   conv=>rhs;rw[<- Og p]
   refine Hk λx B=>?_;obtain⟨i,hi⟩:=Iz.mp B;have:=(J i x hi).2 (Gi _);simp;exact Mo rfl this.symm
 |k+1,p,n=>by
  rw[plK,FL,tI ac];constructor
  .rintro(⟨h1,J⟩|h)
   .exact⟨h1,λi x B=>⟨(J i x B).1,λz=>(J i x B).2 ac⟩⟩
   .obtain⟨q,Y,rfl⟩:=FP.mp h;have b:=oi Y;obtain⟨h1,J⟩:=(tI ac).mp Y;unfold up1;have e:(q.set k ((qN q k).1,1)).map (λx=>(x.1:Int))=q.map λx=>(x.1:Int):=by
     rw[Ms];refine KI λi=>?_;by_cases z:k=i
     .subst z;rw[z_ (by simp;lia),FQ,y_ ac];simp[qN,show k<q.length by lia]
     .rw[v_ z]
    refine⟨by rw[e];exact h1,λi x B=>?_⟩
    by_cases z:k=i
    .subst z;rw[z_ ac]at B;cases B;exact⟨k_ _,λw=>by lia⟩
    .rw[v_ z]at B;exact⟨(J i x B).1,λw=>(J i x B).2 ac⟩
  .rintro⟨h1,J⟩;have l:p.length=m:=by
    have:=((fq _).mp h1).1;simpa using this
   have L:k<p.length:=ac
   have U:p[k]?=a_ (qN p k):=by rw[y_ L];simp[qN,L]
   by_cases c:(qN p k).2=0
   .refine .inl ⟨h1,λi x B=>⟨(J i x B).1,λz=>?_⟩⟩;by_cases w:k=i
    .subst w;rw[U]at B;cases B;exact c
    .exact(J i x B).2 ac
   .have j:(qN p k).2=1:=by have:=(J k _ U).1;lia
    refine .inr (FP.mpr ⟨p.set k ((qN p k).1,0),(tI ac).mpr ⟨?_,λi x B=>?_⟩,?_⟩)
    .have e:(p.set k ((qN p k).1,0)).map (λx=>(x.1:Int))=p.map λx=>(x.1:Int):=by
      rw[Ms];refine KI λi=>?_;by_cases z:k=i
      .subst z;rw[z_ (by simp;lia),FQ,U];rfl
      .rw[v_ z]
     rw[e];exact h1
    .by_cases z:k=i
     .subst z;rw[z_ L]at B;cases B;exact⟨ad,λ_=>rfl⟩
     .rw[v_ z]at B;exact⟨(J i x B).1,λw=>(J i x B).2 ac⟩
    .unfold up1;have e2:qN (p.set k ((qN p k).1,0)) k=((qN p k).1,0):=by
      unfold qN;rw[m_,z_ L];rfl
     rw[e2,List.set_set];refine KI λi=>?_;by_cases z:k=i
     .subst z;rw[z_ L,U];exact IV a_ (Mo rfl j.symm)
     .rw[v_ z]
section
variable{CR:i_}
theorem zZ(n:Nat){m s:Nat}(w:m<=8)(g:(plK m s m).length<=16777216)(a Y U:Option A'):∀(r k:Nat) (b:Option A'),k+r<=m->∃d,
  bK (.nm 4) (dB) (aL (k:Int) r) [a,Y,U,a_ (.lst ((plK m s k).map plD)),b]=.ok (.nx [a,Y,U,a_ (.lst ((plK m s (k+r)).map plD)),d])
 |0,k,b,_=>⟨b,rfl⟩|r+1,k,b,h=>by
  obtain⟨d,e⟩:=zZ n w g a Y U r (k+1) (a_ (.int k)) ac;refine⟨d,?_⟩
  have J:(plK m s (k+1)).length<=16777216:=by rw[tJ]at g ⊢;have:2^(k+1)<=2^m:=GO ac ac;exact Cb (Kq _ this) g
  have x:ay (.nm 0) eW (f2 cL (f2 cL (fSl dT (ae 0) nP (l7 (ae 1))) (fL bc (aa (fL bG (aa (f2 ixD (f2 ixD (ae 0) (ae 1)) (fC (.int 0))) (aa (fC (.int 1)) au))) au))) (fSl dT (ae 0) (l7 (f2 cL (ae 1) (fC (.int 1)))) nP)) [f_,a_ (.int (k:Int))] ((plK m s k).map plD)=.ok (((plK m s k).map (up1 k)).map plD):=by
   rw[D_];refine d7 _ _ _ λp v=>?_;have u:=oi v;refine⟨[a_ (plD p),a_ (.int (k:Int))],ad,?_⟩
   have i:=cutD_to (p.map prD) k (by simp;lia);have g2:=xk (p.map prD) (k+1) (by simp;lia);have o:iL (p.map prD) (k:Int)=.ok (prD (qN p k)):=by rw[ko (by simp;lia)];simp[qN,show k<p.length by lia]
   have z:((k:Int)+1)=((k+1:Nat):Int):=ac
   have f:((p.map prD).take k).length+1<=16777216:=by simp;lia
   have c:((p.map prD).take k).length+1+((p.map prD).drop (k+1)).length<=16777216:=by simp;lia
   have q:(up1 k p).map prD=(p.map prD).take k++[prD ((qN p k).1,1)]++(p.map prD).drop (k+1):=by unfold up1;rw[Ms,List.set_eq_take_append_cons_drop,u_ (by simp;lia),FX];rfl
   show _=GX (plD (up1 k p));unfold plD;rw[q];clear q;generalize p.map prD=L at i g2 o f c ⊢;generalize L.take k=A at i f c ⊢;generalize L.drop (k+1)=B at g2 c ⊢;rw[<- z]at g2;simp[i,g2,o,prD,cL,f,c]
  have l:(plK m s k).length+((plK m s k).map (up1 k)).length<=16777216:=by rw[plK,FK]at J;exact J
  have t:(plK m s k).length<=16777216:=ac
  have y:dB [a,Y,U,a_ (.lst ((plK m s k).map plD)),a_ (.int (k:Int))]=.ok (.nx [a,Y,U,a_ (.lst ((plK m s (k+1)).map plD)),a_ (.int (k:Int))]):=by rw[plK,IJ];simp only[n_]at l;simp[dB,x,t,cL,l,-D_]
  have j:((k+1:Nat):Int)=(k:Int)+1:=ac
  rw[j,show k+1+r=k+(r+1) by lia]at e;rw[kZ,bK];simp only[iI,Gb,FV,ai,y];exact e
theorem Dm(n:Nat){s:Nat}(p:m<=8)(j:s<=3)(L:st=1\/st=2)(q:st=2->m<=6):dN [.int m,.int s,.int st]=.ok (.lst ((plK m s (if st=2 then m else 0)).map plD)):=by
 have B:∀k,k<=m->(lj m s k).length<=10000000:=λk u=>by
  refine Cb (oA m s k) ?_
  calc (2*s+1)^k<=7^k:=Kp ac _
   _<=7^8:=GO ac ac
   _<=10000000:=by decide
 have e:=BN n m s ac j B;have c:ay (.nm 0) eW (aZ (fIt (ae 0)) [f_] (.nm 0) eW (fL bG (aa (ae 0) (aa (fC (.int 0)) au)))) [f_] ((lj m s m).map lD)=.ok ((plK m s 0).map plD):=by
  show _=GX (((lj m s m).map plO).map plD);rw[D_];refine d7 _ _ _ λo l=>⟨[a_ (lD o)],ad,?_⟩
  obtain⟨t,_,g,_⟩:=(fq o).mp l;have a:ay (.nm 0) eW (fL bG (aa (ae 0) (aa (fC (.int 0)) au))) [f_] (o.map .int)=.ok ((plO o).map prD):=by
   unfold plO;rw[D_];refine d7 _ _ _ λf r=>⟨[a_ (.int f)],ad,?_⟩
   have h0:=(g f r).1;have:((f.toNat:Nat):Int)=f:=ac
   simp[prD,this]
  have Y:o.length<=16777216:=ac
  simp[lD,a,Y,plD]
 have b:(lj m s m).length<=16777216:=by have:=B m (k_ _);lia
 have i:(-4611686018427387904:Int)<=(m:Int):=ac
 have k2:(m:Int)<4611686018427387904:=ac
 have h:((m:Int)).toNat=m:=ac
 rcases L with rfl|rfl
 .simp[dN,jM,iw,e,c,b]
 .have J:=q rfl;have U:(plK m s m).length<=16777216:=by
   rw[tJ];have h1:=oA m s m;have x:(2*s+1)^m*2^m<=7^6*2^6:=Iy (Cb (Kp ac _) (GO ac J)) (GO ac J);have w:(lj m s m).length*2^m<=(2*s+1)^m*2^m:=Kc _ h1;have v:(7:Nat)^6*2^6<=16777216:=by decide
   lia
  obtain⟨d,e2⟩:=zZ n p U (a_ (.int m)) (a_ (.int s)) (a_ (.int 2)) m 0 f_ ac;rw[GY]at e2;have e3:bK (.nm 4) (dB) (aL 0 m) [a_ (.int m),a_ (.int s),a_ (.int 2),a_ (.lst ((plK m s 0).map plD)),f_]=.ok (.nx [a_ (.int m),a_ (.int s),a_ (.int 2),a_ (.lst ((plK m s m).map plD)),d]):=e2;simp[dN,jM,iw,e,c,b,i,k2,h,e3]
end
open Classical in
def V.cstO(v:V)(p:List (Nat×Nat)):Option Int:=if ∀j,j<p.length->v.okT p j then some (v.cst p p.length)else none
def mnO:bm->Option Int
 |[]=>f_|i::is=>a_ (is.foldl kx i)
noncomputable def jA:Option Int->A'
 |none=>.non|some c=>.int c
theorem foldl_min:∀(xs:bm) (x:Int),(xs.foldl kx x=x\/xs.foldl kx x∈xs)/\xs.foldl kx x<=x/\∀y∈xs,xs.foldl kx x<=y
 |[],x=>⟨.inl rfl,Gg _,λy h=>nomatch h⟩
 |a::xs,x=>by
  obtain⟨h1,b,L⟩:=foldl_min xs (kx x a);obtain⟨Y,U,B⟩:=minZ_le x a;rw[FU];refine⟨?_,ac,λy J=>?_⟩
  .rcases h1 with e|e
   .rw[e];rcases B with z|z
    .exact .inl z
    .exact .inr (by rw[z];simp)
   .exact .inr (by simp[e])
  .rcases p_.mp J with z|z
   .rw[z];lia
   .exact L y z
def ke(h:mnO xs=a_ c):c∈xs/\∀y∈xs,c<=y:=by
 cases xs with
 |nil=>cases h|cons i is=>
  cases h;obtain⟨h1,L,J⟩:=foldl_min is i;refine⟨?_,λy B=>?_⟩
  .rcases h1 with e|e
   .rw[e];simp
   .simp[e]
  .rcases p_.mp B with z|z
   .rw[z];exact L
   .exact J y z
def tZ(h:mnO xs=f_):xs=[]:=by
 cases xs with
 |nil=>rfl|cons i is=>cases h
theorem mnO_ext(h1:∀x∈xs,∃y∈ys,y<=x)(L:∀y∈ys,∃x∈xs,x<=y):mnO xs=mnO ys:=by
 cases e1:mnO xs with
 |none=>
  have:=tZ e1;subst this;cases e2:mnO ys with
  |none=>rfl|some d=>obtain⟨x,J,_⟩:=L d (ke e2).1;cases J
 |some c=>
  obtain⟨f,e⟩:=ke e1;obtain⟨y,B,U⟩:=h1 c f;cases e2:mnO ys with
  |none=>rw[tZ e2]at B;cases B|some d=>
   obtain⟨b,a⟩:=ke e2;obtain⟨x,J,Y⟩:=L d b;have:=e x J;have:=a y B
   congr 1
   lia
def DQ(xs:bm):wg (.lst (xs.map .int)) .non=.ok (jA (mnO xs)):=by rw[e_minKI,dv,ai];cases xs<;>rfl
section
variable(CR CP:i_)
theorem uc(n:Nat)(i:64<=n){v:V}(a:v.Good)(B:Option A'):∀(ps:List (List (Nat×Nat))) (xs:bm) (Y J:Option A'),(∀p∈ps,v.Pl p/\p.length<=40)->xs.length+ps.length<16777216->∃U L,
  bK (.nm 5) (aX CR CP n) (ps.map plD) [a_ v.g.D,a_ (.lst (v.fl.map flD)),a_ (.lst (v.cs.map stD)),B,a_ (.lst (xs.map .int)),Y,J]=.ok (.nx [a_ v.g.D,a_ (.lst (v.fl.map flD)),a_ (.lst (v.cs.map stD)),B,a_ (.lst ((xs++ps.filterMap v.cstO).map .int)),U,L])
 |[],xs,Y,J,_,_=>⟨Y,J,by simp[bK]⟩|p::ps,xs,Y,J,h,m=>by
  obtain⟨l,g⟩:=h p ad;rw[E_]at m;have d:xs.length<16777216:=ac
  rcases yx CR CP n i a l g with⟨c,e⟩|⟨c,e⟩
  .have k:v.cstO p=f_:=x_ c;obtain⟨U,L,b⟩:=uc n i a B ps xs (a_ (plD p)) (a_ .non) (λq f=>h q (by simp[f])) ac;refine⟨U,L,?_⟩
   have j:aX CR CP n [a_ v.g.D,a_ (.lst (v.fl.map flD)),a_ (.lst (v.cs.map stD)),B,a_ (.lst (xs.map .int)),a_ (plD p),J]=.ok (.nx [a_ v.g.D,a_ (.lst (v.fl.map flD)),a_ (.lst (v.cs.map stD)),B,a_ (.lst (xs.map .int)),a_ (plD p),a_ .non]):=by simp[aX,dH,plD,e]
   rw[r_,bK,Jy,k];simp only[iI,Gb,FV,ai,j];exact b
  .have k:v.cstO p=a_ (v.cst p p.length):=u_ c;have ek:=BM n a l;obtain⟨U,L,b⟩:=uc n i a B ps (xs++[v.cst p p.length]) (a_ (plD p)) (a_ (.lst ((v.tms p p.length).map .int))) (λq f=>h q (by simp[f])) (by simp;lia);refine⟨U,L,?_⟩
   have j:aX CR CP n [a_ v.g.D,a_ (.lst (v.fl.map flD)),a_ (.lst (v.cs.map stD)),B,a_ (.lst (xs.map .int)),a_ (plD p),J]=.ok (.nx [a_ v.g.D,a_ (.lst (v.fl.map flD)),a_ (.lst (v.cs.map stD)),B,a_ (.lst ((xs++[v.cst p p.length]).map .int)),a_ (plD p),a_ (.lst ((v.tms p p.length).map .int))]):=by have k2:vZ (.lst ((v.tms p p.length).map .int)) .non=.ok (.bl d_):=rfl;simp[aX,dH,plD,e,ek,d,k2]
   rw[r_,bK,Jy,k];simp only[iI,Gb,FV,ai,j];rw[b,FX];rfl
end
def V.pls(v:V)(s:Nat):List (List (Nat×Nat)):=plK v.fl.length s (if v.g.s=2 then v.fl.length else 0)
def V.PS(v:V)(s:Nat):bm:=(v.pls s).filterMap v.cstO
theorem V.eR{s:Nat}:p∈v.pls s↔p.map (λx=>(x.1:Int))∈lj v.fl.length s v.fl.length/\v.Pl p:=by
 obtain⟨s1,s2⟩:=v.g.s2;unfold V.pls;rw[tI (by split<;>lia)];refine and_congr_right λh=>?_;have L:=((fq _).mp h).2.2.1;have h1:p.length=v.fl.length:=by have:=((fq _).mp h).1;simpa using this
 constructor
 .intro z x J;obtain⟨i,hi⟩:=Iz.mp J;have B:=(oe.mp hi).1;have a:=L x.1 (FP.mpr ⟨x,J,rfl⟩);obtain⟨Y,U⟩:=z i x hi;refine⟨ac,?_⟩
  by_cases c:v.g.s=2
  .lia
  .have:=U (by rw[x_ c];exact Gi _);lia
 .intro z i x hi;have B:=(oe.mp hi).1;have:=(z x (Gn hi)).2;refine⟨ac,λw=>?_⟩
  by_cases c:v.g.s=2
  .rw[u_ c]at w;lia
  .lia
section
variable(CR CP:i_)
theorem least_ok(n:Nat)(i:64<=n)(d:v.Good){s:Nat}(U:v.fl.length<=8)(f:s<=3)(B:v.g.s=2->v.fl.length<=6):bX CR CP n [v.g.D,.lst (v.fl.map flD),.lst (v.cs.map stD),.int s]=.ok (jA (mnO (v.PS s))):=by
 obtain⟨s1,s2⟩:=v.g.s2;have ep:=Dm n (st:=v.g.s) U f ac B;have j:(v.pls s).length<16777216:=by
  unfold V.pls;rw[tJ];have h1:=oA v.fl.length s v.fl.length;by_cases c:v.g.s=2
  .have Y:=B c;rw[u_ c];have B:(2*s+1)^v.fl.length*2^v.fl.length<=7^6*2^6:=Iy (Cb (Kp ac _) (GO ac Y)) (GO ac Y);have r:=Kc (2^v.fl.length) h1;have k:(7:Nat)^6*2^6<16777216:=by decide
   lia
  .rw[x_ c];have B:(2*s+1)^v.fl.length<=7^8:=Cb (Kp ac _) (GO ac U);have k:(7:Nat)^8<16777216:=by decide
   lia
 obtain⟨b,a,e⟩:=uc CR CP n i d (a_ (.int s)) (v.pls s) [] f_ f_ (λp h=>by obtain⟨q1,q2⟩:=V.eR.mp h;have:=((fq _).mp q1).1;rw[n_]at this;exact⟨q2,ac⟩) (by simpa using j)
 rw[II]at e;have m:bK (.nm 5) (aX CR CP n) ((v.pls s).map plD) [a_ v.g.D,a_ (.lst (v.fl.map flD)),a_ (.lst (v.cs.map stD)),a_ (.int s),a_ (.lst []),f_,f_]=.ok (.nx [a_ v.g.D,a_ (.lst (v.fl.map flD)),a_ (.lst (v.cs.map stD)),a_ (.int s),a_ (.lst ((v.PS s).map .int)),b,a]):=e;obtain⟨ds,q,o⟩:=Eu (g:=v.g);have l:kJ [v.g.D]=.ok (.int v.g.s):=by
  have:ds.length<=16777216:=ac
  rw[q,<- o];simp[this]
 have ep':dN [.int v.fl.length,.int s,.int v.g.s]=.ok (.lst ((v.pls s).map plD)):=ep;have J:v.fl.length<=16777216:=ac
 have L:=DQ (v.PS s);simp[bX,iH,l,ep',m,J,L]
end
theorem perm_of{m:bm}(J:l.Nodup)(h:∀x∈l,x∈m)(e:l.length=m.length):l.Perm m:=by
 induction l generalizing m with
 |nil=>have:m=[]:=HZ.mp e.symm;rw[this]|cons x l Y=>
  rw[IH]at J;have U:=h x ad;refine(List.Perm.cons x (Y J.2 (λy L=>?_) ?_)).trans (List.perm_cons_erase U).symm
  .have B:y≠x:=λz=>J.1 (z▸L);exact(Of B).mpr (h y (by simp[L]))
  .rw[Nv U];simp at e;lia
def pU(h:i<b.length):(b.eraseIdx i++[b.getD i 0]).Perm b:=by
 have e:b.getD i 0=b[i]:=by simp[h]
 rw[e,MB];have e2:b=b.take i++b[i]::b.drop (i+1):=by rw[<- Gq h,GV]
 conv=>rhs;rw[e2]
 rw[FX];exact Nc _ (List.perm_append_singleton _ _)
theorem V.rM(v:V){s:Nat}{P:Pap}(B:P.map (·.1)=BL v.fl.length s)(L:∀b∈BL v.fl.length s,look P b=v.ent P b):∀(k:Nat) (b:bm),b.length=k->∀l∈look P b,
  ∃p:List (Nat×Nat),v.Pl p/\(p.map λx=>(x.1:Int)).Perm b/\(∀(i:Nat) (x:Int),(p.map λx=>(x.1:Int))[i]?=a_ x->(i:Int)-s<=x/\x<=i+s)/\v.along v.l0 p=a_ l
 |0,b,m,l,J=>by
  have e:b=[]:=HZ.mp m;subst e;have g:[]∈BL v.fl.length s:=by
   rw[<- B];by_cases c:[]∈P.map (·.1)
   .exact c
   .rw[gK c]at J;cases J
  rw[L [] g]at J;unfold V.ent at J;rw[u_ rfl]at J;cases Gj.mp J;exact⟨[],(λx o=>nomatch o),HN _,(λi x h=>by simp at h),rfl⟩
 |k+1,b,m,l,J=>by
  have g:b∈BL v.fl.length s:=by
   rw[<- B];by_cases c:b∈P.map (·.1)
   .exact c
   .rw[gK c]at J;cases J
  have r:b≠[]:=λz=>by rw[z]at m;cases m
  rw[L b g]at J;unfold V.ent at J;rw[x_ r]at J;obtain⟨i,hi,A,a,st,q,e⟩:=v.uL.mp (uK J);have u:b.eraseIdx i∈BL v.fl.length s:=by
   rw[<- B];by_cases c:b.eraseIdx i∈P.map (·.1)
   .exact c
   .rw[gK c]at a;cases a
  have K:=jQ hi;obtain⟨p,E,U,Y,w⟩:=v.rM B L k (b.eraseIdx i) ac A a;obtain⟨T,G,y⟩:=nH.mp g;obtain⟨k2,F,g2⟩:=nH.mp u;have S:=y.len;have R:=g2.len;have f:b.getD i 0∈b:=getD_in hi;obtain⟨C,Q,O⟩:=y.bnd _ f;have t:=hX y.rise;have d:b.getD i 0∉b.eraseIdx i:=λz=>by have h1:=(pU hi).nodup_iff.mpr t;rw[HG]at h1;exact h1.2.2 _ z _ ad rfl
  have I:(k2:Int)-s<=b.getD i 0:=by
   by_cases c:b.getD i 0<(k2:Int)-s
   .exact FZ (g2.sure _ C c) d
   .lia
  have D:p.length=k:=by have:=U.length_eq;rw[n_]at this;lia
  refine⟨p++[((b.getD i 0).toNat,st)],λx o=>?_,?_,λj x h=>?_,?_⟩
  .rcases FL.mp o with z|z
   .exact E x z
   .rw[Gj.mp z];exact⟨by show(b.getD i 0).toNat<_;lia,q⟩
  .have N:(((b.getD i 0).toNat:Nat):Int)=b.getD i 0:=ac
   rw[IJ];show(_++[(((b.getD i 0).toNat:Nat):Int)]).Perm b;rw[N];exact(U.append_right _).trans (pU hi)
  .rw[IJ]at h;by_cases c:j<p.length
   .rw[GC (by simpa using c)]at h;exact Y j x h
   .have H:j=p.length:=by
     have:=(oe.mp h).1;simp at this;lia
    subst H;have e1:x=(((b.getD i 0).toNat:Nat):Int):=by simpa using h.symm
    rw[e1];lia
  .rw[v.mC,w];show(v.beh A (b.getD i 0).toNat st).bind (λn=>v.along n [])=_;rw[e];rfl
def V.Good.FA(B:v.Good)(J:v.Pl p){l:LK}(h:v.along v.l0 p=a_ l):(∀j,j<p.length->v.okT p j)/\l=v.lab p p.length:=by
 have:=B.k7 J p.length (k_ _);rw[IT,h]at this;by_cases c:∀j,j<p.length->v.okT p j
 .rw[u_ c]at this;exact⟨c,G7 this⟩
 .rw[x_ c]at this;cases this
theorem A4{s:Nat}{o:bm}:o∈lj m s m↔Co m s o:=by
 rw[fq];constructor
 .rintro⟨h1,U,L,J⟩;refine⟨perm_of U (λx B=>(i5 _ _ _).mpr (by have:=L x B;lia)) (by rw[fO,h1]),λi x B=>?_⟩
  obtain⟨hi,e⟩:=oe.mp B;have:=J i hi;unfold near at this;simp only[t_,FO]at this;rw[e]at this;lia
 .intro h;refine⟨h.len,h.nodup,λx B=>h.bnd B,λi hi=>?_⟩
  have:=h.near i o[i] ad;unfold near;simp only[t_,FO];lia
def V.Good.Bl(k:v.Good){s:Nat}(h:Labs v P)(Y:P.map (·.1)=BL v.fl.length s)(J:∀b∈BL v.fl.length s,look P b=v.ent P b):mnO ((look P (iv 0 v.fl.length)).map (·.1))=mnO (v.PS s):=by
 refine mnO_ext (λx r=>?_) λy q=>?_
 .obtain⟨l,t,rfl⟩:=FP.mp r;obtain⟨p,i,f,U,B⟩:=v.rM Y J _ _ rfl l t;obtain⟨m,e⟩:=k.FA i B;refine⟨_,Iq.mpr ⟨p,V.eR.mpr ⟨A4.mpr ⟨f,U⟩,i⟩,u_ m⟩,?_⟩
  rw[e];exact Gg _
 .obtain⟨p,i,e⟩:=Iq.mp q;obtain⟨L,d⟩:=V.eR.mp i;have L:=A4.mp L;unfold V.cstO at e;by_cases c:∀j,j<p.length->v.okT p j
  .rw[u_ c]at e;have g:p.length=v.fl.length:=by have:=L.len;simpa using this
   have B:=k.k7 d p.length (k_ _);rw[u_ c]at B;obtain⟨o,a,n⟩:=k.cover h J d L rfl v.fl.length (k_ _) _ (by rw[<- g];exact B);have es:rh ((p.map λx=>(x.1:Int)).take v.fl.length)=iv 0 v.fl.length:=by rw[G5 (by rw[L.len];exact k_ _)];exact zT (o9 L.nodup) (fN _ _) λx=>by rw[kU];exact L.per.mem_iff
   rw[es]at a;refine⟨o.1,FP.mpr ⟨o,a,rfl⟩,?_⟩
   unfold nw at n;simp only[t_,FO]at n;cases e;exact n.1
  .rw[x_ c]at e;cases e
section
variable(CR CP:i_)
def Ca(ls:bT):ay (.nm 0) eW (f2 ixD (ae 0) (fC (.int 0))) [f_] (ls.map Lake.bO)=.ok ((ls.map (·.1)).map .int):=by
 rw[D_];refine d7 _ _ _ λl _=>⟨[a_ (Lake.bO l)],ad,?_⟩
 simp[Lake.bO]
theorem told_ok(n:Nat)(e:CR≠CP)(a:v.Good){s:Nat}(I:v.fl.length<=8)(p:s<=3)(t:(v.g.s*(s+1))^v.fl.length<=262144)(q:aR [.int v.fl.length,.int s]=.ok (.int c))(r:c*v.g.s^v.fl.length<=5000):
  cg CR CP n [v.g.D,.lst (v.fl.map flD),.lst (v.cs.map stD),.int s]=.ok (jA (mnO (v.PS s))):=by
 obtain⟨h,ep⟩:=paper_ok CR CP n e a ac t p q r;obtain⟨o,m⟩:=BL_ok v.fl.length s;have B:=v.A3 (BL v.fl.length s) [];rw[IP,II]at B;have J:=v.A2 (BL v.fl.length s) [] (by simpa using o) m;have L:∀b,(look (v.pap [] (BL v.fl.length s)) b).length<=262144:=λb=>h.many t b;have U:=h.lab;clear h;generalize v.pap [] (BL v.fl.length s)=P at *;have d:[]∈BL v.fl.length s:=nH.mpr ⟨0,ac,((ordI_id v.fl.length s).beg (k:=0) ac)⟩;have first:look P []=[v.l0]:=by rw[J [] d];simp[V.ent]
 have u:=yA CR CP n e a ac p q r U L B first;have D:(BL v.fl.length s).all (v.jz P)=d_:=Im.mpr λb C=>V.Bs (J b C);rw[D]at u;have g:iv 0 v.fl.length∈P.map (·.1):=by rw[B];refine nH.mpr ⟨v.fl.length,k_ _,fN _ _,fO _ _,λi h0 h1=>(i5 _ _ _).mpr ac,λx w=>?_⟩;have:=(i5 _ _ _).mp w;lia
 have Y:ixKD (.dic (lH P)) (ba (iv 0 v.fl.length))=.ok (nC (look P (iv 0 v.fl.length))):=by rw[wV,wy,ai,Ep _ P g]
 have y:=L (iv 0 v.fl.length);have j:=Ca (look P (iv 0 v.fl.length));have f:=DQ ((look P (iv 0 v.fl.length)).map (·.1));rw[a.Bl U B J]at f;have E:(look P (iv 0 v.fl.length)).length<=16777216:=ac
 have H:=Eo CR CP n a.g;have z:=a.many;have A:=a.cs;have G:v.fl.length<=16777216:=ac
 have l:v.cs.length<=16777216:=ac
 have f3:(-4611686018427387904:Int)<=(v.fl.length:Int):=ac
 have f4:(v.fl.length:Int)<4611686018427387904:=ac
 have f5:((v.fl.length:Int)).toNat=v.fl.length:=ac
 have F:(iv 0 v.fl.length).length<=16777216:=by rw[fO];lia
 unfold nC at Y;unfold ba at Y;generalize v.g.D=K at *;generalize look P (iv 0 v.fl.length)=N at *;simp[cg,pP,mB,H,ep,u,G,l,f3,f4,f5,F,iz,Y,j,E,f,-D_]
theorem we(n:Nat)(h:∀x∈xs,∃y∈ys,y<=x)(h0:∀y∈ys,0<=y):bu [jA (mnO ys),jA (mnO xs)]=.ok (.bl d_):=by
 cases e1:mnO ys with
 |none=>
  have e2:mnO xs=f_:=by
   cases e2:mnO xs with
   |none=>rfl|some d=>obtain⟨y,B,_⟩:=h d (ke e2).1;rw[tZ e1]at B;cases B
  rw[e2];simp[bu,dE,cH,jA,isND]
 |some c=>
  obtain⟨a,Y⟩:=ke e1;have L:=h0 c a;cases e2:mnO xs with
  |none=>simp[bu,dE,cH,jA,isND,L]|some d=>
   obtain⟨y,B,U⟩:=h d (ke e2).1;have:=Y y B;have J:c<=d:=ac
   simp[bu,dE,cH,jA,isND,L,J]
end
structure V.Eas(v w:V)(p:List (Nat×Nat)):Prop where
 first:∀i,i<p.length->(w.pf p i).first<=(v.pf p i).first
 last:∀i,i<p.length->(v.pf p i).last<=(w.pf p i).last
 due:∀i,i<p.length->(w.pf p i).due=(v.pf p i).due
 price:∀i,i<p.length->(w.pf p i).price=(v.pf p i).price
 ap:∀j i,j<i->i<p.length->w.ap p j i<=v.ap p j i
 cs:∀c∈w.cs,c∈v.cs
theorem DK{B:List fF}{t t' J:Int}(h:eJ cs t u)(h':eJ B t' J)(Y:t'<=t)(U:∀c∈B,c∈cs):J<=u:=by
 by_cases e:u<J
 .obtain⟨p,L,h1⟩:=h'.2.2 u (by have:=h.1;lia) e;exact FZ ⟨p,U p L,h1⟩ h.2.1
 .lia
section
variable{w:V}
theorem V.Eas.t_le(z:v.Eas w p)(J:v.Good)(hw:w.Good):∀m i,i<m->i<p.length->w.t p i<=v.t p i
 |0,i,h,_=>FZ h (Lq _)|m+1,i,_,hi=>by refine DK (J.nxt _) (hw.nxt _) (w.DY p _ _ _ (Hi (z.first i hi) (v.lZ p _ _ _)) _ λl B=>?_) z.cs;have h1:=v.u6 p (v.tms p i) i i l B;rw[v.ng p i l B]at h1;rw[w.ng p i l B];have U:=z.t_le J hw m l ac ac;have L:=z.ap l i B hi;lia
theorem V.Eas.ok(z:v.Eas w p)(B:v.Good)(hw:w.Good)(hi:i<p.length)(h:v.okT p i):w.okT p i:=by have h1:=z.t_le B hw (i+1) i ac hi;have J:=z.last i hi;unfold V.okT at h ⊢;lia
theorem V.Eas.cst_le(z:v.Eas w p)(B:v.Good)(hw:w.Good)(J:v.Pl p):∀k,k<=p.length->w.cst p k<=v.cst p k
 |0,_=>Gg _|k+1,U=>by have L:=z.cst_le B hw J k ac;have h1:=z.t_le B hw (k+1) k ac ac;have g:=(B.Ds J (i:=k) ac).2;have p0:=g.p0;unfold V.cst BO;rw[z.due k ac,z.price k ac];have:=MP (pq (Gg 0) (show w.t p k-(v.pf p k).due<=v.t p k-(v.pf p k).due by lia)) p0;lia
theorem V.Good.cst0(B:v.Good)(J:v.Pl p):∀k,k<=p.length->0<=v.cst p k
 |0,_=>Gg _|k+1,U=>by have L:=B.cst0 J k ac;have g:=(B.Ds J (i:=k) ac).2;have:=Np g.p0 (u4 0 (v.t p k-(v.pf p k).due)).1;unfold V.cst BO;lia
def V.Good.PS0(J:v.Good){s:Nat}:∀y∈v.PS s,0<=y:=λy B=>by
 obtain⟨p,L,e⟩:=Iq.mp B;unfold V.cstO at e;split at e
 .cases e;exact J.cst0 (V.eR.mp L).2 _ (k_ _)
 .cases e
def V.Eas.less(B:v.Good)(hw:w.Good){s s':Nat}(h:∀p∈v.pls s,p∈w.pls s'/\v.Eas w p):∀x∈v.PS s,∃y∈w.PS s',y<=x:=λx Y=>by
 obtain⟨p,J,e⟩:=Iq.mp Y;obtain⟨h1,U⟩:=h p J;unfold V.cstO at e;split at e
 .rename_i c;cases e;exact⟨_,Iq.mpr ⟨p,h1,u_ λj L=>U.ok B hw L (c j L)⟩,U.cst_le B hw (V.eR.mp J).2 _ (k_ _)⟩
 .cases e
end
def V.Eas.same(v:V)(p:List (Nat×Nat)):v.Eas v p:=⟨λ_ _=>Gg _,λ_ _=>Gg _,λ_ _=>rfl,λ_ _=>rfl,λ_ _ _ _=>Gg _,λ_ h=>h⟩
def ease_cs(B:List fF)(h:∀c∈B,c∈v.cs){s:Nat}:∀p∈v.pls s,p∈(V.mk v.g v.fl B).pls s/\v.Eas (V.mk v.g v.fl B) p:=λp J=>⟨J,⟨λ_ _=>Gg _,λ_ _=>Gg _,λ_ _=>rfl,λ_ _=>rfl,λ_ _ _ _=>Gg _,h⟩⟩
theorem C3{s:Nat}:∀p∈v.pls s,p∈v.pls (s+1)/\v.Eas v p:=λp L=>by obtain⟨h1,U⟩:=V.eR.mp L;have B:=A4.mp h1;exact⟨V.eR.mpr ⟨A4.mpr ⟨B.per,λi x J=>by have:=B.near i x J;lia⟩,U⟩,V.Eas.same v p⟩
def Fli.later(f:Fli):Fli:={f with last:=f.last+5}
def BX(fl:List Fli)(h:i<fl.length):nU (fl.map Fli.later) (i:Int)=(nU fl (i:Int)).later:=by unfold nU;simp[h]
theorem C4{s:Nat}:∀p∈v.pls s,p∈(V.mk v.g (v.fl.map Fli.later) v.cs).pls s/\v.Eas (V.mk v.g (v.fl.map Fli.later) v.cs) p:=λp U=>by
 obtain⟨h1,B⟩:=V.eR.mp U;have e:∀i,i<p.length->(V.mk v.g (v.fl.map Fli.later) v.cs).pf p i=(v.pf p i).later:=λi hi=>BX v.fl (B _ (lT hi)).1;have L:(v.fl.map Fli.later).length=v.fl.length:=n_ ..;refine⟨V.eR.mpr ⟨by show _∈lj (v.fl.map Fli.later).length s (v.fl.map Fli.later).length;rw[L];exact h1,λx J=>⟨by show x.1<(v.fl.map Fli.later).length;rw[L];exact(B x J).1,(B x J).2⟩⟩,⟨λi hi=>?_,λi hi=>?_,λi hi=>?_,λi hi=>?_,λj i Y hi=>?_,λc h=>h⟩⟩
 .rw[e i hi];exact Gg _
 .rw[e i hi];show(v.pf p i).last<=(v.pf p i).last+5;lia
 .rw[e i hi];rfl
 .rw[e i hi];rfl
 .unfold V.ap;rw[e i hi,e j ac];exact Gg _
def ease_gap{s:Nat}(g':Gp)(L:g'.s=v.g.s)(h:∀a b,apS g'.rows g'.r2 a b<=apS v.g.rows v.g.r2 a b):∀p∈v.pls s,p∈(V.mk g' v.fl v.cs).pls s/\v.Eas (V.mk g' v.fl v.cs) p:=λp U=>by obtain⟨h1,J⟩:=V.eR.mp U;refine⟨V.eR.mpr ⟨h1,λx B=>⟨(J x B).1,by show x.2<g'.s;rw[L];exact(J x B).2⟩⟩,⟨λ_ _=>Gg _,λ_ _=>Gg _,λ_ _=>rfl,λ_ _=>rfl,λ_ _ _ _=>h _ _,λ_ h=>h⟩⟩
theorem C1(h1:v.g.two=c_)(B:List bm){s:Nat}:∀p∈v.pls s,p∈(V.mk ⟨v.g.k,v.g.rows,d_,B⟩ v.fl v.cs).pls s/\v.Eas (V.mk ⟨v.g.k,v.g.rows,d_,B⟩ v.fl v.cs) p:=λp L=>by
 obtain⟨q1,q2⟩:=V.eR.mp L;have U:v.g.s=1:=by simp[Gp.s,h1]
 have z:∀i,i<p.length->(qN p i).2=0:=λi hi=>by have:=(q2 _ (lT hi)).2;lia
 refine⟨V.eR.mpr ⟨q1,λx J=>⟨(q2 x J).1,by show x.2<2;have:=(q2 x J).2;lia⟩⟩,⟨λ_ _=>Gg _,λ_ _=>Gg _,λ_ _=>rfl,λ_ _=>rfl,λj i Y hi=>?_,λ_ h=>h⟩⟩
 unfold V.ap apS;rw[u_ (by rw[z i hi,z j ac]),u_ (by rw[z i hi,z j ac])];exact Gg _
section
variable(CR CP:i_)
theorem f7(n:Nat)(ns:bm)(k:Int)(h0:0<=k)(h1:k<1000000):∃x,aI [.lst (ns.map .int),.int k]=.ok (.int x):=by
 by_cases U:k<ns.length
 .exact⟨_,by simp[aI,iV,gw,U,getI_int h0 U];rfl⟩
 .have B:=wQ ns;by_cases d:0<ns.length
  .have L:(0:Int)<ns.length:=ac
   have c:0<=k%(ns.length:Int):=GZ _ ac;have Y:k%(ns.length:Int)<(ns.length:Int):=GK _ L;have J:ns.isEmpty=c_:=by cases ns with|nil=>simp at d|cons a b=>rfl
   have e: -18446744073709551616<k:=ac
   have k2:k<18446744073709551616:=ac
   rw[J]at B;exact⟨_,by simp[aI,iV,gw,U,j4,B,getI_int c Y,pX L,e,k2];rfl⟩
  .have J:ns.isEmpty=d_:=by cases ns with|nil=>rfl|cons a b=>simp at d
   rw[J]at B;exact⟨0,by simp[aI,iV,gw,U,j4,B]⟩
theorem yF(n:Nat)(ns:bm):∃b,ck [.lst (ns.map .int)]=.ok (.bl b):=by
 obtain⟨c,B⟩:=f7 n ns 1 ac ac;by_cases h:c/384%2=1
 .exact⟨d_,by simp[ck,lA,B,h]⟩
 .exact⟨c_,by simp[ck,lA,B,h]⟩
theorem gap_v(c:Int):∃v m:Int,0<=v/\v<=1000000/\0<m/\iL [.int 40,.int 1000001] (c/4%2)=.ok (.int m)/\iL [.int 0,.int (c/4%10),.int (c/4%10),.int (c/4%m)] (c%4)=.ok (.int v):=by
 obtain⟨m,B,L,J⟩:∃m:Int,0<m/\m<=1000001/\iL [.int 40,.int 1000001] (c/4%2)=.ok (.int m):=by
  have q:c/4%2=0\/c/4%2=1:=ac
  rcases q with h|h
  .exact⟨40,ac,ac,by rw[h];simp⟩
  .exact⟨1000001,ac,ac,by rw[h];simp⟩
 have Y:0<=c/4%m:=GZ _ ac;have U:c/4%m<m:=GK _ B;have q:c%4=0\/c%4=1\/c%4=2\/c%4=3:=ac
 rcases q with h|h|h|h
 .exact⟨0,m,ac,ac,B,J,by rw[h];simp⟩
 .exact⟨c/4%10,m,ac,ac,B,J,by rw[h];simp⟩
 .exact⟨c/4%10,m,ac,ac,B,J,by rw[h];simp⟩
 .exact⟨c/4%m,m,ac,ac,B,J,by rw[h];simp⟩
theorem gapr_row(n:Nat)(ns:bm)(b:Nat)(k B:Nat)(rows:List A')(U L J:Option A')(Q:b<=100)(G:k<=3)(O:B<k):
  ∃(r:bm) (j h f:Option A'),qu k r/\bK (.nm 6) (dq) (aL 0 k) [a_ (.lst (ns.map .int)),a_ (.int b),a_ (.int k),a_ (.lst rows),a_ (.int B),a_ (.lst []),U,L,J]=.ok (.nx [a_ (.lst (ns.map .int)),a_ (.int b),a_ (.int k),a_ (.lst rows),a_ (.int B),a_ (gG r),j,h,f]):=by
 obtain⟨ρ',e,r,j,h,f,rfl,h1,I⟩:=ic (p:=.nm 6) (g:=dq)
  (λi ρ=>∃(r:bm) (U L J:Option A'),ρ=[a_ (.lst (ns.map .int)),a_ (.int b),a_ (.int k),a_ (.lst rows),a_ (.int B),a_ (gG r),U,L,J]/\r.length=i/\∀x∈r,0<=x/\x<=1000000) (aL 0 k) 0 _ ⟨[],U,L,J,rfl,rfl,ad⟩ (by
  rintro i d ρ H ⟨r,U,L,J,rfl,D,t⟩;obtain⟨hi,rfl⟩:=gA H;have P:(k:Int)*B<=9:=by
   have:k*B<=3*3:=Iy G ac
   exact_mod_cast this
  have E:0<=(k:Int)*B:=Np ac ac;obtain⟨c,N⟩:=f7 n ns ((b:Int)+(k:Int)*B+(i:Int)) ac ac;obtain⟨v,m,o,l,w,K,ev⟩:=gap_v c;have A: -18446744073709551616<(k:Int):=ac
  have k2:(k:Int)<18446744073709551616:=ac
  have F:r.length<16777216:=ac
  obtain⟨fr,a⟩:=yF n ns;obtain⟨u,s,q,Y⟩:∃u:Int,0<=u/\u<=1000000/\d9 [a_ (.lst (ns.map .int)),a_ (.int b),a_ (.int k),a_ (.lst rows),a_ (.int B),a_ (gG r),a_ (.int i),a_ (.int c),a_ (.int v)]=.ok (.nx [a_ (.lst (ns.map .int)),a_ (.int b),a_ (.int k),a_ (.lst rows),a_ (.int B),a_ (gG r),a_ (.int i),a_ (.int c),a_ (.int u)]):=by
   cases fr with
   |false=>exact⟨v,o,l,by simp[d9,a]⟩|true=>exact⟨c%1000001,ac,ac,by simp[d9,a]⟩
  refine⟨[a_ (.lst (ns.map .int)),a_ (.int b),a_ (.int k),a_ (.lst rows),a_ (.int B),a_ (gG r),a_ (.int i),L,J],ad,[a_ (.lst (ns.map .int)),a_ (.int b),a_ (.int k),a_ (.lst rows),a_ (.int B),a_ (gG (r++[u])),a_ (.int i),a_ (.int c),a_ (.int u)],.inl ?_,_,_,_,_,rfl,by simp;lia,λy C=>?_⟩
  .rw[gG]at Y;simp[dq,A,k2,N,K,pX w,ev,F,gG,Y]
  .rcases FL.mp C with z|z
   .exact t y z
   .simp at z;subst z;exact⟨s,q⟩)
 rw[GY,cw]at h1;exact⟨r,j,h,f,⟨h1,I⟩,e⟩
theorem yE(n:Nat)(ns:bm)(b k:Nat)(u:b<=100)(s:k<=3):∃rows,fG k rows/\bY [.lst (ns.map .int),.int b,.int k]=.ok (aJ rows):=by
 have j: -4611686018427387904<=(k:Int):=ac
 have k2:(k:Int)<4611686018427387904:=ac
 obtain⟨ρ',e,rows,A,x,h,f,c,rfl,h1,v⟩:=ic (p:=.nm 4) (g:=fj)
  (λi ρ=>∃(rows:List bm) (a U L J B:Option A'),ρ=[a_ (.lst (ns.map .int)),a_ (.int b),a_ (.int k),a_ (aJ rows),a,U,L,J,B]/\rows.length=i/\∀r∈rows,qu k r) (aL 0 k) 0 [a_ (.lst (ns.map .int)),a_ (.int b),a_ (.int k),a_ (.lst []),f_,f_,f_,f_,f_] ⟨[],f_,f_,f_,f_,f_,rfl,rfl,ad⟩ (by
  rintro i d ρ t ⟨rows,a,U,L,J,B,rfl,m,Y⟩;obtain⟨hi,rfl⟩:=gA t;obtain⟨r,h,f,c,o,w⟩:=gapr_row n ns b k i (rows.map gG) L J B u s hi;have q:rows.length<16777216:=ac
  refine⟨[a_ (.lst (ns.map .int)),a_ (.int b),a_ (.int k),a_ (aJ rows),a_ (.int i),U,L,J,B],ad,[a_ (.lst (ns.map .int)),a_ (.int b),a_ (.int k),a_ (aJ (rows++[r])),a_ (.int i),a_ (gG r),h,f,c],.inl ?_,_,_,_,_,_,_,rfl,by simp;lia,λy l=>?_⟩
  .simp[fj,j,k2,aJ,w,q]
  .rcases FL.mp l with z|z
   .exact Y y z
   .simp at z;subst z;exact o)
 rw[GY,cw]at h1;exact⟨rows,⟨h1,v⟩,by simp[bY,jN,j,k2,e]⟩
theorem gps_ok(n:Nat)(ns:bm):∃g:Gp,g.Good/\gJ [.lst (ns.map .int)]=.ok g.D:=by
 obtain⟨c,d⟩:=f7 n ns 0 ac ac;obtain⟨k,a⟩:∃k:Nat,1+c%3=k:=⟨(1+c%3).toNat,ac⟩
 obtain⟨rows,b,U⟩:=yE n ns 3 k ac ac;have f:k*k<=3*3:=Iy ac ac;obtain⟨Y,B,J⟩:=yE n ns (3+k*k) k ac ac;have L:((3+k*k:Nat):Int)=3+(k:Int)*k:=by simp
 rw[L]at J;simp only[Ph]at U;have e: -18446744073709551616<(k:Int):=ac
 have k2:(k:Int)<18446744073709551616:=ac
 by_cases h:c/3%3=1
 .exact⟨⟨k,rows,d_,Y⟩,⟨by show 1<=k;lia,by show k<=3;lia,b,B⟩,by simp[gJ,lx,j3,d,a,U,h,e,k2,J,Gp.D]⟩
 .exact⟨⟨k,rows,c_,Y⟩,⟨by show 1<=k;lia,by show k<=3;lia,b,B⟩,by simp[gJ,lx,j3,d,a,U,h,Gp.D]⟩
end
section
variable(CR CP:i_)
theorem BD(n:Nat)(ns:bm):ck [.lst (ns.map .int)]=.ok (.bl c_)->∃cs:List fF,cs.length<=20/\(∀p∈cs,p.1<p.2)/\cY [.lst (ns.map .int)]=.ok (.lst (cs.map stD)):=by
 intro a;obtain⟨c,A⟩:=f7 n ns 1 ac ac;obtain⟨C,b⟩:=f7 n ns 2 ac ac;obtain⟨B,I,x⟩:∃m:Nat,m<=20/\iL [.int (c%4),.int (c%4),.int 20] (c/4%8/3)=.ok (.int m):=by
  have q:c/4%8/3=0\/c/4%8/3=1\/c/4%8/3=2:=ac
  have j:((c%4).toNat:Int)=c%4:=ac
  rcases q with h|h|h
  .exact⟨(c%4).toNat,ac,by rw[h,j];simp⟩
  .exact⟨(c%4).toNat,ac,by rw[h,j];simp⟩
  .exact⟨20,ac,by rw[h];simp⟩
 have U: -4611686018427387904<=(B:Int):=ac
 have k2:(B:Int)<4611686018427387904:=ac
 obtain⟨ρ',e,cs,F,E,D,rfl,h1,w⟩:=ic (p:=.nm 4) (g:=gU)
  (λi ρ=>∃(cs:List fF) (f L J:Option A'),ρ=[a_ (.lst (ns.map .int)),a_ (.int c),a_ (.int B),a_ (.lst (cs.map stD)),f,L,J]/\cs.length=i/\∀p∈cs,p.1<p.2) (aL 0 B) 0 [a_ (.lst (ns.map .int)),a_ (.int c),a_ (.int B),a_ (.lst []),f_,f_,f_] ⟨[],f_,f_,f_,rfl,rfl,ad⟩ (by
  rintro i d ρ v ⟨cs,f,L,J,rfl,s,Y⟩;obtain⟨hi,rfl⟩:=gA v;have u:cs.length<16777216:=ac
  have H:(0:Int)<=(i:Int)*i:=Np ac ac;have G:(i:Int)*i<=400:=by
   have:i*i<=20*20:=Iy ac ac
   exact_mod_cast this
  have p0:(0:Int)<(i:Int)*i+1:=ac
  have p1:(i:Int)*i+1<18446744073709551616:=ac
  have U: -18446744073709551616<(i:Int):=ac
  have k2:(i:Int)<18446744073709551616:=ac
  have l: -18446744073709551616<17*(i:Int):=ac
  have k:17*(i:Int)<18446744073709551616:=ac
  obtain⟨t,r⟩:∃t,t=C/((i:Int)*i+1)+17*(i:Int)*(c/32%3):=⟨_,rfl⟩
  refine⟨[a_ (.lst (ns.map .int)),a_ (.int c),a_ (.int B),a_ (.lst (cs.map stD)),a_ (.int i),L,J],ad,[a_ (.lst (ns.map .int)),a_ (.int c),a_ (.int B),a_ (.lst ((cs++[(t%50,t%50+1+t/50%9)]).map stD)),a_ (.int i),a_ (.int t),a_ (.int (t%50))],.inl ?_,_,_,_,_,rfl,by simp;lia,λy o=>?_⟩
  .simp[gU,b,U,k2,l,k,e_fdiv p0 p1,<- r,u,stD]
  .rcases FL.mp o with z|z
   .exact Y y z
   .simp at z;subst z;show t%50<t%50+1+t/50%9;lia)
 rw[GY,cw]at h1;exact⟨cs,ac,w,by simp[cY,iU,gT,a,A,x,U,k2,e]⟩
theorem BZ(n:Nat)(ns:bm):∃cs:List fF,cs.length<=20/\(∀p∈cs,p.1<p.2)/\cG [.lst (ns.map .int)]=.ok (.lst (cs.map stD)):=by
 obtain⟨c,t⟩:=f7 n ns 2 ac ac;obtain⟨B,k⟩:∃m:Nat,c/9%21=m:=⟨(c/9%21).toNat,ac⟩
 have Y: -4611686018427387904<=(B:Int):=ac
 have k2:(B:Int)<4611686018427387904:=ac
 obtain⟨ρ',e,cs,r,v,u,rfl,h1,q⟩:=ic (p:=.nm 4) (g:=du)
  (λi ρ=>∃(cs:List fF) (r:Int) (U J:Option A'),ρ=[a_ (.lst (ns.map .int)),a_ (.int r),a_ (.int B),a_ (.lst (cs.map stD)),U,J]/\cs.length=i/\∀p∈cs,p.1<p.2) (aL 0 B) 0 [a_ (.lst (ns.map .int)),a_ (.int (c/9/21)),a_ (.int B),a_ (.lst []),f_,f_] ⟨[],_,f_,f_,rfl,rfl,ad⟩ (by
  rintro i d ρ o ⟨cs,r,U,J,rfl,f,L⟩;obtain⟨hi,rfl⟩:=gA o;have l:cs.length<16777216:=ac
  obtain⟨s,b⟩:∃s,s=r%1000000000:=⟨_,rfl⟩
  have j:(0:Int)<1000000000-s:=ac
  have h:0<=r/1000000000%(1000000000-s):=GZ _ ac;refine⟨[a_ (.lst (ns.map .int)),a_ (.int r),a_ (.int B),a_ (.lst (cs.map stD)),a_ (.int i),J],ad,[a_ (.lst (ns.map .int)),a_ (.int (r/1000000000000000000)),a_ (.int B),a_ (.lst ((cs++[(s,s+1+r/1000000000%(1000000000-s))]).map stD)),a_ (.int i),a_ (.int s)],.inl ?_,_,_,_,_,rfl,by simp;lia,λy a=>?_⟩
  .simp[du,<- b,pX j,l,stD]
  .rcases FL.mp a with z|z
   .exact L y z
   .simp at z;subst z;show s<s+1+r/1000000000%(1000000000-s);lia)
 rw[GY,cw]at h1;exact⟨cs,ac,q,by simp[cG,i8,t,k,Y,k2,e]⟩
def F8(n:Nat)(ns:bm):∃cs:List fF,cs.length<=20/\(∀p∈cs,p.1<p.2)/\cY [.lst (ns.map .int)]=.ok (.lst (cs.map stD)):=by
 obtain⟨b,eb⟩:=yF n ns;cases b with
 |false=>exact BD n ns eb|true=>obtain⟨cs,h1,B,e⟩:=BZ n ns;exact⟨cs,h1,B,by simp[cY,iU,gT,eb,e]⟩
def Fls(k:Nat)(f:Fli):Prop:=qv k f/\f.last<=999999995
theorem yk(n:Nat)(ns:bm)(k:Nat)(Q:1<=k)(B:Nat)(hm:B<=40):ck [.lst (ns.map .int)]=.ok (.bl c_)->∃fl:List Fli,fl.length=B/\(∀f∈fl,Fls k f)/\cy [.lst (ns.map .int),.int 21,.int k,.int B]=.ok (.lst (fl.map flD)):=by
 intro t;have K: -4611686018427387904<=(B:Int):=ac
 have k2:(B:Int)<4611686018427387904:=ac
 have C:(0:Int)<k:=ac
 obtain⟨ρ',e,fl,y5,y6,y7,y8,y9,H,G,F,rfl,h1,S⟩:=ic (p:=.nm 5) (g:=gc)
  (λi ρ=>∃(fl:List Fli) (u r o l j a Y U:Option A'),ρ=[a_ (.lst (ns.map .int)),a_ (.int 21),a_ (.int k),a_ (.int B),a_ (.lst (fl.map flD)),u,r,o,l,j,a,Y,U]/\fl.length=i/\∀f∈fl,Fls k f) (aL 0 B) 0 [a_ (.lst (ns.map .int)),a_ (.int 21),a_ (.int k),a_ (.int B),a_ (.lst []),f_,f_,f_,f_,f_,f_,f_,f_] ⟨[],f_,f_,f_,f_,f_,f_,f_,f_,rfl,rfl,ad⟩ (by
  rintro i d ρ R ⟨fl,u,r,o,l,j,a,Y,U,rfl,O,s⟩;obtain⟨hi,rfl⟩:=gA R;have P:fl.length<16777216:=ac
  obtain⟨c,X⟩:=f7 n ns (21+3*(i:Int)) ac ac;obtain⟨w,W⟩:=f7 n ns (21+3*(i:Int)+1) ac ac;obtain⟨v,ev⟩:=f7 n ns (21+3*(i:Int)+2) ac ac;obtain⟨J,E,a1,e1⟩:∃m:Int,0<m/\m<=900000000/\iL [.int 20,.int 20,.int 60,.int 900000000] (c/3%4)=.ok (.int m):=by
   have q:c/3%4=0\/c/3%4=1\/c/3%4=2\/c/3%4=3:=ac
   rcases q with h|h|h|h
   .exact⟨20,ac,ac,by rw[h];simp⟩
   .exact⟨20,ac,ac,by rw[h];simp⟩
   .exact⟨60,ac,ac,by rw[h];simp⟩
   .exact⟨900000000,ac,ac,by rw[h];simp⟩
  obtain⟨L,D,b1,e2⟩:∃m:Int,0<m/\m<=10000000/\iL [.int 5,.int 30,.int 80,.int 1000000,.int 10000000] (w%5)=.ok (.int m):=by
   have q:w%5=0\/w%5=1\/w%5=2\/w%5=3\/w%5=4:=ac
   rcases q with h|h|h|h|h
   .exact⟨5,ac,ac,by rw[h];simp⟩
   .exact⟨30,ac,ac,by rw[h];simp⟩
   .exact⟨80,ac,ac,by rw[h];simp⟩
   .exact⟨1000000,ac,ac,by rw[h];simp⟩
   .exact⟨10000000,ac,ac,by rw[h];simp⟩
  obtain⟨b,d0,Z,e3⟩:∃x:Int,0<=x/\x<=1000000000/\iL [.int (v/2%40),.int (v/2%1000000001)] (v%2)=.ok (.int x):=by
   have q:v%2=0\/v%2=1:=ac
   rcases q with h|h
   .exact⟨v/2%40,ac,ac,by rw[h];simp⟩
   .exact⟨v/2%1000000001,ac,ac,by rw[h];simp⟩
  obtain⟨A,p0,p1,e4⟩:∃x:Int,0<=x/\x<=1000000000/\iL [.int (v/80%5),.int (v/80%5),.int (v/80%1000000001)] (v/8%3)=.ok (.int x):=by
   have q:v/8%3=0\/v/8%3=1\/v/8%3=2:=ac
   rcases q with h|h|h
   .exact⟨v/80%5,ac,ac,by rw[h];simp⟩
   .exact⟨v/80%5,ac,ac,by rw[h];simp⟩
   .exact⟨v/80%1000000001,ac,ac,by rw[h];simp⟩
  have T:0<=c/3%J:=GZ _ ac;have f1:c/3%J<J:=GK _ E;have w0:0<=w/5%L:=GZ _ ac;have w1:w/5%L<L:=GK _ D;have I:0<=c%(k:Int):=GZ _ ac;have q1:c%(k:Int)<k:=GK _ C;refine⟨[a_ (.lst (ns.map .int)),a_ (.int 21),a_ (.int k),a_ (.int B),a_ (.lst (fl.map flD)),a_ (.int i),r,o,l,j,a,Y,U],ad,[a_ (.lst (ns.map .int)),a_ (.int 21),a_ (.int k),a_ (.int B),a_ (.lst ((fl++[(⟨c%k,c/3%J,c/3%J+w/5%L,b,A⟩:Fli)]).map flD)),a_ (.int i),a_ (.int c),a_ (.int w),a_ (.int v),a_ (.int (c/3%J)),a_ (.int (c/3%J+w/5%L)),a_ (.int b),a_ (.int A)],.inl ?_,_,_,_,_,_,_,_,_,_,rfl,by simp;lia,λy N=>?_⟩
  .simp[gc,X,W,ev,e1,pX E,e2,pX D,e3,e4,pX C,P,flD]
  .rcases FL.mp N with z|z
   .exact s y z
   .simp at z;subst z;exact⟨⟨I,q1,T,by show c/3%J<=c/3%J+w/5%L;lia,by show c/3%J+w/5%L<=1000000000;lia,d0,Z,p0,p1⟩,by show c/3%J+w/5%L<=999999995;lia⟩)
 rw[GY,cw]at h1;exact⟨fl,h1,S,by simp[cy,il,g9,t,K,k2,e]⟩
theorem ff_one(n:Nat)(i h g f e d k c U L J B:Option A')(r t:Int)(ps:bm)(b:0<t)(Y:t<18446744073709551616)(j:ps.length<100):bQ [i,h,g,f,e,d,a_ (.int r),a_ (.lst (ps.map .int)),a_ (.int t),c,U,L,J,B]=.ok (.nx [i,h,g,f,e,d,a_ (.int (r/t)),a_ (.lst ((ps++[r%t]).map .int)),a_ (.int t),c,U,L,J,B]):=by
 have a:ps.length<16777216:=ac
 simp[bQ,pX b,e_fdiv b Y,a]
theorem yI(n:Nat)(ns:bm)(k:Nat)(I:1<=k)(H:k<=3)(B:Nat)(hm:B<=40):∃fl:List Fli,fl.length=B/\(∀f∈fl,Fls k f)/\cj [.lst (ns.map .int),.int 21,.int k,.int B]=.ok (.lst (fl.map flD)):=by
 have D: -4611686018427387904<=(B:Int):=ac
 have k2:(B:Int)<4611686018427387904:=ac
 have s:(0:Int)<k:=ac
 obtain⟨ρ',e,fl,W,T,S,R,Q,w,v,u,t,rfl,h1,N⟩:=ic (p:=.nm 5) (g:=cT)
  (λi ρ=>∃(fl:List Fli) (r o m a j Y U L J:Option A'),ρ=[a_ (.lst (ns.map .int)),a_ (.int 21),a_ (.int k),a_ (.int B),a_ (.lst (fl.map flD)),r,o,m,a,j,Y,U,L,J]/\fl.length=i/\∀f∈fl,Fls k f) (aL 0 B) 0 [a_ (.lst (ns.map .int)),a_ (.int 21),a_ (.int k),a_ (.int B),a_ (.lst []),f_,f_,f_,f_,f_,f_,f_,f_,f_] ⟨[],f_,f_,f_,f_,f_,f_,f_,f_,f_,rfl,rfl,ad⟩ (by
  rintro i d ρ K ⟨fl,r,o,m,a,j,Y,U,L,J,rfl,F,q⟩;obtain⟨hi,rfl⟩:=gA K;have G:fl.length<16777216:=ac
  obtain⟨c,P⟩:=f7 n ns (21+(i:Int)) ac ac;have C:bK (.nm 8) (bQ) [.int k,.int 999999996,.int 1000000000,.int 1000000001,.int 1000000001] [a_ (.lst (ns.map .int)),a_ (.int 21),a_ (.int k),a_ (.int B),a_ (.lst (fl.map flD)),a_ (.int i),a_ (.int c),a_ (.lst []),a,j,Y,U,L,J]=.ok (.nx [a_ (.lst (ns.map .int)),a_ (.int 21),a_ (.int k),a_ (.int B),a_ (.lst (fl.map flD)),a_ (.int i),a_ (.int (c/k/999999996/1000000000/1000000001/1000000001)),a_ (.lst [.int (c%k),.int (c/k%999999996),.int (c/k/999999996%1000000000),.int (c/k/999999996/1000000000%1000000001),.int (c/k/999999996/1000000000/1000000001%1000000001)]),a_ (.int 1000000001),j,Y,U,L,J]):=by have s1:=λa=>ff_one n (a_ (.lst (ns.map .int))) (a_ (.int 21)) (a_ (.int k)) (a_ (.int B)) (a_ (.lst (fl.map flD))) (a_ (.int i)) a j Y U L J;simp only[bK,iI,ai,Gb,FV];rw[show(A'.lst [])=.lst (([]:bm).map .int)from rfl,s1 a c k [] s ac ad,ai];simp only[bK,iI,ai,Gb,FV];rw[s1 a _ 999999996 _ ac ac ad,ai];simp only[bK,iI,ai,Gb,FV];rw[s1 a _ 1000000000 _ ac ac ad,ai];simp only[bK,iI,ai,Gb,FV];rw[s1 a _ 1000000001 _ ac ac ad,ai];simp only[bK,iI,ai,Gb,FV];rw[s1 a _ 1000000001 _ ac ac ad,ai];rfl
  have A:0<=c%(k:Int):=GZ _ ac;have q1:c%(k:Int)<k:=GK _ s;have O:0<=c/k%999999996:=GZ _ ac;have f1:c/k%999999996<999999996:=GK _ ac;have d0:0<=c/k/999999996/1000000000%1000000001:=GZ _ ac;have d1:c/k/999999996/1000000000%1000000001<1000000001:=GK _ ac;have p0:0<=c/k/999999996/1000000000/1000000001%1000000001:=GZ _ ac;have p1:c/k/999999996/1000000000/1000000001%1000000001<1000000001:=GK _ ac;generalize c/k/999999996/1000000000/1000000001/1000000001=x at *;generalize c/k/999999996/1000000000/1000000001%1000000001=l at *;generalize c/k/999999996/1000000000%1000000001=b at *;generalize c/k/999999996%1000000000=h at *;generalize c/k%999999996=fi at *;generalize c%(k:Int)=kd at *;have hw:(0:Int)<999999996-fi:=ac
  have Z:0<=h%(999999996-fi):=GZ _ ac;have X:h%(999999996-fi)<999999996-fi:=GK _ hw;refine⟨[a_ (.lst (ns.map .int)),a_ (.int 21),a_ (.int k),a_ (.int B),a_ (.lst (fl.map flD)),a_ (.int i),o,m,a,j,Y,U,L,J],ad,[a_ (.lst (ns.map .int)),a_ (.int 21),a_ (.int k),a_ (.int B),a_ (.lst ((fl++[(⟨kd,fi,fi+h%(999999996-fi),b,l⟩:Fli)]).map flD)),a_ (.int i),a_ (.int x),a_ (.lst [.int kd,.int fi,.int h,.int b,.int l]),a_ (.int 1000000001),a_ (.int kd),a_ (.int fi),a_ (.int h),a_ (.int b),a_ (.int l)],.inl ?_,_,_,_,_,_,_,_,_,_,_,rfl,by simp;lia,λy E=>?_⟩
  .simp[cT,P,C,pX hw,G,flD,yw]
  .rcases FL.mp E with z|z
   .exact q y z
   .simp at z;subst z;exact⟨⟨A,q1,O,by show fi<=fi+h%(999999996-fi);lia,by show fi+h%(999999996-fi)<=1000000000;lia,d0,by show b<=1000000000;lia,p0,by show l<=1000000000;lia⟩,by show fi+h%(999999996-fi)<=999999995;lia⟩)
 rw[GY,cw]at h1;exact⟨fl,h1,N,by simp[cj,gM,D,k2,e]⟩
def BW(n:Nat)(ns:bm)(k:Nat)(J:1<=k)(L:k<=3)(B:Nat)(U:B<=40):∃fl:List Fli,fl.length=B/\(∀f∈fl,Fls k f)/\cy [.lst (ns.map .int),.int 21,.int k,.int B]=.ok (.lst (fl.map flD)):=by
 obtain⟨b,eb⟩:=yF n ns;cases b with
 |false=>exact yk n ns k J B U eb|true=>obtain⟨fl,h1,Y,e⟩:=yI n ns k J L B U;exact⟨fl,h1,Y,by simp[cy,il,g9,eb,e]⟩
end
noncomputable def tabN:Nat->bo
 |0=>[1,1,1,1,1,1,1,1,1]|1=>[1,1,2,3,5,8,13,21,34]|2=>[1,1,2,6,14,31,73]|_=>[1,1,2,6,24,78]
noncomputable def lim1:Nat->Nat
 |0=>8|1=>8|2=>6|_=>5
noncomputable def lim2:Nat->Nat
 |0=>6|_=>4
section
variable(CR CP:i_)
def run0(n:Nat):(FN 9).map (λm:Nat=>aR [.int m,.int 0])=(tabN 0).map λc:Nat=>.ok (.int c):=by kernel_rfl
def run1(n:Nat):(FN 9).map (λm:Nat=>aR [.int m,.int 1])=(tabN 1).map λc:Nat=>.ok (.int c):=by kernel_rfl
def run2(n:Nat):(FN 7).map (λm:Nat=>aR [.int m,.int 2])=(tabN 2).map λc:Nat=>.ok (.int c):=by kernel_rfl
def run3(n:Nat):(FN 6).map (λm:Nat=>aR [.int m,.int 3])=(tabN 3).map λc:Nat=>.ok (.int c):=by kernel_rfl
end
theorem A6{L:List (M A')}{T:bo}{f:Nat->M A'}(h:(FN k).map f=T.map λc:Nat=>.ok (.int c))(B:m<k):f m=.ok (.int (T.getD m 0:Nat)):=by
 have J:k=T.length:=by have:=IV JE h;simpa using this
 have:=IV (·[m]?) h;simp only[FQ]at this;rw[y_ (by simpa using B),y_ ac]at this;simp only[Jb,Hv,List.getElem_range]at this;rw[this];simp[m_,show m<T.length by lia]
structure Siz(CR CP:i_)(n st s m:Nat):Prop where
 m8:m<=8
 s3:s<=3
 m6:st=2->m<=6
 few:(st*(s+1))^m<=262144
 run:∃c:Int,aR [.int m,.int s]=.ok (.int c)/\c*st^m<=5000
def siz_tab:∀s,s<4->∀m,m<9->(m<=lim1 s->(1*(s+1))^m<=262144/\(tabN s).getD m 0*1^m<=5000)/\(m<=lim2 s->(2*(s+1))^m<=262144/\(tabN s).getD m 0*2^m<=5000):=by decide +kernel
theorem siz(CR CP:i_)(n:Nat){s:Nat}(U:s<=3)(h:st=1/\m<=lim1 s\/st=2/\m<=lim2 s):Siz CR CP n st s m:=by
 have a:lim2 s<=lim1 s/\lim1 s<=8/\lim2 s<=6:=by rcases(show s=0\/s=1\/s=2\/s=3 by lia)with e|e|e|e<;>subst e<;>decide
 have hm1:m<=lim1 s:=ac
 have Y:aR [.int m,.int s]=.ok (.int ((tabN s).getD m 0:Nat)):=by
  rcases(show s=0\/s=1\/s=2\/s=3 by lia)with e|e|e|e<;>subst e
  .have:=A6 (L:=[]) (run0 n) (Nat.lt_succ_of_le hm1);exact this
  .have:=A6 (L:=[]) (run1 n) (Nat.lt_succ_of_le hm1);exact this
  .have:=A6 (L:=[]) (run2 n) (Nat.lt_succ_of_le hm1);exact this
  .have:=A6 (L:=[]) (run3 n) (Nat.lt_succ_of_le hm1);exact this
 obtain⟨J,B⟩:=siz_tab s ac m ac;rcases h with⟨rfl,h⟩|⟨rfl,h⟩
 .exact⟨ac,U,ac,(J h).1,_,Y,by have:=(J h).2;exact_mod_cast this⟩
 .exact⟨ac,U,ac,(B h).1,_,Y,by have:=(B h).2;exact_mod_cast this⟩
section
variable(CR CP:i_)
def told(n:Nat)(B:CR≠CP)(J:v.Good){s:Nat}(z:Siz CR CP n v.g.s s v.fl.length):cg CR CP n [v.g.D,.lst (v.fl.map flD),.lst (v.cs.map stD),.int s]=.ok (jA (mnO (v.PS s))):=by obtain⟨c,h1,L⟩:=z.run;exact told_ok CR CP n B J z.m8 z.s3 z.few h1 L
theorem few_ok(n:Nat)(ns:bm)(g:Gp):∃s m:Nat,s<=3/\(g.s=1/\m<=lim1 s\/g.s=2/\m<=lim2 s)/\kj [.lst (ns.map .int),g.D]=.ok (.tup [.int s,.int m]):=by
 obtain⟨Y,e1⟩:=f7 n ns 1 ac ac;obtain⟨J,i⟩:=f7 n ns 0 ac ac;obtain⟨s,b⟩:∃s:Nat,Y/96%4=s:=⟨(Y/96%4).toNat,ac⟩
 have a:s<4:=ac
 obtain⟨ds,k,j⟩:=Eu (g:=g);obtain⟨s1,s2⟩:=g.s2;have f:kJ [g.D]=.ok (.int g.s):=by
  have:ds.length<=16777216:=ac
  rw[k,<- j];simp[this]
 obtain⟨M,o,B⟩:∃M:Nat,(g.s=1/\M<=lim1 s\/g.s=2/\M<=lim2 s)/\(iL [.lst [.int 8,.int 8,.int 6,.int 5],.lst [.int 6,.int 4,.int 3,.int 3]] ((g.s:Int)-1)).bind (λd=>ixD d (.int s))=.ok (.int M):=by
  rcases(show g.s=1\/g.s=2 by lia)with h|h
  .rw[h];rcases(show s=0\/s=1\/s=2\/s=3 by lia)with e|e|e|e<;>subst e
   .exact⟨8,.inl ⟨rfl,am⟩,by rfl⟩
   .exact⟨8,.inl ⟨rfl,am⟩,by rfl⟩
   .exact⟨6,.inl ⟨rfl,am⟩,by rfl⟩
   .exact⟨5,.inl ⟨rfl,am⟩,by rfl⟩
  .rw[h];rcases(show s=0\/s=1\/s=2\/s=3 by lia)with e|e|e|e<;>subst e
   .exact⟨6,.inr ⟨rfl,am⟩,by rfl⟩
   .exact⟨4,.inr ⟨rfl,am⟩,by rfl⟩
   .exact⟨3,.inr ⟨rfl,am⟩,by rfl⟩
   .exact⟨3,.inr ⟨rfl,am⟩,by rfl⟩
 have U:(0:Int)<(M:Int)+1:=ac
 have l:0<=J/9%((M:Int)+1):=GZ _ ac;have q1:J/9%((M:Int)+1)<(M:Int)+1:=GK _ U;obtain⟨m,c⟩:∃m:Nat,J/9%((M:Int)+1)=m:=⟨(J/9%((M:Int)+1)).toNat,ac⟩
 refine⟨s,m,ac,ac,?_⟩
 cases L:iL [.lst [.int 8,.int 8,.int 6,.int 5],.lst [.int 6,.int 4,.int 3,.int 3]] ((g.s:Int)-1)with
 |error x=>rw[L]at B;cases B|ok d=>rw[L,ai]at B;generalize g.D=p at *;simp[kj,rY,e1,i,b,f,L,B,pX U,c]
end
def cut1(cs:List fF):dT (.lst (cs.map stD)) (a_ 1) f_=.ok (.lst ((cs.drop 1).map stD)):=by
 cases cs with
 |nil=>rfl|cons c cs=>exact xk ((c::cs).map stD) 1 ad
def putL_le(g:fG k rows)(hi:i<k)(L:j<k)(x y:Int):at2 (putL rows i j 0) x y<=at2 rows x y:=by
 unfold at2 rwAt putL;by_cases e:i=x.toNat
 .subst e;have h1:x.toNat<rows.length:=by rw[g.1];exact hi
  have e1:(rows.set x.toNat ((jf rows x.toNat).set j 0)).getD x.toNat []=(jf rows x.toNat).set j 0:=by rw[m_,z_ h1];rfl
  rw[e1];show _<=(jf rows x.toNat).getD y.toNat 0;have J:jf rows x.toNat∈rows:=by unfold jf;rw[m_,y_ h1];exact GA h1
  obtain⟨gl,U⟩:=g.2 _ J;by_cases c:j=y.toNat
  .subst c;have B:y.toNat<(jf rows x.toNat).length:=by rw[gl];exact L
   rw[m_,z_ B,m_,y_ B];exact(U _ (GA B)).1
  .rw[m_,v_ c,m_];exact Gg _
 .have e2:(rows.set i ((jf rows i).set j 0)).getD x.toNat []=rows.getD x.toNat []:=by rw[m_,v_ e,m_]
  rw[e2];exact Gg _
theorem Dh(g:fG k rows)(hi:i<k):fG k (putL rows i j 0):=by
 have gl:lG k k rows:=⟨g.1,λr B=>(g.2 r B).1⟩
 obtain⟨h1,U⟩:=lU gl hi (j:=j) 0;refine⟨h1,λr B=>⟨U r B,λx J=>?_⟩⟩
 unfold putL at B;rcases Jv B with z|z
 .exact(g.2 r z).2 x J
 .rw[z]at J;rcases Aa J with w|w
  .have L:jf rows i∈rows:=(gu gl hi).1;exact(g.2 _ L).2 x w
  .rw[w];lia
def okE_opt(x:Option Int):H8 (jA x) 40=d_:=by cases x<;>rfl
def ne_opt(x:Option Int):neM (jA x) (jA x)=.ok (.bl c_):=by
 unfold neM;rw[okE_opt];cases x with
 |none=>rfl|some c=>simp[jA,eqD]
theorem E3:∀s:Nat,4<=lim2 s
 |0=>by decide|_+1=>k_ 4
def chD(v:V):A':=.tup [v.g.D,.lst (v.fl.map flD),.lst (v.cs.map stD)]
section
variable(CR CP:i_)
theorem turns(n:Nat)(U:CR≠CP){v:V}{s:Nat}(i g f d c b a Y B:Option A'):∀(j:List V) (J:Option A'),(∀w∈j,w.Good/\Siz CR CP n w.g.s s w.fl.length/\∀x∈v.PS s,∃y∈w.PS s,y<=x)->∃L,
  bK (.nm 11) (uO CR CP n) (j.map chD) [i,g,a_ (.int s),f,d,c,a_ (jA (mnO (v.PS s))),b,a,Y,B,J]=.ok (.nx [i,g,a_ (.int s),f,d,c,a_ (jA (mnO (v.PS s))),b,a,Y,B,L])
 |[],J,_=>⟨J,rfl⟩|w::j,J,h=>by
  obtain⟨h1,o,m⟩:=h w ad;obtain⟨L,e⟩:=turns n U i g f d c b a Y B j (a_ (chD w)) λu k=>h u (by simp[k]);refine⟨L,?_⟩
  have p:=told CR CP n U h1 o;have q:=we n m h1.PS0;have l:uO CR CP n [i,g,a_ (.int s),f,d,c,a_ (jA (mnO (v.PS s))),b,a,Y,B,a_ (chD w)]=.ok (.nx [i,g,a_ (.int s),f,d,c,a_ (jA (mnO (v.PS s))),b,a,Y,B,a_ (chD w)]):=by unfold chD;generalize w.g.D=r at *;generalize w.fl.map flD=t at *;generalize w.cs.map stD=z at *;simp[uO,Fm,p,q]
  rw[r_,bK];simp only[iI,Gb,FV,ai,l];exact e
theorem zd(g:fG k rows)(U:k<=3):aZ (fIt (ae 0)) [f_] (.nm 0) eW (fL gL (aa (ae 0) au)) [a_ (aJ rows)]=.ok (aJ rows):=by
 have B:rows.length<=16777216:=by have:=g.1;lia
 have e:ay (.nm 0) eW (fL gL (aa (ae 0) au)) [f_] (rows.map gG)=.ok (rows.map gG):=by
  have:=d7 (p:=.nm 0) (fe:=fL gL (aa (ae 0) au)) (ρ0:=[f_]) gG gG rows λr J=>⟨[a_ (gG r)],ad,by
   have:=(g.2 r J).1;have L:r.length<=16777216:=ac
   simp[gG,L]⟩
  exact this
 simp[aJ,e,B]
noncomputable def Gp.L(g:Gp):List (List bm):=if g.two=d_ then [g.rows,g.r2]else [g.rows]
def Gp.D_L(g:Gp):g.D=.lst (g.L.map aJ):=by unfold Gp.D Gp.L;split<;>rfl
theorem eased_ok(B:g.Good)(hi:c%(g.k:Int)=i)(w:c/3%(g.k:Int)=j)(k:i<g.k)(f:j<g.k)(v u t s q p y o b a:Option A'):
  lR 8 (aZ (fIt (ae 1)) [f_] (.nm 0) eW (aZ (fIt (ae 0)) [f_] (.nm 0) eW (fL gL (aa (ae 0) au)))) (fC (.int 0)) (f2 gV (ae 7) (fL kJ (aa (f2 ixD (ae 1) (fC (.int 0))) au))) (f2 gV (f2 dr (ae 7) (fC (.int 3))) (fL kJ (aa (f2 ixD (ae 1) (fC (.int 0))) au))) [v,a_ g.D,u,t,s,q,p,a_ (.int c),y,o,b,a]=.ok (.nx [v,a_ g.D,u,t,s,q,p,a_ (.int c),a_ (⟨g.k,putL g.rows i j 0,g.two,g.r2⟩:Gp).D,o,b,a]):=by
 have Y:(0:Int)<g.k:=by have:=B.k1;lia
 have gl:lG g.k g.k g.rows:=⟨B.rows.1,λr J=>(B.rows.2 r J).1⟩
 obtain⟨p1,p2⟩:=lS gl k f 0;have n:ay (.nm 0) eW (aZ (fIt (ae 0)) [f_] (.nm 0) eW (fL gL (aa (ae 0) au))) [f_] (g.L.map aJ)=.ok (g.L.map aJ):=by
  refine d7 aJ aJ g.L λr J=>⟨[a_ (aJ r)],ad,?_⟩
  unfold Gp.L at J;split at J
  .rcases p_.mp J with e|J
   .rw[e];exact zd B.rows B.k3
   .rw[Gj.mp J];exact zd B.r2 B.k3
  .rw[Gj.mp J];exact zd B.rows B.k3
 have A:g.L.length<=16777216:=by unfold Gp.L;split<;>simp
 have d:g.rows.length=g.k:=B.rows.1;have U:g.rows.length<=16777216:=by have:=B.k3;lia
 have z:(g.k:Int)≠0:=ac
 obtain⟨rest,L⟩:∃rest,g.L.map aJ=.lst (g.rows.map gG)::rest:=by unfold Gp.L;split<;>exact⟨_,rfl⟩
 have m:(⟨g.k,putL g.rows i j 0,g.two,g.r2⟩:Gp).D=.lst (.lst ((putL g.rows i j 0).map gG)::rest):=by
  rw[Gp.D_L];unfold Gp.L at L ⊢;split
  .rename_i h;rw[u_ h]at L;rw[<- (O3 L).2];rfl
  .rename_i h;rw[x_ h]at L;rw[<- (O3 L).2];rfl
 rw[m,Gp.D_L];rw[L]at n ⊢;have l:rest.length+1<=16777216:=by have:=IV JE L;simp at this;lia
 have h1:=pX (i:=c) Y;have x:=pX (i:=c/3) Y;simp[lR,n,l,yw,D6,vF,rn,ni,d,U,h1,x,hi,w,asI,p1,p2]
def later_ok(fl:List Fli):ay (.tp [0,1,2,3,4]) eW (fL bG (aa (ae 0) (aa (ae 1) (aa (f2 cL (ae 2) (fC (.int 5))) (aa (ae 3) (aa (ae 4) au)))))) [f_,f_,f_,f_,f_] (fl.map flD)=.ok ((fl.map Fli.later).map flD):=by
 rw[D_];refine d7 _ _ _ λf _=>⟨[a_ (.int f.kind),a_ (.int f.first),a_ (.int f.last),a_ (.int f.due),a_ (.int f.price)],by simp[flD],?_⟩
 simp[flD,Fli.later]
theorem law_true(E:CR≠CP):∀ns:bm,ns.length<=63->∃n,m_law CR CP n [.lst (ns.map .int)]=.ok (.bl d_):=by
 intro ns _;obtain⟨n,hn⟩:∃n:Nat,64<=n:=⟨64,k_ _⟩
 refine⟨n,?_⟩
 obtain⟨g,J,eg⟩:=gps_ok n ns;obtain⟨s,m,hs,hsz,ef⟩:=few_ok n ns g;obtain⟨cs,c1,c2,ec⟩:=F8 n ns;have u:=siz CR CP n hs hsz;obtain⟨fl,K,Z,el⟩:=BW n ns g.k J.k1 J.k3 m (by have:=u.m8;lia);subst K;have U:(⟨g,fl,cs⟩:V).Good:=⟨J,λf hf=>(Z f hf).1,by have:=u.m8;show fl.length<=40;lia,c1,c2⟩
 have h8:=u.m8;have et:=told CR CP n E U u;have eL:=least_ok CR CP n hn U u.m8 u.s3 u.m6;have en:=ne_opt (mnO ((⟨g,fl,cs⟩:V).PS s));obtain⟨c,N⟩:=f7 n ns 2 ac ac;have R:(0:Int)<g.k:=by have:=J.k1;lia
 have i0:0<=c%(g.k:Int):=GZ _ ac;have i1:c%(g.k:Int)<g.k:=GK _ R;have j0:0<=c/3%(g.k:Int):=GZ _ ac;have j1:c/3%(g.k:Int)<g.k:=GK _ R;obtain⟨i,hi⟩:∃i:Nat,c%(g.k:Int)=i:=⟨(c%(g.k:Int)).toNat,ac⟩
 obtain⟨j,hj⟩:∃j:Nat,c/3%(g.k:Int)=j:=⟨(c/3%(g.k:Int)).toNat,ac⟩
 have I:i<g.k:=ac
 have S:j<g.k:=ac
 obtain⟨r2,gr2,er2⟩:=yE n ns 12 g.k ac J.k3;simp only[Ph]at er2
 let g':Gp:=⟨g.k,putL g.rows i j 0,g.two,g.r2⟩
 have hg':g'.Good:=⟨J.k1,J.k3,Dh J.rows I,J.r2⟩
 have gs':g'.s=g.s:=rfl;have hap:∀a b,apS g'.rows g'.r2 a b<=apS g.rows g.r2 a b:=λa b=>by
  unfold apS;split
  .exact putL_le J.rows I S _ _
  .exact Gg _
 have Q:∀f∈fl.map Fli.later,qv g.k f:=λf hf=>by obtain⟨f0,h0,rfl⟩:=FP.mp hf;obtain⟨q,ql⟩:=Z f0 h0;have:=q.f1;exact⟨q.k0,q.k1,q.f0,by show f0.first<=f0.last+5;lia,by show f0.last+5<=1000000000;lia,q.d0,q.d1,q.p0,q.p1⟩
 let v:V:=⟨g,fl,cs⟩
 let l:V:=⟨g',fl,cs⟩
 let k:V:=⟨g,fl.map Fli.later,cs⟩
 let d:V:=⟨g,fl,cs.drop 1⟩
 let C:V:=⟨⟨g.k,g.rows,d_,r2⟩,fl,cs⟩
 have v1:l.Good:=⟨hg',U.fl,U.many,c1,c2⟩
 have v2:k.Good:=⟨J,Q,by show(fl.map Fli.later).length<=40;rw[n_];lia,c1,c2⟩
 have v3:d.Good:=⟨J,U.fl,U.many,by show(cs.drop 1).length<=20;rw[Hy];lia,λp hp=>c2 p (J9 hp)⟩
 have v4:C.Good:=⟨⟨J.k1,J.k3,J.rows,gr2⟩,U.fl,U.many,c1,c2⟩
 have q1:∀x∈v.PS s,∃y∈l.PS s,y<=x:=V.Eas.less U v1 (ease_gap g' gs' hap);have q2:∀x∈v.PS s,∃y∈k.PS s,y<=x:=V.Eas.less U v2 C4;have q3:∀x∈v.PS s,∃y∈d.PS s,y<=x:=V.Eas.less U v3 (ease_cs _ λc hc=>J9 hc);have z2:Siz CR CP n g.s s (fl.map Fli.later).length:=by rw[n_];exact u
 have O:∀w∈[l,k,d],w.Good/\Siz CR CP n w.g.s s w.fl.length/\∀x∈v.PS s,∃y∈w.PS s,y<=x:=λw hw=>by
  rcases p_.mp hw with e|hw
  .subst e;exact⟨v1,u,q1⟩
  rcases p_.mp hw with e|hw
  .subst e;exact⟨v2,z2,q2⟩
  rcases p_.mp hw with e|hw
  .subst e;exact⟨v3,u,q3⟩
  cases hw
 have Wt:=turns CR CP n E (v:=v) (s:=s);have ee:=eased_ok J hi hj I S (a_ (.lst (ns.map .int))) (a_ (.int s)) (a_ (.int fl.length)) (a_ (.lst (cs.map stD))) (a_ (.lst (fl.map flD))) (a_ (jA (mnO (v.PS s)))) f_ f_ f_ f_;have ela:=later_ok fl;have ecu:=cut1 cs;have K:fl.length<=16777216:=ac
 obtain⟨ds,d1,d2⟩:=Eu (g:=g);obtain⟨sa,sb⟩:=g.s2;have L:kJ [g.D]=.ok (.int g.s):=by
  have:ds.length<=16777216:=ac
  rw[d1,<- d2];simp[this]
 have T:ixD g.D (.int 0)=.ok (aJ g.rows):=by unfold Gp.D;split<;>simp
 have P:kJ [aJ g.rows]=.ok (.int g.k):=by
  have h1:=J.rows.1;have:g.rows.length<=16777216:=by have:=J.k3;lia
  simp[aJ,this,h1]
 have hch:∃A:List V,(∀w∈A,w.Good/\Siz CR CP n w.g.s s w.fl.length/\∀x∈v.PS s,∃y∈w.PS s,y<=x)/\∀a0 a8 a9:Option A',qp [a_ (.lst (ns.map .int)),a_ g.D,a_ (.int s),a_ (.int fl.length),a_ (.lst (cs.map stD)),a_ (.lst (fl.map flD)),a0,a_ (.int c),a8,a9,a_ (.lst ([l,k,d].map chD)),f_]=.ok (.nx [a_ (.lst (ns.map .int)),a_ g.D,a_ (.int s),a_ (.int fl.length),a_ (.lst (cs.map stD)),a_ (.lst (fl.map flD)),a0,a_ (.int c),a8,a9,a_ (.lst (A.map chD)),f_]):=by
  by_cases r:g.two=c_/\fl.length<5
  .have s1:g.s=1:=by simp[Gp.s,r.1]
   have z4:Siz CR CP n 2 s fl.length:=siz CR CP n hs (.inr ⟨rfl,Cb (KL r.2) (E3 s)⟩);have q4:∀x∈v.PS s,∃y∈C.PS s,y<=x:=V.Eas.less U v4 (C1 r.1 r2);refine⟨[l,k,d,C],λw hw=>?_,λa0 a8 a9=>?_⟩
   .have hw:w∈[l,k,d]++[C]:=hw;rcases FL.mp hw with h|h
    .exact O w h
    .rw[Gj.mp h];exact⟨v4,z4,q4⟩
   .have eD:cL g.D (.lst [aJ r2])=.ok C.g.D:=by
     unfold Gp.D;rw[r.1];simp[cL,C]
    have h5:(fl.length:Int)<5:=ac
    have e4:[l,k,d,C].map chD=[l,k,d].map chD++[.tup [C.g.D,.lst (fl.map flD),.lst (cs.map stD)]]:=rfl;rw[e4];generalize hW:[l,k,d].map chD=W at *;have hWl:W.length=3:=by rw[<- hW];rfl
    generalize C.g.D=D4 at *;generalize g.D=gD at *;generalize fl.map flD=fD at *;generalize cs.map stD=cD at *;simp[qp,L,s1,h5,T,P,er2,eD,hWl]
  .refine⟨[l,k,d],O,λa0 a8 a9=>?_⟩
   generalize [l,k,d].map chD=W at *;have hno:¬((g.s:Int)=1/\(fl.length:Int)<5):=λ⟨x,y⟩=>r ⟨by
    cases h:g.two with
    |false=>rfl|true=>simp[Gp.s,h]at x,ac⟩
   generalize g.D=gD at *;generalize fl.map flD=fD at *;generalize cs.map stD=cD at *;by_cases h1:(g.s:Int)=1
   .have h5:¬(fl.length:Int)<5:=λz=>hno ⟨h1,z⟩;simp[qp,L,h1,h5]
   .simp[qp,L,h1]
 obtain⟨A,o,t⟩:=hch;obtain⟨H,B⟩:=turns CR CP n E (v:=v) (s:=s) (a_ (.lst (ns.map .int))) (a_ g.D) (a_ (.int fl.length)) (a_ (.lst (cs.map stD))) (a_ (.lst (fl.map flD))) (a_ (.int c)) (a_ g'.D) (a_ (.lst ((fl.map Fli.later).map flD))) (a_ (.lst (A.map chD))) A f_ o;have e5:n5 CR CP n [a_ (.lst (ns.map .int)),a_ g.D,a_ (.int s),a_ (.int fl.length),a_ (.lst (cs.map stD)),a_ (.lst (fl.map flD)),a_ (jA (mnO (v.PS s))),a_ (.int c),a_ g'.D,a_ (.lst ((fl.map Fli.later).map flD)),a_ (.lst (A.map chD)),H]=.ok (.rt (.bl d_)) \/
   n5 CR CP n [a_ (.lst (ns.map .int)),a_ g.D,a_ (.int s),a_ (.int fl.length),a_ (.lst (cs.map stD)),a_ (.lst (fl.map flD)),a_ (jA (mnO (v.PS s))),a_ (.int c),a_ g'.D,a_ (.lst ((fl.map Fli.later).map flD)),a_ (.lst (A.map chD)),H]=.ok (.nx [a_ (.lst (ns.map .int)),a_ g.D,a_ (.int s),a_ (.int fl.length),a_ (.lst (cs.map stD)),a_ (.lst (fl.map flD)),a_ (jA (mnO (v.PS s))),a_ (.int c),a_ g'.D,a_ (.lst ((fl.map Fli.later).map flD)),a_ (.lst (A.map chD)),H]):=by
  by_cases h3:s<3/\(fl.length:Int)<6-(g.s:Int)
  .have z5:Siz CR CP n g.s (s+1) fl.length:=siz CR CP n ac (by
    have h4:=E3 (s+1);have h5:5<=lim1 (s+1):=by rcases(show s=0\/s=1\/s=2 by lia)with e|e|e<;>subst e<;>decide
    lia)
   have F:=told CR CP n E (v:=v) U z5;have ed5:=we n (V.Eas.less U U (C3 (v:=v) (s:=s))) (V.Good.PS0 U);have ecs:((s+1:Nat):Int)=(s:Int)+1:=ac
   rw[ecs]at F;have F:cg CR CP n [g.D,.lst (fl.map flD),.lst (cs.map stD),.int ((s:Int)+1)]=.ok (jA (mnO (v.PS (s+1)))):=F;have D:(s:Int)<3:=ac
   refine .inl ?_;generalize jA (mnO (v.PS (s+1)))=X at *;generalize jA (mnO (v.PS s))=Y at *;clear B t Wt O o;generalize g.D=gD at *;generalize g'.D=gE at *;generalize (fl.map Fli.later).map flD=lD at *;generalize fl.map flD=fD at *;generalize cs.map stD=cD at *;simp[n5,L,D,h3.2,F,ed5]
  .refine .inr ?_;clear B t Wt O o;generalize g.D=gD at *;generalize g'.D=gE at *;by_cases D:(s:Int)<3
   .have h6:¬(fl.length:Int)<6-(g.s:Int):=λz=>h3 ⟨ac,z⟩;simp[n5,L,D,h6]
   .simp[n5,D]
 have et':cg CR CP n [g.D,.lst (fl.map flD),.lst (cs.map stD),.int s]=.ok (jA (mnO (v.PS s))):=et;have eL':bX CR CP n [g.D,.lst (fl.map flD),.lst (cs.map stD),.int s]=.ok (jA (mnO (v.PS s))):=eL;have en':neM (jA (mnO (v.PS s))) (jA (mnO (v.PS s)))=.ok (.bl c_):=en;have ec1:zg CR CP n [a_ (.lst (ns.map .int)),a_ g.D,a_ (.int s),a_ (.int fl.length),a_ (.lst (cs.map stD)),a_ (.lst (fl.map flD)),a_ (jA (mnO (v.PS s))),f_,f_,f_,f_,f_]=.ok (.nx [a_ (.lst (ns.map .int)),a_ g.D,a_ (.int s),a_ (.int fl.length),a_ (.lst (cs.map stD)),a_ (.lst (fl.map flD)),a_ (jA (mnO (v.PS s))),f_,f_,f_,f_,f_]):=by generalize jA (mnO (v.PS s))=Y at *;clear B t Wt O o e5;generalize g.D=gD at *;generalize fl.map flD=fD at *;generalize cs.map stD=cD at *;simp[zg,eL',en']
 have G:=t (a_ (jA (mnO (v.PS s)))) (a_ g'.D) (a_ (.lst ((fl.map Fli.later).map flD)));have ew:[l,k,d].map chD=[.tup [g'.D,.lst (fl.map flD),.lst (cs.map stD)],.tup [g.D,.lst ((fl.map Fli.later).map flD),.lst (cs.map stD)],.tup [g.D,.lst (fl.map flD),.lst ((cs.drop 1).map stD)]]:=rfl;rw[ew]at G;have hfl2:(fl.map flD).length<=16777216:=by rw[n_];lia
 clear ew t Wt O o;have ee':lR 8 (aZ (fIt (ae 1)) [f_] (.nm 0) eW (aZ (fIt (ae 0)) [f_] (.nm 0) eW (fL gL (aa (ae 0) au)))) (fC (.int 0)) (f2 gV (ae 7) (fL kJ (aa (f2 ixD (ae 1) (fC (.int 0))) au))) (f2 gV (f2 dr (ae 7) (fC (.int 3))) (fL kJ (aa (f2 ixD (ae 1) (fC (.int 0))) au))) [a_ (.lst (ns.map .int)),a_ g.D,a_ (.int s),a_ (.int fl.length),a_ (.lst (cs.map stD)),a_ (.lst (fl.map flD)),a_ (jA (mnO (v.PS s))),a_ (.int c),f_,f_,f_,f_]=.ok (.nx [a_ (.lst (ns.map .int)),a_ g.D,a_ (.int s),a_ (.int fl.length),a_ (.lst (cs.map stD)),a_ (.lst (fl.map flD)),a_ (jA (mnO (v.PS s))),a_ (.int c),a_ g'.D,f_,f_,f_]):=ee;clear ee en eL et;generalize jA (mnO (v.PS s))=Y at *;generalize g.D=gD at *;generalize g'.D=gE at *;generalize (fl.map Fli.later).map flD=lD at *;generalize fl.map flD=fD at *;generalize (cs.drop 1).map stD=dD at *;generalize cs.map stD=cD at *;generalize A.map chD=wD at *;rcases e5 with e5|e5<;>simp[m_law,g_law,eg,ef,ec,el,T,P,et',ec1,N,ee',K,ela,ecu,G,hfl2,B,e5]
end
def fin_mk{P:GH}{K:Pn}{h:Gr}{fa CR:i_}(_:K.In h)(_:h.Ns G6 mg)(B:mg "law"=a_ (.ref fa))(Z:Zs K mg CR CP):
  ∃fd:IG,(∀(s:l_) (v:h_),Mn s fd ⟨[v],[]⟩ [("_law_script",v)])/\∀base:Gr,K.In base->base.Ns G6 mg->jr P w K mg base CX0 13 fa fd ["_law_script"] (spLaw K):=by
 obtain⟨f,fd,D,J⟩:=Z.d_law;have e:=B.symm.trans D.mg;cases e;refine⟨fd,J,λbase _ _=>law_ok (ro:=c_) (mlaw:=m_law CR CP) (λn=>?_) (law_true CR CP Z.ne)⟩
 obtain⟨U,L,Y⟩:=ok_law (n:=n) (P:=P) (w:=w) (base:=base) Z;have e:=D.mg.symm.trans Y.d.mg;cases e;rw[D.fn.uniq Y.d.fn];exact Y.o
def walk{l:Mc}{q:GH}{B:List Gh}{e:(Ld)->Gr->Prop}{L:Hz->Gr->Prop}{d:DefRec}{K:Params->Pn}(U:l.most=a_ 63)(J:d.params.defaults=[])(b:∀(w:Hz) (h:Gr),L w h->(K w.params).In h)(F:∀(w:Hz) (mg:Ld) (fa:i_) (h:Gr),(K w.params).In h->h.Ns G6 mg->mg d.name=a_ (.ref fa) ->
   ∃fd:IG,(∀(s:l_) (u:h_),Mn s fd ⟨[u],[]⟩ [("_law_script",u)])/\∀base:Gr,(K w.params).In base->base.Ns G6 mg->jr l.prog w (K w.params) mg base CX0 13 fa fd ["_law_script"] (spLaw (K w.params))):
  Ov q B e L l.row.toRowW d [] (λf vs=>Ka f vs):=
 Lake.walk_of (n:=63) (k:=13) (x:="_law_script") (CX:=λ_=>CX0) (sp:=λw=>spLaw (K w.params)) U am J ⟨rfl,am,am⟩ b F (λ_ _ a ns Y _ c=>⟨a,ns,rfl,c,Y,λ_=>rfl⟩) λ_ _ _ _ _ z=>z
end Tactic
end
open PySem PySem.W PyProof.Rows
structure PySem.W.Fast:Prop where (tw1597259471504598207
tw10383340392133908544
tw1332448388539924754
tw11839335680946413732
tw4388649238908277679
tw6775995656882953142
tw3305306030733406302
tw6726991011232013174
tw5290313839639652923
tw9896186084511181227
tw5287144687616931712
tw5005123314403883730
tw5239647850275672676
tw133478789805097327
tw7224829654982623441
tw6868598073147710298
tw14386512091512129231
tw9804187730994919699
tw10837788924671620895
tw10233169486594966336
tw12208233537842597285
tw406242141055997318
tw16327601831264754002
tw6230646658084910939
tw15358026057955731877
tw11444231571716804952
tw8357673284684599325
tw6330437117643185666
tw5175860079606735601
tw2898080366924906059
tw17874141779318820638
tw1139165781337182036
tw5889589224917914118
tw40241341987495610
tw13191405282925553247
tw7873632873420618457
tw6641443212209384862
tw5081844570535037270
tw16946553978146850684
tw8747394069084140958
tw9127392643793521073
tw5486978724526061603
tw3274438073215581710
tw5385465627316306131
tw8593741533804229401
tw16800090993453323416
tw14571803352226041324
tw274780591539389815
tw7753563693696834576
tw14432693805342121163
tw4929808390930953409
tw14622814597460482049
tw3880622812438384936
tw7802122608201856851
tw12148842778276457888
tw4665824865952490346
tw3884073877701252027
tw9422942940362985023
tw9733729759579919551
tw14534043683655394083
tw16595163402366194422
tw11363123080044743757
tw1743198576613395250
tw14486166051417253620
tw7982200741804809094
tw15260017516481204286
tw4831591555169549746
tw11896424410450663870
tw5096796763600721469
tw4605170599991162796
tw11002775351826119887
tw12895941898875072213
tw1963958116362862731
tw11180902250689542625
tw11751419005343738175
tw7635032159283072846
tw5825255174263888631
tw16782882593445480925
tw7639016603887963626
tw8299584025841014855
tw6207101975965320523
tw6429993027554615603
tw5640157835770411383
tw13875294012295988499
tw989354384785313536
tw2498038763251550238
tw16888890000511981652
tw9873430288993071205
tw10311293759204383952
tw7886624374458956607
tw10802714762954797077
tw12083376639821432778
tw1989826881154584884
tw7186601446089027543
tw12882376239537962668
tw10013575375024544114
tw9606990734272276860
tw6928091051185352546
tw15879759681783020369
tw9560903897887912743
tw11744302078687953557
tw9458296309136437343
tw9649504469178823119
tw17621942992317008845
tw12244650153068019462
tw882335654188739199
tw2059151106671274042
tw6446624952196004353
tw9211965899275481628
tw635486042713988611
tw12813314366476518499
tw12475132823790565587
tw5698303025961550049
tw2212268347628737288
tw3063886842903654306
tw864790640361334585
tw4341323911904255347
tw503100043086558770
tw4538700776644516205
tw6143225551707740790
tw8817593175967386588
tw16432805306897223554
tw16206161622682145752
tw13052279423415284994
tw11302145121461337095
tw15619916562716261156
tw6901728340228645849
tw13210573944934197005
tw4372263307170718806
tw10364691052287059811
tw13294747472994875070
tw10437424196928222382
tw12919182319360461107
tw7594419888508916780
tw8037345469682538791
tw1470150205376892191
tw8053269073101840853
tw13200373201504113897
tw10271081007811256933
tw6358515657399548512
tw4509311545617602990
tw4878841425028032097
tw16678859742736192103
tw15388972721603075027
tw2884405851344244250
tw1957696797174610627
tw2631121893892877764
tw7934862697412340036
tw1693640787247638856
tw8912757759976669508
tw11171588758697671580
tw5522979953009454419
tw13010554197481502459
tw16689798035877793983
tw14026627564055267267
tw15713733728656559137
tw10167278559703027587
tw1859398358222985227
tw12565631746253836510
tw7963858769270633022
tw2955131948903326619
tw4982963794079928974
tw1369926846284809200
tw16013804848614418811
tw6162287535516501686
tw2994353536030814847
tw8501052823263320742
tw16826311712026056069
tw17930690710858242881
tw12222361254224618688
tw7784995295867229013
tw5692862517808002258
tw11118008811891247058
tw3689458995217335413
tw11857942330820109557
tw8874995813537743860
tw17771557970203655634
tw16550177485784881465
tw362069920501134323
tw13744722353626153216
tw17836857090051121256
tw5455236623476795347
tw1016683404088928960
tw5802593199333051802
tw6839751877845035839
tw7866537934569682203
tw2603601642024832723
tw14822515432373593491
tw6783027956426445540
tw6605736933644247065
tw7063518724487123198
tw8550319057143810710
tw16813841167964658436
tw16014159353394175050
tw12430538989845194269
tw12839440933027841208
tw1675183672489961182
tw16049038680164763610
tw734447010438159595
tw8804394588038021710
tw13172692718414227962
tw15882802982451483406
tw11830663229568466020
tw8584644406062073154
tw7155421617050977055
tw12750295974632839513
tw943700204536236554
tw9041179211469418596
tw462978876231197382
tw7569221536714874115
tw7279939875239412170
tw6284154205404252511
tw7252447727634763278
tw5635185420258972941
tw14341599751898572716
tw4042285656286060429
tw13482207228480312552
tw2138847757406437790
tw8111468224047726735
tw1664569811924160677
tw1889703947528717194
tw8931537125260862880
tw754920211176545445
tw15676243038797773678
tw15730441055302338490
tw1096868812001666110
tw8978660126481595983
tw9847544016874208485
tw8348475899947184442
tw2464189823771476765
tw10020482128088395803
tw7878531312011656181
tw12897179984952489496
tw13915595682280526587
tw4147713904553868330
tw11394094605591269991
tw3154446557299354193
tw8153039395778834089
tw14965910900581845261
tw1041697426269741612
tw16100211360121928864
tw5758123019949528494
tw10373676582780234189
tw7101500293543305409
tw275285581274040074
tw14985750693563442379
tw12468923395197251360
tw12417461032879655974
tw3084734281418318308
tw15948186695993160657
tw2346959077428616677
tw10481895318611424609
tw9433111222486115645
tw1039001475785536819
tw14760071294310692433
tw1620862794921446437
tw6408426399229197287
tw11110988434090891036
tw17048282957382806889
tw16184507977912070586
tw10190490410830383006
tw10994389673199658956
tw12210362895822728170
tw10627902695807742397
tw4505263198772615945
tw9625475999345023283
tw5471728152520894752
tw11912367408039118748
tw9741599315232427817
tw8368425118289663874
tw15728050673799398003
tw13141623721384814874:True)
set_option maxRecDepth 100000 in
set_option maxHeartbeats 0 in
theorem PySem.Challenge.cw_wakeorder_k56_whole_papers_and_plans_holds : PySem.Challenge.rw_wakeorder_k56_whole_papers_and_plans.Holds := by
 w_on;o_law;k_head;(case hw=>w_witness2)
 k_fill
 refine Tactic.walk (l:=PySem.Challenge.rw_wakeorder_k56_whole_papers_and_plans) rfl rfl (fun w h Y=>PySem.W.kIn_of Y) ?F
 case F=>
  intro w mg fa h KX G hmg;refine' Tactic.fin_mk KX G hmg ?z
  case z=>
   constructor
   all_goals first|exact Lake.dF KX G|exact PySem.W.mg_none_of KX G (by k_is)|exact ⟨_,mg_of KX G (by k_is)⟩|exact mg_of KX G (by k_is)|exact Lake.mF|exact Lake.kF KX G|exact Lake.tF KX G|exact Lake.iF|exact Lake.xF KX G|exact Lake.xM KX G Lake.mF|exact Lake.lF KX G|exact Lake.rS Lake.mF|k_is|kernel_rfl|exact ⟨mg_of KX G (by k_is),by k_is,by k_is⟩|exact ⟨by k_is,Lake.iF⟩|exact ⟨⟨_,_,_,rfl,by first|k_is|kernel_rfl,by first|k_is|kernel_rfl,by first|k_is|kernel_rfl⟩⟩|exact ⟨⟨_,_,_,_,rfl,by first|k_is|kernel_rfl,by first|k_is|kernel_rfl,by first|k_is|kernel_rfl,by first|k_is|kernel_rfl⟩⟩|decide +kernel|(constructor<;>first|k_is|kernel_rfl|rfl|decide +kernel)|(simp only [List.mem_cons,List.not_mem_nil,or_false,forall_eq_or_imp,forall_eq];repeat' constructor)<;>first|k_is|kernel_rfl
