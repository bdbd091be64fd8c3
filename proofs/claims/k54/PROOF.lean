import PyProof.Rows.All
import Wide.All
import OpenK.AllK
import PySem.Challenge.RW_wakeorder_k54_papers_checked
open Option renaming some->a_,none->d_,isSome_iff_exists->KS,map_some->Mb,isSome_map->MG,map_eq_some_iff->PN
open PySem renaming wpAny_bind->b_,wpAny_pure->fm,Value->g_,Addr->h_,Shared->j_,starEach->k_,sizeLine->n_,model->u_,wpAny->w_,boot_len->H_,eval->Il,wpAny_call_entry->Ip,wpAny_dictEntries->IB,wpAny_newObj_type->IC,Heap->IF,Str->IL,compareOp->IP,Program->IQ,wpAny_callSpecial?_slot->IT,cLine->IU,sysModules->IX,Paired->Jg,Expr->Jj,Stmt->Jl,wpAny_mono->Jo,wpAny_holding->Ju,attributeBase->Jv,DictEntry->Jx,backTo->Jy,mainGlobals->JE,wpAny_field->JP,mem_of_lookup->JS,wpAny_truthy_bool->JW,World->JX,swapsWith->J4,wpAny_dictEpoch->J6,cellsFrom->J7,Around->Kb,wpAny_isInstance->Kl,wpAny_seqItems->Kn,binaryOp->Ko,foldedSetIterable->Ku,FuncData->Kw,keywordEach->KG,wpAny_setField_rec->KN,wpAny_rule->KO,tupleKind_room_in1->KP,assignEach->KQ,wpAny_notOrdered_dict->KR,bootBuiltins->K0,wpAny_attempt->K3,wpAny_typeNameOfWhole_itemiter->K_,wpAny_typeNameOfWhole_valiter->Lk,wpAny_typeNameOfWhole_keyiter->Ll,wpAny_pyIter_tuple->Lm,holding->Ln,wpAny_passesOwn->Lq,NameKind->Lr,Keyword->LA,wpAny_setField->LG,sizeLine_eq->LH,codeAny_mono->LM,rawInt->LP,backToKw->LR,codeAny_builtin->LS,wpAny_tupleItemsOf->LW,wpAny_pyIter_list->L6,wpAny_pyIter_enum->L7,wpAny_fieldsOf->L8,ZipApart->L9,wpAny_forIn_list->Mh,reduceHash->Mi,eqBool->Mj,behindInMarks->Mo,call->Ms,wpAny_specialOf->MA,wpAny_richCompare_same_room->MJ,codeAny->MK,wpAny_Call_Name_kw->MU,storedH->M_,sliceBounds->Na,intKind->Nb,wpAny_onRaise->Nf,assign->Ng,Sem->Nl,wpAny_Call_method0_late->Nr,setField->Nt,HeapKind->Nw,wpAny_typeOf->NH,wpAny_isOneOf_itemiter->NI,wpAny_Assign_Subscript->NJ,standAt->NK,pyNext->NL,evalArgs_none->NM,call_meetsIn->NO,IsItemIter->NR,wpAny_execs_nil->NX,Obj->NY,wpAny_isOneOf_valiter->N1,isSubtype_tuple_tuple->N2,wpAny_pyIter_keyiter->N9,wpAny_letGo->N_,pyHash->Oa,isSubtype_stop->Ob,getMethod->Ol,BindsTo->Oo,wpAny_handled->OD,swapsWithSole->OE,swappedStores->OF,plainId_quiet->OG,wpAny_setItem_heap->OO,wpAny_load->OQ,call_meets->OR,IsPair->OS,wpAny_pyIter_slot->O5,slot_list_getitem->O6,concat_meets->O7,callerA->O8,bindArgs->O9,Scope->Pa,Pos->Pb,wpAny_Dict_empty->Pw,noFill_tuple_add->Px,IsPart->PC,wpAny_throw->PF,wpAny_of_eq->PH,pushCells_keeps->PR,letOwnedTupleGo->PU,Within->PV,wpAny_letOwnedTupleGo_items->P5,getItem->P6,wpAny_newTuple->Qb,wpAny_letOwnedTupleGo_enum->Qc,numAt->Qd,newFunctionEnv->Qe,atKey->Qf,Env->Qk,wpAny_standAt->Qu,wpAny_newList->Qv,wpAny_getItem_list_slice->Qw,wpAny_comprehension_free->Qx,seq_tuple_add->Qy,rangeSize_one->Qz,nums_intItems->QA,slicePick->QM,lastMarks->QN,eqIsQuiet->QO,bindL->QP,PassesOwn->QV,Fin->QX,wpAny_pyNext_list_item->Q3,seqIndex_neg->Q4,pyIter->Q5,isTrue->Q6,Result->Q8,wpAny_pyNext_list_end->Rk,wpAny_isOneOf_keyiter->Rl,seqIndex_of->Rt,numAt_eq->Rv,intItems_at->Rw,callWith->Rx,bindC->Ry,Model->Rz,wpAny_dictFind_heap->RR,call_enumerate_list->RS,wpAny_dictSet_heap->R0,wpAny_Name->R1,intKind_is->R5,getattributeRaised->R6,builtinsNs->R7,wpAny_assign_Name->Sj,wpAny_Call_method->Sk,unaryOp->Sl,setItem->Sm,putAt->Sn,hashInt->So,call_sum_walkAnyS->Sq,MeetsIn->Sv,ItemsOf->Sw,wpAny_pyIter_zip->Sz,wpAny_execs_cons->SA,small_one->SD,kt_code_dict_new->SE
open Bool renaming false->cm,true->e_,and_eq_true->D_,eq_iff_iff->J2,false_ne_true->Kj,false_eq_true->Mz,or_eq_true->Nk,not_eq_true'->Rj,not_false->RY,and_false->RZ
open PySem.Heap renaming get?_push_of_some->c_,get?_push_size->i_,lt_size->r_,size_push->JF,ExtBut->JG,SameBut->JY,get?_update_self->KC,get?_update_other->K8,get?_none_of_le->NC,IsTuple->P8
open Nat renaming le_refl->f_,lt_of_lt_of_le->y_,le_trans->B_,ne_of_lt->G_,zero_le->IH,lt_of_le_of_ne->IJ,le_of_lt->IY,zero_add->Jw,mul_le_mul->Jz,lt_of_succ_lt->JD,ne_of_gt->J3,lt_of_le_of_lt->Kk,add_le_add_left->Ks,succ_le_succ->Kx,le_add_right->Ky,lt_irrefl->KY,pos_of_ne_zero->Le,eq_zero_of_not_pos->LY,add_assoc->Mc,le_antisymm->Ml,add_lt_add_left->Mr,le_of_eq->Mu,sub_le->MH,sub_pos_of_lt->MR,le_succ->MS,lt_succ_self->M8,sub_self->Nj,le_of_sub_eq_zero->NB,add_le_add_right->NW,sub_zero->Oy,pred_lt_of_lt->Oz,lt_trichotomy->OA,le_of_succ_le->OB,le_of_lt_succ->OC,succ_ne_self->OU,not_lt_of_le->OV,mul_add->OZ,add_sub_cancel_left->P_,lt_trans->Qo,one_pos->QI,mul_le_mul_left->Q0,add_sub_cancel->Ra,add_right_comm->Rb,lt_succ_of_lt->Ro,not_le_of_lt->RG,max_eq_right->RH,lt_of_not_le->RJ,le_of_not_lt->RK,le_max_right->RL,min_le_left->RW,mul_succ->SO,lt_or_ge->SQ
open List renaming length_map->l_,getElem?_eq_some_iff->oe,getElem?_set_ne->o_,getElem?_set_self->t_,map_cons->v_,mem_cons->x_,range->A_,map_map->Cb,replicate->C_,getElem?_map->E_,length_cons->F_,length_set->Ii,getElem?_eq_getElem->Ij,mem_append_right->Im,mem_filter->Iv,mem_append->Iw,foldl_cons->Iy,getElem_mem->Iz,mem_map->IE,append_assoc->IG,length_append->II,mem_range->IM,pairwise_append->IW,map_congr_left->I_,all_eq_true->Jc,mem_of_getElem?->Jd,mem_cons_of_mem->Je,getD_eq_getElem?_getD->Jk,size_toArray->Jm,mem_append_left->Jq,lookup->Jr,drop_eq_getElem_cons->Js,getElem_map->JA,take_append_drop->JC,mem_cons_self->JJ,find?_cons->JK,not_mem_nil->JN,length_take->JO,getElem?_append_left->JR,nodup_cons->JZ,append_nil->J1,lookup_cons->J5,take_of_length_le->J9,length_range->J_,set_cons_zero->Kf,set_cons_succ->Kg,pairwise_cons->Kh,mem_singleton->Ki,getElem?_cons_succ->Km,getElem?_append_right->Kz,pairwise_iff_getElem->KL,nodup_append->KU,mem_reverse->K1,range_succ_eq_map->K9,map_append->Lh,mem_of_mem_take->Lw,length->Lx,length_drop->LB,mem_or_eq_of_mem_set->LD,length_eq_zero_iff->LQ,drop_zero->LV,ext_getElem->L5,of_mem_zip->Mf,length_nil->Mg,getElem?_range->Mm,filterMap_cons->Mn,nodup_nil->Mx,drop_drop->My,take_sublist->MN,reverse_cons->MO,pairwise_map->MP,flatMap_cons->MQ,take_length->M3,drop_length->M4,filter_eq_nil_iff->Nd,length_singleton->Np,getElem?_eq_none->Nq,range'->NF,mem_of_mem_drop->NG,getElem_of_mem->N0,map_take->N5,map_replicate->N7,find?_eq_none->N8,reverse_perm->Oq,foldl_append->Ot,ext_getElem?->Ou,drop_sublist->Ov,range'_succ->OJ,isEmpty_iff->OM,nil_append->O0,map_const'->O1,dropLast_concat_getLast->O3,take_succ->Po,setIfInBounds_toArray->Pp,map->Pq,foldl->Pr,drop_left->Pt,eq_of_mem_replicate->PQ,getElem?_replicate->P2,filter_cons_of_pos->P4,drop_of_length_le->Qa,length_replicate->Qp,getElem?_toArray->Qq,range_eq_range'->Qt,filter_eq_self->QJ,eraseP_sublist->QK,mem_filterMap->Q1,filterMap_map->Q2,mapM_toArray->Rc,getElem_take->Rf,find?_isSome->Rg,filter_cons->Rp,cons_append->Rq,any_eq_true->Rr,forIn_cons->RM,drop_take->RX,set_comm->Se,map_nil->Sy
open Decidable renaming decide->m_
open PySem.Value renaming ref->s_,none->JB,type->K7,int->L3,bool->N3,builtin->RT,isInt->Ss
open PyProof.Rows renaming wpS_pure->z_,boot_tuple->Io,pendingOf->Iq,SortSt->Ir,boot_list->IZ,callWith_type1->Jb,Keyed->Ji,wpS_bind->J8,slot_tuple_getitem->K5,seqObj->Lz,boot_sorted->LI,wpS_modify->LX,IntsAre->Ma,wpS->Me,kindOf->MF,envOfC->Ni,wpS_get->NT,subscriptTail_builtinR->NU,AllBare->NV,wpS_lift->Oe,failedOf->Of,boot_max->Og,arrOf->OI,IsTup->PM,boot_range->Ql,boot_all->Qm,SortKind->Qn,listUpdate_at->QH,lt_int->QZ,wpS_mono->RB,seqEpoch_at->RC,mergeAt'->RD,elem'->RE,Call_->RF,setPending->R_,Subscript_->Sa,wpAny_notIn_heap->SN
open PySem.Builtin.Tuple renaming tupleHashOf->Ik,tupleItemsOf->N4,tupleExact->SI
open Array renaming length_toList->Iu,getElem?_eq_none->Kt,getElem?_toList->KA,getElem?_eq_getElem->LC,toList_inj->MZ,toList->Oj,perm_iff_toList_perm->Pg,isEmpty_eq_false_iff->Ph,forIn_toList->QL
open PySem.NameKind renaming free->ID,cell->Kp
open Ne renaming symm->IV
open PySem.Heap.SameBut renaming update->Jh
open Int renaming toNat_natCast->Jn,le_trans->Ka,le_of_lt->Kv,emod_lt_of_pos->KD,emod_nonneg->Lj,neg_le_neg->LZ,eq_ofNat_of_zero_le->M9,not_lt->Oi,le_refl->O4,mul_nonneg->Sf
open Except renaming ok->Jp,error->K6,bind->Si
open False renaming elim->Jt
open Prod renaming fst->JI,ext->Pm
open Pure renaming pure->JM
open PySem.F renaming slot_dict_valueiterator_next->JQ,slot_dict_itemiterator_next->JU,slot_dict_keyiterator_next->JV,slot_tuple_iterator_next->KH,plainAttrs_dict->KW,slot_dict_items->LL,slot_zip_next->LU,slot_tuple_lt->Mv,args_tuple_add_2->MD,plainAttrs_list->ML,entry_tuple_add->MM,slot_tuple_add->MV,slot_dict_iter->MW,slot_tuple_hash->M0,slot_tuple_eq->M1,slot_list_getattribute->M6,slot_list_append->M7,args_dict_valueiterator_next_1->Nh,entry_dict_valueiterator_next->Nm,args_dict_itemiterator_next_1->Nn,entry_dict_itemiterator_next->Nx,args_dict_keyiterator_next_1->Ny,entry_dict_keyiterator_next->ND,args_tuple_iterator_next_1->NS,entry_tuple_iterator_next->NZ,slot_dict_values_iter->Om,slot_dict_items_iter->Ox,plain_list_iadd->OT,args_dict_items_1->OX,type_list_append->Pc,slot_dict_values->Pd,entry_dict_items->Pe,type_dict_items->Pj,args_zip_next_1->Pk,entry_zip_next->PD,sub_dict_dict->PJ,slot_dict_pop->PK,slot_dict_get->PL,slot_dict_ne->P0,args_object_init_2->P1,slot_list_extend->Qj,args_tuple_lt_2->Qr,entry_tuple_lt->QG,entry_proto_collect->QY,kt_typeCall_dict_1->Q9,args_dict_init_2->RA,entry_list_iadd->RU,entry_dict_init->RV,kt_called_dict->R8,slot_int_rmul->Sx
open Option.some renaming inj->JT,injEq->LJ
open LawfulBEq renaming eq_of_beq->Kc
open PySem.Paired renaming length->Ke
open PySem.Builtin.Dict renaming showsAll->Kq,samePairs->OH,takeOut->OY
open PySem.Calls renaming callWith_builtin->Kr,spliced_cons->Mt,evalArgs_plain->Nz,spliced_nil->Od,Name_function_global->Pf,call_function_entry->Pl
open Except.ok renaming inj->KI
open List.Pairwise renaming nil->K2,sublist->SR,imp_of_mem->SU
open PySem.W renaming cellsFrom_some->K4,emptyDict->Lf,kitOne->Ly,instObj->LF,keepIn->MB,findIn->MC,methodCall_KW->M5,plainGet_of->Nu,OpenLaw->Oc,kas_ask->O_,fnOf->Py,plainGet->Qg,codeIn->Qh,callWith_K->Qi,kcp_self->QB,handedIn->QC,WalkO->QD,takesIn->QQ,specialIn->QR,readsIn->QS,hasDictIn->QT,findCls->QU,kia_one->Q7,mroIn->Rm,makesIn->Sr,plainOver->SG
open PySem.Obj renaming mapSeq->Lb,data_mapFields->Lc,data_mapDictKeys->Md,isFreed_of_fields->Nv,cls_mapFields->Ow,isFreed_of_dict->QW,mapFields->Su
open PySem.Builtin.Slice renaming slicePlaces->Lg,sliceAdjust->L_,slicePartIndex->SJ,sliceApplied->SM
open List.Perm renaming refl->Li
open PySem.Builtin.List renaming listTooLong->Lo
open PySem.Builtin.Range renaming rangeSize->Lv,small->MX
open PySem.SeqAt renaming EqAt->LN,ne_of_list_tuple->PY,RcNeAt->PZ,RcAt->QF
open True renaming intro->LO
open PySem.PassesOwn renaming never->L4
open PyProof.Rows.SortSt renaming mk'->Mp
open PySem.AutoSeq1 renaming wpAny_loadPart'->Mw
open PySem.Builtin.Dict_items renaming ownedTupleFields->ME,ownsTuple->Nc
open ForInStep renaming yield->MT
open PySem.Builtin.SmallTypes renaming nextOf->NA,ownedTupleIsFree->Rn
open PySem.Shared renaming TypeIs->NQ,heap->P7
open List.cons renaming injEq->Oh
open List.Sublist renaming length_le->ON
open PySem.Heap.IsSliceOf renaming new->OW
open PySem.W.Looks renaming of_pure->Pz,here->QE
open PySem.W.KatTups renaming cons->PB,nil->PX
open PySem.Around renaming under_plainId->P9
open PyProof.Rows.IsTup renaming new->Q_
open Function renaming comp->Rh
open ForIn renaming forIn->RN
open Std.Legacy.Range renaming size->RO,forIn_eq_forIn_range'->RQ
open PySem.Challenge renaming pw_wakeorder_k54_papers_checked->R9
open Max renaming max->Sb
open PySem.Walks renaming list->SF
abbrev p_:=@if_pos
abbrev q_:=@if_neg
abbrev IA:=@absurd
abbrev IS:=@decide_eq_false
abbrev Jf:=@decide_eq_true
abbrev Kd:=@congrArg
abbrev KJ:=@decide_eq_true_eq
abbrev KV:=@StateT
abbrev KZ:=@DecidableEq
abbrev Lu:=@beq_eq_false_iff_ne
abbrev MY:=@ForInStep
abbrev N6:=@of_decide_eq_true
abbrev Pu:=@if_false
abbrev Ri:=@Decidable
set_option Elab.async false
set_option linter.all false
set_option maxRecDepth 100000
set_option maxHeartbeats 4000000
open PySem.W (lookIn plainGet hasDictIn findIn isFn plainOver takerIn makesIn keepIn callWith_K fnOf codeIn nsIn mg_of specialIn kitOne kia_one)
abbrev Pn:=PySem.W.Frag
abbrev Vp:=List (h_×NY)
abbrev Mq:=g_->j_->Prop
abbrev Ld:=IL->Option g_
set_option compiler.extract_closed false
noncomputable section
theorem Jq0(_:True:=by rfl):True:=trivial
local macro_rules|`(~~~$t)=>`(autoParam $t Jq0._auto_1)
theorem Jq1(_:True:=by decide):True:=trivial
local macro_rules|`($t⁻¹)=>`(autoParam $t Jq1._auto_1)
theorem Jq2_(_:True:=by k_is):True:=trivial
def Jq2:Lean.Syntax:=Jq2_._auto_1
theorem Jq3_(_:True:=by first|assumption|(repeat first|exact Or.inl rfl|apply Or.inr)<;>rfl):True:=trivial
def Jq3:Lean.Syntax:=Jq3_._auto_1
theorem Jq4_(_:True:=by intro _;rfl):True:=trivial
def Jq4:Lean.Syntax:=Jq4_._auto_1
theorem Jq7_(_:True:=by with_unfolding_all rfl):True:=trivial
def Jq7:Lean.Syntax:=Jq7_._auto_1
theorem Jq8_(_:True:=by first|k_is|kernel_rfl):True:=trivial
def Jq8:Lean.Syntax:=Jq8_._auto_1
theorem Jq9_(_:True:=by first|exact G8 _|with_unfolding_all rfl):True:=trivial
def Jq9:Lean.Syntax:=Jq9_._auto_1
theorem Jq10_(_:True:=by exact λ_ _=>rfl):True:=trivial
def Jq10:Lean.Syntax:=Jq10_._auto_1
theorem Jq11_(_:True:=by exact PassesOwn.never):True:=trivial
def Jq11:Lean.Syntax:=Jq11_._auto_1
theorem Jq12_(_:True:=by exact⟨rfl,rfl,rfl,dkK,rfl,dkK,dkK⟩):True:=trivial
def Jq12:Lean.Syntax:=Jq12_._auto_1
theorem dkK{p:Prop}(h:p:=by decide +kernel):p:=h
theorem ac{p:Prop}(h:p:=by lia):p:=h
theorem ad{p:Prop}(h:p:=by simp):p:=h
theorem am{p:Prop}(h:p:=by decide):p:=h
theorem a0{p:Prop}(h:p:=by grind):p:=h
theorem a7{p:Prop}(h:p:=by simp_all):p:=h
abbrev PySem.Shared.z(s:PySem.Shared):=s.heap.objs.size
set_option bootstrap.genMatcherCode false
set_option genSizeOf false
set_option genInjectivity false
namespace Lake
open PySem PySem.Spec PyProof.Rows
abbrev bv:=List g_
abbrev bi:=List Nat
abbrev a9:=List Int
variable{a b dx C:h_}{h h':IF}{x name m qual:IL}{e c tg:Jj}{B1:Vp}{g':Array GenState}{ch fp:List h_}{N ps:List IL}{i j k:Nat}{A:Kb}{E:Mq}{u:g_}{Q:Unit->j_->Prop}{s':j_}{pos pos' p:Pb}{K:Pn}{es:List Jj}{g:Int->Int->Int}{body:List Jl}{P:IQ}{w:JX}{op op':CmpOp}{us:List g_}{mA mg:Ld}{pl:Nl Bool}{kw:List (IL×g_)}{outer:List Qk}{fd:Kw}{scope:Pa}
set_option genInjectivity true in
set_option bootstrap.genMatcherCode true in
inductive V where
 |non|bl (b:Bool)|int (i:Int)|ref (a:h_)|ty (n:String)
 deriving DecidableEq
abbrev bm:=List V
variable{v y:V}{xs vs:List V}
def B5:V->g_->Prop
 |.non,u=>u=JB|.bl b,u=>u=N3 b|.int i,u=>∃t,u=L3 i t
 |.ref a,u=>u=s_ a|.ty n,u=>u=K7 n
abbrev B6:bm->bv->Prop:=Jg B5
theorem B6.length{xs:bm}{us:bv}(r:B6 xs us):xs.length=us.length:=Ke r
inductive AtI{α:Type}(S P:α->Prop):Prop
 |mk (u:α) (e:S u) (r:P u)
theorem B6.get:∀{xs:bm} {us:bv} {i:Nat} {x:V},B6 xs us->xs[i]?=a_ x->AtI (λu=>us[i]?=a_ u) (B5 x)
 |_,_,_,_,.nil,e=>by simp at e|_,_,0,_,.cons r _,e=>by simp at e;subst e;exact⟨_,rfl,r⟩|_,_,i+1,x,.cons _ t,e=>by obtain⟨u,h1,B⟩:=B6.get t (by simpa using e);exact⟨u,a7,B⟩
theorem B6.set{x:V}{u:g_}(r:B5 x u):∀{xs:bm} {us:bv} (i:Nat),B6 xs us->B6 (xs.set i x) (us.set i u)
 |_,_,_,.nil=>.nil|_,_,0,.cons _ t=>.cons r t|_,_,i+1,.cons q t=>.cons q (B6.set r i t)
theorem B6.append:∀{xs ys:bm} {us B:bv},B6 xs us->B6 ys B->B6 (xs++ys) (us++B)
 |_,_,_,_,.nil,s=>s|_,_,_,_,.cons r t,s=>.cons r (B6.append t s)
theorem B6.take:∀{xs:bm} {us:bv} (n:Nat),B6 xs us->B6 (xs.take n) (us.take n)
 |_,_,0,_=>.nil|_,_,_+1,.nil=>.nil|_,_,n+1,.cons r t=>.cons r (B6.take n t)
theorem B6.drop:∀{xs:bm} {us:bv} (n:Nat),B6 xs us->B6 (xs.drop n) (us.drop n)
 |_,_,0,r=>r|_,_,_+1,.nil=>.nil|_,_,n+1,.cons _ t=>B6.drop n t
def CV:Option V->Option g_->Prop
 |some v,a_ u=>B5 v u|none,d_=>True|_,_=>False
set_option genInjectivity true in
inductive HO where
  |lst (xs:List V)
  |tup (xs:List V)
  |ins (C dx:h_) (fs:List (IL×V))
  |own (x:h_)
  |xd (fs:List (IL×V))
  |met (f x:h_)
  |rng (lo hi:Int)
  |frz (o:NY) (u:HO)
  |tbl (ps:Array g_)
  |ext (φ:IF->Prop)
noncomputable abbrev Hp:=h_->Option HO
variable{H H':Hp}
noncomputable def upd(H:Hp)(a:h_)(o:HO):Hp:=λb=>if b=a then a_ o else H b
def aq{o:HO}:upd H a o a=a_ o:=by simp[upd]
theorem av{o:HO}(h:b≠a):upd H a o b=H b:=by simp_all[upd]
theorem aL{o:HO}(h:H a=a_ o)(h':H b=d_):a≠b:=ac
section
variable(P:IQ)(w:JX)
def gQ(H:Hp)(h:IF)(a:h_):HO->Prop
 |.lst xs=>xs.length<=n_/\∃(its:bv) (n:Nat),B6 xs its/\h.get? a=a_ {cls:=.type "list",data:=.seq its.toArray n}
 |.tup xs=>xs.length<=n_/\∃its:bv,B6 xs its/\PM h a its.toArray
 |.ins C dx fs=>H dx=a_ (.own a)/\fs.length<=1000/\dx≠a/\h.get? a=a_ (LF C dx) /\
   ∃mA,h.Ns1 dx mA/\(∀f,CV (fs.lookup f) (mA f))/\PV mA (fs.map (·.1))
 |.own _=>∃o,h.get? a=a_ o
 |.xd fs=>∃mA,h.Ns1 a mA/\∀f,CV (fs.lookup f) (mA f)
 |.rng lo hi=>∃t u v,h.get? a=a_ {cls:=.type "range",data:=.fields #[.int lo t,.int hi u,.int 1 v]}
 |.frz o u=>h.get? a=a_ o/\gQ H h a u|.tbl ps=>h.get? a=a_ {cls:=.none,data:=.fields ps}|.met f x=>h.get? a=a_ (PySem.W.methodObj (.ref f) (.ref x))|.ext B=>B h/\(∃o,h.get? a=a_ o)/\∀h1 I:IF,B h1->(∀o,h1.get? a=a_ o->I.get? a=a_ o)->B I
def HOk(H:Hp)(h:IF):Prop:=∀a o,H a=a_ o->gQ H h a o
end
section
variable{o:HO}
theorem gQ.lt(x:gQ H h a o):a<h.objs.size:=by
 cases o with
 |lst xs=>obtain⟨_,_,_,_,e⟩:=x;exact r_ e
 |tup xs=>obtain⟨_,_,_,p⟩:=x;exact p.lt
 |ins C dx fs=>obtain⟨_,_,_,e,_⟩:=x;exact r_ e
 |own y=>obtain⟨_,e⟩:=x;exact r_ e
 |xd fs=>obtain⟨_,⟨_,_,_,e,_⟩,_⟩:=x;exact r_ e
 |rng lo hi=>obtain⟨_,_,_,e⟩:=x;exact r_ e
 |frz I u=>obtain⟨e,_⟩:=x;exact r_ e
 |tbl ps=>exact r_ (show h.get? a=a_ _ from x)|met f y=>exact r_ (show h.get? a=a_ _ from x)|ext B=>obtain⟨_,⟨_,e⟩,_⟩:=x;exact r_ e
def gQ.stay(x:gQ H h a o)(k:∀b u,(b=a\/H b=a_ (.own a))->h.get? b=a_ u->h'.get? b=a_ u)(U:∀b,H b=a_ (.own a)->H' b=a_ (.own a))(g:∀b xs,H b=a_ (.tup xs)->H' b=a_ (.tup xs)):gQ H' h' a o:=by
 induction o with
 |lst xs=>obtain⟨z,its,n,r,e⟩:=x;exact⟨z,its,n,r,k _ _ (.inl rfl) e⟩
 |tup xs=>obtain⟨z,its,r,B,e,c⟩:=x;exact⟨z,its,r,B,k _ _ (.inl rfl) e,c⟩
 |ins C dx fs=>obtain⟨d,z,I,e,mA,⟨od,es,ep,e2,c⟩,r⟩:=x;exact⟨U _ d,z,I,k _ _ (.inl rfl) e,mA,⟨od,es,ep,k _ _ (.inr d) e2,c⟩,r⟩
 |own y=>obtain⟨B,e⟩:=x;exact⟨B,k _ _ (.inl rfl) e⟩
 |xd fs=>obtain⟨mA,⟨od,es,ep,e,c⟩,r⟩:=x;exact⟨mA,⟨od,es,ep,k _ _ (.inl rfl) e,c⟩,r⟩
 |rng lo hi=>obtain⟨t,u,v,e⟩:=x;exact⟨t,u,v,k _ _ (.inl rfl) e⟩
 |frz B u S=>obtain⟨e,q⟩:=x;exact⟨k _ _ (.inl rfl) e,S q⟩
 |tbl ps=>exact k a _ (.inl rfl) x|met f y=>exact k a _ (.inl rfl) x|ext Y=>obtain⟨p,⟨o,e⟩,st⟩:=x;exact⟨st _ _ p λo q=>k _ _ (.inl rfl) q,⟨o,k _ _ (.inl rfl) e⟩,st⟩
theorem HOk.lt(x:HOk H h)(e:H a=a_ o):a<h.objs.size:=(x a o e).lt
def HOk.fresh(x:HOk H h)(e:h.objs.size<=a):H a=d_:=by
 cases q:H a with
 |none=>rfl|some u=>exact IA (y_ (x.lt q) e) (KY _)
def HOk.kept(x:HOk H h)(k:∀b u,h.get? b=a_ u->h'.get? b=a_ u):HOk H h':=λa o e=>(x a o e).stay (λb u _ q=>k b u q) (λ_ q=>q) λ_ _ q=>q
theorem HOk.laid(x:HOk H h)(k:∀b u,h.get? b=a_ u->h'.get? b=a_ u)(S:h.objs.size<=a)(I:gQ (upd H a o) h' a o):HOk (upd H a o) h':=λb u e=>by
 have B:=x.fresh S;by_cases U:b=a
 .simp_all[aq]
 .rw[av U]at e;exact(x b u e).stay (λc v _ q=>k c v q) (λc q=>by rw[av (aL q B)];exact q) λc xs q=>by rw[av (aL q B)];exact q
end
def Rd(H:Hp)(a:h_)(u:HO):Prop:=H a=a_ u\/∃o,H a=a_ (.frz o u)
def Rd.ok{u:HO}(r:Rd H a u)(x:HOk H h):gQ H h a u:=by
 rcases r with r|⟨o,r⟩
 .exact x a u r
 .obtain⟨_,q⟩:=x a _ r;exact q
def Mut:Option HO->Prop
 |some (.lst _)=>True|some (.ins _ _ _)=>True|some (.ext _)=>True|_=>False
section
variable{x e:h_}{o':HO}
theorem HOk.write(ok:HOk H h)(I:Mut (H x))(d:e=x\/H e=a_ (.own x))(k:∀b u,b≠e->h.get? b=a_ u->h'.get? b=a_ u)(S:∃u,h'.get? e=a_ u)(a:gQ (upd H x o') h' x o'):HOk (upd H x o') h':=λb u q=>by
 have B:∀c y,H c=a_ (.own y)->c≠x:=λc y r z=>by subst z;rw[r]at I;exact I
 by_cases f:b=x
 .simp_all[aq]
 .rw[av f]at q;by_cases U:b=e
  .have Y:H b=a_ (.own x):=by
    rcases d with z|z
    .simp_all
    .exact U▸z
   rw[q]at Y;cases Y;obtain⟨v,g⟩:=S;exact⟨v,a7⟩
  .refine(ok b u q).stay (λc v i r=>k c v ?_ r) (λc r=>by rw[av (B c b r)];exact r) λc xs r=>by rw[av ((λc xs r z=>by subst z;rw[r]at I;exact I) c xs r)];exact r
   grind
end
structure Un(fs ex:List h_)(H H':Hp)(h h':IF):Prop where
 keep:∀b o,h.get? b=a_ o->H b=d_->b∉fs->b∉ex->h'.get? b=a_ o
 slot:∀b o,h.get? b=a_ o->H b=d_->b∈fs->b∉ex->∃sl,h'.get? b=a_ {o with slots:=sl}
 free:∀b o,h.get? b=a_ o->H b=d_->b∉ex->H' b=d_
 there:∀b o,h.get? b=a_ o->b∉ex->∃o',h'.get? b=a_ o'
 tups:∀b xs,H b=a_ (.tup xs)->H' b=a_ (.tup xs)
 frzs:∀b o u,H b=a_ (.frz o u)->H' b=a_ (.frz o u)
 tbls:∀b ps,H b=a_ (.tbl ps)->∃more,H' b=a_ (.tbl (ps++more))
section
variable{fs ex:List h_}{H1:Hp}{h1:IF}{x e:h_}{o:HO}
def Un.any(u:Un fs ex H H1 h h1){B:NY}(q:h.get? b=a_ B)(n:H b=d_)(I:b∉ex):∃sl,h1.get? b=a_ {B with slots:=sl}:=by
 by_cases S:b∈fs
 .exact u.slot b B q n S I
 .exact⟨B.slots,u.keep b B q n S I⟩
theorem Un.kept(k:∀b u,h.get? b=a_ u->h'.get? b=a_ u):Un fs ex H H h h':=
 ⟨λb B q _ _ _=>k b B q,λb B q _ _ _=>⟨B.slots,k b B q⟩,λ_ _ _ n _=>n,λb B q _=>⟨B,k b B q⟩,λ_ _ q=>q,λ_ _ _ q=>q,λ_ ps q=>⟨#[],a7⟩⟩
def Un.refl:Un fs ex H H h h:=Un.kept λ_ _ q=>q
def Un.laid(k:∀b u,h.get? b=a_ u->h'.get? b=a_ u)(I:h.objs.size<=a)(B:H a=d_):Un fs ex H (upd H a o) h h' where
 keep:=λb u q _ _ _=>k b u q
 slot:=λb u q _ _ _=>⟨u.slots,k b u q⟩
 free:=λb u q n _=>by rw[av (G_ (y_ (r_ q) I))];exact n
 there:=λb u q _=>⟨u,k b u q⟩
 tups:=λb xs q=>by rw[av (aL q B)];exact q
 frzs:=λb u xs q=>by rw[av (aL q B)];exact q
 tbls:=λb ps q=>⟨#[],by rw[av (aL q B),q];simp⟩
theorem Un.write(I:Mut (H x))(c:e=x\/H e=a_ (.own x))(k:∀b u,b≠e->h.get? b=a_ u->h'.get? b=a_ u)(Y:∃u,h'.get? e=a_ u):Un fs ex H (upd H x o) h h':=by
 have U:∀b,H b=d_->b≠x:=λb n z=>by subst z;rw[n]at I;exact I
 have S:∀b,H b=d_->b≠e:=λb n z=>by simp_all
 have B:∀b u,H b=a_ u->¬Mut (a_ u)->b≠x:=λb u q a z=>by simp_all
 refine⟨λb u q n _ _=>k b u (S b n) q,λb u q n _ _=>⟨u.slots,k b u (S b n) q⟩,λb u q n _=>by rw[av (U b n)];exact n,λb u q _=>?_,
  λb xs q=>by rw[av (B b _ q λz=>z)];exact q,λb u xs q=>by rw[av (B b _ q λz=>z)];exact q,λb ps q=>⟨#[],by rw[av (B b _ q λz=>z),q];simp⟩⟩
 grind
end
noncomputable def trk(h:IF)(H:Hp):List h_:=(A_ h.objs.size).filter λa=>(H a).isSome
def hidT(h:IF)(H:Hp):IF:=PySem.W.hideAll h (trk h H)
def GN(h:IF)(H:Hp):(hidT h H).objs.size=h.objs.size:=PySem.W.hideAll_size _ _
theorem hidT_get{o:NY}(e:h.get? b=a_ o)(n:H b=d_):(hidT h H).get? b=a_ o:=
 PySem.W.hideAll_get _ e λB=>by
  have q:=(Iv.mp B).2
  simp_all
theorem of_hidT{o:NY}(e:(hidT h H).get? b=a_ o):h.get? b=a_ o/\H b=d_:=by
 have B:=PySem.W.of_hideAll _ e;refine⟨B,?_⟩
 cases q:H b with
 |none=>rfl|some x=>
  have z:(hidT h H).get? b=d_:=PySem.W.hideAll_none _ (Iv.mpr ⟨IM.mpr (r_ B),by simp[q]⟩)
  simp_all
structure Mod(K:Pn)(mg:Ld)(base:IF):Prop where
 kin:K.In base
 glob:base.Ns JE mg
 blt:∃mb,base.Ns R7 mb/\∀x:IL,x≠"__name__"->mb x=K0 x
 nolimit:base.NoLimit
structure Cx where
 prog:IQ
 w:JX
 K:Pn
 mg:Ld
 base:IF
 A:Kb
 N:List IL
 s₀:j_
 H₀:Hp
 env:Qk
 outer:List Qk
 stack:List Qk
 ex:List h_
 fn:IL->Bool
 calm:Bool
 pn:Vp
 xe:Mq
variable{X:Cx}
noncomputable def frs(l:List Qk):List h_:=l.filterMap (·.frame)
abbrev Cx.fs(X:Cx):List h_:=frs X.outer
def Vis(sc:Pa)(x:IL):Prop:=sc.names.lookup x=a_ .local\/sc.names.lookup x=a_ .cell\/sc.names.lookup x=a_ .free
def Loc(sc:Pa)(x:IL):Prop:=sc.names.lookup x=a_ .local\/sc.names.lookup x=a_ .cell
def Look(env:Qk)(h:IF)(m:Ld)(x:IL)(u:g_):Prop:=
 (env.kindOf x=a_ .local/\m x=a_ u)\/((env.kindOf x=a_ .cell\/env.kindOf x=a_ .free)/\∃c,env.cells.lookup x=a_ c/\h.IsCell c (a_ u))
structure Cx.Ok(X:Cx):Prop where
 mod:Mod X.K X.mg X.base
 kind:X.env.scope.kind=.function
 glob:X.env.globals=JE
 blt:X.env.builtins=R7
 above:X.s₀.heap.objs.size<=X.env.locals
 inj:∀x y c,X.env.cells.lookup x=a_ c->X.env.cells.lookup y=a_ c->x=y
 has:∀x,(X.env.kindOf x=a_ .cell\/X.env.kindOf x=a_ .free)->∃c,X.env.cells.lookup x=a_ c
 cab:∀x c,X.fn x=e_->X.env.cells.lookup x=a_ c->X.s₀.heap.objs.size<=c
 hd:X.calm=e_->X.A.handled=d_
 frames:X.A.frames=a_ X.stack
 stk:X.stack=X.outer\/(X.stack=X.env::X.outer/\X.env.frame=a_ X.env.locals)
 exf:∀b∈X.ex,b≠X.env.locals/\∀x c,X.env.cells.lookup x=a_ c->c≠b
 bs:∀b o,X.base.get? b=a_ o->X.s₀.heap.get? b=a_ o/\X.H₀ b=d_
 bsz:X.base.objs.size<=X.s₀.heap.objs.size
 noex:∀b o,X.base.get? b=a_ o->b∉X.ex
 exfs:∀b∈X.ex,b∉X.fs
 Eu:X.s₀.heap.FunFrames X.base X.outer
 frf:∀b∈X.fs,X.H₀ b=d_
structure B3(X:Cx)(B1:Vp)(σ:List (Option V))(H:Hp)(s:j_):Prop where
 ok:X.Ok
 os:s.os=X.s₀.os
 bare:NV s.gens
 base:Un X.fs X.ex X.H₀ H X.s₀.heap s.heap
 loc:∃m,s.heap.Ns X.env.locals m/\∀(i:Nat) (x:IL) (v:V),X.N[i]?=a_ x->σ[i]?=a_ (a_ v)->Vis X.env.scope x->∃u,B5 v u/\Look X.env s.heap m x u
 cell:∀x c,X.env.cells.lookup x=a_ c->∃v,s.heap.IsCell c v
 free:H X.env.locals=d_
 freeC:∀x c,X.env.cells.lookup x=a_ c->H c=d_
 pin:∀p∈X.pn++B1,s.heap.get? p.1=a_ p.2/\H p.1=d_/\p.1≠X.env.locals/\p.1∉X.fs/\∀v,p.2.data≠.cell v
 hok:HOk H s.heap
 len:σ.length=X.N.length
section
variable{σ:List (Option V)}{s:j_}
theorem Cx.Ok.nofr(ok:X.Ok){o:NY}(e:X.base.get? b=a_ o):b∉X.fs:=λB=>by
 have:=(ok.Eu.mem B).1
 simp_all
theorem B3.bs(I:B3 X B1 σ H s):∀b o,X.base.get? b=a_ o->s.heap.get? b=a_ o/\H b=d_:=λb o e=>⟨I.base.keep b o (I.ok.bs b o e).1 (I.ok.bs b o e).2 (I.ok.nofr e) (I.ok.noex b o e),I.base.free b o (I.ok.bs b o e).1 (I.ok.bs b o e).2 (I.ok.noex b o e)⟩
def B3.bk(I:B3 X B1 σ H s):∀b o,X.base.get? b=a_ o->s.heap.get? b=a_ o:=λb o e=>(I.bs b o e).1
theorem B3.mod(I:B3 X B1 σ H s):Mod X.K X.mg X.base:=I.ok.mod
def B3.kIn(I:B3 X B1 σ H s):X.K.In s.heap:=I.ok.mod.kin.keeps I.bk
theorem B3.lt(I:B3 X B1 σ H s):X.env.locals<s.heap.objs.size:=let ⟨_,B,_⟩:=I.loc;B.lt
def B3.sz(I:B3 X B1 σ H s):X.s₀.heap.objs.size<=s.heap.objs.size:=B_ I.ok.above (IY I.lt)
def B3.nofs(I:B3 X B1 σ H s)(h:s.heap.objs.size<=a):a∉X.fs:=λS=>by obtain⟨_,o,B,_⟩:=I.ok.Eu.mem S;exact IA (y_ (r_ B) (B_ I.sz h)) (KY _)
theorem B3.cne(I:B3 X B1 σ H s):∀x c,X.env.cells.lookup x=a_ c->c≠X.env.locals:=λx c e z=>by
 obtain⟨v,o,U,Y⟩:=I.cell x c e;obtain⟨m,⟨o',es,ep,B,S,_⟩,_⟩:=I.loc
 simp_all
theorem B3.Eu(I:B3 X B1 σ H s):s.heap.FunFrames X.base X.outer:=by
 have S:∀(l:List Qk),(∀b∈frs l,b∈X.fs)->X.s₀.heap.FunFrames X.base l->s.heap.FunFrames X.base l:=by
  intro l
  induction l with
  |nil=>intro _ _;trivial|cons env r a=>rintro U ⟨g,⟨L,o,h,f,d,i⟩,c⟩;have B:=U L (by simp_all[frs]);obtain⟨sl,e⟩:=I.base.slot L o d (I.ok.frf L B) B λz=>I.ok.exfs L z B;exact⟨g,⟨L,_,h,f,e,i⟩,a (λb Y=>U b (by simp_all[frs])) c⟩
 exact S X.outer (λ_ Y=>Y) I.ok.Eu
theorem B3.stack(I:B3 X B1 σ H s):s.heap.FunFrames X.base X.stack:=by
 rcases I.ok.stk with e|⟨e,S⟩
 .exact e▸I.Eu
 .rw[e];obtain⟨m,B,_⟩:=I.loc;exact .cons (by rw[I.ok.kind];decide) S B (NC (B_ I.ok.bsz I.ok.above)) I.Eu
theorem B3.xf(I:B3 X B1 σ H s):∀b∈frs X.stack,b∈X.env.locals::X.fs:=λb S=>by
 rcases I.ok.stk with e|⟨e,B⟩
 .simp_all
 simp_all[frs]
def B3.Fe(I:B3 X B1 σ H s):∀b∈frs X.stack,H b=d_:=λb B=>by
 rcases x_.mp (I.xf b B)with e|B
 .exact e▸I.free
 .obtain⟨_,o,S,_⟩:=I.ok.Eu.mem B;exact I.base.free b o S (I.ok.frf b B) λz=>I.ok.exfs b z B
theorem B3.step{t':Nat}{T:Drawn}(I:B3 X B1 σ H s)(a:∀b∈ch,(b∈X.ex\/X.s₀.heap.objs.size<=b)/\b≠X.env.locals/\(∀x c,X.env.cells.lookup x=a_ c->c≠b)/\∀p∈X.pn++B1,p.1≠b)(Y:∀b o,b≠X.env.locals->b∉X.fs->b∉ch->s.heap.get? b=a_ o->H b=d_->h'.get? b=a_ o)(h:∀b o,b≠X.env.locals->b∈X.fs->b∉ch->s.heap.get? b=a_ o->H b=d_->∃sl,h'.get? b=a_ {o with slots:=sl})(S:∀b o,b∉ch->s.heap.get? b=a_ o->H b=d_->H' b=d_)(j:∀b o,b∉ch->s.heap.get? b=a_ o->∃o',h'.get? b=a_ o')(y:∀b xs,H b=a_ (.tup xs)->H' b=a_ (.tup xs))(D:∀b o u,H b=a_ (.frz o u)->H' b=a_ (.frz o u))(J:∀b ps,H b=a_ (.tbl ps)->∃C,H' b=a_ (.tbl (ps++C)))(ns:∀m,s.heap.Ns X.env.locals m->h'.Ns X.env.locals m)(F:HOk H' h')(R:NV g'):
  B3 X B1 σ H' {s with heap:=h',gens:=g',drawn:=T,toks:=t'}:=by
 have A:∀b o,X.s₀.heap.get? b=a_ o->b≠X.env.locals:=λb o e=>G_ (y_ (r_ e) I.ok.above);have g:∀b o,X.s₀.heap.get? b=a_ o->b∉X.ex->b∉ch:=λb o e B t=>by
  rcases(a b t).1 with z|z
  .exact B z
  .exact IA (y_ (r_ e) z) (KY _)
 have f:∀x c,X.env.cells.lookup x=a_ c->∀v,s.heap.IsCell c v->h'.IsCell c v:=λx c e v ⟨o,w,G⟩=>by
  have U:=λz=>(a c z).2.2.1 x c e rfl;by_cases O:c∈X.fs
  .obtain⟨sl,q⟩:=h c o (I.cne x c e) O U w (I.freeC x c e);exact⟨_,q,G⟩
  .exact⟨o,Y c o (I.cne x c e) O U w (I.freeC x c e),G⟩
 refine⟨I.ok,I.os,R,⟨λb o e n t B=>Y b o (A b o e) t (g b o e B) (I.base.keep b o e n t B) (I.base.free b o e n B),λb o e n t B=>?_,λb o e n B=>?_,λb o e B=>?_,λb xs e=>y b xs (I.base.tups b xs e),λb o xs e=>D b o xs (I.base.frzs b o xs e),λb ps e=>?_⟩,?_,λx c e=>?_,?_,λx c e=>?_,λp N=>?_,F,I.len⟩
 .obtain⟨sl,e1⟩:=I.base.slot b o e n t B;obtain⟨E,e2⟩:=h b _ (A b o e) t (g b o e B) e1 (I.base.free b o e n B);exact⟨E,e2⟩
 .obtain⟨o',e1⟩:=I.base.there b o e B;exact S b o' (g b o e B) e1 (I.base.free b o e n B)
 .obtain⟨o',e1⟩:=I.base.there b o e B;exact j b o' (g b o e B) e1
 .obtain⟨W,e1⟩:=I.base.tbls b ps e
  grind
 .obtain⟨m,P,Q⟩:=I.loc;refine⟨m,ns m P,λi x v e1 e2 e3=>?_⟩
  obtain⟨u,r,l⟩:=Q i x v e1 e2 e3;refine⟨u,r,?_⟩
  rcases l with l|⟨k,c,e,z⟩
  .exact .inl l
  .exact .inr ⟨k,c,e,f x c e _ z⟩
 .obtain⟨v,z⟩:=I.cell x c e;exact⟨v,f x c e v z⟩
 .obtain⟨m,⟨o,_,_,w,_⟩,_⟩:=I.loc;exact S _ o (λz=>(a _ z).2.1 rfl) w I.free
 .obtain⟨v,o,w,G⟩:=I.cell x c e;exact S c o (λz=>(a c z).2.2.1 x c e rfl) w (I.freeC x c e)
 .obtain⟨e,n,L,K,d⟩:=I.pin p N;have U:=λz=>(a p.1 z).2.2.2 p N rfl;exact⟨Y p.1 p.2 L K U e n,S p.1 p.2 U e n,L,K,d⟩
def B3.un{t':Nat}(I:B3 X B1 σ H s)(u:Un X.fs [] H H' s.heap h')(S:HOk H' h'):B3 X B1 σ H' {s with heap:=h',toks:=t'}:=by
 obtain⟨m,⟨o,es,ep,a,r⟩,_⟩:=id I.loc;obtain⟨sl,d⟩:=u.any a I.free ad;exact I.step (ch:=[]) (λ_ z=>nomatch z) (λb o _ U _ e n=>u.keep b o e n U ad) (λb o _ U _ e n=>u.slot b o e n U ad) (λb o _ e n=>u.free b o e n ad) (λb o _ e=>u.there b o e ad) u.tups u.frzs u.tbls (λf c=>by obtain⟨o',Y,ep',B,r'⟩:=c;rw[a]at B;cases B;exact⟨_,Y,ep',d,r'⟩) S I.bare
def B3.call{t':Nat}{j:Drawn}(I:B3 X B1 σ H s)(u:Un (frs X.stack) ch H H' s.heap h')(Y:HOk H' h')(h:NV g')(U:∀b∈ch,(b∈X.ex\/X.s₀.heap.objs.size<=b)/\b≠X.env.locals/\(∀x c,X.env.cells.lookup x=a_ c->c≠b)/\∀p∈X.pn++B1,p.1≠b):
  B3 X B1 σ H' {s with heap:=h',gens:=g',drawn:=j,toks:=t'}:=by
 obtain⟨m,⟨o,es,ep,f,r⟩,_⟩:=id I.loc;obtain⟨sl,a⟩:=u.any f I.free λz=>(U _ z).2.1 rfl;exact I.step U (λb o a i B e n=>u.keep b o e n (λz=>(x_.mp (I.xf b z)).elim a i) B) (λb o _ _ B e n=>u.any e n B) (λb o B e n=>u.free b o e n B) (λb o B e=>u.there b o e B) u.tups u.frzs u.tbls (λk g=>by obtain⟨o',d,ep',S,r'⟩:=g;rw[f]at S;cases S;exact⟨_,d,ep',a,r'⟩) Y h
theorem B3.turned{t':Nat}{it:h_}(I:B3 X B1 σ H s)(k:∀b o,b≠it->s.heap.get? b=a_ o->h'.get? b=a_ o)(g:H it=d_)(S:it≠X.env.locals)(h1:it∈X.ex\/X.s₀.heap.objs.size<=it)(f:∀x c,X.env.cells.lookup x=a_ c->c≠it)(d:∀p∈X.pn++B1,p.1≠it):B3 X B1 σ H {s with heap:=h',toks:=t'}:=by
 refine I.step (ch:=[it]) (λb a=>?_) (λb o _ _ B e _=>k b o (λz=>B (by simp[z])) e) (λb o _ _ B e _=>⟨o.slots,k b o (λz=>B (by simp[z])) e⟩) (λ_ _ _ _ n=>n)
  (λb o B e=>⟨o,k b o (λz=>B (by simp[z])) e⟩) (λ_ _ e=>e) (λ_ _ _ e=>e) (λb ps e=>⟨#[],a7⟩) (λm Y=>?_) (λb u e=>?_) I.bare
 .have e:=by simpa using a
  subst e;exact⟨h1,S,f,d⟩
 .obtain⟨o,es,ep,U,r⟩:=Y;exact⟨o,es,ep,k _ o (IV S) U,r⟩
 .refine(I.hok b u e).stay (λc v B q=>k c v ?_ q) (λ_ q=>q) λ_ _ q=>q
  lia
def B3.tok(I:B3 X B1 σ H s)(t:Nat):B3 X B1 σ H {s with toks:=t}:=I.un Un.refl I.hok
theorem B3.kept{t':Nat}(I:B3 X B1 σ H s)(k:∀b u,s.heap.get? b=a_ u->h'.get? b=a_ u):B3 X B1 σ H {s with heap:=h',toks:=t'}:=I.un (Un.kept k) (I.hok.kept k)
theorem B3.laid{a:h_}{o:HO}{t':Nat}(I:B3 X B1 σ H s)(k:∀b u,s.heap.get? b=a_ u->h'.get? b=a_ u)(S:s.heap.objs.size<=a)(B:gQ (upd H a o) h' a o):
  B3 X B1 σ (upd H a o) {s with heap:=h',toks:=t'}:=I.un (Un.laid k S (I.hok.fresh S)) (I.hok.laid k S B)
theorem B3.write{x e:h_}{o:HO}{t':Nat}(I:B3 X B1 σ H s)(U:Mut (H x))(Y:e=x\/H e=a_ (.own x))(k:∀b u,b≠e->s.heap.get? b=a_ u->h'.get? b=a_ u)(B:∃u,h'.get? e=a_ u)(S:gQ (upd H x o) h' x o):B3 X B1 σ (upd H x o) {s with heap:=h',toks:=t'}:=I.un (Un.write U Y k B) (I.hok.write U Y k B S)
def B3.weak{B:List (Option V)}(I:B3 X B1 σ H s)(Y:B.length=σ.length)(w:∀(i:Nat) v,B[i]?=a_ (a_ v)->σ[i]?=a_ (a_ v)):B3 X B1 B H s:=
 ⟨I.ok,I.os,I.bare,I.base,let ⟨m,U,S⟩:=I.loc;⟨m,U,λi x v e1 e2 e3=>S i x v e1 (w i v e2) e3⟩,I.cell,I.free,I.freeC,I.pin,I.hok,Y.trans I.len⟩
def B3.vo{pins':Vp}(I:B3 X B1 σ H s)(h:∀p∈pins',s.heap.get? p.1=a_ p.2/\H p.1=d_/\p.1≠X.env.locals/\p.1∉X.fs/\∀v,p.2.data≠.cell v):B3 X pins' σ H s:=
 ⟨I.ok,I.os,I.bare,I.base,I.loc,I.cell,I.free,I.freeC,λp B=>(Iw.mp B).elim (λz=>I.pin p (Jq _ z)) (h p),I.hok,I.len⟩
def BV(B:N.Nodup)(a:N[i]?=a_ x)(b:N[j]?=a_ x):i=j:=by obtain⟨h1,e1⟩:=oe.mp a;obtain⟨I,e2⟩:=oe.mp b;exact(List.getElem_inj B).mp (e1.trans e2.symm)
theorem xc{M:Rz}(I:B3 X B1 σ H s)(hN:X.N.Nodup)(hi:X.N[i]?=a_ x)(U:Loc X.env.scope x)(r:B5 v u)(h:∀s',B3 X B1 (σ.set i (a_ v)) H s'->(∃a,JY a s.heap s'.heap/\(a=X.env.locals\/X.env.cells.lookup x=a_ a))->Q () s')(hf:autoParam (X.fn x=e_\/X.env.scope.names.lookup x=a_ .local) Jq3):w_ M A (storeName X.env x u) Q E s:=by
 obtain⟨m,W,hl⟩:=id I.loc;have D:(X.env.scope.kind==.class||(X.env.scope.kind==.module&&X.env.locals != X.env.globals))=cm:=by rw[I.ok.kind];rfl
 have f:i<σ.length:=by exact I.len▸(oe.mp hi).1
 have w:=I.cne;have S:∀{a:h_} {h':IF},(∃o,s.heap.get? a=a_ o/\H a=d_)->JY a s.heap h'->HOk H h':=λ{a h'} ha B b ob e=>by
  refine(I.hok b ob e).stay (λc J Y q=>(B.2 c ?_).trans q) (λ_ q=>q) λ_ _ q=>q
  lia
 rcases U with C|C
 .refine wpAny_storeName_local C W (λh' T B=>?_) D;obtain⟨oL,_,_,R,_⟩:=id W;refine h _ ⟨I.ok,I.os,I.bare,⟨λb o e n t U=>(B.2 b (G_ (y_ (r_ e) I.ok.above))).trans (I.base.keep b o e n t U),λb o e n t U=>?_,I.base.free,λb o e U=>?_,I.base.tups,I.base.frzs,I.base.tbls⟩,⟨_,T,λj y K e1 e2 e3=>?_⟩,λy c e=>?_,I.free,I.freeC,λp O=>?_,S ⟨oL,R,I.free⟩ B,by simpa using I.len⟩ ⟨_,B,.inl rfl⟩
  .obtain⟨sl,e1⟩:=I.base.slot b o e n t U;exact⟨sl,(B.2 b (G_ (y_ (r_ e) I.ok.above))).trans e1⟩
  .obtain⟨o',e1⟩:=I.base.there b o e U;exact⟨o',(B.2 b (G_ (y_ (r_ e) I.ok.above))).trans e1⟩
  .by_cases g:j=i
   .subst g;rw[hi]at e1;cases e1;rw[t_ f]at e2;cases e2;exact⟨u,r,.inl ⟨C,ad⟩⟩
   .rw[o_ (IV g)]at e2;obtain⟨L,r',q⟩:=hl j y K e1 e2 e3;refine⟨L,r',?_⟩
    rcases q with⟨k,e⟩|⟨k,c,e,z⟩
    .refine .inl ⟨k,?_⟩;have:y≠x:=λe=>g (BV hN e1 (e▸hi))
     simp_all
    .exact .inr ⟨k,c,e,z.sameBut B (w y c e)⟩
  .obtain⟨J,z⟩:=I.cell y c e;exact⟨J,z.sameBut B (w y c e)⟩
  .obtain⟨e,n,F,N,d⟩:=I.pin p O;exact⟨(B.2 p.1 F).trans e,n,F,N,d⟩
 .have l:X.fn x=e_:=by
   rcases hf with z|z
   .exact z
   .simp_all
  obtain⟨c,Y⟩:=I.ok.has x (.inl C);obtain⟨J,z⟩:=I.cell x c Y;refine wpAny_storeName_cell I.ok.kind C Y z (λh' hc' B=>?_);obtain⟨oc,P,hocd⟩:=id z;refine h {s with heap:=h'} ⟨I.ok,I.os,I.bare,⟨λb o e n t U=>(B.2 b (G_ (y_ (r_ e) (I.ok.cab x c l Y)))).trans (I.base.keep b o e n t U),λb o e n t U=>?_,I.base.free,λb o e U=>?_,I.base.tups,I.base.frzs,I.base.tbls⟩,⟨m,W.sameBut B (IV (w x c Y)),λj y K e1 e2 e3=>?_⟩,λy G e=>?_,I.free,I.freeC,λp O=>?_,S ⟨oc,P,I.freeC x c Y⟩ B,by simpa using I.len⟩ ⟨c,B,.inr Y⟩
  .obtain⟨sl,e1⟩:=I.base.slot b o e n t U;exact⟨sl,(B.2 b (G_ (y_ (r_ e) (I.ok.cab x c l Y)))).trans e1⟩
  .obtain⟨o',e1⟩:=I.base.there b o e U;exact⟨o',(B.2 b (G_ (y_ (r_ e) (I.ok.cab x c l Y)))).trans e1⟩
  .by_cases g:j=i
   .subst g;rw[hi]at e1;cases e1;rw[t_ f]at e2;cases e2;exact⟨u,r,.inr ⟨.inl C,c,Y,hc'⟩⟩
   .rw[o_ (IV g)]at e2;obtain⟨L,r',q⟩:=hl j y K e1 e2 e3;refine⟨L,r',?_⟩
    rcases q with q|⟨k,G,e,z'⟩
    .exact .inl q
    .refine .inr ⟨k,G,e,z'.sameBut B ?_⟩;rintro rfl;exact g (BV hN e1 (I.ok.inj _ _ _ e Y▸hi))
  .by_cases Z:G=c
   .grind
   .obtain⟨w2,z2⟩:=I.cell y G e;exact⟨w2,z2.sameBut B Z⟩
  .obtain⟨e,n,F,N,d⟩:=I.pin p O;refine⟨(B.2 p.1 ?_).trans e,n,F,N,d⟩
   grind
def Br{M:Rz}(I:B3 X B1 σ H s)(U:X.N.Nodup)(hi:X.N[i]?=a_ x)(B:Loc X.env.scope x)(r:B5 v u)(h:∀s',B3 X B1 (σ.set i (a_ v)) H s'->Q () s')(S:autoParam (X.fn x=e_\/X.env.scope.names.lookup x=a_ .local) Jq3):w_ M A (storeName X.env x u) Q E s:=
 xc I U hi B r (λs' Y _=>h s' Y) S
def B3.call'(I:B3 X B1 σ H s)(U:s'.os=s.os)(u:Un (frs X.stack) ch H H' s.heap s'.heap)(B:HOk H' s'.heap)(Y:NV s'.gens)(S:∀b∈ch,(b∈X.ex\/X.s₀.heap.objs.size<=b)/\b≠X.env.locals/\(∀x c,X.env.cells.lookup x=a_ c->c≠b)/\∀p∈X.pn++B1,p.1≠b):B3 X B1 σ H' s':=by obtain⟨h',g',a,t',o'⟩:=s';subst U;exact I.call u B Y S
end
abbrev XK:=g_->Option h_->Hp->Prop
noncomputable abbrev St:=List (Option V)
variable{σ:St}
abbrev VK:=V->Hp->Prop
abbrev TE:=St->Hp->VK->Prop
variable{ta tb te:TE}
abbrev TT:=St->Hp->(Bool->Hp->Prop)->Prop
variable{tc:TT}
abbrev TA:=St->Hp->(bm->Hp->Prop)->Prop
variable{t:TA}
structure Ends where
 nx:St->Hp->Prop
 rt:VK
 bk:St->Hp->Prop:=λ_ _=>False
 ct:St->Hp->Prop:=λ_ _=>False
abbrev TS:=Ends->St->Hp->Prop
inductive EP(X:Cx)(B1:Vp)(σ:St)(Q:VK)(u:g_)(s':j_):Prop
 |mk (v:V) (H':Hp) (I:B3 X B1 σ H' s') (r:B5 v u) (q:Q v H')
inductive TP(X:Cx)(B1:Vp)(σ:St)(Q:Bool->Hp->Prop)(b:Bool)(s':j_):Prop
 |mk (H':Hp) (I:B3 X B1 σ H' s') (q:Q b H')
inductive AP(X:Cx)(B1:Vp)(σ:St)(Q:List V->Hp->Prop)(us:List g_)(s':j_):Prop
 |mk (vs:List V) (H':Hp) (I:B3 X B1 σ H' s') (r:B6 vs us) (q:Q vs H')
inductive NP(X:Cx)(B1:Vp)(Q:St->Hp->Prop)(s':j_):Prop
 |mk (σ':St) (H':Hp) (I:B3 X B1 σ' H' s') (q:Q σ' H')
inductive RP(X:Cx)(B1:Vp)(Q:VK)(u:g_)(s':j_):Prop
 |mk (v:V) (σ':St) (H':Hp) (I:B3 X B1 σ' H' s') (r:B5 v u) (q:Q v H')
def SP(X:Cx)(B1:Vp)(D:Ends)(f:Flow)(s':j_):Prop:=
 match f with
 |.next=>NP X B1 D.nx s'|.brk=>NP X B1 D.bk s'|.cont=>NP X B1 D.ct s'|.ret u=>RP X B1 D.rt u s'
def PE(X:Cx)(e:Jj)(t:TE):Prop:=
 ∀(B1:Vp) (s:j_) (σ:St) (H:Hp) (Q:VK),B3 X B1 σ H s->t σ H Q->w_ (u_ X.prog X.w) X.A (Il e X.env) (EP X B1 σ Q) X.xe s
def PT(X:Cx)(e:Jj)(t:TT):Prop:=
 ∀(B1:Vp) (s:j_) (σ:St) (H:Hp) (Q:Bool->Hp->Prop),B3 X B1 σ H s->t σ H Q->w_ (u_ X.prog X.w) X.A (Q6 e X.env (Il e X.env)) (TP X B1 σ Q) X.xe s
def PW(X:Cx)(e:Jj)(t:TT):Prop:=
 ∀(B:Nl g_) (B1:Vp) (s:j_) (σ:St) (H:Hp) (Q:Bool->Hp->Prop),B3 X B1 σ H s->t σ H Q->w_ (u_ X.prog X.w) X.A (Q6 e X.env B) (TP X B1 σ Q) X.xe s
def PW.pt{t:TT}(h:PW X e t):PT X e t:=h _
def PA(X:Cx)(es:List Jj)(t:TA):Prop:=
 ∀(pos:Pb) (B1:Vp) (s:j_) (σ:St) (H:Hp) (Q:bm->Hp->Prop),B3 X B1 σ H s->t σ H Q->w_ (u_ X.prog X.w) X.A (spliced (Jy pos (k_ es X.env))) (AP X B1 σ Q) X.xe s
def PS(X:Cx)(st:Jl)(t:TS):Prop:=
 ∀(B1:Vp) (s:j_) (σ:St) (H:Hp) (D:Ends),B3 X B1 σ H s->t D σ H->w_ (u_ X.prog X.w) X.A (exec st X.env) (SP X B1 D) X.xe s
def PSs(X:Cx)(st:List Jl)(t:TS):Prop:=
 ∀(B1:Vp) (s:j_) (σ:St) (H:Hp) (D:Ends),B3 X B1 σ H s->t D σ H->w_ (u_ X.prog X.w) X.A (execs st X.env) (SP X B1 D) X.xe s
def B'{α:Type}{t:Nl α}{Q B:α->j_->Prop}{M:Rz}{s:j_}(h:w_ M A t Q E s)(I:∀a s,Q a s->B a s):w_ M A t B E s:=Jo h I λ_ _ x=>x
section
noncomputable def oY(i:Nat):TE:=λσ H Q=>∃v,σ[i]?=a_ (a_ v)/\Q v H
noncomputable def tC(v:V):TE:=λ_ H Q=>Q v H
def pe_int{i j pos}:PE X (.Constant (.int i) j pos) (tC (.int i)):=λ_ _ _ H _ I h=>wpAny_Constant_int ⟨.int i,H,I.tok _,⟨_,rfl⟩,h⟩
def pe_bl{b j pos}:PE X (.Constant (.bool b) j pos) (tC (.bl b)):=λ_ _ _ H _ I h=>Constant_bool ⟨.bl b,H,I,rfl,h⟩
def pe_non{j pos}:PE X (.Constant .none j pos) (tC .non):=λ_ _ _ H _ I h=>Constant_none ⟨.non,H,I,rfl,h⟩
def Gl(X:Cx)(x:IL):Prop:=X.env.kindOf x=a_ .globalImplicit
def vH{s:j_}{Q:Mq}(I:B3 X B1 σ H s)(S:Gl X x)(B:X.mg x=a_ u)(h:Q u s)(U:((x==("__debug__":IL))=cm)⁻¹):w_ (u_ X.prog X.w) X.A (Il (.Name x pos) X.env) Q E s:=
 Pf I.ok.kind S (Calls.loadGlobal_global (by exact I.ok.glob▸I.mod.glob.keeps I.bk) B h) U
def lW{s:j_}{Q:Mq}(I:B3 X B1 σ H s)(Y:Gl X x)(U:X.mg x=d_)(B:K0 x=a_ u)(h:Q u s)(S:(x≠"__name__")⁻¹)(a:((x==("__debug__":IL))=cm)⁻¹):w_ (u_ X.prog X.w) X.A (Il (.Name x pos) X.env) Q E s:=by obtain⟨c,h1,b⟩:=I.mod.blt;exact Pf I.ok.kind Y (Calls.loadGlobal_builtin (by exact I.ok.glob▸I.mod.glob.keeps I.bk) U (by exact I.ok.blt▸h1.keeps I.bk) ((b x S).trans B) h) a
def pe_glob(S:Gl X x)(B:X.mg x=a_ u)(r:B5 v u)(U:((x==("__debug__":IL))=cm)⁻¹):PE X (.Name x pos) (tC v):=
 λ_ _ _ H _ I h=>vH I S B ⟨v,H,I,r,h⟩ U
def pe_bltn(Y:Gl X x)(U:X.mg x=d_)(B:K0 x=a_ u)(r:B5 v u)(S:(x≠"__name__")⁻¹)(a:((x==("__debug__":IL))=cm)⁻¹):PE X (.Name x pos) (tC v):=
 λ_ _ _ H _ I h=>lW I Y U B ⟨v,H,I,r,h⟩ S a
variable{a b:Jj}
variable{tA tB':TT}{rest:List Jj}
noncomputable def tAnd(t u:TT):TT:=λσ H Q=>t σ H λc H1=>if c=e_ then u σ H1 Q else Q cm H1
noncomputable def tOr(t u:TT):TT:=λσ H Q=>t σ H λc H1=>if c=e_ then Q e_ H1 else u σ H1 Q
noncomputable def tNot(t:TT):TT:=λσ H Q=>t σ H λc H1=>Q (!c) H1
def pw_and(d:PT X a tA)(Y:PW X (.BoolOp .And (b::rest) pos) tB'):PW X (.BoolOp .And (a::b::rest) pos) (tAnd tA tB'):=by
 intro S B1 s σ H Q I h;refine isTrue_and (B' (d B1 s σ H _ I h) λc s1 U=>?_);obtain⟨H1,B,q1⟩:=U;cases c with
 |true=>exact Y S B1 s1 σ H1 Q B q1|false=>exact⟨H1,B,q1⟩
def pw_or(d:PT X a tA)(Y:PW X (.BoolOp .Or (b::rest) pos) tB'):PW X (.BoolOp .Or (a::b::rest) pos) (tOr tA tB'):=by
 intro S B1 s σ H Q I h;refine isTrue_or (B' (d B1 s σ H _ I h) λc s1 U=>?_);obtain⟨H1,B,q1⟩:=U;cases c with
 |true=>exact⟨H1,B,q1⟩|false=>exact Y S B1 s1 σ H1 Q B q1
def pt_not(S:PT X a tA):PT X (.UnaryOp .Not a pos) (tNot tA):=by intro B1 s σ H Q I h;refine isTrue_not (B' (S B1 s σ H (λc H1=>Q (!c) H1) I h) λ_ _ B=>?_);obtain⟨H1,U,q1⟩:=B;exact⟨H1,U,q1⟩
noncomputable def tAndV(ta tb:TE):TE:=λσ H Q=>ta σ H λx H1=>∃c,x=.bl c/\if c=e_ then tb σ H1 Q else Q (.bl cm) H1
def pe_and(d:PE X a ta)(Y:PE X (.BoolOp .And (b::rest) pos) tb):PE X (.BoolOp .And (a::b::rest) pos) (tAndV ta tb):=by
 intro B1 s σ H Q I h;refine BoolOp_and (B' (d B1 s σ H _ I h) λv s1 U=>?_);obtain⟨x,H1,B,S,q1⟩:=U;obtain⟨c,rfl,q1⟩:=q1;cases S;refine JW ?_;cases c with
 |true=>exact Y B1 s1 σ H1 Q B q1|false=>exact⟨.bl cm,H1,B,rfl,q1⟩
noncomputable def tIf(t:TT)(ta tb:TE):TE:=λσ H Q=>t σ H λc H1=>if c=e_ then ta σ H1 Q else tb σ H1 Q
def pe_ifExp(U:PT X c tA)(e:PE X a ta)(Y:PE X b tb):PE X (.IfExp c a b pos) (tIf tA ta tb):=by
 intro B1 s σ H Q I h;refine wpAny_IfExp (B' (U B1 s σ H _ I h) λd s1 S=>?_);obtain⟨H1,B,q1⟩:=S;cases d with
 |true=>exact e B1 s1 σ H1 Q B q1|false=>exact Y B1 s1 σ H1 Q B q1
end
inductive KLs(K:Pn)(a:h_)(xs:List V):Prop
 |mk (o:NY) (its:Array g_) (n:Nat) (k:K.lookup a=a_ o) (c:o.cls=.type "list") (d:o.dict=d_) (s:o.data=.seq its n) (z:its.size<=n_) (r:B6 xs its.toList)
inductive KTp(K:Pn)(a:h_)(xs:List V):Prop
 |mk (o:NY) (its:Array g_) (n:Nat) (k:K.lookup a=a_ o) (c:o.cls=.type "tuple") (s:o.data=.seq its n) (z:its.size<=n_) (r:B6 xs its.toList)
def SqL(K:Pn)(H:Hp)(a:h_)(xs:bm):Prop:=Rd H a (.lst xs)\/KLs K a xs
def SqT(K:Pn)(H:Hp)(a:h_)(xs:bm):Prop:=Rd H a (.tup xs)\/KTp K a xs
noncomputable def absV:g_->Option V
 |.none=>a_ .non|.bool b=>a_ (.bl b)|.int i _=>a_ (.int i)|.ref a=>a_ (.ref a)|.type n=>a_ (.ty n)|_=>d_
def B5.abs{x:V}(r:B5 x u):absV u=a_ x:=by
 cases x with
 |non=>cases r;rfl|bl _=>cases r;rfl|int _=>obtain⟨t,rfl⟩:=r;rfl
 |ref _=>cases r;rfl|ty _=>cases r;rfl
def B5.inj{x y:V}{u:g_}(r:B5 x u)(q:B5 y u):x=y:=JT (r.abs.symm.trans q.abs)
theorem B6.inj:∀{xs ys:bm} {us:bv},B6 xs us->B6 ys us->xs=ys
 |_,_,_,.nil,.nil=>rfl|_,_,_,.cons r t,.cons r' t'=>by rw[r.inj r',B6.inj t t']
section
variable{s:j_}{ys:List V}
def SqL.of(h:H a=a_ (.lst xs)):SqL K H a xs:=.inl (.inl h)
def SqT.of(h:H a=a_ (.tup xs)):SqT K H a xs:=.inl (.inl h)
inductive AsQ(P:Array g_->Prop)(xs:List V):Prop
 |mk (its:List g_) (r:B6 xs its) (p:P its.toArray) (z:xs.length<=n_)
theorem B3.list(I:B3 X B1 σ H s)(h:SqL X.K H a xs):AsQ (PlainL s.heap a) xs:=by
 rcases h with h|⟨o,its,n,B,U,S,Y,hz,r⟩
 .obtain⟨z,its,n,r,e⟩:=h.ok I.hok;exact⟨its,r,⟨_,n,e,rfl,rfl,rfl⟩,z⟩
 .refine⟨its.toList,r,⟨o,n,I.kIn a o B,U,S,a7⟩,?_⟩
  have e:=r.length
  simp_all
theorem B3.tuple(I:B3 X B1 σ H s)(h:SqT X.K H a xs):AsQ (PM s.heap a) xs:=by
 rcases h with h|⟨o,its,n,B,S,U,hz,r⟩
 .obtain⟨z,its,r,p⟩:=h.ok I.hok;exact⟨its,r,p,z⟩
 .refine⟨its.toList,r,⟨o,I.kIn a o B,S,n,a7⟩,?_⟩
  have e:=r.length
  simp_all
def B3.C4(I:B3 X B1 σ H s)(h:SqL X.K H a xs)(h':SqL X.K H a ys):xs=ys:=by
 obtain⟨its,r,⟨o,n,e,_,_,d⟩,_⟩:=I.list h;obtain⟨its',r',⟨o',U,B,_,_,S⟩,_⟩:=I.list h';rw[e]at B;cases B;rw[d]at S;injection S with d1 _
 have:=by simpa using Kd Oj d1
 subst this;exact r.inj r'
def B3.mI(I:B3 X B1 σ H s)(h:SqT X.K H a xs)(h':SqT X.K H a ys):xs=ys:=by
 obtain⟨its,r,⟨o,e,_,n,d⟩,_⟩:=I.tuple h;obtain⟨its',r',⟨o',B,_,U,S⟩,_⟩:=I.tuple h';rw[e]at B;cases B;rw[d]at S;injection S with d1 _
 have:=by simpa using Kd Oj d1
 subst this;exact r.inj r'
end
noncomputable abbrev Cx.wish(X:Cx)(E:Mq):Cx:={X with xe:=E}
abbrev Cx.nox(X:Cx):Cx:=X.wish λ_ _=>False
theorem Cx.Ok.wish{X:Cx}(ok:X.Ok)(E:Mq):(X.wish E).Ok:=
 ⟨ok.mod,ok.kind,ok.glob,ok.blt,ok.above,ok.inj,ok.has,ok.cab,ok.hd,ok.frames,ok.stk,ok.exf,ok.bs,ok.bsz,ok.noex,ok.exfs,ok.Eu,ok.frf⟩
def Cx.Ok.oG(ok:(X.wish E).Ok):X.Ok:=
 ⟨ok.mod,ok.kind,ok.glob,ok.blt,ok.above,ok.inj,ok.has,ok.cab,ok.hd,ok.frames,ok.stk,ok.exf,ok.bs,ok.bsz,ok.noex,ok.exfs,ok.Eu,ok.frf⟩
section
variable{s:j_}
theorem B3.wish(I:B3 X B1 σ H s)(E:Mq):B3 (X.wish E) B1 σ H s:=⟨I.ok.wish E,I.os,I.bare,I.base,I.loc,I.cell,I.free,I.freeC,I.pin,I.hok,I.len⟩
theorem B3.oG(I:B3 (X.wish E) B1 σ H s):B3 X B1 σ H s:=⟨I.ok.oG,I.os,I.bare,I.base,I.loc,I.cell,I.free,I.freeC,I.pin,I.hok,I.len⟩
theorem SP.oG{D:Ends}{f:Flow}{s':j_}(h:SP (X.wish E) B1 D f s'):SP X B1 D f s':=by
 cases f with
 |next=>obtain⟨B,H',I,q⟩:=h;exact⟨B,H',I.oG,q⟩
 |brk=>obtain⟨B,H',I,q⟩:=h;exact⟨B,H',I.oG,q⟩
 |cont=>obtain⟨B,H',I,q⟩:=h;exact⟨B,H',I.oG,q⟩
 |ret u=>obtain⟨v,B,H',I,r,q⟩:=h;exact⟨v,B,H',I.oG,r,q⟩
theorem PSs.nox{st:List Jl}{t:TS}(h:PSs X.nox st t):PSs X st t:=λB1 s σ H D I hw=>Jo (h B1 s σ H D (I.wish _) hw) (λ_ _ q=>q.oG) λ_ _ z=>Jt z
end
section
variable{st:Jl}{rest:List Jl}{t u:TS}
def D7:TS:=λD σ H=>D.nx σ H
def tR(t u:TS):TS:=λD σ H=>t {D with nx:=u D} σ H
def qz:PSs X [] D7:=λ_ _ σ H _ I h=>NX ⟨σ,H,I,h⟩
def bS(h1:PS X st t)(S:PSs X rest u):PSs X (st::rest) (tR t u):=by
 intro B1 s σ H D I h;refine SA (B' (h1 B1 s σ H {D with nx:=u D} I h) λf s1 q=>?_);cases f with
 |next=>obtain⟨B,H',U,q⟩:=q;exact S B1 s1 B H' D U q
 |ret v=>exact q|brk=>exact q|cont=>exact q
def f9(h1:PS X st t):PSs X [st] t:=by
 intro B1 s σ H D I h;refine SA (B' (h1 B1 s σ H D I h) λf s1 q=>?_);cases f with
 |next=>exact NX q|ret v=>exact q|brk=>exact q|cont=>exact q
def B3.quiet{s:j_}(I:B3 X B1 σ H s):interactive X.env=cm:=by simp[interactive,I.ok.kind]
def tDrop(te:TE):TS:=λD σ H=>te σ H λ_ H1=>D.nx σ H1
def nT(U:PE X e te)(B: ~~~(J4 e d_ pos.line X.env=JM cm)):PS X (.Expr e pos) (tDrop te):=by intro B1 s σ H D I h;refine wpAny_Expr_any (B' (U B1 s σ H _ I h) λv s1 S=>?_) I.quiet B;obtain⟨x,H1,Y,a,q1⟩:=S;exact⟨σ,H1,Y,q1⟩
def tRet(te:TE):TS:=λD σ H=>te σ H D.rt
def xO(U:PE X e te):PS X (.Return (a_ e) pos) (tRet te):=by intro B1 s σ H D I h;refine wpAny_Return_some (B' (U B1 s σ H _ I h) λv s1 S=>?_);obtain⟨x,H1,Y,B,q1⟩:=S;exact⟨x,σ,H1,Y,B,q1⟩
def tIfS(c:TT)(t u:TS):TS:=λD σ H=>c σ H λb H1=>if b=e_ then t D σ H1 else u D σ H1
def FL{a b:List Jl}(U:PT X c tc)(e:PSs X a t)(Y:PSs X b u):PS X (.If c a b pos) (tIfS tc t u):=by
 intro B1 s σ H D I h;refine wpAny_If (B' (U B1 s σ H _ I h) λd s1 S=>?_);obtain⟨H1,B,q1⟩:=S;cases d with
 |true=>exact e B1 s1 σ H1 D B q1|false=>exact Y B1 s1 σ H1 D B q1
noncomputable def tNever:TS:=λ_ _ _=>False
def FJ{sts:List Jl}:PSs X sts tNever:=λ_ _ _ _ _ _ h=>h.elim
end
abbrev TG:=V->St->Hp->(St->Hp->Prop)->Prop
abbrev TGs:=bm->St->Hp->(St->Hp->Prop)->Prop
def PG(X:Cx)(B:Jj)(t:TG):Prop:=
 ∀(B1:Vp) (s:j_) (σ:St) (H:Hp) (v:V) (u:g_) (Q:St->Hp->Prop),B3 X B1 σ H s->B5 v u->t v σ H Q ->
  w_ (u_ X.prog X.w) X.A (Ng B X.env u) (λ_ s'=>NP X B1 Q s') X.xe s
def PGs(X:Cx)(ts:List Jj)(t:TGs):Prop:=
 ∀(B1:Vp) (s:j_) (σ:St) (H:Hp) (vs:bm) (us:bv) (Q:St->Hp->Prop),B3 X B1 σ H s->B6 vs us->t vs σ H Q ->
  w_ (u_ X.prog X.w) X.A (assignInOrder ((KQ ts X.env).map (·.2)) us) (λ_ s'=>NP X B1 Q s') X.xe s
abbrev TSet:=V->V->V->Hp->(Hp->Prop)->Prop
def PSet(X:Cx)(t:TSet):Prop:=
 ∀(B1:Vp) (s:j_) (σ:St) (H:Hp) (o i v:V) (ov B u:g_) (Q:Hp->Prop),B3 X B1 σ H s->B5 o ov->B5 i B->B5 v u->t o i v H Q ->
  w_ (u_ X.prog X.w) X.A (Sm ov B u) (λ_ s'=>TP X B1 σ (λ_=>Q) e_ s') X.xe s
noncomputable def gm(i:Nat):TG:=λv σ H Q=>Q (σ.set i (a_ v)) H
def jr(U:X.N.Nodup)(hi:X.N[i]?=a_ x)(B:Loc X.env.scope x)(S:autoParam (X.fn x=e_\/X.env.scope.names.lookup x=a_ .local) Jq3):PG X (.Name x pos) (gm i):=by intro B1 s σ H v u Q I r h;exact Sj (Br I U hi B r (λs' Y=>⟨_,H,Y,h⟩) S)
noncomputable def gNil:TGs:=λvs σ H Q=>vs=[]/\Q σ H
noncomputable def gCons(t:TG)(u:TGs):TGs:=λvs σ H Q=>∃v r,vs=v::r/\t v σ H λB H'=>u r B H' Q
def FR:PGs X [] gNil:=by rintro B1 s σ H vs us Q I r ⟨e,h⟩;subst e;exact assignInOrder_nil ⟨σ,H,I,h⟩
def pM{t:TG}{u:TGs}(h1:PG X e t)(a:PGs X es u)(U: ~~~((KQ (e::es) X.env).map (·.2)=Ng e X.env::(KQ es X.env).map (·.2))):PGs X (e::es) (gCons t u):=by
 rintro B1 s σ H vs us Q I r ⟨v,c,e1,h⟩;subst e1;cases r with
 |cons r S=>rw[U];refine assignInOrder_cons (B' (h1 B1 s σ H _ _ _ I r h) λ_ s1 Y=>?_);obtain⟨B,H1,b,q1⟩:=Y;exact(a B1 s1 B H1 _ _ Q b S q1)
def gTup(K:Pn)(n:Nat)(t:TGs):TG:=λv σ H Q=>∃a xs,v=.ref a/\SqT K H a xs/\xs.length=n/\t xs σ H Q
def gSub(to B:TE)(t:TSet):TG:=λv σ H Q=>to σ H λo H1=>B σ H1 λi H2=>t o i v H2 λI=>Q σ I
def FT{o i:Jj}{to U:TE}{t:TSet}(d:PE X o to)(hi:PE X i U)(c:PSet X t)(l:autoParam (∀v,Ng (.Subscript o i pos) X.env v=(do
   let ov <- Ln [v] (Il o X.env)
   let B <- Ln [v,ov] (Il i X.env)
   NK pos
   Ln [v,ov,B] (Sm ov B v)
   release [v,ov,B] [])) Jq4):PG X (.Subscript o i pos) (gSub to U t):=by
 intro B1 s σ H v u Q I r h;refine b_ (Ju (B' (d B1 s σ H _ I h) λov s1 S=>?_));obtain⟨x,H1,g,a,q1⟩:=S;refine(b_ (Ju (B' (hi B1 s1 σ H1 _ g q1) λB s2 S=>?_)))
 obtain⟨y,H2,f,Y,q2⟩:=S;refine b_ (Qu (b_ (Ju (B' (c B1 s2 σ H2 x y v ov B u _ f a Y r q2) λ_ k S=>?_))));obtain⟨j,e,b⟩:=S;exact(wpAny_release ⟨σ,j,e,b⟩)
def zW(te:TE)(g:TG):TS:=λD σ H=>te σ H λx H1=>g x σ H1 D.nx
def BN{g:TG}(a:PE X e te)(Y:PG X tg g)(S: ~~~(OE [tg] e pos.line X.env=JM cm))(hw: ~~~(OF [tg] e X.env=JM d_))(h1: ~~~((KQ [tg] X.env).map (·.2)=[Ng tg X.env])):PS X (.Assign [tg] e pos) (zW te g):=by intro B1 s σ H D I h;refine wpAny_Assign_stores (B' (a B1 s σ H _ I h) λv s1 U=>?_) S hw;obtain⟨x,H1,b,B,q1⟩:=U;exact h1▸B' (Y B1 s1 σ H1 x v _ b B q1) λ_ s2 q=>q
def qB(c:X.N.Nodup)(hi:X.N[i]?=a_ x)(S:Loc X.env.scope x)(b:PE X e te)(U: ~~~(J4 e (a_ (.Name x pos')) pos.line X.env=JM cm))(a:autoParam (X.fn x=e_\/X.env.scope.names.lookup x=a_ .local) Jq3):
  PS X (.Assign [.Name x pos'] e pos) (zW te (gm i)):=by
 intro B1 s σ H D I h;refine wpAny_Assign_Name (B' (b B1 s σ H _ I h) λv s1 Y=>?_) U;obtain⟨y,H1,f,B,q1⟩:=Y;exact(Br f c hi S B (λs2 d=>⟨_,H1,d,q1⟩) a)
def tWhile(c:TT)(tb:TS):TS:=λD σ H=>∃W:Nat->St->Hp->Prop,(∃m,W m σ H)/\∀m σ H,W m σ H ->
 c σ H λb H1=>if b=e_ then ∃N:St->Hp->Prop,(∀B H',N B H'->∃I,I<m/\W I B H')/\tb {D with nx:=N,ct:=N,bk:=D.nx} σ H1 else D.nx σ H1
def ps_while{tb:TS}(d:QV (u_ X.prog X.w) X.A X.env X.xe)(q:PT X c tc)(r:PSs X body tb):PS X (.While c body [] pos) (tWhile tc tb):=by
 rintro B1 s σ H D I ⟨W,⟨p,o⟩,U⟩;refine wpAny_While (codeAny_whileLoop (λn s'=>NP X B1 (W n) s') ?_ p ⟨σ,H,I,o⟩);rintro n s1 ⟨S,H1,t,m⟩;refine Lq d (B' (q B1 s1 S H1 _ t (U n S H1 m)) λb s2 d=>?_);obtain⟨H2,l,q2⟩:=d;cases b with
 |true=>
  obtain⟨N,k,q2⟩:=q2;refine Lq d (B' (r B1 s2 S H2 _ l q2) λf u a=>?_);cases f with
  |next=>obtain⟨B,Y,j,g⟩:=a;obtain⟨h,i,e⟩:=k B Y g;exact⟨h,i,B,Y,j,e⟩
  |cont=>obtain⟨B,Y,j,g⟩:=a;obtain⟨h,i,e⟩:=k B Y g;exact⟨h,i,B,Y,j,e⟩
  |brk=>exact a|ret v=>exact a
 |false=>exact NX ⟨S,H2,l,q2⟩
structure It where
 go:Nat->Hp->Prop
 yld:Nat->Hp->V->Hp->Prop
 stop:Nat->Hp->Prop
def En(X:Cx)(B1:Vp)(H:Hp)(b:h_):Prop:=
 H b=d_/\b≠X.env.locals/\b∉X.fs/\(b∈X.ex\/X.s₀.heap.objs.size<=b)/\(∀x c,X.env.cells.lookup x=a_ c->c≠b)/\∀p∈X.pn++B1,p.1≠b
theorem B3.Ew{s:j_}(I:B3 X B1 σ H s)(B:s.heap.objs.size<=b)(U:H' b=d_):En X B1 H' b:=by
 refine⟨U,J3 (y_ I.lt B),I.nofs B,.inr (B_ I.sz B),λx c e z=>?_,λp S z=>(IA (y_ (r_ (I.pin p S).1) a7) (KY _))⟩
 .obtain⟨v,q⟩:=I.cell x c e;exact IA (y_ q.lt a7) (KY _)
inductive TnP(X:Cx)(B1:Vp)(σ:St)(u:g_)(s:j_)(Y:V->Hp->Prop)(T:Prop)(fp:List h_):Prop
 |mk (x:V) (H':Hp) (I:B3 X B1 σ H' s) (r:B5 x u) (y:Y x H') (t:T) (n:∀b∈fp,H' b=d_)
structure Turn(P:IQ)(w:JX)(K:Pn)(tg:Jj)(J:It)(fp:List h_)(it:h_)(tn:Nat->IF->Prop):Prop where
 mem:it∈fp
 obj:∀i h,tn i h->∀b∈fp,∃o,h.get? b=a_ o/\∀v,o.data≠.cell v
 keep:∀i h h',tn i h->(∀b∈fp,∀o,h.get? b=a_ o->h'.get? b=a_ o)->tn i h'
 item:∀(X:Cx),X.prog=P->X.w=w->X.K=K->X.calm=e_->∀(i:Nat) (B1:Vp) (s:j_) (σ:St) (H:Hp) (E:Mq),B3 X B1 σ H s->(∀b∈fp,En X B1 H b)->tn i s.heap->J.go i H ->
  w_ (u_ P w) X.A (NL (.ref it)) (λr s1=>∃u,r=a_ u /\
   w_ (u_ P w) X.A (PU tg (.ref it) u) (λ_ s2=>TnP X B1 σ u s2 (J.yld i H) (tn (i+1) s2.heap) fp) E s1) E s
 done:∀(X:Cx),X.prog=P->X.w=w->X.K=K->X.calm=e_->∀(i:Nat) (B1:Vp) (s:j_) (σ:St) (H:Hp) (E:Mq),B3 X B1 σ H s->(∀b∈fp,En X B1 H b)->tn i s.heap->J.stop i H ->
  w_ (u_ P w) X.A (NL (.ref it)) (λr s1=>r=d_/\B3 X B1 σ H s1) E s
 self:∀(A:Kb) (i:Nat) (s:j_) (Q:Mq) (E:Mq),tn i s.heap->Q (.ref it) s->w_ (u_ P w) A (Q5 (.ref it)) Q E s
abbrev TI:=St->Hp->(It->Hp->Prop)->Prop
inductive PIE(X:Cx)(B1:Vp)(σ:St)(tg:Jj)(R:It->Hp->Prop)(itv:g_)(s2:j_):Prop
 |mk (it:h_) (fp:List h_) (tn:Nat->IF->Prop) (J:It) (H':Hp) (e:itv=.ref it) (I:B3 X B1 σ H' s2) (t:Turn X.prog X.w X.K tg J fp it tn) (z:tn 0 s2.heap) (f:∀b∈fp,En X B1 H' b) (r:R J H')
def PI(X:Cx)(tg iter:Jj)(wi:TI):Prop:=
 ∀(B1:Vp) (s:j_) (σ:St) (H:Hp) (R:It->Hp->Prop),B3 X B1 σ H s->wi σ H R ->
  w_ (u_ X.prog X.w) X.A (Il iter X.env) (λv s1=>w_ (u_ X.prog X.w) X.A (Q5 v) (PIE X B1 σ tg R) X.xe s1) X.xe s
def GR{M : Rz}{A : Kb}{E : g_ -> j_ -> Prop}{s : j_}{tg : Jj}{it : h_}{u : g_}{o : NY}{n : String}{vs : Array g_}{Q : Unit -> j_ -> Prop}(I : s.heap.get? it = a_ o)(Y : o.cls = .type n)(U : o.data = .fields vs)(S : ["enumerate", "zip", "dict_itemiterator", "dict_reverseitemiterator", "odict_iterator", "itertools.zip_longest", "itertools.pairwise"].contains n = cm)(B : Q () s): w_ M A (PU tg (.ref it) u) Q E s := by
  cases tg <;> first
    | exact fm B
    | (cases u <;> first
        | exact fm B
        | (refine b_ (OQ I ?_)
           rw[Y,U];show w_ M A (if (["enumerate", "zip", "dict_itemiterator", "dict_reverseitemiterator", "odict_iterator", "itertools.zip_longest", "itertools.pairwise"].contains n && vs[0]?== a_ (LP _)) = e_ then _ else _) Q E s;rw[q_ (by intro h; rw[S]at h; cases h)];exact fm B))
noncomputable def Itl(K:Pn)(a:h_):It:=
 ⟨λi H=>∃xs x,SqL K H a xs/\xs[i]?=a_ x,λi H x H'=>H'=H/\∀xs,SqL K H a xs->xs[i]?=a_ x,λi H=>∃xs,SqL K H a xs/\xs.length<=i⟩
noncomputable def Itt(K:Pn)(a:h_):It:=
 ⟨λi H=>∃xs x,SqT K H a xs/\xs[i]?=a_ x,λi H x H'=>H'=H/\∀xs,SqT K H a xs->xs[i]?=a_ x,λi H=>∃xs,SqT K H a xs/\xs.length<=i⟩
noncomputable def Itr(lo:Int)(n:Nat):It:=⟨λi _=>i<n,λi H x H'=>H'=H/\x=.int (lo+i),λi _=>n<=i⟩
theorem qf(a it:h_):Turn P w K tg (Itl K a) [it] it (λi h=>h.IsListIter it a i) where
 mem:=by simp
 obj:=λi h st b B=>by
  have e:=by simpa using B
  obtain⟨o,e,c,d⟩:=st
  simp_all
 keep:=λi h h' st k=>st.at λo e=>k it ad o e
 item:=by intro X l hw m n i B1 s σ H E I Y st j;subst l hw m;obtain⟨xs,x,U,g⟩:=j;obtain⟨its,f,p,hz⟩:=I.list U;obtain⟨u,t,q⟩:=f.get g;obtain⟨f0,f1,f2,f3,f4,f5⟩:=Y it ad;refine Q3 st p.isList (x:=u) a7 λh' S sb=>?_;obtain⟨o,e,c,d⟩:=id S;exact⟨u,rfl,GR e c d am ⟨x,H,(I.turned (t':=s.toks) (λb o B e=>(sb.2 b B).trans e) f0 f1 f3 f4 f5),q,⟨rfl,λys r=>by rw[I.C4 r U];exact g⟩,S,λb B=>(Y b B).1⟩⟩
 done:=by intro X l hw m n i B1 s σ H E I Y st j;subst l hw m;obtain⟨xs,U,g⟩:=j;obtain⟨its,f,p,hz⟩:=I.list U;obtain⟨f0,f1,f2,f3,f4,f5⟩:=Y it ad;have v:=f.length;exact Rk (I.ok.hd n) st p.isList a7 λh' eb=>⟨rfl,I.turned (λb o B e=>eb b o B e) f0 f1 f3 f4 f5⟩
 self:=λ_ _ _ _ _ st h=>wpAny_pyIter_listiter st h
theorem tQ(a it:h_):Turn P w K tg (Itt K a) [it] it (λi h=>h.IsTupleIter it a i) where
 mem:=by simp
 obj:=λi h st b B=>by
  have e:=by simpa using B
  obtain⟨o,e,c,d⟩:=st
  simp_all
 keep:=λi h h' st k=>st.at λo e=>k it ad o e
 item:=by intro X l hw m n i B1 s σ H E I Y st j;subst l hw m;obtain⟨xs,x,U,g⟩:=j;obtain⟨its,f,p,hz⟩:=I.tuple U;obtain⟨u,t,q⟩:=f.get g;obtain⟨f0,f1,f2,f3,f4,f5⟩:=Y it ad;refine wpAny_pyNext_tuple_item st (show s.heap.IsTuple a its.toArray from p) (x:=u) a7 λh' S sb=>?_;obtain⟨o,e,c,d⟩:=id S;exact⟨u,rfl,GR e c d am ⟨x,H,(I.turned (t':=s.toks) (λb o B e=>(sb.2 b B).trans e) f0 f1 f3 f4 f5),q,⟨rfl,λys r=>by rw[I.mI r U];exact g⟩,S,λb B=>(Y b B).1⟩⟩
 done:=by intro X l hw m n i B1 s σ H E I Y st j;subst l hw m;obtain⟨xs,U,g⟩:=j;obtain⟨its,f,p,hz⟩:=I.tuple U;obtain⟨f0,f1,f2,f3,f4,f5⟩:=Y it ad;have v:=f.length;exact wpAny_pyNext_tuple_end (I.ok.hd n) st (show s.heap.IsTuple a its.toArray from p) a7 λh' eb=>⟨rfl,I.turned (λb o B e=>eb b o B e) f0 f1 f3 f4 f5⟩
 self:=λ_ _ _ _ _ st h=>wpAny_pyIter_tupleiter st h
theorem D3(it:h_)(lo:Int)(n:Nat):Turn P w K tg (Itr lo n) [it] it (λi h=>IsRangeIter h it (lo+(i:Nat)*1) ((n:Int)-(i:Nat)) 1) where
 mem:=by simp
 obj:=λi h st b S=>by simp_all
 keep:=λi h h' st k=>k it ad _ st
 item:=by
  intro X c hw d a i B1 s σ H E I U st Y;subst c hw d;obtain⟨f0,f1,f2,f3,f4,f5⟩:=U it ad;have W:=Walks.range (prog:=X.prog) (w:=X.w) (I.ok.hd a) it lo 1 n;refine W.item i s _ _ Y st λv h' tk g B f=>?_;obtain⟨t,rfl⟩:=g;refine⟨_,rfl,GR B rfl rfl am ⟨.int _,H,(I.turned (λb o S e=>f b o a7 e) f0 f1 f3 f4 f5),⟨t,?_⟩,⟨rfl,rfl⟩,B,λb S=>(U b S).1⟩⟩
  simp
 done:=by intro X c hw d a i B1 s σ H E I U st Y;obtain⟨f0,f1,f2,f3,f4,f5⟩:=U it ad;exact wpAny_pyNext_range_end (I.ok.hd a) st (by have:n<=i:=Y;lia) λh' eb=>⟨rfl,I.turned (λb o S e=>eb b o S e) f0 f1 f3 f4 f5⟩
 self:=λ_ _ _ _ _ st h=>wpAny_pyIter_rangeiter st h
theorem BJ{s:j_}{R:It->Hp->Prop}{lo hi:Int}{t u v:Tok}{tk:Nat}(I:B3 X B1 σ H s)(h1: -(2^62)<=lo)(a:lo<2^62)(Y: -(2^62)<=hi)(U:hi<2^62)(q:R (Itr lo (hi-lo).toNat) H):w_ (u_ X.prog X.w) X.A (Q5 (.ref s.heap.objs.size)) (PIE X B1 σ tg R) E {s with heap:=s.heap.push {cls:=.type "range",data:=.fields #[.int lo t,.int hi u,.int 1 v]},toks:=tk}:=by
 refine wpAny_pyIter_range (IsRange.new ..) (SD h1 a Y U) ?_;have B:B3 X B1 σ H {s with heap:=s.heap.push {cls:=.type "range",data:=.fields #[.int lo t,.int hi u,.int 1 v]},toks:=tk}:=I.kept λb o e=>c_ _ e;refine⟨(s.heap.push {cls:=.type "range",data:=.fields #[.int lo t,.int hi u,.int 1 v]}).objs.size,[(s.heap.push {cls:=.type "range",data:=.fields #[.int lo t,.int hi u,.int 1 v]}).objs.size],_,_,H,rfl,
  B.kept λb o e=>c_ _ e,D3 _ lo (hi-lo).toNat,?_,λb S=>?_,q⟩
 .have e1:lo+((0:Nat))*1=lo:=by simp
  have e2:(((hi-lo).toNat:Nat))-((0:Nat))=Lv lo hi 1:=by rw[Qz];split<;>lia
  rw[e1,e2];exact i_ _ rfl
 .have e:b=(s.heap.push {cls:=.type "range",data:=.fields #[.int lo t,.int hi u,.int 1 v]}).objs.size:=by simpa using S
  subst e;exact B.Ew (f_ _) (B.hok.fresh (f_ _))
def iRng1(ta:TA):TI:=λσ H R=>ta σ H λvs H1=>∃j:Int,vs=[.int j]/\ -(2^62)<=j/\j<2^62/\R (Itr 0 j.toNat) H1
def iRng2(ta:TA):TI:=λσ H R=>ta σ H λvs H1=>∃i j:Int,vs=[.int i,.int j]/\(-(2^62)<=i/\i<2^62/\ -(2^62)<=j/\j<2^62)/\R (Itr i (j-i).toNat) H1
theorem FQ{a:Jj}{ta:TA}(c:Gl X "range")(b:X.mg "range"=d_)(d:PA X [a] ta)(U: ~~~(k_ [a] X.env=[(cm,Il a X.env)])):PI X tg (.Call (.Name "range" p) [a] [] pos) (iRng1 ta):=by
 intro B1 s σ H R I h;refine RF (lW I c b Ql (Jb (B' (d pos B1 s σ H _ I h) λus s1 Y=>?_) U rfl));obtain⟨vs,H1,e,S,q1⟩:=Y;obtain⟨j,rfl,q1,q2,q⟩:=q1;cases S with
 |cons r B=>cases B;obtain⟨t,rfl⟩:=r;exact call_range_1 (BJ e ac ac q1 q2 a7)
theorem FP{a b:Jj}{ta:TA}(f:Gl X "range")(e:X.mg "range"=d_)(g:PA X [a,b] ta)(l: ~~~(k_ [a,b] X.env=[(cm,Il a X.env),(cm,Il b X.env)]))(S: ~~~(k_ [b] X.env=[(cm,Il b X.env)])):
  PI X tg (.Call (.Name "range" p) [a,b] [] pos) (iRng2 ta):=by
 intro B1 s σ H R I h;refine RF (lW I f e Ql (Jb (B' (g pos B1 s σ H _ I h) λus s1 d=>?_) a7 (by rw[S];rfl)));obtain⟨vs,H1,k,U,q1⟩:=d;obtain⟨i,j,rfl,⟨q1,q2,c,Y⟩,q⟩:=q1;cases U with
 |cons r B=>
  cases B with
  |cons r' B=>cases B;obtain⟨t,rfl⟩:=r;obtain⟨t',rfl⟩:=r';exact call_range_2 (BJ k q1 q2 c Y q)
def D8(wi:TI)(g:TG)(tb:TS):TS:=λD σ H=>wi σ H λJ H1=>∃W:Nat->Nat->St->Hp->Prop,(∃m,W 0 m σ H1)/\∀i m σ H,W i m σ H ->
 (J.stop i H/\D.nx σ H)\/(J.go i H/\∃N:St->Hp->Prop,(∀B H',N B H'->∃S,S<m/\W (i+1) S B H')/\∀x H',J.yld i H x H'->g x σ H' λI H2=>tb {D with nx:=N,ct:=N,bk:=D.nx} I H2)
noncomputable def BO(fp:List h_)(h:IF):Vp:=fp.filterMap λb=>(h.get? b).map λo=>(b,o)
theorem lh{o:NY}(B:b∈fp)(e:h.get? b=a_ o):(b,o)∈BO fp h:=Q1.mpr ⟨b,B,a7⟩
theorem G6{p:h_×NY}(B:p∈BO fp h):p.1∈fp/\h.get? p.1=a_ p.2:=by
 obtain⟨b,I,e⟩:=Q1.mp B;cases q:h.get? b with
 |none=>simp_all|some o=>grind
theorem B3.pinned{s:j_}(I:B3 X B1 σ H s)(S:∀b∈fp,En X B1 H b)(Y:∀b∈fp,∃o,s.heap.get? b=a_ o/\∀v,o.data≠.cell v):B3 X (B1++BO fp s.heap) σ H s:=
 I.vo λp B=>(Iw.mp B).elim (λz=>I.pin p (Im _ z)) λz=>by
  obtain⟨U,e⟩:=G6 z;obtain⟨f0,f1,f2,_⟩:=S p.1 U
  grind
def B3.uT{pl:Vp}{s:j_}(I:B3 X (B1++pl) σ H s):B3 X B1 σ H s:=I.vo λp B=>I.pin p (Im _ (Jq _ B))
def u4{iter:Jj}{wi:TI}{g:TG}{tb:TS}(S:QV (u_ X.prog X.w) X.A X.env X.xe)(Q:X.calm=e_)(hi:PI X tg iter wi)(hg:PG X tg g)(c:PSs X body tb)(hs:autoParam (∀x,Ku iter X.env x=JM x) Jq4):PS X (.For tg iter body [] pos) (D8 wi g tb):=by
 intro B1 s σ H D I h;refine wpAny_For (B' (hi B1 s σ H _ I h) λv s1 h1=>B' h1 λitv s2 h2=>?_) hs;obtain⟨it,fp,O,J,H2,rfl,I2,T,F,f2,W,⟨m0,w0⟩,t⟩:=h2;have a:∀{H':Hp},(∀b∈fp,H' b=d_)->∀b∈fp,En X B1 H' b:=λhn b c=>⟨hn b c,(f2 b c).2⟩
 refine codeAny_forLoop_any (λn s'=>∃i Y H',B3 X B1 Y H' s'/\O i s'.heap/\(∀b∈fp,H' b=d_)/\W i n Y H') ?_ m0 ⟨0,σ,H2,I2,F,λb c=>(f2 b c).1,w0⟩;rintro n P ⟨i,U,C,R,y,A,w3⟩;rcases t i n U C w3 with⟨w,qn⟩|⟨go,N,hN,step⟩
 .refine Lq S (B' (T.done X rfl rfl rfl Q i B1 P U C X.xe R (a A) y w) λr s4 S=>?_);obtain⟨K,I4⟩:=S;subst K;exact NX ⟨U,C,I4,qn⟩
 .refine Lq S (B' (T.item X rfl rfl rfl Q i B1 P U C X.xe R (a A) y go) λr s4 S=>?_);obtain⟨u,K,h4⟩:=S;subst K;refine Lq S (B' h4 λ_ s5 S=>?_);obtain⟨x,Z,I5,r5,y5,q,L⟩:=S;refine(Lq S (B' (hg _ s5 U Z x u _ (I5.pinned (a L) (T.obj _ _ q)) r5 (step x Z y5)) λ_ s6 S=>?_))
  obtain⟨E,H6,I6,q6⟩:=S;refine Lq S (B' (c _ s6 E H6 _ I6 q6) λf G p=>?_);have j:∀{B:St} {l:Hp},B3 X _ B l G->N B l->∃m,m<n/\∃i Y H',B3 X B1 Y H' G/\O i G.heap/\(∀b∈fp,H' b=d_)/\W i m Y H':=λ{B l} k z=>by
   obtain⟨m',hm,w7⟩:=hN B l z;refine⟨m',hm,i+1,B,l,k.uT,T.keep _ _ _ q λb c o e=>(k.pin (b,o) (Im _ (Im _ (lh c e)))).1,λb c=>?_,w7⟩
   obtain⟨o,e,d⟩:=T.obj _ _ q b c;exact(k.pin (b,o) (Im _ (Im _ (lh c e)))).2.1
  cases f with
  |next=>obtain⟨B,l,k,z⟩:=p;exact j k z
  |cont=>obtain⟨B,l,k,z⟩:=p;exact j k z
  |brk=>obtain⟨B,l,k,p⟩:=p;exact⟨B,l,k.uT,p⟩
  |ret v=>obtain⟨x7,B,l,k,r7,p⟩:=p;exact⟨x7,B,l,k.uT,r7,p⟩
abbrev R2:=V->V->Hp->VK->Prop
variable{r r':R2}
def OpR(X:Cx)(f:g_->g_->Nl g_)(r:R2):Prop:=
 ∀(B1:Vp) (s:j_) (σ:St) (H:Hp) (x y:V) (v u:g_) (Q:VK),B3 X B1 σ H s->B5 x v->B5 y u->r x y H Q ->
  w_ (u_ X.prog X.w) X.A (f v u) (EP X B1 σ Q) X.xe s
def UnR(X:Cx)(f:g_->Nl g_)(r:V->Hp->VK->Prop):Prop:=
 ∀(B1:Vp) (s:j_) (σ:St) (H:Hp) (x:V) (v:g_) (Q:VK),B3 X B1 σ H s->B5 x v->r x H Q ->
  w_ (u_ X.prog X.w) X.A (f v) (EP X B1 σ Q) X.xe s
def fS(X:Cx)(f:g_)(r:bm->Hp->VK->Prop):Prop:=
 ∀(B1:Vp) (s:j_) (σ:St) (H:Hp) (xs:bm) (us:bv) (Q:VK),B3 X B1 σ H s->B6 xs us->r xs H Q ->
  w_ (u_ X.prog X.w) X.A (Ms f us) (EP X B1 σ Q) X.xe s
def TruR(X:Cx)(r:V->Hp->(Bool->Hp->Prop)->Prop):Prop:=
 ∀(B1:Vp) (s:j_) (σ:St) (H:Hp) (x:V) (v:g_) (Q:Bool->Hp->Prop),B3 X B1 σ H s->B5 x v->r x H Q ->
  w_ (u_ X.prog X.w) X.A (truthy v) (TP X B1 σ Q) X.xe s
noncomputable def tOp(r:R2)(ta tb:TE):TE:=λσ H Q=>ta σ H λx H1=>tb σ H1 λy H2=>r x y H2 Q
noncomputable def tUn(r:V->Hp->VK->Prop)(ta:TE):TE:=λσ H Q=>ta σ H λx H1=>r x H1 Q
noncomputable def rI(C:Int->Int->Prop)(g:Int->Int->V):R2:=λx y H Q=>∃i j,x=.int i/\y=.int j/\C i j/\Q (g i j) H
noncomputable def rI0(g:Int->Int->V):R2:=λx y H Q=>∃i j,x=.int i/\y=.int j/\Q (g i j) H
def rU(g:Int->V):V->Hp->VK->Prop:=λx H Q=>∃i,x=.int i/\Q (g i) H
section
variable{a b:Jj}
def binT(g:PE X a ta)(e:PE X b tb){s:j_}{R:V->V->Hp->Prop}(I:B3 X B1 σ H s)(h:ta σ H λx H1=>tb σ H1 λy H2=>R x y H2){Q:Mq}{f:g_->g_->Nl g_}(d:∀v u s2 x y H2,B3 X B1 σ H2 s2->B5 x v->B5 y u->R x y H2->w_ (u_ X.prog X.w) X.A (f v u) Q X.xe s2):
  w_ (u_ X.prog X.w) X.A (Il a X.env) (λv S=>w_ (u_ X.prog X.w) X.A (Il b X.env) (λu B=>w_ (u_ X.prog X.w) X.A (f v u) Q X.xe B) X.xe S) X.xe s:=by
 refine B' (g B1 s σ H _ I h) λv s1 U=>?_;obtain⟨x,H1,j,c,q1⟩:=U;refine B' (e B1 s1 σ H1 _ j q1) λu s2 U=>?_;obtain⟨y,H2,i,Y,q2⟩:=U;exact d v u s2 x y H2 i c Y q2
def pe_op{op:Operator}(U:OpR X (Ko op) r)(c:PE X a ta)(Y:PE X b tb):PE X (.BinOp a op b pos) (tOp r ta tb):=by intro B1 s σ H Q I h;exact wpAny_BinOp (binT c Y I h λv u s2 x y H2 d S B q=>U B1 s2 σ H2 x y v u Q d S B q)
def pe_un{op:UnaryOp}{r:V->Hp->VK->Prop}(U:UnR X (Sl op) r)(Y:PE X a ta):PE X (.UnaryOp op a pos) (tUn r ta):=by intro B1 s σ H Q I h;refine UnaryOp_ (B' (Y B1 s σ H _ I h) λv s1 S=>?_);obtain⟨x,H1,b,B,q1⟩:=S;exact U B1 s1 σ H1 x v Q b B q1
def opI{f:g_->g_->Nl g_}{C:Int->Int->Prop}(B:∀(i j:Int) (t u:Tok) (s:j_) (Q:Mq) (E:Mq),C i j->Q (.int (g i j) s.toks) {s with toks:=s.toks+1}->w_ (u_ X.prog X.w) X.A (f (.int i t) (.int j u)) Q E s):
  OpR X f (rI C λi j=>.int (g i j)):=by
 rintro B1 s σ H x y v u Q I U S ⟨i,j,rfl,rfl,Y,q⟩;obtain⟨t,rfl⟩:=U;obtain⟨t',rfl⟩:=S;exact B i j t t' s _ _ Y ⟨.int _,H,I.tok _,⟨_,rfl⟩,q⟩
def opI0{f:g_->g_->Nl g_}(B:∀(i j:Int) (t u:Tok) (s:j_) (Q:Mq) (E:Mq),Q (.int (g i j) s.toks) {s with toks:=s.toks+1}->w_ (u_ X.prog X.w) X.A (f (.int i t) (.int j u)) Q E s):
  OpR X f (rI0 λi j=>.int (g i j)):=by
 rintro B1 s σ H x y v u Q I U S ⟨i,j,rfl,rfl,q⟩;obtain⟨t,rfl⟩:=U;obtain⟨t',rfl⟩:=S;exact B i j t t' s _ _ ⟨.int _,H,I.tok _,⟨_,rfl⟩,q⟩
def opB0{f:g_->g_->Nl g_}{g:Int->Int->Bool}(B:∀(i j:Int) (t u:Tok) (s:j_) (Q:Mq) (E:Mq),Q (.bool (g i j)) s->w_ (u_ X.prog X.w) X.A (f (.int i t) (.int j u)) Q E s):
  OpR X f (rI0 λi j=>.bl (g i j)):=by
 rintro B1 s σ H x y v u Q I U S ⟨i,j,rfl,rfl,q⟩;obtain⟨t,rfl⟩:=U;obtain⟨t',rfl⟩:=S;exact B i j t t' s _ _ ⟨.bl _,H,I,rfl,q⟩
def CPow(i j:Int):Prop:=0<=j/\j<=1000000/\i.natAbs<2^64
def CMul(i j:Int):Prop:=(-(2^64)<i/\i<2^64)\/(-(2^64)<j/\j<2^64)
def CMul.ok{i j:Int}(h:CMul i j):IntMulOk i j:=by
 rcases h with⟨h1,B⟩|⟨h1,B⟩
 .exact .of_left (intBits_le_64 h1 B)
 .exact .of_right (intBits_le_64 h1 B)
def op_add:OpR X (Ko .Add) (rI0 λi j=>.int (i+j)):=opI0 λ_ _ _ _ _ _ _ q=>add_int q
def op_sub:OpR X (Ko .Sub) (rI0 λi j=>.int (i-j)):=opI0 λ_ _ _ _ _ _ _ q=>sub_int q
def op_mul:OpR X (Ko .Mult) (rI CMul λi j=>.int (i*j)):=opI λ_ _ _ _ _ _ _ B q=>mul_int q B.ok
theorem op_mod:OpR X (Ko .Mod) (rI (λ_ j=>0<j) λi j=>.int (i%j)):=opI λi j _ _ _ _ _ B q=>by exact mod_int' ac (by rw[Int.fmod_eq_emod_of_nonneg i ac];exact q)
def op_pow:OpR X (Ko .Pow) (rI CPow λi j=>.int (i^j.toNat)):=opI λ_ _ _ _ _ _ _ B q=>pow_int_small B.1 B.2.1 B.2.2 q
def unI{f:g_->Nl g_}{g:Int->Int}(B:∀(i:Int) (t:Tok) (s:j_) (Q:Mq) (E:Mq),Q (.int (g i) s.toks) {s with toks:=s.toks+1}->w_ (u_ X.prog X.w) X.A (f (.int i t)) Q E s):
  UnR X f (rU λi=>.int (g i)):=by
 rintro B1 s σ H x v Q I S ⟨i,rfl,q⟩;obtain⟨t,rfl⟩:=S;exact B i t s _ _ ⟨.int (g i),H,I.tok _,⟨_,rfl⟩,q⟩
def un_neg:UnR X (Sl .USub) (rU λi=>.int (-i)):=unI λ_ _ _ _ _ q=>neg_int q
end
noncomputable def scal:V->V->Bool
 |.non,.non=>e_|.non,.int _=>e_|.int _,.non=>e_|.non,.bl _=>e_|.bl _,.non=>e_|.int _,.int _=>e_|.bl _,.bl _=>e_|_,_=>cm
def rNe:R2:=λx y H Q=>scal x y=e_/\Q (.bl (!decide (x=y))) H
def dec_int{i j:Int}:m_ (V.int i=V.int j)=(i==j):=by rw[J2];simp
def dec_bl{i j:Bool}:m_ (V.bl i=V.bl j)=(i==j):=by rw[J2];simp
section
variable{a b:Jj}{tc:TE}
def oR{s:j_}{Q:VK}{k k':Bool}(I:B3 X B1 σ H s)(q:Q (.bl k) H)(e:k=k'):EP X B1 σ Q (.bool k') s:=by subst e;exact⟨.bl k,H,I,rfl,q⟩
def op_ne:OpR X (IP .NotEq) rNe:=by
 rintro B1 s σ H x y v u Q I U B ⟨S,q⟩;cases x with
 |non=>
  cases U;cases y with
  |non=>cases B;exact PySem.EqNone.ne_none_none (oR I q ad)|bl j=>cases B;exact PySem.EqNone.ne_none_bool (oR I q ad)|int j=>obtain⟨t',rfl⟩:=B;exact PySem.EqNone.ne_none_int (oR I q ad)
  |_=>exact IA (show cm=e_ from S) Kj
 |bl i=>
  cases U;cases y with
  |non=>cases B;exact PySem.EqNone.ne_bool_none (oR I q ad)|bl j=>cases B;exact ne_bool (oR I q (Kd not dec_bl))|_=>exact IA (show cm=e_ from S) Kj
 |int i=>
  obtain⟨t,rfl⟩:=U;cases y with
  |non=>cases B;exact PySem.EqNone.ne_int_none (oR I q ad)|int j=>obtain⟨t',rfl⟩:=B;exact ne_int (oR I q (Kd not dec_int))
  |_=>exact IA (show cm=e_ from S) Kj
 |_=>cases y<;>exact IA (show cm=e_ from S) Kj
def op_lt:OpR X (IP .Lt) (rI0 λi j=>.bl (m_ (i<j))):=opB0 λ_ _ _ _ _ _ _ q=>QZ q
def op_le:OpR X (IP .LtE) (rI0 λi j=>.bl (m_ (i<=j))):=opB0 λ_ _ _ _ _ _ _ q=>le_int q
def op_gt:OpR X (IP .Gt) (rI0 λi j=>.bl (m_ (j<i))):=opB0 λ_ _ _ _ _ _ _ q=>gt_int q
def op_notN:OpR X (IP .IsNot) (λx y H Q=>y=.non/\Q (.bl (!decide (x=.non))) H):=by
 rintro B1 s σ H x y v u Q I S B ⟨rfl,q⟩;cases B;refine isnot_none_gen (oR I q ?_);cases x<;>first
  |(obtain⟨t,rfl⟩:=S;rfl)
def OpR.or{f:g_->g_->Nl g_}(h:OpR X f r)(h':OpR X f r'):OpR X f (λx y H Q=>r x y H Q\/r' x y H Q):=by
 intro B1 s σ H x y v u Q I S B q;rcases q with q|q
 .exact h B1 s σ H x y v u Q I S B q
 .exact h' B1 s σ H x y v u Q I S B q
theorem G8(b:Jj)(h:(op≠.In)⁻¹)(B:(op≠.NotIn)⁻¹):Mo op b=cm:=by
 have e1:(op==CmpOp.In)=cm:=by cases op<;>first|simp_all
 have e2:(op==CmpOp.NotIn)=cm:=by cases op<;>first|simp_all
 cases b<;>simp[Mo,e1,e2]
def pe_cmpR(U:OpR X (IP op) r)(d:PE X a ta)(c:PE X b tb)(Y:Mo op b=cm):PE X (.Compare a [op] [b] pos) (tOp r ta tb):=by intro B1 s σ H Q I h;exact wpAny_Compare1 (binT d c I h λv u s2 x y H2 e S B q=>U B1 s2 σ H2 x y v u Q e S B q) Y
noncomputable def tTest(t:TE):TT:=λσ H Q=>t σ H λx H'=>∃k,x=.bl k/\Q k H'
def FH(Y:OpR X (IP op) r)(g:PE X a ta)(f:PE X b tb)(d:Mo op b=cm):PT X (.Compare a [op] [b] pos) (tTest (tOp r ta tb)):=by
 intro B1 s σ H Q I h;refine wpAny_isTrue_Compare1 (B' (g B1 s σ H _ I h) λv s1 ⟨x,H1,l,S,q1⟩=>B' (f B1 s1 σ H1 _ l q1) λu s2 ⟨y,H2,j,B,q2⟩=>B' (Y B1 s2 σ H2 x y v u _ j S B q2) λc n ⟨z,m,i,r3,k,e,U⟩=>?_) d
 subst e;cases r3;exact JW ⟨m,i,U⟩
noncomputable def EX(r r':R2)(ta tb tc:TE):TE:=λσ H Q=>ta σ H λx H1=>tb σ H1 λy H2=>r x y H2 λz B=>∃k,z=.bl k /\
 (if k=e_ then tc σ B λI S=>r' y I S Q else Q (.bl cm) B)
def pe_chain(o:OpR X (IP op) r)(B:OpR X (IP op') r')(w:PE X a ta)(t:PE X b tb)(q:PE X c tc)(p:autoParam (QN [op,op'] [b,c]=cm) Jq7):PE X (.Compare a [op,op'] [b,c] pos) (EX r r' ta tb tc):=by
 intro B1 s σ H Q I h;refine Compare_chain (B' (w B1 s σ H _ I h) λv s1 ⟨x,H1,D,m,q1⟩=>chain_link (B' (t B1 s1 σ H1 _ D q1) λu s2 ⟨y,H2,C,S,q2⟩=>B' (o B1 s2 σ H2 x y v u _ C m S q2) λd l ⟨z,f,Y,r3,k,e,U⟩=>?_)) p
 subst e;cases r3;refine JW ?_;cases k with
 |false=>exact ite_ff ⟨.bl cm,f,Y,rfl,U⟩|true=>exact ite_tt (chain_last (B' (q B1 l σ f _ Y U) λi j ⟨g,E,A,r4,n⟩=>B B1 j σ E y g u i Q A S r4 n))
def pt_chain(t:OpR X (IP op) r)(S:OpR X (IP op') r')(D:PE X a ta)(C:PE X b tb)(A:PE X c tc)(w:autoParam (QN [op,op'] [b,c]=cm) Jq7):PT X (.Compare a [op,op'] [b,c] pos) (tTest (EX r r' ta tb tc)):=by
 intro B1 s σ H Q I h;refine isTrue_chain (B' (D B1 s σ H _ I h) λv s1 ⟨x,H1,K,n,q1⟩=>test_link (B' (C B1 s1 σ H1 _ K q1) λu s2 ⟨y,H2,J,U,q2⟩=>B' (t B1 s2 σ H2 x y v u _ J n U q2) λd m ⟨z,g,f,r3,k,e,Y⟩=>?_)) w
 subst e;cases r3;refine JW ?_;cases k with
 |false=>obtain⟨k',E,q⟩:=Y;cases E;exact ite_ff ⟨g,f,q⟩
 |true=>refine ite_tt (test_last (B' (A B1 m σ g _ f Y) λj l B=>?_));obtain⟨i,N,G,r4,p⟩:=B;refine B' (S B1 l σ N y i u j _ G U r4 p) λR P B=>?_;obtain⟨O,L,F,r5,k2,e2,o⟩:=B;subst e2;cases r5;exact JW ⟨L,F,o⟩
def TruV(K:Pn)(x:V)(H:Hp)(k:Bool):Prop:=
 match x with
 |.non=>k=cm|.bl b=>k=b|.int i=>k=(i != 0)|.ref p=>(∃xs,SqL K H p xs/\k= !xs.isEmpty)\/∃xs,SqT K H p xs/\k= !xs.isEmpty
 |_=>False
def uo{its:bv}(r:B6 xs its):(!its.toArray.isEmpty)= !xs.isEmpty:=by cases r<;>simp
def C6:(n_:Nat)<2^63:=by simp[LH]
theorem tru_ok:TruR X (λx H Q=>∃k,TruV X.K x H k/\Q k H):=by
 rintro B1 s σ H x v Q I U ⟨k,e,q⟩;have a:=LH;cases x with
 |non=>cases U;subst e;exact truthy_none ⟨H,I,q⟩|bl b=>cases U;subst e;exact JW ⟨H,I,q⟩|int i=>obtain⟨t,rfl⟩:=U;subst e;exact PySem.P.truthy_int ⟨H,I,q⟩
 |ref p=>
  cases U;have S:=e;rcases S with⟨xs,Y,S⟩|⟨xs,Y,S⟩
  .subst S;obtain⟨its,r,pl,hz⟩:=I.list Y;have B:=r.length;exact wpAny_truthy_list pl.isList a0 ⟨H,I.tok _,by rw[uo r];exact q⟩
  .subst S;obtain⟨its,r,pl,hz⟩:=I.tuple Y;have B:=r.length;exact truthy_tuple pl a0 ⟨H,I.tok _,by rw[uo r];exact q⟩
 |_=>exact(show False from e).elim
def pt_truth(b:PE X a ta)(Y:∀B,Q6 a X.env B=(do let v <- B;NK a.pos;Ln [v] (truthy v))):
  PT X a (λσ H Q=>ta σ H λx H'=>∃k,TruV X.K x H' k/\Q k H'):=by
 intro B1 s σ H Q I h;refine isTrue_plain (B' (b B1 s σ H _ I h) λv s1 U=>?_) (Y _);obtain⟨x,H1,c,S,q1⟩:=U;exact tru_ok B1 s1 σ H1 x v Q c S q1
def vals1{x:V}(r:B6 [x] us):∃u,us=[u]/\B5 x u:=by
 cases r with
 |cons I B=>cases B;exact⟨_,rfl,I⟩
def vals2{x:V}(r:B6 [x,y] us):∃u B,us=[u,B]/\B5 x u/\B5 y B:=by
 cases r with
 |cons S I=>
  cases I with
  |cons r3 r4=>cases r4;exact⟨_,_,rfl,S,r3⟩
def HN(S:X.calm=e_):fS X (.builtin "max") (λxs H Q=>∃i j,xs=[.int i,.int j]/\Q (.int (if j>i then j else i)) H):=by
 rintro B1 s σ H xs us Q I r ⟨i,j,rfl,q⟩;obtain⟨u,U,rfl,⟨t,rfl⟩,⟨t',rfl⟩⟩:=vals2 r;refine max_two_ints (I.ok.hd S) λh' tk k=>⟨_,H,I.kept k,?_,q⟩
 by_cases B:j>i
 .rw[p_ B,p_ B];exact⟨_,rfl⟩
 .rw[q_ B,q_ B];exact⟨_,rfl⟩
def HL(S:X.calm=e_):fS X (.builtin "min") (λxs H Q=>∃i j,xs=[.int i,.int j]/\Q (.int (if j<i then j else i)) H):=by
 rintro B1 s σ H xs us Q I r ⟨i,j,rfl,q⟩;obtain⟨u,U,rfl,⟨t,rfl⟩,⟨t',rfl⟩⟩:=vals2 r;refine min_two_ints (I.ok.hd S) λh' tk k=>⟨_,H,I.kept k,?_,q⟩
 by_cases B:j<i
 .rw[p_ B,p_ B];exact⟨_,rfl⟩
 .rw[q_ B,q_ B];exact⟨_,rfl⟩
def HP:fS X (.type "int") (λxs H Q=>(∃i,xs=[.int i]/\Q (.int i) H)\/∃k,xs=[.bl k]/\Q (.int (if k then 1 else 0)) H):=by
 intro B1 s σ H xs us Q I r h;rcases h with⟨i,rfl,q⟩|⟨k,rfl,q⟩
 .obtain⟨u,rfl,t,rfl⟩:=vals1 r;exact call_int_int ⟨.int i,H,I,⟨_,rfl⟩,q⟩
 .obtain⟨u,rfl,rfl⟩:=vals1 r;exact call_int_bool ⟨.int _,H,I.tok _,⟨_,rfl⟩,q⟩
end
structure ObjM(h:IF)(x dx C:h_)(mA:Ld):Prop where
 obj:h.get? x=a_ (LF C dx)
 ns:h.Ns1 dx mA
 ne:dx≠x
theorem Gk(n:h.Ns1 dx mA):∃od,h.get? dx=a_ od/\∀name,lookIn name od=a_ (mA name):=by
 obtain⟨o,es,ep,S,b,Y,_,U⟩:=n;refine⟨o,S,λname=>?_⟩
 have e:=U name;unfold nsFind findBy at e;rw[<- Array.find?_toList]at e;unfold lookIn;rw[b];dsimp only;split
 .simp_all
 .rename_i q;have a:es.toList.any (·.refKey)=cm:=by
   rw[List.any_eq_false];intro y I;obtain⟨z,t,B⟩:=Y y (Array.mem_toList_iff.mp I);simp[DictEntry.refKey,B]
  grind
theorem ObjM.look{x:h_}(I:ObjM h x dx C mA):∃od,PySem.W.InstAt h x (LF C dx) C (a_ od)/\∀name,lookIn name od=a_ (mA name):=
 let ⟨od,B,S⟩:=Gk I.ns
 ⟨od,⟨I.obj,rfl,rfl,B⟩,S⟩
section
variable{prog:IQ}{s:j_}{x f:h_}{v:g_}
theorem get_map{B:Bool}{Q:Mq}(X:K.In s.heap)(I:ObjM s.heap x dx C mA)(Y:Qg K C name=e_)(U:QT K C=e_)(a:MC K (.ref C) name=a_ d_)(b:mA name=a_ v)(S:QC v=e_)(h:Q v {s with toks:=s.toks+1}):
  w_ (u_ prog w) A (getAttr (.ref x) name B) Q E s:=by
 obtain⟨od,J,c⟩:=I.look;exact PySem.W.get_value X J (Nu Y).1 (PySem.W.findObj_own U a rfl a7) S h
theorem get_meth{Q:g_×bv->j_->Prop}(X:K.In s.heap)(I:ObjM s.heap x dx C mA)(B:Qg K C name=e_)(U:MC K (.ref C) name=a_ (a_ (.ref f)))(S:isFn K (.ref f)=e_)(Y:mA name=d_)(h:Q (.ref f,[.ref x]) s):
  w_ (u_ prog w) A (Ol (.ref x) name pl) Q E s:=by
 obtain⟨od,J,a⟩:=I.look;exact PySem.W.method_fn X J (Nu B).1 (Nu B).2 U (beq_iff_eq.mp S) (by show(lookIn name od).map _=a_ cm;simp_all) h
theorem set_map{ns:List IL}(X:K.In s.heap)(I:ObjM s.heap x dx C mA)(e:MC K (.ref C) "__setattr__"=a_ (a_ (.builtin "object.__setattr__")))(f:SG K C=e_)(d:takerIn K C name=a_ d_)(g:QT K C=e_)(hw:PV mA ns)(hsz:ns.length<=n_)(h:∀h',ObjM h' x dx C (λy=>if y=name then a_ v else mA y)->JY dx s.heap h'->Q () {s with heap:=h',toks:=s.toks+2}):
  w_ (u_ prog w) A (setAttr (.ref x) name v) Q E s:=by
 obtain⟨od,J,m⟩:=I.look;refine PySem.W.set_plain X J e (PySem.W.osa_open X J f d λb=>?_);obtain⟨n,i,a⟩:=PySem.W.any_some g;refine b_ (fm (b_ (b_ (wpAny_loadPart I.obj (b_ (QE (PySem.W.looks_clsIn X i) ?_))))));rw[a];refine fm (b_ (fm (b_ (wpAny_nsSet1 I.ns λh' S B=>?_))));obtain⟨l,j,k,U,Y,c⟩:=S.count (PySem.Within.cons name v hw);exact b_ (wpAny_lookBehind U (by exact Y▸pastItsLine_dict (B_ c a7)) (fm (h _ ⟨(B.2 _ (IV I.ne)).trans I.obj,S,I.ne⟩ B)))
def make_map{R:Q8->j_->Prop}{vs:bv}(X:K.In s.heap)(I:Sr K C=e_)(hi:MC K (.ref C) "__init__"=a_ (a_ (.ref f)))(S:PySem.W.typeIn K (.ref f)=a_ (.type "function"))(h:MK (u_ prog w) (A.under (.builtin "type.__call__" ⟨.ref C::vs,kw⟩)) (.call (.ref f) ⟨.ref (s.heap.objs.size+1)::vs,kw⟩) (PySem.W.InitBack (s.heap.objs.size+1) R)
   {s with heap:=(s.heap.push Lf).push (LF C s.heap.objs.size)}):
  MK (u_ prog w) A (.call (.ref C) ⟨vs,kw⟩) R s:=by
 obtain⟨Y,g,d,t,U⟩:=s;exact PySem.W.make_core (PySem.W.makes_of X I) (PySem.W.looks_findIn X hi) (λB=>PySem.W.bind_fn X B S) (.inl rfl) h
end
noncomputable def xN(f:IL)(v:V):List (IL×V)->List (IL×V)
 |[]=>[(f,v)]|(g,x)::r=>if g=f then(g,v)::r else(g,x)::xN f v r
theorem qV(f g:IL)(v:V):∀fs:List (IL×V),(xN f v fs).lookup g=if g=f then a_ v else fs.lookup g
 |[]=>by
  show Jr g [(f,v)]=_
  grind
 |(k,x)::r=>by
  have B:=qV f g v r;rw[show xN f v _=(if k=f then(k,v)::r else(k,x)::xN f v r)from rfl]
  grind
theorem rg(f:IL)(v:V):∀fs:List (IL×V),f∈(xN f v fs).map (·.1)/\∀g,g∈fs.map (·.1)->g∈(xN f v fs).map (·.1)
 |[]=>⟨by simp[xN],λg h=>by simp at h⟩|(k,x)::r=>by
  obtain⟨i1,i2⟩:=rg f v r;rw[show xN f v _=(if k=f then(k,v)::r else(k,x)::xN f v r)from rfl]
  grind
theorem qZ(f:IL)(v:V):∀fs:List (IL×V),(xN f v fs).length<=fs.length+1
 |[]=>by simp[xN]|(k,x)::r=>by
  have B:=qZ f v r;rw[show xN f v _=(if k=f then(k,v)::r else(k,x)::xN f v r)from rfl]
  grind
def CV.some_of{o:Option g_}(r:CV (a_ v) o):∃u,o=a_ u/\B5 v u:=by
 cases o with
 |none=>exact(show False from r).elim|some u=>exact⟨u,rfl,r⟩
def CV.none_of{o:Option g_}(r:CV d_ o):o=d_:=by
 cases o with
 |none=>rfl|some u=>exact(show False from r).elim
def GO(r:B5 v u):QC u=e_:=by
 cases v with
 |non=>cases(show u=JB from r);rfl|bl b=>cases(show u=N3 b from r);rfl|int i=>obtain⟨t,rfl⟩:=(show ∃t,u=L3 i t from r);rfl
 |ref a=>cases(show u=s_ a from r);rfl|ty n=>cases(show u=K7 n from r);rfl
section
variable{fs:List (IL×V)}
def Az(B:HOk H h)(e:H a=a_ (.ins C dx fs)):∃mA,ObjM h a dx C mA/\(∀f,CV (fs.lookup f) (mA f))/\PV mA (fs.map (·.1))/\fs.length<=1000/\H dx=a_ (.own a):=by
 obtain⟨d,z,S,I,mA,n,r,q⟩:=(show gQ H h a _ from B a _ e)
 exact⟨mA,⟨I,n,S⟩,r,q,z,d⟩
end
structure Cls(K:Pn)(C:h_):Prop where
 pg:Qg K C Str.empty=e_
 hd:QT K C=e_
 po:SG K C=e_
 sa:MC K (.ref C) "__setattr__"=a_ (a_ (.builtin "object.__setattr__"))
def Cls.get(c:Cls K C)(f:IL):Qg K C f=e_:=c.pg
def kg(K:Pn)(C:h_)(f:IL):Prop:=MC K (.ref C) f=a_ d_
def kg.taker{f:IL}(n:kg K C f):takerIn K C f=a_ d_:=by unfold takerIn;rw[show MC K _ f=a_ d_ from n];rfl
structure Meth(K:Pn)(C:h_)(m:IL)(f:h_):Prop where
 at_:MC K (.ref C) m=a_ (a_ (.ref f))
 fn:isFn K (.ref f)=e_
 kp:MB K (.ref f)=e_
section
variable{s:j_}{fs:List (IL×V)}{f:IL}
def E3{b:Bool}{Q:Mq}(I:B3 X B1 σ H s)(e:H a=a_ (.ins C dx fs))(c:Cls X.K C)(n:kg X.K C f)(l:fs.lookup f=a_ v)(h:∀u s',B3 X B1 σ H s'->B5 v u->Q u s'):w_ (u_ X.prog X.w) A (getAttr (.ref a) f b) Q E s:=by obtain⟨mA,O,r,_,_,_⟩:=Az I.hok e;obtain⟨u,S,B⟩:=CV.some_of (by exact l▸r f);exact get_map I.kIn O (c.get f) c.hd n S (GO B) (h u _ (I.tok _) B)
def uq{g:h_}{Q:g_×bv->j_->Prop}(I:B3 X B1 σ H s)(e:H a=a_ (.ins C dx fs))(c:Cls X.K C)(k:Meth X.K C m g)(l:fs.lookup m=d_)(h:Q (.ref g,[.ref a]) s):w_ (u_ X.prog X.w) A (Ol (.ref a) m pl) Q E s:=by obtain⟨mA,O,r,_,_,_⟩:=Az I.hok e;exact get_meth I.kIn O (c.get m) k.at_ k.fn (CV.none_of (by exact l▸r m)) h
theorem De(I:B3 X B1 σ H s)(e:H a=a_ (.ins C dx fs))(c:Cls X.K C)(n:kg X.K C f)(i:fs.length<1000)(S:B5 y u)(h:∀s',B3 X B1 σ (upd H a (.ins C dx (xN f y fs))) s'->Q () s'):w_ (u_ X.prog X.w) A (setAttr (.ref a) f u) Q E s:=by
 obtain⟨mA,O,r,wi,_,B⟩:=Az I.hok e;refine set_map I.kIn O c.sa c.po n.taker c.hd wi (by rw[l_,LH];lia) λh' O' sb=>h _ (I.write (by rw[e];exact LO) (.inr B) (λb q Y z=>(sb.2 b Y).trans z) (let ⟨o,_,_,d,_⟩:=O'.ns;⟨o,d⟩) ?_);refine⟨by rw[av O.ne];exact B,?_,O.ne,O'.obj,_,O'.ns,λg=>?_,λg U=>?_⟩
 .have:=qZ f y fs;lia
 .rw[qV];by_cases q:g=f
  .rw[p_ q,p_ q];exact S
  simp_all
 .by_cases q:g=f
  .exact q▸(rg f y fs).1
  .refine(rg f y fs).2 g (wi g λz=>U ?_)
   simp_all
def B3.made(I:B3 X B1 σ H s):B3 X B1 σ (upd (upd H s.heap.objs.size (.own (s.heap.objs.size+1))) (s.heap.objs.size+1) (.ins C s.heap.objs.size []))
  {s with heap:=(s.heap.push Lf).push (LF C s.heap.objs.size)}:=by
 have e1:(s.heap.push Lf).get? s.z=a_ Lf:=i_ s.heap rfl;have e2:=by
  have:=i_ (s.heap.push Lf) (o:=LF C s.z) rfl
  rwa [JF]at this
 have Y:=I.laid (o:=.own (s.z+1)) (t':=s.toks) (λb u q=>c_ _ q) (f_ _) ⟨_,e1⟩;refine Y.laid (λb u q=>c_ _ q) (Mu (JF _ _)) ?_;have B:s.z≠s.z+1:=G_ (M8 _);refine⟨by rw[av B,aq],IH _,B,e2,λ_=>d_,(Heap.Ns1.of_empty (⟨Lf,#[],_,e1,rfl,(λe U=>IA U ad),λ_=>rfl⟩)).at λo q=>c_ _ q,λ_=>LO,λy S=>IA rfl S⟩
end
def tFld(K:Pn)(ta:TE)(f:IL):TE:=λσ H Q=>ta σ H λx H1=>∃a C dx fs v,x=.ref a/\H1 a=a_ (.ins C dx fs)/\Cls K C/\kg K C f/\fs.lookup f=a_ v/\Q v H1
def sFld(K:Pn)(ta tv:TE)(f:IL):TS:=λD σ H=>tv σ H λy H1=>ta σ H1 λx H2=>∃a C dx fs,x=.ref a/\H2 a=a_ (.ins C dx fs)/\Cls K C/\kg K C f/\fs.length<1000 /\
 D.nx σ (upd H2 a (.ins C dx (xN f y fs)))
section
variable{o value:Jj}{f:IL}{tv:TE}
def FX(Y:PE X e ta)(b:Jv e f X.env (Il e X.env)=Il e X.env):PE X (.Attribute e f pos) (tFld X.K ta f):=by intro B1 s σ H Q I h;refine Attribute_any_ (B' (Y B1 s σ H _ I h) λu s1 U=>?_) (by rw[arm_eval_Attribute,b]);obtain⟨x,H1,g,B,a,C,dx,fs,v,ex,ea,c,n,l,q⟩:=U;subst ex;obtain rfl:u=s_ a:=B;exact E3 g ea c n l λi s2 d S=>⟨v,H1,d,S,q⟩
def ps_fld(d:PE X o ta)(Y:PE X value tv)(b:J4 value (a_ (.Attribute o f pos')) pos.line X.env=JM cm):PS X (.Assign [.Attribute o f pos'] value pos) (sFld X.K ta tv f):=by intro B1 s σ H D I h;refine plainObj_wpAny_Assign_Attribute (B' (Y B1 s σ H _ I h) λu s1 B=>?_) b;obtain⟨y,H1,i,S,q⟩:=B;refine B' (d B1 s1 σ H1 _ i q) λov s2 B=>?_;obtain⟨x,H2,g,U,a,C,dx,fs,ex,ea,c,n,l,q2⟩:=B;subst ex;obtain rfl:ov=s_ a:=U;exact De g ea c n l S λj e=>⟨σ,_,e,q2⟩
end
structure kf(k:Nat)(A:Kb):Prop where
 hd:A.handled=d_
 dp:A.depth+3*k+5<recursionLimit
 un:A.units+16*k+200<IU
theorem kf.mono(r:kf k A)(h:j<=k):kf j A:=⟨r.hd,by have:=r.dp;lia,by have:=r.un;lia⟩
theorem kf.deeper{k:Nat}{A:Kb}(r:kf (k+1) A)(env:Qk):kf k (A.deeper env):=
 ⟨r.hd,by have:=r.dp;show A.depth+1+3*k+5<_;lia,by have:=r.un;show A.units+3+16*k+200<_;lia⟩
theorem DK:(A.under (.builtin "type.__call__" ⟨.ref C::us,kw⟩)).depth=A.depth+1:=by rfl
theorem DJ:(A.under (.builtin "type.__call__" ⟨.ref C::us,kw⟩)).units=A.units+1:=by rfl
theorem kf.make(r:kf (k+1) A)(C:h_)(us:bv)(kw:List (IL×g_)):kf k (A.under (.builtin "type.__call__" ⟨.ref C::us,kw⟩)):=
 ⟨r.hd,by have:=r.dp;grind[DK],by have:=r.un;grind[DJ]⟩
theorem kf.depth{k:Nat}{A:Kb}(r:kf k A):A.depth<recursionLimit:=by have:=r.dp;lia
theorem kf.units{k:Nat}{A:Kb}(r:kf k A):A.units+64<IU:=by have:=r.un;lia
noncomputable def tNil:TA:=λ_ H Q=>Q [] H
noncomputable def EW(ta:TE)(B:TA):TA:=λσ H Q=>ta σ H λx H1=>B σ H1 λxs H2=>Q (x::xs) H2
def eX:PA X [] tNil:=λ_ _ _ _ H Q I h=>Od ⟨[],H,I,.nil,h⟩
def cx(b:PE X e te)(a:PA X es t)(Y: ~~~(k_ (e::es) X.env=(cm,Il e X.env)::k_ es X.env)):PA X (e::es) (EW te t):=by
 intro pos B1 s σ H Q I h;rw[Y];refine Mt (B' (b B1 s σ H _ I h) λu s1 B=>?_);obtain⟨x,H1,d,U,q1⟩:=B;refine(B' (a pos B1 s1 σ H1 _ d q1) λus s2 B=>?_)
 obtain⟨xs,H2,c,S,q2⟩:=B;exact⟨x::xs,H2,c,.cons U S,q2⟩
def tTup(t:TA):TE:=λσ H Q=>t σ H λxs H1=>xs.length<=n_/\∀p,H1 p=d_->Q (.ref p) (upd H1 p (.tup xs))
def tLst(t:TA):TE:=λσ H Q=>t σ H λxs H1=>xs.length<=n_/\∀p,H1 p=d_->Q (.ref p) (upd H1 p (.lst xs))
def pe_tup{S}(h:PA X es t):PE X (.Tuple es S pos) (tTup t):=by
 intro B1 s σ H Q I U;refine wpAny_Tuple_spliced (B' (h pos B1 s σ H _ I U) λus s1 Y=>?_);obtain⟨xs,H1,B,r,z,q⟩:=Y;refine⟨by exact r.length▸z,⟨.ref s1.z,upd H1 s1.z _,B.laid (λb u e=>c_ _ e) (f_ _) ?_,rfl,q _ (B.hok.fresh (f_ _))⟩⟩
 exact⟨z,us,r,⟨_,i_ _ rfl,rfl,_,rfl⟩⟩
def FV(h:PA X es t):PE X (.List es pos) (tLst t):=by
 intro B1 s σ H Q I S;refine wpAny_List_spliced (B' (h pos B1 s σ H _ I S) λus s1 U=>?_);obtain⟨xs,H1,B,r,z,q⟩:=U;refine⟨by exact r.length▸z,⟨.ref s1.z,upd H1 s1.z _,B.laid (λb u e=>c_ _ e) (f_ _) ?_,rfl,q _ (B.hok.fresh (f_ _))⟩⟩
 exact⟨z,us,0,r,i_ _ rfl⟩
abbrev Sp:=bm->Hp->VK->XK->Prop
variable{sp:Sp}
abbrev CXT:=List Qk->Hp->j_->XK->Mq
variable{CX:CXT}
structure Env0(P:IQ)(w:JX)(K:Pn)(mg:Ld)(base:IF)(A:Kb)(outer:List Qk)(s:j_)(H:Hp):Prop where
 frames:A.frames=a_ outer
 mod:Mod K mg base
 bs:∀b o,base.get? b=a_ o->s.heap.get? b=a_ o/\H b=d_
 bsz:base.objs.size<=s.heap.objs.size
 Eu:s.heap.FunFrames base outer
 frf:∀b∈frs outer,H b=d_
 hok:HOk H s.heap
 bare:NV s.gens
inductive CE(outer:List Qk)(P:IQ)(w:JX)(H:Hp)(s:j_)(Q:VK)(u:g_)(s':j_):Prop
 |mk (v:V) (H':Hp) (o:s'.os=s.os) (b:NV s'.gens) (n:Un (frs outer) [] H H' s.heap s'.heap) (k:HOk H' s'.heap) (r:B5 v u) (q:Q v H')
def CR(CX:CXT)(outer:List Qk)(P:IQ)(w:JX)(H:Hp)(s:j_)(Q:VK)(E:XK)(r:Q8)(s':j_):Prop:=
 match r with
 |.ok (.ret u)=>CE outer P w H s Q u s'|.ok _=>False|.error e=>CX outer H s E e s'
structure jN(P:IQ)(w:JX)(K:Pn)(mg:Ld)(base:IF)(CX:CXT)(k:Nat)(f:h_)(fd:Kw)(ps:List IL)(sp:Sp):Prop where
 len:∀vs H Q E,sp vs H Q E->vs.length=ps.length
 run:∀(A:Kb) (outer:List Qk) (s:j_) (H:Hp) (args:Args) (us:bv) (vs:bm) (Q:VK) (E:XK),kf k A->Env0 P w K mg base A outer s H->Oo s fd args (ps.zip us)->B6 vs us->sp vs H Q E ->
  MK (u_ P w) A (.call (.ref f) args) (CR CX outer P w H s Q E) s
def Env0.make{base:IF}{s:j_}(e:Env0 P w K mg base A outer s H)(C:h_)(us:bv)(kw:List (IL×g_)):
  Env0 P w K mg base (A.under (.builtin "type.__call__" ⟨.ref C::us,kw⟩)) outer s H:=⟨by first|(simpa[Around.under,Code.envs,Code.isFrame,pushEnvs] using e.frames),e.mod,e.bs,e.bsz,e.Eu,e.frf,e.hok,e.bare⟩
section
variable{s:j_}
def B3.env0(I:B3 X B1 σ H s):Env0 X.prog X.w X.K X.mg X.base X.A X.stack s H:=
 ⟨I.ok.frames,I.ok.mod,I.bs,B_ I.ok.bsz I.sz,I.stack,I.Fe,I.hok,I.bare⟩
def B3.after{Q:VK}(I:B3 X B1 σ H s)(h:CE X.stack X.prog X.w H s Q u s'):EP X B1 σ Q u s':=by obtain⟨v,H',a,B,Y,U,r,q⟩:=h;obtain⟨c,g,d,t,S⟩:=s';obtain rfl:S=s.os:=a;exact⟨v,H',I.call Y U B (λb z=>IA z ad),r,q⟩
end
noncomputable def tCall(sp:Sp)(dvs:bm)(E:XK)(t:TA):TE:=λσ H Q=>t σ H λvs H1=>sp (vs++dvs) H1 Q E
def tMeth(C:h_)(m:IL)(sp:Sp)(dvs:bm)(E:XK)(ta:TE)(t:TA):TE:=λσ H Q=>ta σ H λx H1=>∃a dx fs,x=.ref a/\H1 a=a_ (.ins C dx fs)/\fs.lookup m=d_ /\
 t σ H1 λvs H2=>sp (x::(vs++dvs)) H2 Q E
def tMake(C:h_)(sp:Sp)(dvs:bm)(E:XK)(t:TA):TE:=λσ H Q=>t σ H λvs H1=>∀x dx,H1 x=d_->H1 dx=d_->dx≠x ->
 sp (.ref x::(vs++dvs)) (upd (upd H1 dx (.own x)) x (.ins C dx [])) (λv H2=>v=.non/\Q (.ref x) H2) E
def Binds(K:Pn)(fd:Kw)(ps:List IL)(ds:bv):Prop:=
 ∀(s:j_) (us:bv),K.In s.heap->(us++ds).length=ps.length->Oo s fd ⟨us,[]⟩ (ps.zip (us++ds))
def Binds.all(h:∀us:bv,us.length=ps.length->O9 fd ⟨us,[]⟩=JM (ps.zip us)):Binds K fd ps []:=λs us _ B=>by rw[J1]at B ⊢;exact .of_eq (h us B)
def Passes(CX:CXT)(X:Cx)(E:XK):Prop:=∀(B1:Vp) (σ:St) (H:Hp) (s:j_) (e:g_) (s':j_),B3 X B1 σ H s->CX X.stack H s E e s'->X.xe e s'
section
variable{f:h_}{dvs:List V}{ds:List g_}{E:XK}{apos:Pb}{o:Jj}
theorem By{s:j_}{Q:VK}(F:jN X.prog X.w X.K X.mg X.base CX k f fd ps sp)(Y:kf k X.A)(b:Binds X.K fd ps ds)(a:B6 dvs ds)(U:Passes CX X E)(I:B3 X B1 σ H s)(r:B6 vs us)(h:sp (vs++dvs) H Q E):w_ (u_ X.prog X.w) X.A (Ms (.ref f) us) (EP X B1 σ Q) X.xe s:=by
 have S:=r.append a;refine wpAny_call (LM (F.run X.A X.stack s H _ _ _ Q E Y I.env0 (b s us I.kIn (by exact S.length▸F.len _ _ _ _ h)) S h) λr s' B=>?_);cases r with
 |error e=>exact U B1 σ H s e s' I B|ok fl=>
  cases fl with
  |ret u=>exact I.after B|next=>exact Jt B|brk=>exact Jt B|cont=>exact Jt B
def Ag(F:jN X.prog X.w X.K X.mg X.base CX k f fd ps sp)(a:kf k X.A)(g:Gl X x)(c:X.mg x=a_ (.ref f))(d:MB X.K (.ref f)=e_)(l:Binds X.K fd ps ds)(j:B6 dvs ds)(Y:Passes CX X E)(m:PA X (e::es) t)(S:((x==("__debug__":IL))=cm)⁻¹)(i: ~~~(k_ (e::es) X.env=(cm,Il e X.env)::k_ es X.env))(B: ~~~((Jy pos (k_ es X.env)).any (·.1)=cm)):
  PE X (.Call (.Name x p) (e::es) [] pos) (tCall sp dvs E t):=by
 intro B1 s σ H Q I h;refine MU (vH I g c (Qi I.ok.mod.kin d (B' (m pos B1 s σ H _ I h) λus s1 b=>?_) i B) S);obtain⟨vs,H1,U,r,q⟩:=b;refine⟨U.kIn,?_⟩
 exact By F a l j Y U r q
def pe_meth(v:PE X o ta)(c:Cls X.K C)(b:Meth X.K C m f)(F:jN X.prog X.w X.K X.mg X.base CX k f fd ps sp)(p:kf k X.A)(y:Binds X.K fd ps ds)(w:B6 dvs ds)(j:Passes CX X E)(z:PA X (e::es) t)(S: ~~~(k_ (e::es) X.env=(cm,Il e X.env)::k_ es X.env))(U: ~~~((Jy pos (k_ es X.env)).any (·.1)=cm))(n: ~~~(Il (.Call (.Attribute o m apos) (e::es) [] pos) X.env=(do
   let ov <- Il o X.env
   NK apos.atName
   let (f,B) <- Ln [ov] (Ol ov m pl)
   Rx pos f B (Jy pos (k_ (e::es) X.env)) (LR pos (KG [] X.env))))):
  PE X (.Call (.Attribute o m apos) (e::es) [] pos) (tMeth C m sp dvs E ta t):=by
 intro B1 s σ H Q I h;refine M5 (B' (v B1 s σ H _ I h) λu s1 Y=>?_) n;obtain⟨x,H1,g,i,a,dx,fs,ex,ea,l,q⟩:=Y;subst ex;obtain rfl:u=s_ a:=i;refine uq g ea c b l (Qi I.ok.mod.kin b.kp (B' (z pos B1 s1 σ H1 _ g q) λus s2 Y=>?_) S U);obtain⟨vs,H2,d,r,q2⟩:=Y;refine⟨d.kIn,?_⟩
 exact By (vs:=.ref a::vs) F p y w j d (.cons rfl r) q2
def pe_meth0(i:PE X o ta)(c:Cls X.K C)(U:Meth X.K C m f)(F:jN X.prog X.w X.K X.mg X.base CX k f fd ps sp)(e:kf k X.A)(n:Binds X.K fd ps ds)(j:B6 dvs ds)(b:Passes CX X E)(d: ~~~(Il (.Call (.Attribute o m apos) [] [] pos) X.env=(do
   let ov <- Il o X.env
   NK apos.atName
   let (f,B) <- Ln [ov] (Ol ov m pl)
   Rx pos f B (Jy pos (k_ [] X.env)) (LR pos (KG [] X.env))))):
  PE X (.Call (.Attribute o m apos) [] [] pos) (tMeth C m sp dvs E ta tNil):=by
 intro B1 s σ H Q I h;refine M5 (B' (i B1 s σ H _ I h) λu s1 g=>?_) d;obtain⟨x,H1,S,Y,a,dx,fs,ex,ea,l,q⟩:=g;subst ex;obtain rfl:u=s_ a:=Y;exact uq S ea c U l (PySem.W.callWith_K0 S.kIn U.kp (By (vs:=[.ref a]) F e n j b S (.cons rfl .nil) q))
structure Mk(K:Pn)(C f:h_):Prop where
 makes:Sr K C=e_
 init:MC K (.ref C) "__init__"=a_ (a_ (.ref f))
 fn:isFn K (.ref f)=e_
 kp:MB K (.ref C)=e_
theorem run_make{s:j_}{Q:VK}(M:Mk X.K C f)(F:jN X.prog X.w X.K X.mg X.base CX k f fd ps sp)(d:kf (k+1) X.A)(j:Binds X.K fd ps ds)(i:B6 dvs ds)(c:Passes CX X E)(I:B3 X B1 σ H s)(r:B6 vs us)(h:∀x dx,H x=d_->H dx=d_->dx≠x->sp (.ref x::(vs++dvs)) (upd (upd H dx (.own x)) x (.ins C dx [])) (λv H2=>v=.non/\Q (.ref x) H2) E):
  w_ (u_ X.prog X.w) X.A (Ms (.ref C) us) (EP X B1 σ Q) X.xe s:=by
 have Y:=h (s.z+1) s.z (I.hok.fresh (MS _)) (I.hok.fresh (f_ _)) (G_ (M8 _));have S:=B3.made (C:=C) I;have U:B6 (V.ref (s.z+1)::(vs++dvs)) (s_ (s.z+1)::(us++ds)):=.cons rfl (r.append i);have g:(s_ (s.z+1)::us++ds).length=ps.length:=by have e:=U.length;rw[F.len _ _ _ _ Y]at e;exact e.symm
 refine wpAny_call (make_map (f:=f) I.kIn M.makes M.init (beq_iff_eq.mp M.fn) (LM (F.run _ X.stack _ _ ⟨s_ (s.z+1)::us,[]⟩ (s_ (s.z+1)::(us++ds)) _ _ E (d.make C us [])
  (S.env0.make C us []) (j _ (s_ (s.z+1)::us) S.kIn g) U Y) λr s' B=>?_))
 cases r with
 |error e=>exact c B1 σ _ _ e s' S B|ok fl=>
  cases fl with
  |ret u=>obtain⟨v,H',l,a,ev,b⟩:=S.after B;subst ev;exact⟨a,⟨V.ref (s.z+1),H',l,rfl,b⟩⟩
  |next=>exact Jt B|brk=>exact Jt B|cont=>exact Jt B
def FU(M:Mk X.K C f)(F:jN X.prog X.w X.K X.mg X.base CX k f fd ps sp)(a:kf (k+1) X.A)(d:Gl X x)(c:X.mg x=a_ (.ref C))(j:Binds X.K fd ps ds)(i:B6 dvs ds)(Y:Passes CX X E)(l:PA X (e::es) t)(S:((x==("__debug__":IL))=cm)⁻¹)(g: ~~~(k_ (e::es) X.env=(cm,Il e X.env)::k_ es X.env))(B: ~~~((Jy pos (k_ es X.env)).any (·.1)=cm)):
  PE X (.Call (.Name x p) (e::es) [] pos) (tMake C sp dvs E t):=by
 intro B1 s σ H Q I h;refine MU (vH I d c (Qi I.ok.mod.kin M.kp (B' (l pos B1 s σ H _ I h) λus s1 b=>?_) g B) S);obtain⟨vs,H1,U,r,q⟩:=b;refine⟨U.kIn,?_⟩
 exact run_make M F a j i Y U r q
end
structure jM(N P:List IL)(sc:Pa):Prop where
 kind:sc.kind=.function
 co:sc.isCoroutine=cm
 gen:sc.isGenerator=cm
 nd:N.Nodup
 pre:N.take P.length=P
 par:∀x∈P,sc.names.lookup x=a_ .local\/sc.names.lookup x=a_ .cell
 nofree:∀y∈sc.names,y.2≠.free
theorem zt{I:IL->Option Lr}{x:IL}:∀{B:List (IL×g_)} {m:Ld},(∀v,(x,v)∉B)->QP I B m x=m x
 |[],_,_=>rfl|(n,v)::r,m,h=>by
  unfold QP;rw[zt λw hw=>h w (Je _ hw)];split
  .grind
  .rfl
theorem zv{I:IL->Option Lr}{x:IL}:∀{B:List (IL×g_)} {m:Ld},(∀v,(x,v)∉B)->Ry I B m x=m x
 |[],_,_=>rfl|(n,v)::r,m,h=>by
  unfold Ry;rw[zv λw hw=>h w (Je _ hw)];split
  .rfl
  grind
theorem zu{B:IL->Option Lr}{x:IL}{v:g_}:∀{P:List IL} {vs:bv} {i:Nat} {m:Ld},P.Nodup->P[i]?=a_ x->vs[i]?=a_ v->B x=a_ .local ->
  QP B (P.zip vs) m x=a_ v
 |[],_,_,_,_,h,_,_=>by simp at h|_::_,[],_,_,_,_,h,_=>by simp at h|p::P,w::vs,0,m,S,h1,I,U=>by simp at h1 I;subst h1;subst I;show QP B ((p,w)::P.zip vs) m p=_;unfold QP;rw[zt λv Y=>(JZ.mp S).1 (Mf Y).1,p_ U];simp|p::P,w::vs,i+1,m,S,h1,I,U=>by unfold QP;exact zu (JZ.mp S).2 (by simpa using h1) (by simpa using I) U
theorem zw{B:IL->Option Lr}{x:IL}{v:g_}:∀{P:List IL} {vs:bv} {i:Nat} {m:Ld},P.Nodup->P[i]?=a_ x->vs[i]?=a_ v->B x≠a_ .local ->
  Ry B (P.zip vs) m x=a_ v
 |[],_,_,_,_,h,_,_=>by simp at h|_::_,[],_,_,_,_,h,_=>by simp at h|p::P,w::vs,0,m,S,h1,I,U=>by simp at h1 I;subst h1;subst I;show Ry B ((p,w)::P.zip vs) m p=_;unfold Ry;rw[zv λv Y=>(JZ.mp S).1 (Mf Y).1,q_ U];simp|p::P,w::vs,i+1,m,S,h1,I,U=>by unfold Ry;exact zw (JZ.mp S).2 (by simpa using h1) (by simpa using I) U
noncomputable def start(N:List IL)(vs:bm):St:=vs.map a_++C_ (N.length-vs.length) d_
noncomputable def cxOf(CX:CXT)(P:IQ)(w:JX)(K:Pn)(mg:Ld)(base:IF)(N:List IL)(qual:IL)(scope:Pa)(f:h_)(I:g_)(A:Kb)(outer:List Qk)(s:j_)(H:Hp)(E:XK):Cx where
 prog:=P
 w:=w
 K:=K
 mg:=mg
 base:=base
 A:=A.deeper (Ni qual scope s.heap.objs.size f I)
 N:=N
 s₀:=s
 H₀:=H
 env:=Ni qual scope s.heap.objs.size f I
 outer:=outer
 stack:=Ni qual scope s.heap.objs.size f I::outer
 ex:=[]
 calm:=e_
 fn:=λ_=>e_
 pn:=[]
 xe:=λe s'=>w_ (u_ P w) (A.deeper (Ni qual scope s.heap.objs.size f I)) (leaving (Ni qual scope s.heap.objs.size f I) e) (λ_ B=>CX outer H s E e B) (λS B=>CX outer H s E S B) s'
def CN{sc:Pa}{n:Nat}(h:sc.names.lookup x=a_ .cell):∃c,(J7 n sc.names []).lookup x=a_ c:=by exact KS.mp (K4 sc.names n [] (.inl h))
theorem GI{base:IF}{f:h_}{j:g_}{s s1:j_}{E:XK}(S:jM N ps scope)(t:A.handled=d_)(B:Env0 P w K mg base A outer s H)(D:vs.length=ps.length)(r:B6 vs us)(x:InCallC s s.heap.objs.size (QP (Ni qual scope s.heap.objs.size f j).kindOf (ps.zip us) λ_=>d_) (J7 (s.heap.objs.size+1) scope.names []) (Ry (Ni qual scope s.heap.objs.size f j).kindOf (ps.zip us) λ_=>d_) s1):
  B3 (cxOf CX P w K mg base N qual scope f j A outer s H E) [] (start N vs) H s1:=by
 have o:ps.length<=N.length:=by have:=Kd Lx S.pre;rw[JO]at this;lia
 obtain⟨h1,tk,rfl,m⟩:=x.done;have I:∀b,b∉(cxOf CX P w K mg base N qual scope f j A outer s H E).ex:=λb z=>IA (show b∈[]from z) ad;refine⟨⟨B.mod,S.kind,rfl,rfl,f_ _,λy z c h1 g=>name_of_addr x.apart (JS h1) (JS g),λy Y=>?_,λy c _ h=>IY (x.above y c (JS h)),λ_=>t,Around.frames_deeper B.frames,.inr ⟨rfl,rfl⟩,λb z=>IA z (I b),B.bs,B.bsz,λb _ _=>I b,λb z=>IA z (I b),B.Eu,B.frf⟩,
  rfl,B.bare,Un.kept m,⟨_,x.toInCall.ns,λi y v h1 g F=>?_⟩,λy c h=>⟨_,x.cell y c h⟩,B.hok.fresh (f_ _),λy c h=>B.hok.fresh (IY (x.above y c (JS h))),λp d=>IA (show p∈[]from d) ad,B.hok.kept m,?_⟩
 .rcases Y with Y|Y
  .exact CN Y
  .exact IA rfl (S.nofree _ (JS Y))
 .have hi:i<vs.length:=by
   unfold start at g;by_cases hi:i<vs.length
   .exact hi
   .simp_all[Kz,P2]
  have C:vs[i]?=a_ v:=by
   unfold start at g;rw[JR a7]at g;cases e:vs[i]? with
   |none=>simp_all|some a=>simp_all
  obtain⟨u,l,n⟩:=r.get C;have d:ps[i]?=a_ y:=by rw[<- S.pre,List.getElem?_take_of_lt ac];exact h1
  have U:ps.Nodup:=by exact S.pre▸S.nd.sublist (MN _ _)
  refine⟨u,n,?_⟩
  rcases S.par y (Jd d)with k|k
  .exact .inl ⟨k,zu U d l k⟩
  .obtain⟨c,e⟩:=CN k;refine .inr ⟨.inl k,c,e,?_⟩;have q:=x.cell y c e;rw[zw U d l (by show scope.names.lookup y≠_;simp_all)]at q;exact q
 .unfold start;show _=N.length
  simp_all
theorem fn_of{base:IF}{f:h_}{B:Arguments}{z kV doc pm cdv ct oc:g_}{an od:Option h_}{osl:Array (Option g_)}(F:K.lookup f=a_ ⟨oc,od,.func (Py name qual B body scope z kV doc pm an cdv ct),osl⟩)(p:Qh K cdv qual=e_)(S:jM N ps scope)(d:∀vs H Q E,sp vs H Q E->vs.length=ps.length)(a:∀(A:Kb) (outer:List Qk) (s:j_) (H:Hp) (vs:bm) (Q:VK) (E:XK),kf k (A.deeper (Ni qual scope s.heap.objs.size f cdv))->sp vs H Q E ->
   ∃t,PSs (cxOf CX P w K mg base N qual scope f cdv A outer s H E) body t/\t {nx:=λ_ H'=>Q .non H',rt:=Q} (start N vs) H):
  jN P w K mg base CX (k+1) f (Py name qual B body scope z kV doc pm an cdv ct) ps sp:=by
 refine⟨d,λA outer s H C us vs Q E m i T r g=>?_⟩
 have D:=i.mod.kin.keeps λb o e=>(i.bs b o e).1;have l:=i.mod.nolimit.keeps λb o e=>(i.bs b o e).1;have Y:∀y∈ps.zip us,scope.names.lookup y.1=a_ .local\/(scope.names.lookup y.1=a_ .cell/\((J7 (s.z+1) scope.names []).lookup y.1).isSome=e_):=λ⟨n,v⟩ G=>by
  rcases S.par n (Mf G).1 with q|q
  .exact .inl q
  .exact .inr ⟨q,K4 _ _ _ (.inl q)⟩
 refine codeAny_call_function m.depth (D _ _ F) rfl S.co S.gen rfl (PySem.W.codeRec_of D p) (T _ _ _ _ (wpAny_newFunctionEnv_cells S.kind Y λenv R s1 x=>?_));subst R;refine⟨l.keeps x.toInCall.keep,codeAny_func ?_⟩
 obtain⟨t,L,O⟩:=a A outer s H vs Q E (m.deeper _) g;have I:B3 (cxOf CX P w K mg base N qual scope f cdv A outer s H E) [] _ H s1:=GI S m.hd i (d _ _ _ _ g) r x;refine Jo (L [] s1 _ H _ I O) (λfl s' c=>?_) λe s' c=>c;have h:∀{U:St} {H':Hp} {v:V} {u:g_},B3 (cxOf CX P w K mg base N qual scope f cdv A outer s H E) [] U H' s'->B5 v u->Q v H'->CE outer P w H s Q u s':=
  λ{U H' v u} J j q=>⟨v,H',J.os,J.bare,J.base,J.hok,j,q⟩
 cases fl with
 |ret u=>obtain⟨v,U,H',J,j,q⟩:=c;exact h J j q
 |next=>obtain⟨U,H',J,q⟩:=c;exact h (v:=V.non) J rfl q
 |brk=>
  obtain⟨_,_,_,q⟩:=c
  simp_all
 |cont=>
  obtain⟨_,_,_,q⟩:=c
  simp_all
section
variable{id T:String}{r:List V->Hp->VK->Prop}
noncomputable def tCB(r:bm->Hp->VK->Prop)(t:TA):TE:=λσ H Q=>t σ H λvs H1=>r vs H1 Q
def mN(g:fS X (.builtin id) r)(d:Gl X x)(c:X.mg x=d_)(Y:K0 x=a_ (.builtin id))(i:PA X (e::es) t)(b:(x≠"__name__")⁻¹)(S:((x==("__debug__":IL))=cm)⁻¹)(f: ~~~(k_ (e::es) X.env=(cm,Il e X.env)::k_ es X.env))(B: ~~~((Jy pos (k_ es X.env)).any (·.1)=cm)):PE X (.Call (.Name x p) (e::es) [] pos) (tCB r t):=by intro B1 s σ H Q I h;refine MU (lW I d c Y (PyProof.Rows.callWith_builtin1 (B' (i pos B1 s σ H _ I h) λus s1 a=>?_) f B) b S);obtain⟨vs,H1,j,U,q1⟩:=a;exact g B1 s1 σ H1 vs us Q j U q1
def qD(g:fS X (.type T) r)(d:Gl X x)(c:X.mg x=d_)(Y:K0 x=a_ (.type T))(i:PA X (e::es) t)(b:(x≠"__name__")⁻¹)(S:((x==("__debug__":IL))=cm)⁻¹)(f: ~~~(k_ (e::es) X.env=(cm,Il e X.env)::k_ es X.env))(B: ~~~((Jy pos (k_ es X.env)).any (·.1)=cm)):PE X (.Call (.Name x p) (e::es) [] pos) (tCB r t):=by intro B1 s σ H Q I h;refine MU (lW I d c Y (Jb (B' (i pos B1 s σ H _ I h) λus s1 a=>?_) f B) b S);obtain⟨vs,H1,j,U,q1⟩:=a;exact g B1 s1 σ H1 vs us Q j U q1
end
end Lake
namespace Lake.HT
open PySem PyProof.Rows
section
open PySem.SeqAt
open PySem.AutoSeq1 (wpAny_loadPart')
open PySem.MeetsSeq PySem.MeetsSeq2 PySem.MeetsSeq3
end
section
variable{prog:IQ}{w:JX}{A:Kb}{E:Mq}{s:j_}
theorem cat_tup{t b:h_}{vs B:bv}{Q:Mq}(h:PM s.heap t vs.toArray)(k:PM s.heap b B.toArray)(m:vs≠[])(h1:B=[]->Q (.ref t) s)(l:B≠[]->Q (.ref s.heap.objs.size) {s with heap:=s.heap.push {cls:=.type "tuple",data:=.seq (vs++B).toArray}})(hsz:vs.length+B.length<=n_):w_ (u_ prog w) A (Ko .Add (.ref t) (.ref b)) Q E s:=by
 obtain⟨⟨cls,f,data,sl⟩,Y,j,n,i⟩:=id h;obtain⟨⟨g,U,d,S⟩,I,c,n2,a⟩:=id k;subst j i c a;have e:vs.toArray++B.toArray=(vs++B).toArray:=by simp
 by_cases hw:B=[]
 .exact O7 ⟨_,Y,rfl⟩ ⟨_,I,rfl⟩ Px Qy MV MM (MD _ _)
   (tuple_addW1 t b vs.toArray B.toArray n n2 f U sl S a7 (by simp[hw])) ⟨Y,I,h1 hw⟩
 .refine O7 ⟨_,Y,rfl⟩ ⟨_,I,rfl⟩ Px Qy MV MM (MD _ _)
   (tuple_addW2 t b vs.toArray B.toArray n n2 f U sl S a7 a7 a7) ⟨Y,I,?_⟩
  exact e▸l hw
noncomputable def sIx(n d:Nat):Option Int->Nat
 |none=>d|some v=>if v<0 then(v+(n:Int)).toNat else min v.toNat n
theorem sIx_le(n d:Nat)(B:d<=n)(o:Option Int):sIx n d o<=n:=by
 cases o with
 |none=>exact B|some v=>
  show(if v<0 then(v+n).toNat else min v.toNat n)<=n
  lia
theorem HE(v:Int)(n d:Nat):(if v<0 then Sb (v+(n:Int)) 0 else min v (n:Int))=((sIx n d (a_ v):Nat):Int):=by
 show(if v<0 then Sb _ 0 else min v n)=(((if v<0 then(v+(n:Int)).toNat else min v.toNat n):Nat))
 grind
theorem Ek(lo hi:Option Int)(n:Nat):L_ lo hi 1 (n:Int)=(((sIx n 0 lo:Nat):Int),((sIx n n hi:Nat):Int)):=by
 have h1:¬((1:Int)<0):=ac
 unfold L_;simp only[h1,Pu];refine Pm ?_ ?_
 .cases lo with
  |none=>rfl|some v=>exact HE v n 0
 .cases hi with
  |none=>rfl|some v=>exact HE v n n
theorem DB(i j:Nat):Lg (i:Int) (j:Int) 1=j-i:=by
 unfold Lg
 lia
def tW{v:g_}{o:Option Int}{Q:Option Int->j_->Prop}(p:PC v o)(h:Q o s):w_ (u_ prog w) A (SJ v) Q E s:=by
 cases p with
 |none=>exact slicePart_none h|int i t=>exact slicePart_int h
def p5{sl:h_}{U S:g_}{lo hi:Option Int}{n:Nat}{Q:Int×Int×Nat->j_->Prop}(a:s.heap.IsSliceOf sl U S .none)(pl:PC U lo)(Y:PC S hi)(h:Q (((sIx n 0 lo:Nat):Int),1,sIx n n hi-sIx n 0 lo) s):w_ (u_ prog w) A (SM (.ref sl) (JM (n:Int))) Q E s:=by obtain⟨c,B,b,I⟩:=id a;refine b_ (b_ (JP B I rfl (b_ (JP B I rfl (b_ (JP B I rfl (fm (b_ (slicePart_none ?_)))))))));refine b_ (tW pl (b_ (tW Y (b_ (fm ?_)))));show w_ _ _ (match L_ lo hi 1 n with|(lo,hi)=>JM (lo,(1:Int),Lg lo hi 1)) _ _ s;rw[Ek lo hi n];show w_ _ _ (JM (((sIx n 0 lo):Int),1,Lg ((sIx n 0 lo:Nat)) ((sIx n n hi:Nat)) 1)) _ _ s;rw[DB];exact fm h
theorem pick_gen(xs:Array g_)(i k:Nat):((A_ k).filterMap λ(m:Nat)=>xs[((i:Int)+(m:Int)*1).toNat]?).toArray=((xs.toList.drop i).take k).toArray:=by
 have e:(λ(m:Nat)=>xs[(i+(m:Int)*1).toNat]?)=λm=>xs[i+m]?:=by
  funext m
  have:(i+(m:Int)*1).toNat=i+m:=ac
  rw[this]
 have:=pick_run xs i k;have e2:((λx=>xs[x]?)∘λx=>i+x)=λm=>xs[i+m]?:=rfl
 simp_all
theorem o9{t sl:h_}{items:Array g_}{b a:g_}{lo hi:Option Int}{Q:Mq}(I:PM s.heap t items)(c:s.heap.IsSliceOf sl b a .none)(pl:PC b lo)(d:PC a hi)(hw:¬(sIx items.size 0 lo=0/\sIx items.size items.size hi=items.size))(h:Q (.ref s.heap.objs.size) {s with heap:=s.heap.push {cls:=.type "tuple",data:=.seq ((items.toList.drop (sIx items.size 0 lo)).take (sIx items.size items.size hi-sIx items.size 0 lo)).toArray}})(hsz:items.size<=n_):w_ (u_ prog w) A (P6 (.ref t) (.ref sl)) Q E s:=by
 have B:=by
  show((items.toList.drop (sIx items.size 0 lo)).take (sIx items.size items.size hi-sIx items.size 0 lo)).toArray.size<=n_;rw[Jm,JO,LB,Iu]
  lia
 obtain⟨e,S,Y,f⟩:=id c;unfold P6
 try with_reducible refine Ju ?_
 refine b_ (wpAny_sequenceKey I.typeIs am ?_);refine b_ (IT I.typeIs K5
  (Ip K5 I.typeIs entry_tuple_getitem ?_ (args_tuple_getitem _ _)))
 show w_ _ _ (N4 _ >>= _) _ _ s;refine b_ (tupleItemsOf_ I (b_ (NH (⟨e,S,Y⟩) ?_)));refine b_ (p5 c pl d ?_);have U:¬((((sIx items.size 0 lo):Int)==0&&(1:Int)==1&&(sIx items.size items.size hi-sIx items.size 0 lo)==items.size)=e_):=by intro q;rw[D_,D_]at q;have q1:=Kc q.1.1;have q2:=Kc q.2;exact hw ⟨ac,ac⟩
 show w_ _ _ (if (((sIx items.size 0 lo):Int)==0&&1==1&&(sIx items.size items.size hi-sIx items.size 0 lo)==items.size)=e_ then _ else _) _ _ s;rw[q_ U,pick_gen]
 first
  |exact b_ (IC (b_ (fm (fm ⟨_,rfl,fm h⟩))) B)
end
end Lake.HT
namespace Lake
open PySem PySem.Spec PyProof.Rows
variable{X:Cx}{e:Jj}{pos:Pb}{r:V->Option Int->Option Int->Hp->VK->Prop}{xs ys:List V}{us its its':List g_}{α:Type}{n:Nat}{i:Int}{B1:Vp}{σ:St}{H:Hp}{T:String}{x:V}
abbrev TO:=St->Hp->(Option Int->Hp->Prop)->Prop
inductive OP(X:Cx)(B1:Vp)(σ:St)(Q:Option Int->Hp->Prop)(u:g_)(s':j_):Prop
 |mk (o:Option Int) (H':Hp) (I:B3 X B1 σ H' s') (r:PC u o) (q:Q o H')
def PO(X:Cx)(e:Option Jj)(t:TO):Prop:=
 ∀(B1:Vp) (s:j_) (σ:St) (H:Hp) (Q:Option Int->Hp->Prop),B3 X B1 σ H s->t σ H Q ->
  w_ (u_ X.prog X.w) X.A (evalPart e X.env) (λu s'=>OP X B1 σ Q u s') X.xe s
noncomputable def tNoPart:TO:=λ_ H Q=>Q d_ H
noncomputable def tPart(t:TE):TO:=λσ H Q=>t σ H λx H1=>∃i,x=.int i/\Q (a_ i) H1
def intsAre_of{ns:a9}:∀{us:bv},B6 (ns.map V.int) us->Ma us ns:=by
 induction ns with
 |nil=>intro us r;cases r;exact .nil|cons n ns S=>
  intro us r;cases r with
  |cons I B=>obtain⟨t,rfl⟩:=I;exact .cons n t (S B)
section
variable{te:TE}{lo hi:Option Jj}{tl th:TO}{p2:Pb}
def po_none:PO X d_ tNoPart:=by intro B1 s σ H Q I h;exact fm ⟨d_,H,I,.none,h⟩
def po_some(h:PE X e te):PO X (a_ e) (tPart te):=by intro B1 s σ H Q I hw;refine B' (h B1 s σ H _ I hw) λu s1 S=>?_;obtain⟨x,H1,U,B,q1⟩:=S;obtain⟨i,rfl,q⟩:=q1;obtain⟨t,rfl⟩:=B;exact⟨a_ i,H1,U,.int i t,q⟩
def SlR(X:Cx)(r:V->Option Int->Option Int->Hp->VK->Prop):Prop:=
 ∀(B1:Vp) (s:j_) (σ:St) (H:Hp) (x:V) (v I B:g_) (lo hi:Option Int) (sl:h_) (Q:VK),B3 X B1 σ H s->B5 x v->s.heap.IsSliceOf sl I B .none->PC I lo->PC B hi->r x lo hi H Q ->
  ∃T id,typeLookup (.type T) "__getitem__"=JM (a_ (.builtin id))/\s.TypeIs v T/\w_ (u_ X.prog X.w) X.A (P6 v (.ref sl)) (EP X B1 σ Q) X.xe s
def SlR.or{r':V->Option Int->Option Int->Hp->VK->Prop}(h:SlR X r)(h':SlR X r'):SlR X (λx lo hi H Q=>r x lo hi H Q\/r' x lo hi H Q):=by
 intro B1 s σ H x v S B lo hi sl Q I U a pl Y q;rcases q with q|q
 .exact h B1 s σ H x v S B lo hi sl Q I U a pl Y q
 .exact h' B1 s σ H x v S B lo hi sl Q I U a pl Y q
noncomputable def tSl(r:V->Option Int->Option Int->Hp->VK->Prop)(te:TE)(tl th:TO):TE:=λσ H Q=>te σ H λx H1=>tl σ H1 λl H2=>th σ H2 λu B=>r x l u B Q
def pe_slice(i:SlR X r)(m:PE X e te)(j:PO X lo tl)(f:PO X hi th):PE X (.Subscript e (.Slice lo hi d_ p2) pos) (tSl r te tl th):=by
 intro B1 s σ H Q I h;refine Sa (B' (m B1 s σ H _ I h) λv s1 B=>?_);obtain⟨x,H1,t,a,q1⟩:=B;refine(wpAny_Slice (B' (j B1 s1 σ H1 _ t q1) λY s2 B=>?_))
 obtain⟨l,H2,p,pl,q2⟩:=B;refine B' (f B1 s2 σ H2 _ p q2) λU S B=>?_;obtain⟨u,w,o,d,c⟩:=B;refine fm ?_;obtain⟨T,id,n,g,k⟩:=i B1 {S with heap:=S.heap.push {cls:=.type "slice",data:=.fields #[Y,U,.none]}} σ w x v Y U l u S.z Q (o.kept (t':=S.toks) λb y q=>c_ _ q) a (OW ..) pl d c;exact tail_any g n k (by rfl)
def cutV(xs:bm)(lo hi:Option Int):bm:=(xs.drop (HT.sIx xs.length 0 lo)).take (HT.sIx xs.length xs.length hi-HT.sIx xs.length 0 lo)
theorem si(xs:bm)(lo hi:Option Int):(cutV xs lo hi).length<=xs.length:=by
 unfold cutV;rw[JO,LB]
 lia
def rSlT(K:Pn):V->Option Int->Option Int->Hp->VK->Prop:=λx lo hi H Q=>∃a xs,x=.ref a/\SqT K H a xs /\
 ¬(HT.sIx xs.length 0 lo=0/\HT.sIx xs.length xs.length hi=xs.length)/\∀p,H p=d_->Q (.ref p) (upd H p (.tup (cutV xs lo hi)))
theorem sl_tup:SlR X (rSlT X.K):=by
 rintro B1 s σ H x v f e lo hi sl Q I U d pl Y ⟨a,xs,rfl,c,hw,q⟩;cases U;obtain⟨its,r,S,hz⟩:=I.tuple c;have B:its.toArray.size=xs.length:=by exact r.length.symm
 refine⟨"tuple",_,K5.lookup,S.typeIs,(HT.o9 S d pl Y (by rw[B];exact hw) ?_ a7)⟩
 rw[B];refine⟨.ref s.z,_,I.laid (λb g q=>c_ _ q) (f_ _) ?_,rfl,q _ (I.hok.fresh (f_ _))⟩
 exact⟨B_ (si xs lo hi) hz,_,(r.drop _).take _,Q_ _ _⟩
def rCatT(K:Pn):R2:=λx y H Q=>∃a b xs ys,x=.ref a/\y=.ref b/\SqT K H a xs/\SqT K H b ys/\xs≠[]/\xs.length+ys.length<=n_ /\
 (ys=[]->Q (.ref a) H)/\(ys≠[]->∀p,H p=d_->Q (.ref p) (upd H p (.tup (xs++ys))))
def B6.Ar(r:B6 xs us):us=[]↔xs=[]:=by
 cases r with
 |nil=>simp|cons _ _=>simp
theorem op_catT:OpR X (Ko .Add) (rCatT X.K):=by rintro B1 s σ H x y v u Q I c Y ⟨a,b,xs,ys,rfl,rfl,f,e,d,hz,q1,q2⟩;cases c;cases Y;obtain⟨its,S,p1,_⟩:=I.tuple f;obtain⟨U,B,p2,_⟩:=I.tuple e;refine HT.cat_tup p1 p2 (λz=>d (S.Ar.mp z)) (λz=>⟨.ref a,H,I,rfl,q1 (B.Ar.mp z)⟩) (λz=>⟨.ref s.z,_,I.laid (λb g q=>c_ _ q) (f_ _) ?_,rfl,q2 (λw=>z (B.Ar.mpr w)) _ (I.hok.fresh (f_ _))⟩) (by rw[<- S.length,<- B.length];exact hz);exact⟨a7,_,S.append B,Q_ _ _⟩
end
noncomputable def ixN(n:Nat)(i:Int):Option Nat:=if 0<=i then(if i<n then a_ i.toNat else d_)else if -(n:Int)<=i then a_ (i+n).toNat else d_
def atI(xs:List α)(i:Int):Option α:=(ixN xs.length i).bind λj=>xs[j]?
theorem Ay{j:Nat}(h:ixN n i=a_ j):seqIndex? i n=a_ j/\j<n/\ -(n:Int)<=i/\i<n:=by
 unfold ixN at h;by_cases B:0<=i
 .by_cases h1:i<n
  .grind[Rt]
  simp_all
 .by_cases h1: -n<=i
  .grind[Q4]
  simp_all
theorem HY{xs:List α}{v:α}(h:atI xs i=a_ v):∃j,seqIndex? i xs.length=a_ j/\xs[j]?=a_ v/\j<xs.length/\ -(xs.length:Int)<=i/\i<xs.length:=by
 unfold atI at h;cases e:ixN xs.length i with
 |none=>simp_all|some j=>rw[e]at h;obtain⟨h1,S,I,B⟩:=Ay e;exact⟨j,h1,h,S,I,B⟩
def Bg(b:Jj):Prop:=∀o i,subscripted b cm o i=operate [o,i] (P6 o i)
def IxR(X:Cx)(r:R2):Prop:=
 ∀(value B:Jj) (B1:Vp) (s:j_) (σ:St) (H:Hp) (x y:V) (v u:g_) (Q:VK),B3 X B1 σ H s->B5 x v->B5 y u->r x y H Q ->
  subscripted B cm v u=operate [v,u] (P6 v u)->w_ (u_ X.prog X.w) X.A (subscriptTail value B v u) (EP X B1 σ Q) X.xe s
def MtR(X:Cx)(id:String)(r:V->bm->Hp->VK->Prop):Prop:=
 ∀(B1:Vp) (s:j_) (σ:St) (H:Hp) (x:V) (xs:bm) (v:g_) (us:bv) (Q:VK),B3 X B1 σ H s->B5 x v->B6 xs us->r x xs H Q ->
  w_ (u_ X.prog X.w) X.A (Ms (.builtin id) (v::us)) (EP X B1 σ Q) X.xe s
section
variable{a b:Jj}{ta tb:TE}
def IxR.or{r r':R2}(h:IxR X r)(h':IxR X r'):IxR X (λx y H Q=>r x y H Q\/r' x y H Q):=by
 intro value B B1 s σ H x y v u Q I U S q Y;rcases q with q|q
 .exact h value B B1 s σ H x y v u Q I U S q Y
 .exact h' value B B1 s σ H x y v u Q I U S q Y
def pe_ix{r:R2}(Y:IxR X r)(d:PE X a ta)(c:PE X b tb)(U:Bg b):PE X (.Subscript a b pos) (tOp r ta tb):=by intro B1 s σ H Q I h;exact Sa (binT d c I h λv u s2 x y H2 e S B q=>Y a b B1 s2 σ H2 x y v u Q e S B q (U _ _))
def rIxL(K:Pn):R2:=λx y H Q=>∃p xs i v,x=.ref p/\y=.int i/\SqL K H p xs/\atI xs i=a_ v/\Q v H
def rIxT(K:Pn):R2:=λx y H Q=>∃p xs i v,x=.ref p/\y=.int i/\SqT K H p xs/\atI xs i=a_ v/\Q v H
theorem ix_list:IxR X (rIxL X.K):=by
 intro value S B1 s σ H x y v u Q I e d h a;obtain⟨p,xs,i,z,rfl,rfl,f,k,q⟩:=h;cases e;obtain⟨t,rfl⟩:=d;obtain⟨its,r,pl,hz⟩:=I.list f;obtain⟨j,h1,n,A,m,l⟩:=HY k;obtain⟨w,c,U⟩:=r.get n;have g:=r.length;have o:=C6;have B:EP X B1 σ Q w s:=⟨z,H,I,U,q⟩
 by_cases b:0<=i
 .have Y:=by
   rw[Rt b l]at h1;exact JT h1
  exact item_listR pl.isList b ac (by rw[Y];simpa using c) B a
 .have Y:(i+its.toArray.size).toNat=j:=by
   rw[Q4 ac m]at h1;rw[Jm,<- g];exact JT h1
  exact NU pl.isList.typeIs O6.lookup
   (wpAny_getItem_list_neg pl.isList ac a7 ac (by rw[Y];simpa using c) ⟨rfl,B⟩) a
theorem ix_tup:IxR X (rIxT X.K):=by
 intro value B B1 s σ H x y v u Q I Y U h a;obtain⟨p,xs,i,z,rfl,rfl,b,c,q⟩:=h;cases Y;obtain⟨t,rfl⟩:=U;obtain⟨its,r,pl,hz⟩:=I.tuple b;obtain⟨j,h1,d,m,l,k⟩:=HY c;obtain⟨w,e,S⟩:=r.get d;have g:=r.length;have f:=C6;exact NU pl.typeIs K5.lookup
  (getItem_tuple (j:=j) pl ac ac a7 (by simpa using e) ⟨rfl,(⟨z,H,I,S,q⟩)⟩) a
def rIx(K:Pn):R2:=λx y H Q=>rIxL K x y H Q\/rIxT K x y H Q
def Gy:IxR X (rIx X.K):=ix_list.or ix_tup
def DH(its:bv)(n j:Nat)(u:g_):Lb (·.setIfInBounds j u) {cls:=.type "list",data:=.seq its.toArray n}={cls:=.type "list",data:=.seq (its.set j u).toArray n}:=by simp[Lb]
theorem B3.lst{B1:Vp}{σ:St}{H:Hp}{s:j_}{p:h_}{xs:bm}(I:B3 X B1 σ H s)(h:H p=a_ (.lst xs)):
  ∃(its:bv) (n:Nat),B6 xs its/\s.heap.get? p=a_ {cls:=.type "list",data:=.seq its.toArray n}/\xs.length<=n_:=by
 obtain⟨z,its,n,r,e⟩:=I.hok p _ h;exact⟨its,n,r,e,z⟩
def B3.lstUpd{s:j_}{p:h_}{B:Nat}{f:NY->NY}(I:B3 X B1 σ H s)(h:H p=a_ (.lst xs))(U:s.heap.get? p=a_ {cls:=.type "list",data:=.seq its.toArray n})(S:f {cls:=.type "list",data:=.seq its.toArray n}={cls:=.type "list",data:=.seq its'.toArray B})(r:B6 ys its')(hz:ys.length<=n_)(t:Nat):
  B3 X B1 σ (upd H p (.lst ys)) {s with heap:=s.heap.update p f,toks:=t}:=by
 have e:(s.heap.update p f).get? p=a_ {cls:=.type "list",data:=.seq its'.toArray B}:=by rw[KC f U (by rw[S]<;>rfl),S]
 refine I.write (by rw[h];trivial) (.inl rfl) (λb u Y q=>(K8 _ _ (IV Y)).trans q) ⟨_,e⟩ ?_;exact⟨hz,its',B,r,e⟩
def rSetL:V->V->V->Hp->(Hp->Prop)->Prop:=λo i v H Q=>∃p xs k j,o=.ref p/\i=.int k/\H p=a_ (.lst xs)/\ixN xs.length k=a_ j/\Q (upd H p (.lst (xs.set j v)))
theorem set_list:PSet X rSetL:=by
 rintro B1 s σ H o i v ov h u Q I ro c b ⟨p,xs,k,j,rfl,rfl,U,e,q⟩;cases ro;obtain⟨t,rfl⟩:=c;obtain⟨its,n,r,B,hz⟩:=I.lst U;obtain⟨h1,m,g,f⟩:=Ay e;have d:=r.length;have l:=C6;have a:=
  I.lstUpd U B (DH its n j u) (r.set b j) a7 s.toks
 by_cases Y:0<=k
 .have S:=by
   rw[Rt Y f]at h1;exact JT h1
  exact PySem.W.ki_setAt B Y ac a7 (by exact S▸⟨_,a,q⟩)
 .have S:(k+its.toArray.size).toNat=j:=by
   rw[Q4 ac g]at h1;rw[Jm,<- d];exact JT h1
  exact PySem.W.ki_setBack B ac a7 ac (by exact S▸⟨_,a,q⟩)
theorem xk(lo hi:Option Int)(n:Nat):(Na lo hi d_ n).1=((HT.sIx n 0 lo:Nat):Int)/\(Na lo hi d_ n).2.1=((HT.sIx n n hi:Nat):Int)/\(Na lo hi d_ n).2.2=1:=by
 refine⟨?_,?_,rfl⟩
 .cases lo with
  |none=>rfl|some i=>
   simp[Na,HT.sIx,]
   grind
 .cases hi with
  |none=>rfl|some i=>
   simp[Na,HT.sIx,]
   grind
def uY(its:bv)(lo hi:Option Int):QM its.toArray lo hi d_=((its.drop (HT.sIx its.length 0 lo)).take (HT.sIx its.length its.length hi-HT.sIx its.length 0 lo)).toArray:=by obtain⟨h1,I,B⟩:=xk lo hi its.toArray.size;unfold QM;rw[h1,I,B];simp only[sliceRange_one,pick_run,Jm]
def rSlL(K:Pn):V->Option Int->Option Int->Hp->VK->Prop:=λx lo hi H Q=>∃a xs,x=.ref a/\SqL K H a xs/\∀p,H p=d_->Q (.ref p) (upd H p (.lst (cutV xs lo hi)))
theorem sl_list:SlR X (rSlL X.K):=by
 rintro B1 s σ H x v f e lo hi sl Q I U d pl Y ⟨a,xs,rfl,c,q⟩;cases U;obtain⟨its,r,S,hz⟩:=I.list c;have B:=r.length;refine⟨"list",_,O6.lookup,S.isList.typeIs,(Qw S.isList d pl Y .none ad ?_ a7)⟩
 rw[uY,<- B];refine⟨.ref s.z,_,I.laid (λb g q=>c_ _ q) (f_ _) ?_,rfl,q _ (I.hok.fresh (f_ _))⟩
 exact⟨B_ (si xs lo hi) hz,_,0,(r.drop _).take _,i_ _ rfl⟩
theorem kS:fS X (.builtin "len") (λxs H Q=>∃p ys,xs=[.ref p]/\(SqL X.K H p ys\/SqT X.K H p ys)/\Q (.int ys.length) H):=by
 rintro B1 s σ H xs us Q I r ⟨p,ys,rfl,B,q⟩;obtain⟨u,rfl,rfl⟩:=vals1 r;have U:=C6;rcases B with B|B
 .obtain⟨its,r',pl,hz⟩:=I.list B;have S:=r'.length;exact Calls.call_len_list pl.isList a0 ⟨.int ys.length,H,I.tok _,⟨s.toks+1,a7⟩,q⟩
 .obtain⟨its,r',pl,hz⟩:=I.tuple B;have S:=r'.length;exact len_tuple pl a0 ⟨.int ys.length,H,I.tok _,⟨s.toks+1,a7⟩,q⟩
def fS.or{f:g_}{r r':bm->Hp->VK->Prop}(h:fS X f r)(h':fS X f r'):fS X f (λxs H Q=>r xs H Q\/r' xs H Q):=by
 intro B1 s σ H xs us Q I rs q;rcases q with q|q
 .exact h B1 s σ H xs us Q I rs q
 .exact h' B1 s σ H xs us Q I rs q
theorem zg:fS X (.type "list") (λxs H Q=>∃p ys,xs=[.ref p]/\(SqL X.K H p ys\/SqT X.K H p ys)/\∀l,H l=d_->Q (.ref l) (upd H l (.lst ys))):=by
 rintro B1 s σ H xs us Q I r ⟨p,ys,rfl,U,q⟩;obtain⟨u,rfl,rfl⟩:=vals1 r;have a:∀(its:bv),B6 ys its->ys.length<=n_->∀(h':IF) (B:Nat),(∀b o',s.heap.get? b=a_ o'->h'.get? b=a_ o') ->
   h'.get? s.z=a_ {cls:=.type "list",dict:=d_,data:=.seq its.toArray B,slots:=#[]}->EP X B1 σ Q _ {s with heap:=h'}:=λits r' hz h' B S e=>
  ⟨.ref s.z,_,I.laid S (f_ _) (show gQ _ h' _ (.lst ys)from⟨hz,its,B,r',e⟩),rfl,q _ (I.hok.fresh (f_ _))⟩
 rcases U with U|U
 .obtain⟨its,r',pl,hz⟩:=I.list U;have Y:=r'.length;obtain⟨o,c,f,n,d⟩:=pl.isList;exact call_list_seq p (.inl rfl) c f d (λh' B S e=>a its r' hz h' B S e) a7
 .obtain⟨its,r',pl,hz⟩:=I.tuple U;have Y:=r'.length;obtain⟨o,c,f,n,d⟩:=pl;exact call_list_seq p (.inr rfl) c f d (λh' B S e=>a its r' hz h' B S e) a7
theorem wA:fS X (.type "tuple") (λxs H Q=>∃p ys,xs=[.ref p]/\((SqL X.K H p ys/\∀l,H l=d_->Q (.ref l) (upd H l (.tup ys)))\/(SqT X.K H p ys/\Q (.ref p) H))):=by
 rintro B1 s σ H xs us Q I r ⟨p,ys,rfl,h⟩;obtain⟨u,rfl,rfl⟩:=vals1 r;rcases h with⟨B,q⟩|⟨B,q⟩
 .obtain⟨its,r',pl,hz⟩:=I.list B;have S:=r'.length;refine call_tuple_list pl.isList (λh' Y=>?_) a7;have U:=I.kept (t':=s.toks) Y;exact⟨.ref h'.objs.size,_,(U.laid (t':=s.toks) (λb o e=>c_ _ e) (f_ _) (show gQ _ _ _ (.tup ys)from⟨hz,its,r',Q_ _ _⟩)),rfl,q _ (U.hok.fresh (f_ _))⟩
 .obtain⟨its,r',pl,hz⟩:=I.tuple B;exact call_tuple_same pl ⟨.ref p,H,I,rfl,q⟩
def tyV(K:Pn)(T:String)(x:V)(H:Hp):Prop:=T="list"/\∃p xs,x=.ref p/\SqL K H p xs
def tyV_is{s:j_}{v:g_}(I:B3 X B1 σ H s)(r:B5 x v)(ty:tyV X.K T x H):
  s.TypeIs v T/\∀a,v=.ref a->∃B,s.heap.get? a=a_ B/\B.dict=d_:=by
 obtain⟨rfl,p,xs,rfl,S⟩:=ty;cases r;obtain⟨its,_,pl,_⟩:=I.list S;refine⟨pl.isList.typeIs,λa e=>?_⟩
 cases e;obtain⟨o,n,e,c,U,_⟩:=pl;exact⟨o,e,U⟩
def tBM(K:Pn)(T:String)(r:V->bm->Hp->VK->Prop)(to:TE)(t:TA):TE:=λσ H Q=>to σ H λx H1=>tyV K T x H1/\t σ H1 λxs H2=>r x xs H2 Q
variable{o:Jj}{es:List Jj}{to:TE}{t:TA}{name:IL}{apos cpos:Pb}{id:String}{r:V->List V->Hp->VK->Prop}
def pe_bm(pa:PlainAttrs T)(Y:Slot T name id)(b:typeOf (.builtin id)=JM (.type "method_descriptor"))(l:MtR X id r)(k:PE X o to)(m:PA X (e::es) t)(U: ~~~(Jv o name X.env (Il o X.env)=Il o X.env))(a: ~~~(((Jy cpos (k_ (e::es) X.env)).all (λx=> !x.1)&&(LR cpos (KG [] X.env)).all (λx=>x.1.isSome)
   &&m_ ((e::es).length+([]:List LA).length+(if ([]:List LA).isEmpty then 0 else 1)<30))=e_))(S: ~~~((apos.endLine==cpos.line)=e_))(j: ~~~(k_ (e::es) X.env=(cm,Il e X.env)::k_ es X.env))(B: ~~~((Jy cpos (k_ es X.env)).any (·.1)=cm)):
  PE X (.Call (.Attribute o name apos) (e::es) [] cpos) (tBM X.K T r to t):=by
 intro B1 s σ H Q I h;refine wpAny_Call_method_late U a S rfl (B' (k B1 s σ H _ I h) λv s1 c=>?_);obtain⟨x,H1,g,d,ty,q1⟩:=c;obtain⟨h1,n⟩:=tyV_is g d ty;refine⟨T,id,pa,Y,b,h1,n,?_⟩
 have f:=m cpos B1 s1 σ H1 _ g q1;rw[j]at f ⊢;refine Kr (by show(cm||(Jy cpos (k_ es X.env)).any (·.1))=cm;rw[B]<;>rfl) (Nz ?_);refine B' f λus s2 c=>?_;obtain⟨vs,H2,p,i,q2⟩:=c;exact l B1 s2 σ H2 x vs v us Q p d i q2
/- xs.append(e),list.index on a module's tuple .. are MtR facts of 06m -/
end
def MtM(X:Cx)(id:String)(r:V->bm->Hp->VK->Prop):Prop:=
 ∀(B1:Vp) (s:j_) (σ:St) (H:Hp) (x:V) (xs:bm) (v:g_) (us:bv) (Q:VK),B3 X B1 σ H s->B5 x v->B6 xs us->r x xs H Q ->
  w_ (u_ X.prog X.w) X.A (Ms (.builtin id) (v::us)) (EP X B1 σ Q) X.xe s
def B6.one(h:B6 [x] us):∃u,us=[u]/\B5 x u:=by
 cases h with
 |cons r t=>cases t;exact⟨_,rfl,r⟩
def B6.two{y:V}(h:B6 [x,y] us):∃u v,us=[u,v]/\B5 x u/\B5 y v:=by
 cases h with
 |cons r t=>obtain⟨v,rfl,q⟩:=B6.one t;exact⟨_,_,rfl,r,q⟩
theorem B6.reverse{xs:bm}{us:bv}(h:B6 xs us):B6 xs.reverse us.reverse:=by
 induction h with
 |nil=>exact .nil|cons r t B=>rw[MO,MO];exact B6.append B (.cons r .nil)
theorem B6.rep{xs:bm}{us:bv}(h:B6 xs us):∀k:Nat,B6 (C_ k xs).flatten (C_ k us).flatten
 |0=>.nil|k+1=>by exact B6.append h (B6.rep h k)
theorem foldl_rep(its:bv):∀(k:Nat) (acc:bv),
  Pr (λI B=>I++B) acc.toArray (C_ k its.toArray)=(acc++(C_ k its).flatten).toArray
 |0,acc=>by simp|k+1,acc=>by simp[List.replicate_succ,foldl_rep]
section
variable{s:j_}{l:h_}
def B3.lset{f:Array g_->Array g_}{t':Nat}(I:B3 X B1 σ H s)(a:H l=a_ (.lst xs))(e:s.heap.get? l=a_ {cls:=.type "list",data:=.seq its.toArray n})(U:f its.toArray=its'.toArray)(B:B6 ys its')(hz:ys.length<=n_):
  B3 X B1 σ (upd H l (.lst ys)) {s with heap:=s.heap.update l (Lb f),toks:=t'}:=by
 have q:=PySem.IsL.update e f;rw[U]at q;refine I.write (by exact a▸trivial) (.inl rfl) (λb' u Y S=>(K8 s.heap _ (IV Y)).trans S) ⟨_,q⟩ ?_;exact⟨hz,its',_,B,q⟩
def B3.lnew{t':Nat}(I:B3 X B1 σ H s)(B:B6 ys its)(hz:ys.length<=n_):
  B3 X B1 σ (upd H s.heap.objs.size (.lst ys)) {s with heap:=s.heap.push {cls:=.type "list",data:=.seq its.toArray},toks:=t'}:=
 I.laid (λ_ _ q=>c_ _ q) (f_ _) ⟨hz,its,0,B,i_ _ rfl⟩
theorem B3.fresh(I:B3 X B1 σ H s):H s.heap.objs.size=d_:=I.hok.fresh (f_ _)
def B3.lstM(I:B3 X B1 σ H s)(B:H l=a_ (.lst xs)):xs.length<=n_/\∃(its:bv) (n:Nat),B6 xs its/\xs.length=its.length/\s.heap.get? l=a_ {cls:=.type "list",data:=.seq its.toArray n}:=by obtain⟨z,its,n,r,e⟩:=I.hok l _ B;exact⟨z,its,n,r,r.length,e⟩
theorem BU(h:n<=n_):Lo n=cm:=by simp_all[Lo]
end
def Fz:V->bm->Hp->VK->Prop:=λx vs H Q=>∃l xs y,x=.ref l/\vs=[y]/\H l=a_ (.lst xs)/\xs.length<n_/\Q .non (upd H l (.lst (xs++[y])))
theorem yb:MtM X "list.append" Fz:=by
 rintro B1 s σ H x vs v us Q I S U ⟨l,xs,y,rfl,rfl,B,hz,q⟩;cases S;obtain⟨u,rfl,Y⟩:=U.one;obtain⟨z,its,n,r,a,e⟩:=I.lstM B;refine OR M7 ⟨_,e,rfl⟩ F.entry_list_append (F.args_list_append_2 _ _) (PySem.list_append l its.toArray n u a7) ⟨e,⟨.non,_,I.lset B e ad (r.append (.cons Y .nil)) ?_,rfl,q⟩⟩
 grind
def rExtend:V->bm->Hp->VK->Prop:=λx vs H Q=>∃l b xs B,x=.ref l/\vs=[.ref b]/\H l=a_ (.lst xs)/\H b=a_ (.lst B)/\xs.length+B.length<=n_/\Q .non (upd H l (.lst (xs++B)))
theorem Gd:MtM X "list.extend" rExtend:=by
 rintro B1 s σ H x vs v us Q I Y a ⟨l,b,xs,g,rfl,rfl,U,f,hz,q⟩;cases Y;obtain⟨u,rfl,rfl⟩:=a.one;obtain⟨z,its,n,r,i,e⟩:=I.lstM U;obtain⟨h,B,n2,c,d,e2⟩:=I.lstM f;have hsz:its.toArray.size+B.toArray.size<=n_:=by rw[Jm,Jm];lia
 have S:¬(!its.toArray.isEmpty&&Lo (its.toArray.size+B.toArray.size))=e_:=by rw[BU hsz,RZ];exact Kj
 refine OR Qj ⟨_,e,rfl⟩ F.entry_list_extend (F.args_list_extend_2 _ _)
  (AutoSeq1.list_extend_list_list_0 l its.toArray n b B.toArray n2 S a7 ac) ⟨e,e2,⟨.non,_,I.lset U e ad (r.append c) ?_,rfl,q⟩⟩
 simp_all
def rRep:R2:=λx y H Q=>∃l k xs,x=.ref l/\y=.int k/\H l=a_ (.lst xs)/\ -(2^63)<=k/\k<2^63/\xs.length*k.toNat<=n_ /\
 ∀p,H p=d_->Q (.ref p) (upd H p (.lst (C_ k.toNat xs).flatten))
def len_rep(xs:List α)(k:Nat):(C_ k xs).flatten.length=k*xs.length:=by simp
theorem op_rep:OpR X (Ko .Mult) rRep:=by
 rintro B1 s σ H x y v u Q I g f ⟨l,k,xs,rfl,rfl,i,h1,j,hz,q⟩;cases g;obtain⟨t,rfl⟩:=f;obtain⟨z,its,n,r,h,e⟩:=I.lstM i;have U:its.toArray.size*k.toNat<=n_:=by rw[Jm,<- h];exact hz
 have b:¬its.toArray.size*k.toNat>(2^63-1)/8:=by
  have:n_<=(2^63-1)/8:=by decide
  lia
 have Y:¬(!Builtin.List.listFitsIndex k)=e_:=by rw[fitsIndex_both h1 j];exact Kj
 have B:¬Lo (its.toArray.size*k.toNat)=e_:=by exact(BU U)▸Kj
 have S:Pr (λd c=>d++c) #[] (C_ (if its.toArray.isEmpty=e_ then 0 else k.toNat) its.toArray)=(C_ k.toNat its).flatten.toArray:=by
  have f0:∀m,Pr (λd c=>d++c) #[] (C_ m its.toArray)=(C_ m its).flatten.toArray:=λm=>by
   have:=foldl_rep its m []
   simp_all
  rw[f0];cases its with
  |nil=>simp|cons a r'=>rfl
 refine wpAny_binaryOp_repeat_ref am ⟨_,e,rfl⟩ (λs'=>typeIs_int s' k t) noFill_list_mul F.fills_int_mul Sx repeat_list F.slot_int_index.lookup
  (OR Sx (typeIs_int s k t) F.entry_int_rmul (F.args_int_rmul_2 _ _) (int___rmul___int_list k t l its.toArray n)
   ⟨e,rfl,⟨_,e,rfl⟩,OR F.slot_list_mul ⟨_,e,rfl⟩ F.entry_list_mul (F.args_list_mul_2 _ _) (AutoListH.list___mul___list_int_3 l its.toArray n k t Y b B) ⟨e,?_⟩⟩)
 exact S▸⟨.ref _,_,I.lnew (r.rep k.toNat) (by rw[len_rep,Nat.mul_comm];exact hz),rfl,q _ I.fresh⟩
end Lake
namespace Lake.Att
open PySem PySem.W PySem.Calls PyProof.Rows
def rj{P:Params}{h:IF}:∀(ns:a9) (vs:bv),WellAll P h vs (ns.map WData.int)->Ma vs ns:=by
 intro ns
 induction ns with
 |nil=>intro vs w;cases w;exact .nil|cons n ns B=>
  intro vs w;cases w with
  |cons a b=>cases a;exact .cons _ _ (B _ b)
theorem Fo{l:Oc}{n:Nat}(i:l.most=a_ n){P:Params}{h:IF}{B:List WData}{I:bv}(S:l.row.toRowW.claim.pre B=e_)(b:WellAll P h I B):
  ∃a vs ns,I=[s_ a]/\B=[WData.list (ns.map WData.int)]/\h.get? a=a_ {cls:=.type "list",data:=.seq vs.toArray}/\Ma vs ns/\ns.length<=n:=by
 have j:=(pre_splitW S).2;obtain⟨d,r,rfl,h1,m⟩:=hasAllW_cons ((pre_splitW S).1);obtain rfl:=hasAllW_nil m;obtain⟨xs,rfl,k⟩:=hasW_list h1;obtain⟨ns,rfl⟩:=items_int k;have U:ns.length<=n:=by
  have c:=by have c:=(holds_andW j).1;exact i▸c
  have o:=condW_of c (w_not (w_lt w_lit (w_len_list (w_arg rfl))));refine RK λq=>?_
  first
   |simp_all
 cases b with
 |cons f e=>
  cases e;cases f with
  |list g Y=>exact⟨_,_,ns,rfl,rfl,g,rj ns _ Y,U⟩
def FN(l:Oc)(args:List WData):l.row.toRowW.claim.post args (.bool e_) args=e_:=
 postW_of
  (show WShape.has [] _ .bool=e_ by rfl)
  (show(WTm.eq .res _).value [] {args:=args,res:=a_ _,after:=args}=a_ _ from w_eq_bool (w_res rfl) w_lit) rfl
def Bb{l:Oc}{n:Nat}{q:IQ}{S:List IL}{y:(Ld)->IF->Prop}{x:JX->IF->Prop}{d:DefRec}(D:l.most=a_ n)(m:d.params.defaults=[])(g:∀(w:JX) (I B:j_) (mg i:Ld) (fa:h_) (o:NY) (pm h doc:g_) (a:h_) (vs:bv) (ns:a9),
   Ground q S [] y w I mg i B.heap->x w B.heap ->
   B.heap.get? fa=a_ o->o.data=.func (docDef d.name d.params d.body d.scope pm h doc)->B.heap.CodeRec h d.name->mg d.name=a_ (.ref fa) ->
   B.heap.get? a=a_ {cls:=.type "list",data:=.seq vs.toArray}->Ma vs ns->ns.length<=n->B.gens=#[] ->
   MK (u_ l.prog w) O8 (.call (.ref fa) ⟨[.ref a],[]⟩) (λr s'=>r=.ok (.ret (.bool e_))/\OldK B.heap s'.heap/\s'.os=B.os/\NV s'.gens) B):
  QD q S y x l.row.toRowW d [] (λf vs=>Ms f vs):=by
 intro w I B mg i G Y fa o pm h doc O kV C J p u k H v s as b t z j F;obtain rfl:O=.none:=Dflts.none u m;obtain rfl:kV=.none:=Dflts.noKw u;obtain⟨a,vs,ns,rfl,rfl,c,U,e⟩:=Fo D b j;refine enter_call (LM (g w I B mg i fa o pm h doc a vs ns G Y C (fd_plain J) p k c U e H) λr s' A=>?_);obtain⟨rfl,N,L,K⟩:=A;exact⟨.inl ⟨.bool e_,.bool e_,[],rfl,λ_=>rfl,.bool e_,FN l _,λ_=>⟨K2,λ_ E=>(nomatch E)⟩⟩,N,L,K⟩
end Lake.Att
namespace Lake
open PySem PySem.Spec PyProof.Rows
variable{P prog:IQ}{w:JX}{K:Pn}{mg:Ld}{CX:CXT}{k n j i m lo t' nN nN2 n2 k2 ep ep' hint ia ib iS iB iL iF iLab iT iSt iAh iO iZ:Nat}{a c l b C r fad fI z aS:h_}{fd fdI:Kw}{x qual:IL}{sp:Sp}{vs us its:List g_}{X:Cx}{st st1:Ir}{ps N' N ps2:List IL}{oc kV doc pm cdv ct mc u k' a' b' ov:g_}{od an:Option h_}{osl sl:Array (Option g_)}{pos spos py apos pos' q p2 q1 q2 p3 p4 cpos:Pb}{H H1 H2 H' J F F' H0 F1 F0 FB G G':Hp}{scope sc:Pa}{A:Kb}{E:Mq}{B1:Vp}{σ:St}{ix:List (Option Nat)}{fp ch:List h_}{h1 h h':IF}{t p O O2 OL O' ys out pa pb p' rest:List Nat}{R:List V->Hp->Prop}{elt tg iter e ex value ek ev e1 e2 e3 e4 e5:Jj}{ifs elts:List Jj}{tt:TT}{te tl tv td tx:TE}{y v:V}{xs:List V}{cs:List (IL×h_)}{es:Array Jx}{pl:Nl Bool}{Q:Option g_->j_->Prop}{ro:Bool}{α β:Type}{is:List Int}{op op':CmpOp}{T:Unit->j_->Prop}{sts body:List Jl}{r':Array Ji}{ta:TA}{κ:Qn}{items:Array g_}{bd:Nat->Bool}{gs:List (List Nat×Nat)}{rs:List (List Int×h_)}
theorem wX:∀{vs:bv} {ns:a9},Ma vs ns->B6 (ns.map V.int) vs
 |_,_,.nil=>.nil|_,_,.cons n t h=>.cons ⟨t,rfl⟩ (wX h)
def Only(H:Hp):Prop:=∀b,H b=d_\/∃o xs,H b=a_ (.frz o (.lst xs))
theorem law_call{y:Ld}{fa:h_}{B:j_}{ns:a9}(O:K.In B.heap)(i:B.heap.Ns JE mg)(c:B.heap.Ns R7 y)(D:∀x:IL,x≠"__name__"->y x=K0 x)(j:B.heap.NoLimit)(hg:B.gens=#[])(E:B.heap.get? a=a_ {cls:=.type "list",data:=.seq vs.toArray})(hi:Ma vs ns)(hl:ns.length<=n_)(hr:kf k O8)(F:∀base:IF,K.In base->base.Ns JE mg->jN P w K mg base CX k fa fd [x] sp)(Y:∀(s:j_) (u:g_),Oo s fd ⟨[u],[]⟩ [(x,u)])(A:∀H:Hp,Only H->SqL K H a (ns.map V.int)->sp [.ref a] H (λv _=>v=.bl e_) λ_ _ _=>False)(G:∀H e s',CX [] H B (λ_ _ _=>False) e s'->False):
  MK (u_ P w) O8 (.call (.ref fa) ⟨[.ref a],[]⟩) (λr s'=>r=.ok (.ret (.bool e_))/\OldK B.heap s'.heap/\s'.os=B.os/\NV s'.gens) B:=by
 have T:=wX hi;have L:=hi.length;have U:∀H:Hp,Only H->SqL K H a (ns.map V.int)->HOk H B.heap->(∀b,H b≠d_->b=a)->(H a≠d_->K.lookup a=d_) ->
   MK (u_ P w) O8 (.call (.ref fa) ⟨[.ref a],[]⟩) (λr s'=>r=.ok (.ret (.bool e_))/\OldK B.heap s'.heap/\s'.os=B.os/\NV s'.gens) B:=by
  intro H N hS g hA hK;have I:∀{b:h_} {o:NY},B.heap.get? b=a_ o->H b=d_->(hidT B.heap H).get? b=a_ o:=λe n=>hidT_get e n;have t:∀{b:h_} {o:NY} {es:Array Jx} {ep:Nat},B.heap.get? b=a_ o->o.data=.dict es ep->H b=d_:=λ{b o es ep} e d=>by grind
  have S:∀{b:h_} {m:Ld},B.heap.Ns b m->(hidT B.heap H).Ns b m:=λ{b m} ⟨o,es,ep,e,d,r⟩=>⟨o,es,ep,I e (t e d),d,r⟩
  have l:K.In (hidT B.heap H):=λb o e=>I (O b o e) a0
  have hM:Mod K mg (hidT B.heap H):=⟨l,S i,⟨y,S c,D⟩,let ⟨mc,h1,h2⟩:=j;⟨mc,S h1,h2⟩⟩
  have e0:Env0 P w K mg (hidT B.heap H) O8 [] B H:=⟨rfl,hM,λb o e=>of_hidT e,Mu (GN _ _),trivial,λb c=>IA (show b∈([]:List h_)from c) ad,g,.of_eq hg⟩
  refine LM ((F _ l (S i)).run O8 [] B H ⟨[.ref a],[]⟩ [.ref a] [.ref a] _ _ hr e0 (Y B (.ref a)) (.cons rfl .nil) (A H N hS)) λr s' h=>?_;cases r with
  |error e=>exact(G H e s' h).elim|ok fl=>
   cases fl with
   |next=>exact Jt h|brk=>exact Jt h|cont=>exact Jt h|ret u=>
    obtain⟨v,H',X,p,J,f,r',q⟩:=h;have W:v=.bl e_:=q;subst W;obtain rfl:u=N3 e_:=r';refine⟨rfl,OldK.of_keep λb o e=>?_,X,p⟩
    cases q:H b with
    |none=>exact J.keep b o e q (by intro z;exact IA (show b∈([]:List h_)from z) ad) ad|some u=>
     rcases N b with z|⟨Z,xs,z⟩
     .simp_all
     .have Q:=J.frzs b Z _ z;obtain⟨e1,_⟩:=g b _ z;obtain⟨e2,_⟩:=f b _ Q
      simp_all
 cases C:K.lookup a with
 |some o=>have e:=O a o C;rw[E]at e;cases e;refine U (λ_=>d_) (λ_=>.inl rfl) (.inr ⟨_,vs.toArray,_,C,rfl,rfl,rfl,a7,a7⟩) (λb u z=>by simp_all) (λb z=>IA rfl z) λz=>IA rfl z|none=>
  refine U (λb=>if b=a then a_ (.frz {cls:=.type "list",data:=.seq vs.toArray} (.lst (ns.map V.int)))else d_) (λb=>?_) (.inl (.inr ⟨{cls:=.type "list",data:=.seq vs.toArray},p_ rfl⟩)) (λb u z=>?_) (λb z=>?_) λ_=>C
  .grind
  .by_cases c:b=a
   .have R:=(p_ c).symm.trans z;cases R;subst c;exact⟨E,a7,vs,_,T,E⟩
   simp_all
  simp_all
def walk_of{l:Oc}{q:IQ}{I:List IL}{O:(Ld)->IF->Prop}{r:JX->IF->Prop}{d:DefRec}{K:Params->Pn}{CX:JX->CXT}{sp:JX->Sp}(z:l.most=a_ n)(g:n<=n_)(j:d.params.defaults=[])(y:kf k O8)(E:∀(w:JX) (h:IF),r w h->(K w.params).In h)(F:∀(w:JX) (mg:Ld) (fa:h_) (h:IF),(K w.params).In h->h.Ns JE mg->mg d.name=a_ (.ref fa) ->
   ∃fd:Kw,(∀(s:j_) (u:g_),Oo s fd ⟨[u],[]⟩ [(x,u)]) /\
    ∀base:IF,(K w.params).In base->base.Ns JE mg->jN l.prog w (K w.params) mg base (CX w) k fa fd [x] (sp w))(c:∀(w:JX) (H:Hp) (a:h_) (ns:a9),ns.length<=n->Only H->SqL (K w.params) H a (ns.map V.int)->sp w [.ref a] H (λv _=>v=.bl e_) λ_ _ _=>False)(m:∀(w:JX) (H:Hp) (s:j_) (e:g_) (s':j_),CX w [] H s (λ_ _ _=>False) e s'->False):
  QD q I O r l.row.toRowW d [] (λf vs=>Ms f vs):=by
 refine Att.Bb z j λw p U mg P fa o pm T doc a vs ns G Y Q R C i b S B A=>?_;have t:=E w _ Y;obtain⟨fd,D,N⟩:=F w mg fa _ t G.T.g i;exact law_call t G.T.g G.T.b G.T.builtins G.T.nolimit A b S (B_ B g) y N D (λH L J=>c w H a ns B L J) λH e s'=>m w H U e s'
noncomputable def inClass(s:Jl)(j:Nat):Jl:=match s with
 |.ClassDef _ _ _ body _ _ _ _ _ _ _=>body.getD j (.Pass ⟨0,0,0,0⟩)|_=>.Pass ⟨0,0,0,0⟩
noncomputable def fJ(s:Jl):Arguments:=match s with
 |.FunctionDef _ a _ _ _ _ _ _ _ _=>a|_=>{posonlyargs:=[],args:=[],vararg:=d_,kwonlyargs:=[],kw_defaults:=[],kwarg:=d_,defaults:=[]}
noncomputable def d8(s:Jl):List Jl:=match s with
 |.FunctionDef _ _ b _ _ _ _ _ _ _=>b|_=>[]
noncomputable def aT(s:Jl):Pa:=match s with
 |.FunctionDef _ _ _ _ _ _ sc _ _ _=>sc|_=>{kind:=.function,names:=[],isGenerator:=cm,isCoroutine:=cm}
noncomputable abbrev CX0:CXT:=λ_ _ _ _ _ _=>False
noncomputable abbrev E0:XK:=λ_ _ _=>False
def xQ:Passes CX0 X E0:=λ_ _ _ _ _ _ _ h=>h.elim
structure Fun(K:Pn)(x qual:IL)(st:Jl)(f:h_)(fd:Kw):Prop where
 ex:∃(oc:g_) (od:Option h_) (kV doc pm:g_) (an:Option h_) (cdv ct:g_) (osl:Array (Option g_)),
  fd=Py x qual (fJ st) (d8 st) (aT st) .none kV doc pm an cdv ct/\K.lookup f=a_ ⟨oc,od,.func fd,osl⟩/\Qh K cdv qual=e_
 kp:MB K (.ref f)=e_
theorem Fun.binds{st:Jl}{f:h_}(F:Fun K x qual st f fd)(h:∀(kV doc pm:g_) (an:Option h_) (cdv ct:g_) (us:bv),us.length=ps.length->O9 (Py x qual (fJ st) (d8 st) (aT st) .none kV doc pm an cdv ct) ⟨us,[]⟩=JM (ps.zip us)):Binds K fd ps []:=by obtain⟨oc,od,kV,doc,pm,an,cdv,ct,osl,rfl,I,B⟩:=F.ex;exact .all (h kV doc pm an cdv ct)
def Cn{st:Jl}{f:h_}(l:K.lookup f=a_ ⟨oc,od,.func (Py x qual (fJ st) (d8 st) (aT st) .none kV doc pm an cdv ct),osl⟩)(c:Qh K cdv qual=e_)(k:MB K (.ref f)=e_):Fun K x qual st f (Py x qual (fJ st) (d8 st) (aT st) .none kV doc pm an cdv ct):=⟨⟨oc,od,kV,doc,pm,an,cdv,ct,osl,rfl,l,c⟩,k⟩
def pv(i:Nat)(k: ~~~(X.N[i]?=a_ x))(d:autoParam (Vis X.env.scope x) Jq3)(Y:((x==("__debug__":IL))=cm)⁻¹)(a:((x==("__classdict__":IL))=cm)⁻¹):PE X (.Name x pos) (oY i):=by
    rintro B1 s σ H Q I ⟨v,e,h⟩;obtain⟨m,f,j⟩:=I.loc;obtain⟨u,r,l⟩:=j i x v k e d;have U:EP X B1 σ Q u s:=⟨v,H,I,r,h⟩
    rcases l with⟨S,g⟩|⟨S,c,b,B⟩
    .exact R1 (wpAny_loadName_local I.ok.kind S f g U) Y
    .rcases S with S|S
     .exact R1 (wpAny_loadName_cell I.ok.kind S b B U) Y
     .exact R1 (wpAny_loadName_free I.ok.kind S b B U a) Y
theorem iteNS{c A B:Prop}[Ri c](I:c)(h:B):if (!decide c)=e_ then A else B:=by simp_all
def aM(H H':Hp):Prop:=∀b o,H b=a_ o->H' b=a_ o
def aM.refl(H:Hp):aM H H:=λ_ _ h=>h
def aM.trans(a:aM H H1)(b:aM H1 H2):aM H H2:=λc o h=>b c o (a c o h)
theorem aM.free(e:aM H H')(h:H' l=d_):H l=d_:=by
 cases q:H l with
 |none=>rfl|some o=>
  rw[e l o q]at h
  lia
noncomputable def wO(cells:List (IL×h_)):List (IL×Lr)->List (IL×h_)->List (IL×h_)
 |[],acc=>acc|(x,k)::r,acc=>wO cells r (if (k==ID)=e_ then(x,(cells.lookup x).getD 0)::acc else acc)
theorem lt_ne(h1:a<n)(B:n<=b):a≠b:=ac
theorem uK{cells:List (IL×h_)}{x:IL}{c:h_}:∀(ns:List (IL×Lr)) (acc:List (IL×h_)),(wO cells ns acc).lookup x=a_ c ->
  ((x,ID)∈ns/\c=(cells.lookup x).getD 0)\/acc.lookup x=a_ c
 |[],_,h=>.inr h|(y,k)::r,acc,h=>by
  rcases uK r _ h with⟨m,e⟩|q
  .simp_all
  grind
theorem su{cells:List (IL×h_)}{x:IL}:∀(ns:List (IL×Lr)) (acc:List (IL×h_)),((x,ID)∈ns\/(acc.lookup x).isSome=e_)->((wO cells ns acc).lookup x).isSome=e_
 |[],_,h=>h.elim (λz=>nomatch z) id
 |(y,k)::r,acc,h=>by
  refine su r _ ?_
  grind
theorem mB{x:IL}{c:h_}:∀(ns:List (IL×Lr)) (n:Nat) (acc:List (IL×h_)),(J7 n ns acc).lookup x=a_ c->(n<=c/\(x,Kp)∈ns)\/acc.lookup x=a_ c
 |[],_,_,h=>.inr h|(y,k)::r,n,acc,h=>by
  unfold J7 at h;by_cases B:(k==Kp)=e_
  .rw[p_ B]at h;rcases mB r _ _ h with⟨a,m⟩|q
   .grind
   grind
  .rw[q_ B]at h;rcases mB r n acc h with⟨a,m⟩|q
   .simp_all
   .exact .inr q
theorem sv:∀(ns:List (IL×Lr)) (n:Nat) (acc:List (IL×h_)),(∀x y c,acc.lookup x=a_ c->acc.lookup y=a_ c->x=y)->(∀x c,acc.lookup x=a_ c->c<n) ->
  ∀x y c,(J7 n ns acc).lookup x=a_ c->(J7 n ns acc).lookup y=a_ c->x=y
 |[],_,_,hi,_=>hi|(z,k)::r,n,acc,hi,I=>by
  unfold J7;by_cases B:(k==Kp)=e_
  .rw[p_ B];refine sv r _ _ (λx y c h1 S=>?_) (λx c h1=>?_)
   .grind
   grind
  .exact(q_ B)▸sv r n acc hi I
theorem nR{x:IL}{c:h_}:∀(ns:List (IL×Lr)) (h:IF) (acc:List (IL×h_)),(J7 h.objs.size ns acc).lookup x=a_ c ->
  acc.lookup x=a_ c\/(h.objs.size<=c/\(pushCells h ns).IsCell c d_)
 |[],_,_,e=>.inl e|(y,k)::r,h,acc,e=>by
  unfold J7 at e;unfold pushCells;by_cases B:(k==Kp)=e_
  .rw[p_ B]at e ⊢;have q:=nR (x:=x) (c:=c) r (h.push {cls:=.type "cell",data:=.cell d_}) ((y,h.objs.size)::acc) a7;rcases q with q|⟨q1,q2⟩
   .rw[J5]at q;cases I:x==y with
    |true=>rw[I]at q;have e1:=JT q;subst e1;exact .inr ⟨f_ _,Heap.IsCell.keeps ⟨_,i_ _ rfl,rfl⟩ (PR r _)⟩|false=>simp_all
   grind[JF]
  .rw[q_ B]at e ⊢;exact nR r h acc e
theorem oh{env:Qk}(f:IL×Lr->List (IL×h_)->Nl (MY (List (IL×h_))))(I:∀n k cs,f (n,k) cs=if (k==ID)=e_ then(do let a <- cellOf env n;JM (.yield ((n,a)::cs)))else JM (.yield cs)):
  ∀(ns:List (IL×Lr)) (acc:List (IL×h_)),(∀x∈ns,x.2=ID->∃c,env.cells.lookup x.1=a_ c)->RN ns acc f=(JM (wO env.cells ns acc):Nl _)
 |[],acc,_=>by rfl|(y,k)::r,acc,U=>by
  have S:=λx b=>U x (Je _ b);rw[RM,I];unfold wO;by_cases B:(k==ID)=e_
  .rw[p_ B,p_ B];obtain⟨c,e⟩:=U (y,k) JJ (Kc B);have Y:=e;have e2:cellOf env y=JM c:=by unfold cellOf;rw[Y]
   rw[e2,Y];exact oh f I r _ S
  .rw[q_ B,q_ B];exact oh f I r _ S
def uJ{env:Qk}(B:∀x∈scope.names,x.2=ID->∃c,env.cells.lookup x.1=a_ c):closureFor scope env=JM (wO env.cells scope.names []):=by simp only[closureFor];rw[oh _ (λn k cs=>by rfl) scope.names [] B];rfl
theorem Ga{M:Rz}{s:j_}{U:h_}{I:List (IL×h_)}{B:Qk}{Q:Qk->j_->Prop}(Y:∀h1:IF,(∀b o,s.heap.get? b=a_ o->h1.get? b=a_ o)->h1.Ns s.heap.objs.size (λ_=>d_) ->
   (∀x c,(J7 (s.heap.objs.size+1) scope.names I).lookup x=a_ c->I.lookup x=a_ c\/(s.heap.objs.size<c/\h1.IsCell c d_)) ->
   Q {scope:=scope,locals:=s.heap.objs.size,globals:=U,cells:=J7 (s.heap.objs.size+1) scope.names I,qual:=qual,func:=d_,code:=B.code,frame:=B.frame,builtins:=B.builtins} {s with heap:=h1}):
  w_ M A (Qe scope U I [] qual d_ .none (a_ B)) Q E s:=by
 simp only[Qe,Option.isSome_some,if_true];refine b_ (wpAny_alloc (b_ (wpAny_layCells _ (λname S cells=>by rfl) _ _ _ _ ?_)));rw[show({s with heap:=s.heap.push {cls:=.type "dict",data:=.dict #[]}}:j_).heap.objs.size=s.z+1 from JF ..];refine b_ (fm (fm (Y _ (λb o e=>PR _ _ b o (c_ _ e)) ((Heap.Ns.new s.heap _).keeps (PR _ _)) λx c e=>?_)));have q:=nR (x:=x) (c:=c) scope.names (s.heap.push {cls:=.type "dict",data:=.dict #[]}) I a7
 grind[JF]
theorem tZ{env:Qk}{x:IL}:∀{ns:List (IL×Lr)},ns.lookup x=a_ .free ->
  (ns.map λ(n,k)=>if (k==ID&&env.scope.kind==.function&&env.kindOf n==a_ .cell)then(n,Kp)else(n,k)).lookup x=a_ .cell \/
  (ns.map λ(n,k)=>if (k==ID&&env.scope.kind==.function&&env.kindOf n==a_ .cell)then(n,Kp)else(n,k)).lookup x=a_ .free
 |[],h=>by simp at h|(n,k)::r,h=>by
  have I:=@tZ env x r;rw[v_];dsimp only;by_cases S:(k==ID&&env.scope.kind==.function&&env.kindOf n==a_ .cell)=e_
  .rw[p_ S,J5];cases B:x==n with
   |true=>simp|false=>rw[J5,B]at h;exact I h
  .rw[q_ S,J5];cases B:x==n with
   |true=>rw[J5,B]at h;have e:=JT h;subst e;simp|false=>rw[J5,B]at h;exact I h
theorem u0{env:Qk}{x:IL}:∀{ns:List (IL×Lr)},
  ((ns.map λ(n,k)=>if (k==ID&&env.scope.kind==.function&&env.kindOf n==a_ .cell)then(n,Kp)else(n,k)).lookup x=a_ .cell \/
  (ns.map λ(n,k)=>if (k==ID&&env.scope.kind==.function&&env.kindOf n==a_ .cell)then(n,Kp)else(n,k)).lookup x=a_ .free) ->
  ns.lookup x=a_ .cell\/ns.lookup x=a_ .free
 |[],h=>by simp at h|(n,k)::r,h=>by
  have B:=@u0 env x r
  grind
noncomputable def bf(X:Cx)(N':List IL)(sc:Pa)(L:h_)(cs:List (IL×h_))(s:j_)(H:Hp)(fp:List h_):Cx:=
 {X with
  N:=N',s₀:=s,H₀:=H,outer:=X.stack,ex:=fp,pn:=[],xe:=λ_ _=>False
  fn:=λx=> !(sc.names.any λp=>p.1==x&&p.2==ID)
  env:={scope:=relabel sc X.env,locals:=L,globals:=X.env.globals,cells:=cs,qual:=X.env.qual,func:=d_,code:=X.env.code,frame:=X.env.frame,builtins:=X.env.builtins}}
noncomputable def inS(ix:List (Option Nat))(σ:St):St:=ix.map λo=>match o with
 |none=>d_|some j=>(σ[j]?).join
noncomputable def bH(N:List IL)(B:Pa)(N':List IL)(sc:Pa)(ix:List (Option Nat)):Bool:=
 m_ (ix.length=N'.length) &&
 ((A_ ix.length).all λi=>match ix[i]? with
  |some (a_ j)=>(match N'[i]?,N[j]? with
   |some x,a_ y=>x==y&&sc.names.lookup x==a_ ID|_,_=>cm)
  |_=>e_) &&
 (sc.names.all λp=>(p.2 != ID||(B.names.lookup p.1==a_ Kp||B.names.lookup p.1==a_ ID))&&(p.2 != NameKind.local||sc.names.lookup p.1==a_ NameKind.local)) &&
 (sc.names.all λp=>sc.names.all λq=> !(p.1==q.1)||p.2==q.2)
section
variable{s:j_}
def bH.len(ok:bH X.N X.env.scope N' sc ix=e_):ix.length=N'.length:=by unfold bH at ok;rw[D_,D_,D_]at ok;exact N6 ok.1.1.1
theorem bH.at(ok:bH X.N X.env.scope N' sc ix=e_){i j:Nat}{x:IL}(h:ix[i]?=a_ (a_ j))(B:N'[i]?=a_ x):X.N[j]?=a_ x/\sc.names.lookup x=a_ .free:=by
 unfold bH at ok;rw[D_,D_,D_]at ok;have q:=Jc.mp ok.1.1.2 i (IM.mpr (oe.mp h).1);rw[h,B]at q;dsimp only at q;cases e:X.N[j]? with
 |none=>rw[e]at q;cases q|some y=>rw[e,D_]at q;exact⟨by rw[Kc q.1],Kc q.2⟩
theorem bH.fr(ok:bH X.N X.env.scope N' sc ix=e_)(h:(x,ID)∈sc.names):X.env.kindOf x=a_ .cell\/X.env.kindOf x=a_ .free:=by
 unfold bH at ok;rw[D_,D_]at ok;have q:=Jc.mp ok.1.2 _ h;rw[D_]at q;have q1:=q.1;rw[Nk]at q1;rcases q1 with z|z
 .simp_all
 .rw[Nk]at z;exact z.imp (λe=>Kc e) λe=>Kc e
theorem bH.loc(ok:bH X.N X.env.scope N' sc ix=e_):∀x∈sc.names,x.2=NameKind.local->sc.names.lookup x.1=a_ .local:=λx B e=>by
 unfold bH at ok
 grind
def bH.apart(ok:bH X.N X.env.scope N' sc ix=e_)(h1:(x,Kp)∈sc.names)(B:(x,ID)∈sc.names):False:=by unfold bH at ok;rw[D_]at ok;have q:=Jc.mp (Jc.mp ok.2 _ h1) _ B;simp at q
def sk(I:B3 X B1 σ H s)(ok:bH X.N X.env.scope N' sc ix=e_):∀x∈sc.names,x.2=ID->∃c,X.env.cells.lookup x.1=a_ c:=λx B e=>by obtain⟨n,k⟩:=x;subst e;exact I.ok.has n (bH.fr ok B)
theorem HD(I:B3 X B1 σ H s)(ok:bH X.N X.env.scope N' sc ix=e_)(h:(wO X.env.cells sc.names []).lookup x=a_ c):(x,ID)∈sc.names/\X.env.cells.lookup x=a_ c:=by
 rcases uK _ _ h with⟨m,e⟩|z
 .obtain⟨d,B⟩:=sk I ok _ m rfl
  simp_all
 simp_all
theorem comp_inv{L:h_}(I:B3 X B1 σ H s)(f:∀b∈fp,En X B1 H b)(Z:∀b∈fp,∃o,s.heap.get? b=a_ o)(ok:bH X.N X.env.scope N' sc ix=e_)(W:sc.kind=.function)(S:s.heap.objs.size<=L)(d:∀b o,s.heap.get? b=a_ o->h1.get? b=a_ o)(ns:h1.Ns L λ_=>d_)(Y:∀x c,(J7 (L+1) sc.names (wO X.env.cells sc.names [])).lookup x=a_ c->(wO X.env.cells sc.names []).lookup x=a_ c\/(L<c/\h1.IsCell c d_)):
  B3 (bf X N' sc L (J7 (L+1) sc.names (wO X.env.cells sc.names [])) s H fp) [] (inS ix σ) H {s with heap:=h1}:=by
 have B:∀x c,(wO X.env.cells sc.names []).lookup x=a_ c->(x,ID)∈sc.names/\X.env.cells.lookup x=a_ c/\(∃v,s.heap.IsCell c v)/\c<s.z:=λx c e=>by obtain⟨m,K⟩:=HD I ok e;obtain⟨v,z⟩:=I.cell x c K;exact⟨m,K,⟨v,z⟩,z.lt⟩
 have a:∀b∈fp,b<s.z:=λb z=>let ⟨o,e⟩:=Z b z;r_ e;have E:∀b∈fp,∀x c,(J7 (L+1) sc.names (wO X.env.cells sc.names [])).lookup x=a_ c->c≠b:=λb z x c e=>by
  have U:=a b z;rcases Y x c e with q|⟨q,_⟩
  .exact(f b z).2.2.2.2.1 x c (B x c q).2.1
  lia
 have n:(bf X N' sc L (J7 (L+1) sc.names (wO X.env.cells sc.names [])) s H fp).Ok:=by
  refine⟨I.ok.mod,W,I.ok.glob,I.ok.blt,S,?_,?_,?_,I.ok.hd,I.ok.frames,.inl rfl,?_,I.bs,B_ I.ok.bsz I.sz,?_,?_,I.stack,I.Fe⟩
  .exact sv sc.names (L+1) _ (λx y c e1 e2=>I.ok.inj x y c (B x c e1).2.1 (B y c e2).2.1) λx c e=>Ro (y_ (B x c e).2.2.2 S)
  .intro x P;have t:=u0 (env:=X.env) (x:=x) (ns:=sc.names) P;have q:((J7 (L+1) sc.names (wO X.env.cells sc.names [])).lookup x).isSome=e_:=by
    rcases t with z|z
    .exact K4 _ _ _ (.inl z)
    .exact K4 _ _ _ (.inr (su _ _ (.inl (JS z))))
   exact KS.mp q
  .intro x c C e;rcases Y x c e with q|⟨q,_⟩
   .have G:(!(sc.names.any λp=>p.1==x&&p.2==ID))=e_:=C
    grind
   .exact B_ S (IY q)
  .intro b z;have U:=a b z;exact⟨G_ (y_ U S),E b z⟩
  .intro b o e z;rcases(f b z).2.2.2.1 with q|q
   .exact I.ok.noex b o e q
   .exact IA (y_ (r_ e) (B_ I.ok.bsz q)) (KY _)
  .intro b z Q;rcases x_.mp (I.xf b Q)with q|q
   .exact(f b z).2.1 q
   .exact(f b z).2.2.1 q
 refine⟨n,rfl,I.bare,Un.kept d,⟨_,ns,λi x v D J h3=>?_⟩,λx c e=>?_,I.hok.fresh S,λx c e=>?_,λp R=>IA R (by simp[bf]),I.hok.kept d,?_⟩
 .have w:∃j,ix[i]?=a_ (a_ j)/\σ[j]?=a_ (a_ v):=by
   unfold inS at J;rw[E_]at J;cases e:ix[i]? with
   |none=>simp_all|some o=>grind
  obtain⟨j,e1,e2⟩:=w;obtain⟨e3,e4⟩:=bH.at ok e1 D;have A:=bH.fr ok (JS e4);obtain⟨m,hn,T⟩:=I.loc;obtain⟨u,r,l⟩:=T j x v e3 e2 (A.elim (λz=>.inr (.inl z)) λz=>.inr (.inr z));refine⟨u,r,.inr ⟨tZ (env:=X.env) (x:=x) (ns:=sc.names) e4,?_⟩⟩
  rcases l with⟨k,_⟩|⟨k,c,e,z⟩
  .simp_all
  .have q1:=su (cells:=X.env.cells) sc.names [] (.inl (JS e4));obtain⟨c2,q2⟩:=KS.mp q1;have F:=(B x c2 q2).2.1;rw[e]at F;cases F;have N:=K4 (x:=x) sc.names (L+1) (wO X.env.cells sc.names []) (.inr q1);obtain⟨c3,h⟩:=KS.mp N;rcases Y x c3 h with g|⟨g,q7⟩
   .rw[q2]at g;cases g;exact⟨c,h,z.keeps d⟩
   .exfalso;rcases mB _ _ _ h with⟨_,O⟩|q8
    .exact bH.apart ok O (JS e4)
    grind
 .rcases Y x c e with q|⟨_,q⟩
  .obtain⟨v,z⟩:=(B x c q).2.2.1;exact⟨v,z.keeps d⟩
  .exact⟨_,q⟩
 .rcases Y x c e with q|⟨q,_⟩
  .exact I.freeC x c (B x c q).2.1
  .exact I.hok.fresh (B_ S (IY q))
 .show(inS ix σ).length=N'.length;unfold inS;rw[l_];exact bH.len ok
end
def PTs(X:Cx)(ifs:List Jj)(t:TT):Prop:=
 ∀(B1:Vp) (s:j_) (σ:St) (H:Hp) (Q:Bool->Hp->Prop),B3 X B1 σ H s->t σ H Q ->
  w_ (u_ X.prog X.w) X.A (RN ifs e_ λc r=>if r=e_ then do let ok <- Q6 c X.env (Il c X.env);JM (MT ok)else JM (MT r)) (TP X B1 σ Q) X.xe s
noncomputable def tYes:TT:=λ_ H Q=>Q e_ H
def pts_nil:PTs X [] tYes:=λ_ _ _ H _ I h=>wpAny_tests_nil ⟨H,I,h⟩
def iH{c:Jj}{t:TT}(h:PT X c t):PTs X [c] t:=λB1 s σ H Q I q=>wpAny_tests_one (h B1 s σ H Q I q)
def ze{R:Q8->j_->Prop}{s:j_}{it acc:g_}{env:Qk}(J:Nat->j_->Prop)(B:∀n s,J n s->w_ (u_ prog w) A (NL it) (λr s1=>match r with
   |none=>R (.ok .next) s1|some v=>w_ (u_ prog w) A (PU tg it v) (λ_ I=>w_ (u_ prog w) A (Ng tg env v) (λ_ s2=>
     w_ (u_ prog w) A (RN ifs e_ λc r=>if r=e_ then do let ok <- Q6 c env (Il c env);JM (MT ok)else JM (MT r)) (λok S=>
      if ok=e_ then w_ (u_ prog w) A (Il elt env) (λx a=>w_ (u_ prog w) A (Ms (.builtin "list.append") [acc,x]) (λ_ Y=>∃m,m<n/\J m Y) (λ_ _=>False) a) (λ_ _=>False) S
      else ∃m,m<n/\J m S) (λ_ _=>False) s2) (λ_ _=>False) I) (λ_ _=>False) s1) (λ_ _=>False) s)(n:Nat)(h:J n s):MK (u_ prog w) A (.compLoop (.ListComp elt [⟨tg,iter,ifs,0⟩] scope pos) 0 it acc env) R s:=by
 refine codeAny_loop rfl J (λn s d=>(wpAny_noted ?_)) n h;refine b_ (Qu (b_ (Jo (B n s d) (λr s1 h1=>?_) λ_ _ z=>z.elim)));cases r with
 |none=>exact fm h1|some v=>
  refine b_ (Jo h1 (λ_ I U=>(b_ (Jo U (λ_ s2 g=>b_ (Jo g (λok S b=>?_) λ_ _ z=>z.elim)) λ_ _ z=>z.elim))) λ_ _ z=>z.elim);cases ok with
  |false=>exact fm ⟨rfl,b⟩|true=>exact b_ (b_ (Jo b (λx a f=>b_ (Jo f (λ_ Y e=>fm (fm ⟨rfl,e⟩)) λ_ _ z=>z.elim)) λ_ _ z=>z.elim))
def nu(J:It)(ix:List (Option Nat))(g:TG)(tt:TT)(te:TE)(σ:St)(F:bm->Hp->Prop)(H:Hp):Prop:=
 ∃W:Nat->Nat->bm->Hp->Prop,(∃m,W 0 m [] H)/\∀i m ys H,W i m ys H ->
  (J.stop i H/\ys.length<=n_/\F ys H)\/(J.go i H/\ys.length<=n_/\∃N:bm->Hp->Prop,(∀I H',N I H'->∃S,S<m/\W (i+1) S I H') /\
   ∀x H',J.yld i H x H'->g x (inS ix σ) H' λB H2=>tt B H2 λb U=>if b=e_ then te B U λy Y=>N (ys++[y]) Y else N ys U)
section
variable{s:j_}
def B3.slots0{B:St}(I:B3 X B1 B H s)(h:∀(i:Nat) v,(inS ix σ)[i]?=a_ (a_ v)->B[i]?=a_ (a_ v))(S:(inS ix σ).length=X.N.length):B3 X B1 (inS ix σ) H s:=
 I.weak (by rw[S,I.len]) h
inductive CEnd(X:Cx)(B1:Vp)(σ:St)(F:List V->Hp->Prop)(acc:g_)(L:h_):Q8->j_->Prop
 |mk {s':j_} {fl:Flow} {ys:List V} {H2:Hp} {m:Ld} (p:h_) (a:acc=.ref p) (I:B3 X B1 σ (upd H2 p (.lst ys)) s') (n:H2 p=d_) (f:F ys H2) (ns:s'.heap.Ns L m) (u:(upd H2 p (.lst ys)) L=d_) (l:L≠X.env.locals) (z:X.s₀.heap.objs.size<=L) (c:∀x c,X.env.cells.lookup x=a_ c->c≠L) (q:∀q∈X.pn++B1,q.1≠L):CEnd X B1 σ F acc L (.ok fl) s'
theorem zd{g:TG}{J:It}{it:h_}{tn:Nat->IF->Prop}{F:bm->Hp->Prop}{E:Mq}(hc:X.calm=e_)(I:B3 X B1 σ H s)(T:Turn X.prog X.w X.K tg J fp it tn)(st:tn 0 s.heap)(hf:∀b∈fp,En X B1 H b)(ok:bH X.N X.env.scope N' sc ix=e_)(hk:sc.kind=.function)(hg:∀L cs s H fp,PG (bf X N' sc L cs s H fp) tg g)(hkeep:∀x σ' H' (Q:St->Hp->Prop),g x σ' H' Q->g x σ' H' λσ2 H2=>Q σ2 H2/\∀(i:Nat) v,σ'[i]?=a_ (a_ v)->(∃j,ix[i]?=a_ (a_ j))->σ2[i]?=a_ (a_ v))(ht:∀L cs s H fp,PTs (bf X N' sc L cs s H fp) ifs tt)(he:∀L cs s H fp,PE (bf X N' sc L cs s H fp) elt te)(tr:nu J ix g tt te σ F H):
  w_ (u_ X.prog X.w) X.A (newList []) (λacc s3=>w_ (u_ X.prog X.w) X.A (Qe sc X.env.globals (wO X.env.cells sc.names []) [] X.env.qual d_ .none (a_ X.env)) (λO s4=>MK (u_ X.prog X.w) X.A (.compStart (.ListComp elt [⟨tg,iter,ifs,0⟩] sc pos) 0 (.ref it) acc {O with scope:=relabel sc X.env}) (CEnd X B1 σ F acc O.locals) s4) E s3) E s:=by
 obtain⟨W,⟨m0,w0⟩,turn⟩:=tr;refine IC (Ga λh1 kp ns hcl=>?_);generalize hH2:s.heap.push {cls:=.type "list",dict:=d_,data:=.seq ([]:bv).toArray}=G at kp ns hcl ⊢;have eL:G.objs.size=s.z+1:=by rw[<- hH2,JF]
 have kp0:∀b o,s.heap.get? b=a_ o->h1.get? b=a_ o:=λb o e=>kp b o (hH2▸c_ _ e);have hD0:h1.PlainList s.z #[]:=⟨_,kp _ _ (hH2▸i_ _ rfl)⟩
 have fpo:∀b∈fp,∃o,s.heap.get? b=a_ o:=λb z=>let ⟨o,e,_⟩:=T.obj 0 _ st b z;⟨o,e⟩;have fpl:∀b∈fp,b<s.z:=λb z=>let ⟨o,e⟩:=fpo b z;r_ e;have sL:s.z<=G.objs.size:=by exact eL▸MS _
 have C:s.z<G.objs.size:=by exact eL▸M8 _
 have I0:=comp_inv (h1:=h1) I hf fpo ok hk sL kp0 ns hcl;generalize B:bf X N' sc G.objs.size (J7 (G.objs.size+1) sc.names (wO X.env.cells sc.names [])) s H fp=Y at I0;have p:Y.prog=X.prog:=by subst B;rfl
 have m:Y.w=X.w:=by subst B;rfl
 have eY3:Y.K=X.K:=by subst B;rfl
 have eY4:Y.calm=e_:=by subst B;exact hc
 have l:Y.A=X.A:=by subst B;rfl
 have S:Y.env={scope:=relabel sc X.env,locals:=G.objs.size,globals:=X.env.globals,cells:=J7 (G.objs.size+1) sc.names (wO X.env.cells sc.names []),qual:=X.env.qual,func:=d_,code:=X.env.code,frame:=X.env.frame,builtins:=X.env.builtins}:=by subst B;rfl
 have eY7:Y.xe=λ_ _=>False:=by subst B;rfl
 have eY8:Y.pn=[]:=by subst B;rfl
 have eY9:Y.fs=frs X.stack:=by subst B;rfl
 have N:Y.s₀=s:=by subst B;rfl
 have eY11:Y.H₀=H:=by subst B;rfl
 have eY12:Y.ex=fp:=by subst B;rfl
 have eY13:Y.N=N':=by subst B;rfl
 have hgY:PG Y tg g:=by subst B;exact hg _ _ _ _ _
 have htY:PTs Y ifs tt:=by subst B;exact ht _ _ _ _ _
 have heY:PE Y elt te:=by subst B;exact he _ _ _ _ _
 have lenI:(inS ix σ).length=Y.N.length:=by rw[eY13];unfold inS;rw[l_];exact bH.len ok
 have t:∀(b:h_),b<=G.objs.size->(∀x c,X.env.cells.lookup x=a_ c->c≠b)->∀x c,Y.env.cells.lookup x=a_ c->c≠b:=λb U hx x c e=>by
  rw[S]at e;rcases hcl x c e with q|⟨q,_⟩
  .exact hx x c (HD I ok q).2
  lia
 have K:∀x c,X.env.cells.lookup x=a_ c->c<s.z:=λx c e=>let ⟨v,z⟩:=I.cell x c e;z.lt;have nfs:∀b,s.z<=b->b∉frs X.stack:=λb U z=>by
  rcases x_.mp (I.xf b z)with q|q
  .exact lt_ne I.lt U q.symm
  .exact I.nofs U q
 have fpY:∀(pp:Vp) (H':Hp),(∀b∈fp,H' b=d_)->(∀q∈pp,q.1∉fp)->∀b∈fp,En Y pp H' b:=λpp H' hn hq b z=>by
  have hlt:=fpl b z;refine⟨hn b z,?_,?_,.inl a7,t b (IY (Qo hlt C)) ((hf b z).2.2.2.2.1),λq hq' e=>?_⟩
  .exact S▸lt_ne hlt sL
  .rw[eY9];intro hs;rcases x_.mp (I.xf b hs)with q|q
   .exact(hf b z).2.1 q
   .exact(hf b z).2.2.1 q
  grind
 have Dfp:s.z∉fp:=λz=>IA (fpl _ z) (KY _);have Dok:∀(pp:Vp) (H':Hp),H' s.z=d_->(∀q∈pp,q.1≠s.z)->En Y pp H' s.z:=λpp H' hn hq=>by
  refine⟨hn,?_,by exact eY9▸nfs _ (f_ _),.inr (by exact N▸f_ _),t _ sL (λx c e=>G_ (K x c e)),λq hq'=>?_⟩
  .exact S▸G_ C
  .rw[eY8]at hq';exact hq q (by simpa using hq')
 have a:MK (u_ X.prog X.w) X.A (.compLoop (.ListComp elt [⟨tg,iter,ifs,0⟩] sc pos) 0 (.ref it) (.ref s.z) Y.env) (CEnd X B1 σ F (.ref s.z) G.objs.size) {s with heap:=h1}:=by
  refine ze (λn s'=>∃i ys its H',B3 Y [] (inS ix σ) H' s'/\tn i s'.heap/\(∀b∈fp,H' b=d_)/\H' s.z=d_/\s'.heap.PlainList s.z its/\B6 ys its.toList/\W i n ys H') ?_ m0
   ⟨0,[],#[],H,I0,T.keep _ _ _ st λb _ o e=>kp0 b o e,λb z=>(hf b z).1,I.hok.fresh (f_ _),hD0,.nil,w0⟩
  rintro n s3 ⟨i,ys,its,Z,I3,st3,fr3,h,pl3,w,w3⟩;obtain⟨D,oD⟩:=pl3;have hpD:∀q∈[((s.z:h_),({cls:=.type "list",data:=.seq its D}:NY))],q.1∉fp:=λq hq=>by have:q=_:=Ki.mp hq;exact this▸Dfp
  have I3':B3 Y [((s.z:h_),({cls:=.type "list",data:=.seq its D}:NY))] (inS ix σ) Z s3:=I3.vo λq hq=>by grind
  rcases turn i n ys Z w3 with⟨stop,ln,qn⟩|⟨go,ln,NN,hNN,step⟩
  .have h1:=T.done Y p m eY3 eY4 i _ s3 _ Z (λ_ _=>False) I3' (fpY _ Z fr3 hpD) st3 stop;rw[l]at h1;refine Jo h1 (λr s4 f=>?_) λ_ _ z=>z;obtain⟨hr,I4⟩:=f;subst hr;obtain⟨oD4,hD4,_⟩:=I4.pin ((s.z:h_),({cls:=.type "list",data:=.seq its D}:NY)) ad;obtain⟨m4,hn4,_⟩:=I4.loc;rw[S]at hn4;refine .mk s.z rfl ?_ h qn hn4 ?_ (J3 (Qo I.lt C)) (B_ I.sz sL) (λx c e=>lt_ne (K x c e) sL) (λq hq=>lt_ne (r_ (I.pin q hq).1) sL)
   .have A:Un (frs X.stack) fp H Z s.heap s4.heap:=by
     have:=I4.base;rw[eY9,N,eY11,eY12]at this;exact this
    have hok4:HOk Z s4.heap:=I4.hok;refine I.call' (ch:=fp) (by have:=I4.os;lia) ⟨A.keep,A.slot,λb o e nn hx=>?_,A.there,λb xs q=>?_,λb o u q=>?_,λb ps q=>?_⟩ (λb u e=>?_) I4.bare (λb U=>?_)
    .rw[av (G_ (r_ e))];exact A.free b o e nn hx
    .rw[av (aL (A.tups b xs q) h)];exact A.tups b xs q
    .rw[av (aL (A.frzs b o u q) h)];exact A.frzs b o u q
    .obtain⟨more,z⟩:=A.tbls b ps q
     grind[av]
    .by_cases U:b=s.z
     .subst U;rw[aq]at e;cases e;exact⟨ln,its.toList,D,w,by simpa using oD4⟩
     .rw[av U]at e;exact(hok4 b u e).stay (λ_ _ _ q=>q) (λc q=>by rw[av (aL q h)];exact q) λc xs q=>by rw[av (aL q h)];exact q
    .obtain⟨f0,f1,f2,f3,f4,f5⟩:=hf b U;exact⟨f3,f1,f4,f5⟩
   .rw[av (J3 C)];have:=I4.free;rw[S]at this;exact this
  .have h1:=T.item Y p m eY3 eY4 i _ s3 _ Z (λ_ _=>False) I3' (fpY _ Z fr3 hpD) st3 go;rw[l]at h1;refine Jo h1 (λr s4 f=>?_) λ_ _ z=>z;obtain⟨u,hr,h4⟩:=f;subst hr;refine Jo h4 (λ_ s5 f=>?_) λ_ _ z=>z;obtain⟨x,H5,I5,r5,y5,st5,fr5⟩:=f;have I5':=I5.pinned (fpY _ H5 fr5 hpD) (T.obj _ _ st5);have h5:=hgY _ s5 _ H5 x u _ I5' r5 (hkeep x _ H5 _ (step x H5 y5));rw[p,m,l,eY7]at h5;refine Jo h5 (λ_ s6 f=>?_) λ_ _ z=>z;obtain⟨σ6,H6,I6,q6,k6⟩:=f;have h6:=htY _ s6 σ6 H6 _ I6 q6;rw[p,m,l,eY7]at h6;refine Jo h6 (λb s7 f=>?_) λ_ _ z=>z;obtain⟨H7,I7,q7⟩:=f;have P:∀{s8:j_} {R:Hp},B3 Y ([((s.z:h_),({cls:=.type "list",data:=.seq its D}:NY))]++BO fp s5.heap) σ6 R s8->B3 Y [] (inS ix σ) R s8/\tn (i+1) s8.heap/\(∀b∈fp,R b=d_)/\R s.z=d_/\s8.heap.get? s.z=a_ {cls:=.type "list",data:=.seq its D}:=λ{s8 R} I8=>by
    obtain⟨a1,a2,_⟩:=I8.pin ((s.z:h_),({cls:=.type "list",data:=.seq its D}:NY)) ad;refine⟨(I8.vo (pins':=[]) λ_ z=>nomatch z).slots0 (λk v e=>?_) lenI,T.keep _ _ _ st5 λb U o e=>(I8.pin (b,o) (Im _ (Im _ (lh U e)))).1,λb U=>?_,a2,a1⟩
    .refine k6 k v e ?_;unfold inS at e;rw[E_]at e;cases e2:ix[k]? with
     |none=>rw[e2]at e;cases e|some o=>
      cases o with
      |none=>rw[e2]at e;cases e|some j=>exact⟨j,rfl⟩
    .obtain⟨o,e,d⟩:=T.obj _ _ st5 b U;exact(I8.pin (b,o) (Im _ (Im _ (lh U e)))).2.1
   cases b with
   |false=>rw[q_ Kj]at q7 ⊢;obtain⟨m',hm,w7⟩:=hNN _ _ q7;obtain⟨b1,b2,b3,b4,b5⟩:=P I7;exact⟨m',hm,i+1,ys,its,H7,b1,b2,b3,b4,⟨D,b5⟩,w,w7⟩
   |true=>
    rw[p_ rfl]at q7 ⊢;have h7:=heY _ s7 σ6 H7 _ I7 q7;rw[p,m,l,eY7,S]at h7;rw[S];refine Jo h7 (λuu s8 f=>?_) λ_ _ z=>z;obtain⟨y,R,I8,r8,q8⟩:=f;obtain⟨m',hm,w8⟩:=hNN _ _ q8;obtain⟨b1,b2,b3,b4,b5⟩:=P I8;have ez:its.size<=n_:=by
     have h1:=w.length;have h2:its.toList.length=its.size:=by simp
     lia
    refine wpAny_list_append_plain (hsz:=ez) ⟨D,b5⟩ λh9 pl9 sb9=>?_;obtain⟨d0,d1,d2,d3,d4,d5⟩:=Dok [] R b4 (λ_ z=>nomatch z);refine⟨m',hm,i+1,ys++[y],its.push uu,R,b1.turned (t':=s8.toks) (λb o U e=>(sb9.2 b U).trans e) d0 d1 d3 d4 d5,T.keep _ _ _ b2 λb U o e=>(sb9.2 b ?_).trans e,b3,b4,pl9,?_,w8⟩
    .lia
    .rw[Array.toList_push];exact w.append (.cons r8 .nil)
 rw[S]at a;exact codeAny_compStart_list a (T.self X.A 0 _ _ _ (T.keep _ _ _ st λb _ o e=>kp0 b o e) a)
end
def tComp(wi:TI)(ix:List (Option Nat))(g:TG)(tt:TT)(te:TE):TE:=λσ H Q=>wi σ H λJ H1=>nu J ix g tt te σ (λys H2=>∀p,H2 p=d_->Q (.ref p) (upd H2 p (.lst ys))) H1
def oX(ix:List (Option Nat))(g:TG):Prop:=∀x B H' (Q:St->Hp->Prop),g x B H' Q->g x B H' λI H2=>Q I H2/\∀(i:Nat) v,B[i]?=a_ (a_ v)->(∃j,ix[i]?=a_ (a_ j))->I[i]?=a_ (a_ v)
def aC(h:ix[k]?=a_ d_):oX ix (gm k):=λx I H' Q q=>⟨q,λi v e ⟨j,B⟩=>by
 have:k≠i:=by rintro rfl;rw[h]at B;cases B
 rw[o_ this];exact e⟩
section
variable{wi:TI}{g:TG}
theorem pe_comp(N':List IL)(ix:List (Option Nat))(n:X.calm=e_)(hi:PI X tg iter wi)(l:∀L cs s H fp,PG (bf X N' sc L cs s H fp) tg g)(k:oX ix g)(c:∀L cs s H fp,PTs (bf X N' sc L cs s H fp) ifs tt)(m:∀L cs s H fp,PE (bf X N' sc L cs s H fp) elt te)(ok: ~~~(bH X.N X.env.scope N' sc ix=e_))(S: ~~~(sc.kind=.function))(d:autoParam (∀x,Ku iter X.env x=JM x) Jq4):
  PE X (.ListComp elt [⟨tg,iter,ifs,0⟩] sc pos) (tComp wi ix g tt te):=by
 intro B1 s σ H Q I h;refine Qx rfl d (uJ (sk I ok)) S (bH.loc ok) (B' (hi B1 s σ H _ I h) λv s1 h1=>B' h1 λa s2 y=>?_);obtain⟨it,fp,K,J,H2,rfl,G,T,B,f2,Y⟩:=y;refine B' (zd n G T B f2 ok S l k c m Y) λacc P w=>B' w λU O u=>LM u λr N f=>?_;obtain⟨p,rfl,F,i,q,j,E,D,C,A,z⟩:=f;exact⟨_,j,λh' sb=>⟨.ref p,_,F.turned (λb o t e=>(sb.2 b t).trans e) E D (.inr C) A z,rfl,q p i⟩⟩
def pK(j:Nat)(wi:TI)(ix:List (Option Nat))(g:TG)(tt:TT)(te:TE):TS:=λD σ H=>wi σ H λJ H1=>nu J ix g tt te σ (λys H2=>∀p,H2 p=d_->D.nx (σ.set j (a_ (.ref p))) (upd H2 p (.lst ys))) H1
theorem nS(N':List IL)(ix:List (Option Nat)){y:IL}(O:X.N.Nodup)(C:X.N[j]?=a_ y)(d:X.env.scope.names.lookup y=a_ .local)(G:X.calm=e_)(hi:PI X tg iter wi)(E:∀L cs s H fp,PG (bf X N' sc L cs s H fp) tg g)(A:oX ix g)(m:∀L cs s H fp,PTs (bf X N' sc L cs s H fp) ifs tt)(F:∀L cs s H fp,PE (bf X N' sc L cs s H fp) elt te)(Y: ~~~(J4 (.ListComp elt [⟨tg,iter,ifs,0⟩] sc pos) (a_ (.Name y py)) spos.line X.env=JM e_))(ok: ~~~(bH X.N X.env.scope N' sc ix=e_))(f: ~~~(sc.kind=.function))(n:autoParam (∀x,Ku iter X.env x=JM x) Jq4):
  PS X (.Assign [.Name y py] (.ListComp elt [⟨tg,iter,ifs,0⟩] sc pos) spos) (pK j wi ix g tt te):=by
 intro B1 s σ H D I h;rw[exec_Assign_Name_used _ _ _ _ Y];refine b_ (Qu (b_ (b_ (Jo (Qx rfl n (uJ (sk I ok)) f (bH.loc ok) (B' (hi B1 s σ H _ I h) λv s1 h1=>B' h1 λl s2 R=>?_)) (λ_ s' u=>fm (fm u)) λ_ _ z=>z))));obtain⟨it,fp,tn,J,H2,rfl,I2,T,S,f2,k⟩:=R;refine B' (zd G I2 T S f2 ok f E A m F k) λacc s3 Q=>B' Q λB s4 P=>LM P λr s5 t=>?_;obtain⟨p,rfl,I5,c,q,w,c0,c1,Z,i,W⟩:=t;refine Sj (xc (v:=.ref p) I5 O C (.inl d) rfl (λs6 I6 c=>?_) (.inr d));obtain⟨a,sb,N⟩:=c;have ea:B.locals≠a:=by
  rcases N with z|z
  .simp_all
  .exact λe=>i y a z e.symm
 exact⟨_,w.sameBut sb ea,λh' U=>⟨_,_,I6.turned (λb o K e=>(U.2 b K).trans e) c0 c1 (.inr Z) i W,q p c⟩⟩
end
theorem CO:∀{bs:List Bool} {us:bv},B6 (bs.map V.bl) us->LSm.BoolsAre us bs
 |[],_,.nil=>.nil|b::r,_,.cons e t=>by cases e;exact .cons b (CO t)
def call_all(f:X.calm=e_):fS X (.builtin "all") (λxs H Q=>∃(a:h_) (bs:List Bool),xs=[.ref a]/\SqL X.K H a (bs.map V.bl)/\Q (.bl (bs.all id)) H):=by
 rintro B1 s σ H xs us Q I r ⟨a,bs,rfl,c,q⟩;obtain⟨u,rfl,rfl⟩:=r.one;obtain⟨its,Y,p,hz⟩:=I.list c;have S:=CO Y;have B:=p.isList;refine call_all_walk (L6 B ?_);refine⟨s.z,[s.z,a],[s.z],its.toArray.size,_,_,λi=>(bs[i]?).getD e_,rfl,SF (A:=X.A.in1) (I.ok.hd f) _ a (G_ (by obtain⟨_,e,_⟩:=B;exact r_ e)) its.toArray,
  ⟨⟨_,i_ _ rfl,rfl,rfl⟩,B.push _⟩,λi v s' h j g U=>?_,λh' tk d=>?_⟩
 .obtain⟨b,e,rfl⟩:=S.get i v (by simpa using g);simp[e]at U;exact JW U
 .have e:((A_ its.toArray.size).all λi=>(bs[i]?).getD e_)=bs.all id:=by
   rw[Jm,S.length];exact LSm.range_all bs
  exact e▸⟨.bl _,H,I.kept (LSm.kept_iter d),rfl,q⟩
def B6.atA(r:B6 xs us)(h:j<us.toArray.size):∃x,xs[j]?=a_ x/\B5 x us.toArray[j]:=by
 have B:j<xs.length:=by rw[r.length];simpa using h
 obtain⟨u,e1,e2⟩:=r.get (i:=j) (x:=xs[j]) ad;refine⟨xs[j],by simp[B],?_⟩
 have:us.toArray[j]=u:=by rw[Ij (by simpa using h)]at e1;simpa using JT e1
 exact this▸e2
def pe_gint{n:Int}(I:Gl X x)(B:∃t,X.mg x=a_ (.int n t))(S:((x==("__debug__":IL))=cm)⁻¹):PE X (.Name x pos) (tC (.int n)):=by obtain⟨t,e⟩:=B;exact pe_glob I e ⟨t,rfl⟩ S
section
variable{base:IF}
theorem Fun.okX{st:Jl}{f:h_}(F:Fun K x qual st f fd)(S:jM N ps (aT st))(I:∀vs H Q E,sp vs H Q E->vs.length=ps.length)(B:∀(cdv:g_) (A:Kb) (outer:List Qk) (s:j_) (H:Hp) (vs:bm) (Q:VK) (E:XK),kf k (A.deeper (Ni qual (aT st) s.heap.objs.size f cdv))->sp vs H Q E ->
   ∃t,PSs (cxOf CX P w K mg base N qual (aT st) f cdv A outer s H E).nox (d8 st) t/\t {nx:=λ_ H'=>Q .non H',rt:=Q} (start N vs) H):jN P w K mg base CX (k+1) f fd ps sp:=by
 obtain⟨oc,od,kV,doc,pm,an,cdv,ct,osl,rfl,a,Y⟩:=F.ex;refine fn_of a Y S I λA outer s H vs Q E b U=>?_;obtain⟨t,h,q⟩:=B cdv A outer s H vs Q E b U;exact⟨t,h.nox,q⟩
structure Def(K:Pn)(mg:Ld)(x:IL)(st:Jl)(ps:List IL)(f:h_)(fd:Kw):Prop where
 fn:Fun K x x st f fd
 mg:mg x=a_ (.ref f)
 bd:Binds K fd ps []
def def_of(I:K.In h)(G:h.Ns JE mg){st:Jl}{f:h_}(a:nsIn K JE x=a_ (a_ (.ref f)))(l:K.lookup f=a_ ⟨oc,od,.func (Py x x (fJ st) (d8 st) (aT st) .none kV doc pm an cdv ct),osl⟩)(c:Qh K cdv x=e_)(k:MB K (.ref f)=e_)(B:∀(kV doc pm:g_) (an:Option h_) (cdv ct:g_) (us:bv),us.length=ps.length->O9 (Py x x (fJ st) (d8 st) (aT st) .none kV doc pm an cdv ct) ⟨us,[]⟩=JM (ps.zip us)):
  Def K mg x st ps f (Py x x (fJ st) (d8 st) (aT st) .none kV doc pm an cdv ct):=
 ⟨Cn l c k,mg_of I G a,(Cn l c k).binds B⟩
structure Mth(K:Pn)(C:h_)(x qual:IL)(st:Jl)(ps:List IL)(f:h_)(fd:Kw):Prop where
 fn:Fun K x qual st f fd
 mt:Meth K C x f
 bd:Binds K fd ps []
structure Kls(K:Pn)(mg:Ld)(x:IL)(C:h_):Prop where
 cl:Cls K C
 mg:mg x=a_ (.ref C)
 mks:Sr K C=e_
 kp:MB K (.ref C)=e_
 c1:MC K (.ref C) "__class__"=a_ (a_ (.builtin "object.__class__"))
 c2:QR K (.builtin "object.__class__") "__get__"=a_ (a_ (.builtin "getset_descriptor.__get__"))
 c3:QQ K (.builtin "object.__class__")=a_ e_
 c4:Rm K C (.type "object")=a_ e_
end
def pg_c{L:h_}{s:j_}(S:N'.Nodup)(hi:N'[i]?=a_ x)(B:Loc (bf X N' sc L cs s H fp).env.scope x)(I:autoParam ((bf X N' sc L cs s H fp).fn x=e_\/(bf X N' sc L cs s H fp).env.scope.names.lookup x=a_ .local) Jq3):PG (bf X N' sc L cs s H fp) (.Name x pos) (gm i):=jr S hi B I
theorem aM.upd{H:Hp}{a:h_}{o:HO}(h:H a=d_):aM H (upd H a o):=λb u e=>by rw[av (aL e h)];exact e
section
variable{f:h_}{dvs:List V}{ds:List g_}{E:XK}{m:IL}{p:Pb}{es:List Jj}{t:TA}
structure Stat(K:Pn)(C:h_)(mc:g_)(m:IL)(f:h_):Prop where
 s1:QR K (.ref C) "__getattribute__"=a_ (a_ (.builtin "type.__getattribute__"))
 s2:QS K C mc=e_
 s3:QU K (.ref C) mc m=a_ (.val (.ref f))
 s4:MB K (.ref f)=e_
def pe_cmeth(S:Stat X.K C mc m f)(l:Gl X x)(j:X.mg x=a_ (.ref C))(F:jN X.prog X.w X.K X.mg X.base CX k f fd ps sp)(g:kf k X.A)(o:Binds X.K fd ps ds)(n:B6 dvs ds)(c:Passes CX X E)(q:PA X (e::es) t)(a:((x==("__debug__":IL))=cm)⁻¹)(U: ~~~(k_ (e::es) X.env=(cm,Il e X.env)::k_ es X.env))(Y: ~~~((Jy pos (k_ es X.env)).any (·.1)=cm))(d: ~~~(Il (.Call (.Attribute (.Name x p) m apos) (e::es) [] pos) X.env=(do
   let ov <- Il (.Name x p) X.env
   NK apos.atName
   let (f,B) <- Ln [ov] (Ol ov m pl)
   Rx pos f B (Jy pos (k_ (e::es) X.env)) (LR pos (KG [] X.env))))):
  PE X (.Call (.Attribute (.Name x p) m apos) (e::es) [] pos) (tCall sp dvs E t):=by
 intro B1 s σ H Q I h;refine M5 (vH I l j (PySem.W.method_cls I.kIn S.s1 (PySem.W.cls_value I.kIn S.s2 S.s3 rfl ?_)) a) d;refine Qi I.ok.mod.kin S.s4 (B' (q pos B1 _ σ H _ (I.tok _) h) λus s2 i=>?_) U Y;obtain⟨vs,H2,b,r,q2⟩:=i;exact⟨b.kIn,(By F g o n c b r q2)⟩
end
section
variable{a:Jj}
def aM.tup{a:h_}(e:aM H H')(h:SqT K H a xs):SqT K H' a xs:=by
 rcases h with(h|⟨o,h⟩)|h
 .exact .inl (.inl (e _ _ h))
 .exact .inl (.inr ⟨o,e _ _ h⟩)
 .exact .inr h
end
set_option genSizeOf true in
set_option genInjectivity true in
inductive A' where
 |non|bl (b:Bool)|int (i:Int)|tup (ds:List A')|lst (ds:List A')|ins (C:h_) (fs:List (IL×A'))|dic (ks:List (List Int×A'))|dil (ks:List (Int×List (List Int)))
abbrev be:=List A'
variable{L ds:List A'}{d:A'}{ks:List (List Int×A')}
noncomputable abbrev cU:=a9×h_×V
abbrev bA:=List cU
noncomputable def qg(ks:a9):Int:=Mi (Ik (ks.map So))
def Er(x:a9×h_×g_):Jx:=⟨qg x.1,.ref x.2.1,x.2.2⟩
def dK(p:cU)(q:a9×h_×g_):Prop:=p.1=q.1/\p.2.1=q.2.1/\B5 p.2.2 q.2.2
inductive tO(h:IF)(a:h_)(xs:List cU)(ep:Nat):Prop
 |mk (vs:List (List Int×h_×g_)) (r:Jg dK xs vs) (m:(a==IX)=cm) (z:xs.length<=n_) (n:(vs.map (·.1)).Nodup) (o:NY) (es:Array Jx) (g:h.get? a=a_ o) (x:o.ExactDict) (d:o.data=.dict es ep) (e:es.toList=vs.map Er)
noncomputable def iW(a:h_)(xs:bA)(ep:Nat):HO:=.ext λh=>tO h a xs ep
noncomputable abbrev LK:=Int×List a9
abbrev bz:=List LK
def lHash(k:LK):Int:=Mi (Ik [So k.1,Mi (Ik (k.2.map qg))])
def rowL(x:LK×h_):Jx:=⟨lHash x.1,.ref x.2,.bool e_⟩
inductive Eo(h:IF)(a:h_)(xs:List (LK×h_))(ep:Nat):Prop
 |mk (m:(a==IX)=cm) (z:xs.length<=n_) (n:(xs.map (·.1)).Nodup) (o:NY) (es:Array Jx) (g:h.get? a=a_ o) (x:o.ExactDict) (d:o.data=.dict es ep) (e:es.toList=xs.map rowL)
noncomputable def zP(a:h_)(xs:List (LK×h_))(ep:Nat):HO:=.ext λh=>Eo h a xs ep
inductive lQ(K:Pn)(F:Hp)(b:h_)(k:LK):Prop
 |mk (r:h_) (bs:List h_) (p:SqT K F b [V.int k.1,V.ref r]) (q:SqT K F r (bs.map V.ref)) (l:bs.length=k.2.length) (z:∀(j:Nat) (row:List Int) (c:h_),k.2[j]?=a_ row->bs[j]?=a_ c->SqT K F c (row.map V.int))
def Bh(K:Pn)(F:Hp)(ks:bz)(xs:List (LK×h_)):Prop:=xs.map (·.1)=ks/\∀x∈xs,lQ K F x.2 x.1
inductive AtX{α:Type}(S:h_->α->Prop)(P:α->Prop)(v:V):Prop
 |mk (a:h_) (xs:α) (e:v=.ref a) (q:S a xs) (r:P xs)
inductive CnsK(k:List Int)(S:h_->Prop)(P:V->Prop)(R:List cU->Prop)(xs:List cU):Prop
 |mk (b:h_) (v:V) (r:List cU) (e:xs=(k,b,v)::r) (t:S b) (p:P v) (z:R r)
inductive CnsF(f:IL)(P:V->Prop)(R:List (IL×V)->Prop)(fs:List (IL×V)):Prop
 |mk (v:V) (r:List (IL×V)) (e:fs=(f,v)::r) (p:P v) (t:R r)
inductive Cns{α:Type}(P:α->Prop)(R:List α->Prop)(xs:List α):Prop
 |mk (v:α) (vs:List α) (e:xs=v::vs) (p:P v) (r:R vs)
mutual
noncomputable def bh(K:Pn)(F:Hp):A'->V->Prop
 |.non,v=>v=.non|.bl b,v=>v=.bl b|.int i,v=>v=.int i|.tup ds,v=>AtX (SqT K F) (ay K F ds) v|.lst ds,v=>AtX (SqL K F) (ay K F ds) v|.ins C gs,v=>∃a dx fs,v=.ref a/\F a=a_ (.ins C dx fs)/\tP K F gs fs
 |.dic ks,v=>AtX (λa xs=>∃ep,F a=a_ (iW a xs ep)) (bp K F ks) v
 |.dil ks,v=>AtX (λa xs=>∃ep,F a=a_ (zP a xs ep)) (Bh K F ks) v
noncomputable def ay(K:Pn)(F:Hp):be->bm->Prop
 |[],xs=>xs=[]|d::ds,xs=>Cns (bh K F d) (ay K F ds) xs
noncomputable def tP(K:Pn)(F:Hp):List (IL×A')->List (IL×V)->Prop
 |[],fs=>fs=[]|(f,d)::gs,fs=>CnsF f (bh K F d) (tP K F gs) fs
noncomputable def bp(K:Pn)(F:Hp):List (a9×A')->bA->Prop
 |[],xs=>xs=[]|(k,d)::ks,xs=>CnsK k (λb=>SqT K F b (k.map .int)) (bh K F d) (bp K F ks) xs
end
mutual
noncomputable def lM:A'->Bool
 |.tup ds=>yA ds|.lst _=>cm|.ins _ _=>cm|.dic _=>cm|.dil _=>cm|_=>e_
noncomputable def yA:be->Bool
 |[]=>e_|d::ds=>lM d&&yA ds
end
def aM.lst(e:aM H H')(h:SqL K H a xs):SqL K H' a xs:=by
 rcases h with(h|⟨o,h⟩)|h
 .exact .inl (.inl (e _ _ h))
 .exact .inl (.inr ⟨o,e _ _ h⟩)
 .exact .inr h
def lQ.mono(s:aM F F'){k:LK}(h:lQ K F b k):lQ K F' b k:=
 let ⟨r,bs,S,I,l,t3⟩:=h;⟨r,bs,s.tup S,s.tup I,l,λj B c e1 e2=>s.tup (t3 j B c e1 e2)⟩
theorem Bh.mono{K:Pn}{F F':Hp}(s:aM F F'){ks:bz}{xs:List (LK×h_)}(h:Bh K F ks xs):Bh K F' ks xs:=⟨h.1,λx B=>(h.2 x B).mono s⟩
mutual
theorem bh.mono{K:Pn}{F F':Hp}(s:aM F F'):∀{d:A'} {v:V},bh K F d v->bh K F' d v
 |.non,_,h=>h|.bl _,_,h=>h|.int _,_,h=>h|.tup _,_,⟨a,xs,e,q,r⟩=>⟨a,xs,e,s.tup q,ay.mono s r⟩|.lst _,_,⟨a,xs,e,q,r⟩=>⟨a,xs,e,s.lst q,ay.mono s r⟩|.ins _ _,_,⟨a,dx,fs,e,q,r⟩=>⟨a,dx,fs,e,s _ _ q,tP.mono s r⟩|.dic _,_,⟨a,xs,e,⟨ep,q⟩,r⟩=>⟨a,xs,e,⟨ep,s _ _ q⟩,bp.mono s r⟩|.dil _,_,⟨a,xs,e,⟨ep,q⟩,r⟩=>⟨a,xs,e,⟨ep,s _ _ q⟩,Bh.mono s r⟩
theorem ay.mono{K:Pn}{F F':Hp}(s:aM F F'):∀{ds:be} {xs:bm},ay K F ds xs->ay K F' ds xs
 |[],_,h=>h|_::_,_,⟨v,vs,e,q,r⟩=>⟨v,vs,e,bh.mono s q,ay.mono s r⟩
theorem tP.mono{K:Pn}{F F':Hp}(s:aM F F'):∀{gs:List (IL×A')} {fs:List (IL×V)},tP K F gs fs->tP K F' gs fs
 |[],_,h=>h|(_,_)::_,_,⟨v,r,e,q,t⟩=>⟨v,r,e,bh.mono s q,tP.mono s t⟩
theorem bp.mono{K:Pn}{F F':Hp}(s:aM F F'):∀{ks:List (a9×A')} {xs:bA},bp K F ks xs->bp K F' ks xs
 |[],_,h=>h|(_,_)::_,_,⟨b,v,r,e,t,q,z⟩=>⟨b,v,r,e,s.tup t,bh.mono s q,bp.mono s z⟩
end
mutual
theorem bh.flat{K:Pn}{F F':Hp}(s:∀a xs,SqT K F a xs->SqT K F' a xs):∀{d:A'} {v:V},lM d=e_->bh K F d v->bh K F' d v
 |.non,_,_,h=>h|.bl _,_,_,h=>h|.int _,_,_,h=>h|.tup ds,_,f,⟨a,xs,e,q,r⟩=>⟨a,xs,e,s _ _ q,ay.flat s (by simpa[lM] using f) r⟩|.lst _,_,f,_=>by simp_all[lM]|.ins _ _,_,f,_=>by simp_all[lM]|.dic _,_,f,_=>by simp_all[lM]|.dil _,_,f,_=>by simp_all[lM]
theorem ay.flat{K:Pn}{F F':Hp}(s:∀a xs,SqT K F a xs->SqT K F' a xs):∀{ds:be} {xs:bm},yA ds=e_->ay K F ds xs->ay K F' ds xs
 |[],_,_,h=>h|d::ds,_,f,⟨v,vs,e,q,r⟩=>by simp only[yA,D_]at f;exact⟨v,vs,e,bh.flat s f.1 q,ay.flat s f.2 r⟩
end
theorem ay.length{K:Pn}{F:Hp}:∀{ds:be} {xs:bm},ay K F ds xs->xs.length=ds.length
 |[],_,h=>by rw[show _=[]from h];rfl|_::_,_,⟨_,_,e,_,r⟩=>by rw[e,F_,F_,ay.length r]
theorem ay.get{K:Pn}{F:Hp}:∀{ds:be} {xs:bm} {i:Nat} {d:A'},ay K F ds xs->ds[i]?=a_ d->AtI (λv=>xs[i]?=a_ v) (bh K F d)
 |[],_,_,_,_,e=>by simp at e|_::_,_,0,_,⟨v,vs,e,q,_⟩,h=>by simp at h;subst h e;exact⟨v,rfl,q⟩|_::_,_,i+1,_,⟨v,vs,e,_,r⟩,h=>by subst e;simp at h ⊢;exact ay.get r h
theorem ay.at{K:Pn}{F:Hp}{ds:be}{xs:bm}{i:Nat}{v:V}(r:ay K F ds xs)(h:xs[i]?=a_ v):AtI (λd=>ds[i]?=a_ d) λd=>bh K F d v:=by
 have hi:i<ds.length:=by exact r.length▸(oe.mp h).1
 obtain⟨w,e,q⟩:=r.get (i:=i) (d:=ds[i]) ad;rw[h]at e;have B:=JT e;subst B;exact⟨ds[i],ad,q⟩
def ay.nil:ay K F [] []:=rfl
def ay.cons(q:bh K F d v)(r:ay K F ds xs):ay K F (d::ds) (v::xs):=⟨v,xs,rfl,q,r⟩
theorem ay.append{K:Pn}{F:Hp}:∀{ds es:be} {xs ys:bm},ay K F ds xs->ay K F es ys->ay K F (ds++es) (xs++ys)
 |[],_,_,_,h,r=>by rw[show _=[]from h];exact r|_::_,_,_,_,⟨v,vs,e,q,t⟩,r=>by subst e;exact⟨v,_,rfl,q,ay.append t r⟩
theorem ay.take{K:Pn}{F:Hp}:∀{ds:be} {xs:bm} (n:Nat),ay K F ds xs->ay K F (ds.take n) (xs.take n)
 |_,_,0,_=>rfl|[],_,_+1,h=>by rw[show _=[]from h];rfl|_::_,_,n+1,⟨v,vs,e,q,r⟩=>by subst e;exact⟨v,_,rfl,q,ay.take n r⟩
theorem ay.drop{K:Pn}{F:Hp}:∀{ds:be} {xs:bm} (n:Nat),ay K F ds xs->ay K F (ds.drop n) (xs.drop n)
 |_,_,0,h=>h|[],_,_+1,h=>by rw[show _=[]from h];rfl|_::_,_,n+1,⟨v,vs,e,q,r⟩=>by subst e;exact ay.drop n r
theorem ay.set{K:Pn}{F:Hp}{d:A'}{v:V}(q:bh K F d v):∀{ds:be} {xs:bm} (n:Nat),ay K F ds xs->ay K F (ds.set n d) (xs.set n v)
 |[],_,_,h=>by rw[show _=[]from h];rfl|_::_,_,0,⟨w,vs,e,_,r⟩=>by subst e;exact⟨v,_,rfl,q,r⟩|_::_,_,n+1,⟨w,vs,e,p,r⟩=>by subst e;exact⟨w,_,rfl,p,ay.set q n r⟩
theorem ay.reverse{K:Pn}{F:Hp}:∀{ds:be} {xs:bm},ay K F ds xs->ay K F ds.reverse xs.reverse
 |[],_,h=>by rw[show _=[]from h];rfl|_::_,_,⟨w,vs,e,p,r⟩=>by subst e;rw[MO,MO];exact ay.append (ay.reverse r) ⟨w,[],rfl,p,rfl⟩
theorem ay.of_get{K:Pn}{F:Hp}:∀{ds:be} {xs:bm},xs.length=ds.length->(∀(i:Nat) d v,ds[i]?=a_ d->xs[i]?=a_ v->bh K F d v)->ay K F ds xs
 |[],[],_,_=>rfl|[],_::_,h,_=>by simp at h|_::_,[],h,_=>by simp at h|d::ds,v::vs,h,q=>⟨v,vs,rfl,q 0 d v rfl rfl,ay.of_get a7 λi e w h1 B=>q (i+1) e w a7 a7⟩
structure B2(F H F' H':Hp):Prop where
 ff:aM F F'
 hh:aM H H'
 fh:aM F' H'
 nw:∀b o,F' b=a_ o->F b=a_ o\/H b=d_
theorem B2.refl{F H:Hp}(s:aM F H):B2 F H F H:=⟨aM.refl _,aM.refl _,s,λ_ _ h=>.inl h⟩
theorem B2.trans{F H F1 H1 B H2:Hp}(a:B2 F H F1 H1)(b:B2 F1 H1 B H2):B2 F H B H2:=
 ⟨a.ff.trans b.ff,a.hh.trans b.hh,b.fh,λx o h=>(b.nw x o h).elim (λz=>a.nw x o z) λz=>.inr (a.hh.free z)⟩
theorem B2.lay{p:h_}{o:HO}(s:aM F H)(B:H p=d_):B2 F H (upd F p o) (upd H p o):=
 ⟨aM.upd (s.free B),aM.upd B,λb u h=>by
  by_cases e:b=p
  .simp_all[aq]
  .rw[av e]at h ⊢;exact s b u h,λb u h=>by
  grind[av]⟩
def B2.grow{p:h_}{o:HO}(s:aM F H)(B:H p=d_):B2 F H F (upd H p o):=
 ⟨aM.refl _,aM.upd B,s.trans (aM.upd B),λ_ _ h=>.inl h⟩
def B2.same(s:aM F H)(h:aM H H'):B2 F H F H':=⟨aM.refl _,h,s.trans h,λ_ _ z=>.inl z⟩
inductive OwX{α:Type}(S:h_->α->Prop)(F H0:Hp)(P:α->Prop)(v:V):Prop
 |mk (a:h_) (xs:α) (e:v=.ref a) (q:S a xs) (f:F a=d_) (z:H0 a=d_) (r:P xs)
def oE(K:Pn)(F H0 H:Hp):A'->V->Prop
 |.lst ds,v=>OwX (λa xs=>H a=a_ (.lst xs)) F H0 (ay K F ds) v|.dic ks,v=>OwX (λa xs=>∃ep,H a=a_ (iW a xs ep)) F H0 (bp K F ks) v
 |.dil ks,v=>OwX (λa xs=>∃ep,H a=a_ (zP a xs ep)) F H0 (Bh K F ks) v
 |d,v=>bh K F d v
noncomputable def isO:A'->Bool
 |.lst _=>e_|.dic _=>e_|.dil _=>e_|_=>cm
noncomputable def isMu:HO->Bool
 |.lst _=>e_|.ext _=>e_|_=>cm
def oE.non(B:isO d=cm):oE K F H0 H d v=bh K F d v:=by cases d<;>first|rfl|cases B
def oE.top(B:isO d=e_)(q:oE K F H0 H d v):∃a o,v=.ref a/\H a=a_ o/\isMu o=e_/\F a=d_/\H0 a=d_:=by
 cases d with
 |lst ds=>obtain⟨a,xs,e,p,f,z,_⟩:=q;exact⟨a,_,e,p,rfl,f,z⟩
 |dic ks=>obtain⟨a,xs,e,⟨ep,p⟩,f,z,_⟩:=q;exact⟨a,_,e,p,rfl,f,z⟩
 |dil ks=>obtain⟨a,xs,e,⟨ep,p⟩,f,z,_⟩:=q;exact⟨a,_,e,p,rfl,f,z⟩
 |_=>cases B
def oE.re(S:isO d=e_)(q:oE K F H0 H d (.ref a))(I:aM F F')(fa:F' a=d_)(B:∀o,H a=a_ o->H' a=a_ o):oE K F' H0 H' d (.ref a):=by
 cases d with
 |lst ds=>obtain⟨b,xs,e,p,f,z,r⟩:=q;cases e;exact⟨a,xs,rfl,B _ p,fa,z,r.mono I⟩
 |dic ks=>obtain⟨b,xs,e,⟨ep,p⟩,f,z,r⟩:=q;cases e;exact⟨a,xs,rfl,⟨ep,B _ p⟩,fa,z,r.mono I⟩
 |dil ks=>obtain⟨b,xs,e,⟨ep,p⟩,f,z,r⟩:=q;cases e;exact⟨a,xs,rfl,⟨ep,B _ p⟩,fa,z,r.mono I⟩
 |_=>cases S
def oE.give(I:isO d=e_)(q:oE K F H0 H d (.ref a))(B:aM F F')(fa:F' a=H a):bh K F' d (.ref a):=by
 cases d with
 |lst ds=>obtain⟨b,xs,e,p,f,z,r⟩:=q;cases e;exact⟨a,xs,rfl,SqL.of (fa.trans p),r.mono B⟩
 |dic ks=>obtain⟨b,xs,e,⟨ep,p⟩,f,z,r⟩:=q;cases e;exact⟨a,xs,rfl,⟨ep,fa.trans p⟩,r.mono B⟩
 |dil ks=>obtain⟨b,xs,e,⟨ep,p⟩,f,z,r⟩:=q;cases e;exact⟨a,xs,rfl,⟨ep,fa.trans p⟩,r.mono B⟩
 |_=>cases I
def Val(K:Pn)(own:Bool)(F H0 H:Hp)(d:A')(v:V):Prop:=if own=e_ then oE K F H0 H d v else bh K F d v
def oE.back(s:aM H0 H1)(h:oE K F H1 H d v):oE K F H0 H d v:=by
 cases d with
 |lst ds=>obtain⟨a,xs,e,p,q,z,r⟩:=h;exact⟨a,xs,e,p,q,s.free z,r⟩
 |dic ks=>obtain⟨a,xs,e,p,q,z,r⟩:=h;exact⟨a,xs,e,p,q,s.free z,r⟩
 |dil ks=>obtain⟨a,xs,e,p,q,z,r⟩:=h;exact⟨a,xs,e,p,q,s.free z,r⟩
 |_=>exact h
theorem Val.back{K:Pn}{own:Bool}{F H0 H1 H:Hp}{d:A'}{v:V}(s:aM H0 H1)(h:Val K own F H1 H d v):Val K own F H0 H d v:=by
 cases own with
 |true=>exact oE.back s h|false=>exact h
theorem oE.freeze(s:aM F H)(h:oE K F H0 H d v):∃F',aM F F'/\aM F' H/\(∀b o,F' b=a_ o->F b=a_ o\/H0 b=d_)/\bh K F' d v:=by
 cases B:isO d with
 |true=>
  obtain⟨a,u,rfl,p,_,q,z⟩:=h.top B;refine⟨upd F a u,aM.upd q,λb o h=>?_,λb o h=>?_,h.give B (aM.upd q) (by rw[aq,p])⟩
  .by_cases e:b=a
   .simp_all[aq]
   .rw[av e]at h;exact s b o h
  grind[av]
 |false=>rw[oE.non B]at h;exact⟨F,aM.refl _,s,λ_ _ z=>.inl z,h⟩
inductive Err where
 |stuck|exc (C:h_) (fs:List (IL×A'))
variable{wp:Err->Prop}
noncomputable abbrev M:=Except Err
abbrev cg:=A'->M A'
abbrev cc:=be->M A'
variable{g g':A'->cg}
noncomputable abbrev ab:=List (Option A')
abbrev ce:=ab->M be
abbrev cd:=ab->M Bool
abbrev b6:=ab->M A'
variable{ρ ρ':ab}{fa fb fc fe fk fx fA fv f3 f4 f5 fq f0:b6}{fi fo:ab->M (List A')}{ft:cd}{fu:ab->M (Option Int)}
structure bY where
 p:Err->Hp->Hp->Prop
 mono:∀{e:Err} {F H F' H':Hp},p e F H->B2 F H F' H'->p e F' H'
 ns:∀{F H:Hp},p .stuck F H->False
noncomputable def D':bY:=⟨λ_ _ _=>False,λh _=>h,λh=>h⟩
def aH(K:Pn)(W:bY)(own:Bool)(F H:Hp)(r:M A')(Q:VK):Prop:=match r with
 |.ok d=>∀v F' H',B2 F H F' H'->Val K own F' H H' d v->Q v H'|.error e=>W.p e F H
def aH.step{W:bY}{own:Bool}{r:M A'}{Q:VK}(p:aH K W own F H r Q)(s:B2 F H F1 H1):aH K W own F1 H1 r Q:=by
 cases r with
 |ok d=>exact λv F' H' t q=>p v F' H' (s.trans t) (q.back s.hh)|error e=>exact W.mono p s
def aH.frz{W:bY}{r:M A'}{Q:VK}(p:aH K W cm F H r Q):aH K W e_ F H r Q:=by
 cases r with
 |ok d=>intro v F' H' t q;obtain⟨B,s1,s2,n,z⟩:=oE.freeze t.fh q;exact p v B H' ⟨t.ff.trans s1,t.hh,s2,λb o h=>(n b o h).elim (λz=>t.nw b o z) .inr⟩ z
 |error e=>exact p
structure fQ(K:Pn)(F:Hp)(σ:St)(ρ:ab):Prop where
 len:ρ.length=σ.length
 sl:∀(i:Nat) (d:A'),ρ[i]?=a_ (a_ d)->AtI (λv=>σ[i]?=a_ (a_ v)) (bh K F d)
theorem fQ.mono{K:Pn}{F F':Hp}{σ:St}{ρ:ab}(r:fQ K F σ ρ)(s:aM F F'):fQ K F' σ ρ:=
 ⟨r.len,λi d e=>let ⟨v,h,q⟩:=r.sl i d e;⟨v,h,q.mono s⟩⟩
theorem fQ.set{K:Pn}{F:Hp}{σ:St}{ρ:ab}{d:A'}{v:V}(r:fQ K F σ ρ)(q:bh K F d v)(i:Nat):fQ K F (σ.set i (a_ v)) (ρ.set i (a_ d)):=
 ⟨by rw[Ii,Ii,r.len],λj e h=>by
  by_cases B:i=j
  .subst B;have hi:=by
    have:=(oe.mp h).1;simpa using this
   rw[t_ hi]at h;cases h;exact⟨v,by rw[t_ (by exact r.len▸hi)],q⟩
  .rw[o_ B]at h;obtain⟨w,h1,I⟩:=r.sl j e h;exact⟨w,a7,I⟩⟩
inductive TDx(K:Pn)(σ:St)(H:Hp)(P:Hp->ab->Prop):Prop
 |mk (F:Hp) (ρ:ab) (r:fQ K F σ ρ) (s:aM F H) (p:P F ρ)
def tD(K:Pn)(W:bY)(own:Bool)(f:b6):TE:=λσ H Q=>TDx K σ H λF ρ=>aH K W own F H (f ρ) Q
def aD{W:bY}{own:Bool}{f:b6}{R:VK}(r:fQ K F σ ρ)(s:aM F H)(I:∀e,f ρ=.error e->W.p e F H)(B:∀d,f ρ=.ok d->∀v F1 H1,B2 F H F1 H1->Val K own F1 H H1 d v->R v H1):tD K W own f σ H R:=by
 refine⟨F,ρ,r,s,?_⟩
 cases e:f ρ with
 |ok d=>exact B d e|error x=>exact I x e
def tDT(K:Pn)(W:bY)(f:cd):TT:=λσ H Q=>TDx K σ H λF ρ=>match f ρ with
 |.ok b=>∀F' H',B2 F H F' H'->Q b H'|.error e=>W.p e F H
def gT{W:bY}{f:cd}{R:Bool->Hp->Prop}(r:fQ K F σ ρ)(s:aM F H)(I:∀e,f ρ=.error e->W.p e F H)(B:∀b,f ρ=.ok b->∀F1 H1,B2 F H F1 H1->R b H1):tDT K W f σ H R:=by
 refine⟨F,ρ,r,s,?_⟩
 cases e:f ρ with
 |ok d=>exact B d e|error x=>exact I x e
def tDA(K:Pn)(W:bY)(f:ce):TA:=λσ H Q=>TDx K σ H λF ρ=>match f ρ with
 |.ok ds=>∀vs F' H',B2 F H F' H'->ay K F' ds vs->Q vs H'|.error e=>W.p e F H
def mf{W:bY}{f:ce}(r:fQ K F σ ρ)(s:aM F H)(I:∀e,f ρ=.error e->W.p e F H)(B:∀ds,f ρ=.ok ds->∀vs F1 H1,B2 F H F1 H1->ay K F1 ds vs->R vs H1):tDA K W f σ H R:=by
 refine⟨F,ρ,r,s,?_⟩
 cases e:f ρ with
 |ok d=>exact B d e|error x=>exact I x e
noncomputable def ae(i:Nat):b6:=λρ=>match ρ[i]? with
 |some (a_ d)=>.ok d|_=>.error .stuck
noncomputable def fC(d:A'):b6:=λ_=>.ok d
abbrev a8(k:Int):=fC (.int k)
noncomputable def f1(g:cg)(fa:b6):b6:=λρ=>(fa ρ).bind g
noncomputable def f2(g:A'->cg)(fa fb:b6):b6:=λρ=>(fa ρ).bind λa=>(fb ρ).bind λb=>g a b
noncomputable def au:ce:=λ_=>.ok []
noncomputable def aa(fa:b6)(fr:ce):ce:=λρ=>(fa ρ).bind λa=>(fr ρ).bind λr=>.ok (a::r)
noncomputable def fL(g:cc)(fr:ce):b6:=λρ=>(fr ρ).bind g
noncomputable def bT(ds:be):M A':=if ds.length<=n_ then .ok (.tup ds)else .error .stuck
noncomputable def bu(ds:be):M A':=if ds.length<=n_ then .ok (.lst ds)else .error .stuck
noncomputable def fIte(ft:cd)(fa fb:b6):b6:=λρ=>(ft ρ).bind λb=>if b=e_ then fa ρ else fb ρ
noncomputable def fAnd(ft fu:cd):cd:=λρ=>(ft ρ).bind λb=>if b=e_ then fu ρ else .ok cm
noncomputable def fOr(ft fu:cd):cd:=λρ=>(ft ρ).bind λb=>if b=e_ then .ok e_ else fu ρ
noncomputable def fNot(ft:cd):cd:=λρ=>(ft ρ).bind λb=>.ok (!b)
noncomputable def asB:A'->M Bool
 |.bl b=>.ok b|_=>.error .stuck
def fB(fa:b6):cd:=λρ=>(fa ρ).bind asB
def E8(fa fb:b6):b6:=λρ=>(fa ρ).bind λa=>(asB a).bind λb=>if b=e_ then fb ρ else .ok (.bl cm)
noncomputable def truD:A'->M Bool
 |.non=>.ok cm|.bl b=>.ok b|.int i=>.ok (i != 0)|.tup ds=>.ok (!ds.isEmpty)|.lst ds=>.ok (!ds.isEmpty)|_=>.error .stuck
def wN(fa:b6):cd:=λρ=>(fa ρ).bind truD
def iz(g g':A'->cg)(fa fb fc:b6):b6:=λρ=>(fa ρ).bind λa=>(fb ρ).bind λb=>(g a b).bind λx=>(asB x).bind λk=>if k=e_ then(fc ρ).bind λc=>g' b c else .ok (.bl cm)
inductive TX2(K:Pn)(x y:V)(H:Hp)(P:Hp->A'->A'->Prop):Prop
 |mk (F:Hp) (a b:A') (s:aM F H) (q:bh K F a x) (r:bh K F b y) (p:P F a b)
inductive TX1{α β:Type}(D:Hp->α->β->Prop)(x:β)(H:Hp)(P:Hp->α->Prop):Prop
 |mk (F:Hp) (a:α) (s:aM F H) (q:D F a x) (p:P F a)
def rD2(K:Pn)(W:bY)(own:Bool)(g:A'->cg):R2:=λx y H Q=>TX2 K x y H λF a b=>aH K W own F H (g a b) Q
def rD1(K:Pn)(W:bY)(own:Bool)(g:cg):V->Hp->VK->Prop:=λx H Q=>TX1 (bh K) x H λF a=>aH K W own F H (g a) Q
def rDL(K:Pn)(W:bY)(own:Bool)(g:cc):bm->Hp->VK->Prop:=λxs H Q=>TX1 (ay K) xs H λF ds=>aH K W own F H (g ds) Q
section
variable{W:bY}{own:Bool}{Q:VK}
def rd_c(B:∀F,bh K F d v)(h:tD K W cm (fC d) σ H Q):tC v σ H Q:=by obtain⟨F,ρ,r,s,p⟩:=h;exact p v F H (B2.refl s) (B F)
def aH.err{x:M A'}{e:Err}(p:aH K W own F H x Q)(h:x=.error e):W.p e F H:=by rw[h]at p;exact p
def rd_1{g:cg}(h:tD K W own (f1 g fa) σ H Q):tUn (rD1 K W own g) (tD K W cm fa) σ H Q:=by
 obtain⟨F,ρ,r,s,p⟩:=h;refine aD r s (λe B=>p.err (by unfold f1;rw[B];rfl)) λa I x F1 H1 s1 q1=>⟨F1,a,s1.fh,q1,?_⟩
 simp[f1,I]at p;exact p.step s1
def rd_2(h:tD K W own (f2 g fa fb) σ H Q):tOp (rD2 K W own g) (tD K W cm fa) (tD K W cm fb) σ H Q:=by
 obtain⟨F,ρ,r,s,p⟩:=h;refine aD r s (λe B=>p.err (by unfold f2;rw[B];rfl)) λa I x F1 H1 s1 q1=>aD (r.mono s1.ff) s1.fh (λe B=>(p.step s1).err (by unfold f2;rw[I];rw[B];rfl)) λb S y U H2 s2 q2=>?_;refine⟨U,a,b,s2.fh,bh.mono s2.ff q1,q2,?_⟩
 simp only[f2,I,S]at p;exact p.step (s1.trans s2)
def rd_nil(h:tDA K W au σ H R):tNil σ H R:=by obtain⟨F,ρ,r,s,p⟩:=h;exact p [] F H (B2.refl s) rfl
def rd_L{g:cc}{fr:ce}(h:tD K W own (fL g fr) σ H Q):tDA K W fr σ H λxs H1=>rDL K W own g xs H1 Q:=by
 obtain⟨F,ρ,r,s,p⟩:=h;refine mf r s (λe B=>p.err (by unfold fL;rw[B];rfl)) λds I xs F1 H1 s1 q1=>⟨F1,ds,s1.fh,q1,?_⟩
 simp[fL,I]at p;exact p.step s1
theorem Bq{f:cd}{R:Bool->Hp->Prop}(r:fQ K F σ ρ)(s1:B2 F H F1 H1)(p:match f ρ with
 |.ok b=>∀F' H',B2 F H F' H'->R b H'|.error e=>W.p e F H):tDT K W f σ H1 R:=by
 refine⟨F1,ρ,r.mono s1.ff,s1.fh,?_⟩
 cases e:f ρ with
 |ok b=>rw[e]at p;exact λF' H' t=>p F' H' (s1.trans t)|error x=>rw[e]at p;exact W.mono p s1
theorem rd_B{R:Bool->Hp->Prop}(h:tDT K W (fB fa) σ H R):tTest (tD K W cm fa) σ H R:=by
 obtain⟨F,ρ,r,s,p⟩:=h;refine aD r s (λe B=>?_) λa I x F1 H1 s1 q1=>?_
 .have z:fB fa ρ=.error e:=by unfold fB;rw[B];rfl
  simp_all
 .simp[fB,I]at p;cases a with
  |bl b=>exact⟨b,q1,p F1 H1 s1⟩|_=>exact(W.ns p).elim
def tru_of{a:A'}{x:V}{b:Bool}(s:aM F H1)(q:bh K F a x)(h:truD a=.ok b):TruV K x H1 b:=by
 cases a with
 |non=>rw[show x=.non from q];exact(KI h).symm|bl c=>rw[show x=.bl c from q];exact(KI h).symm|int i=>rw[show x=.int i from q];exact(KI h).symm|tup ds=>
  obtain⟨p,xs,rfl,t,r⟩:=q;refine .inr ⟨xs,s.tup t,?_⟩;rw[<- KI h];cases ds with
  |nil=>rw[show xs=[]from r];rfl|cons d ds=>obtain⟨v,vs,e,_⟩:=r;rw[e];rfl
 |lst ds=>
  obtain⟨p,xs,rfl,t,r⟩:=q;refine .inl ⟨xs,s.lst t,?_⟩;rw[<- KI h];cases ds with
  |nil=>rw[show xs=[]from r];rfl|cons d ds=>obtain⟨v,vs,e,_⟩:=r;rw[e];rfl
 |ins C fs=>cases h|dic ks=>cases h|dil ks=>cases h
def BI(h:tD K W cm (iz g g' fa fb fc) σ H Q):EX (rD2 K W cm g) (rD2 K W cm g') (tD K W cm fa) (tD K W cm fb) (tD K W cm fc) σ H Q:=by
 obtain⟨F,ρ,r,s,p⟩:=h;refine aD r s (λe I=>p.err (by unfold iz;rw[I];rfl)) λa U x F1 H1 s1 q1=>aD (r.mono s1.ff) s1.fh (λe I=>(p.step s1).err (by unfold iz;rw[U];rw[I];rfl)) λb j y o H2 s2 q2=>?_;have z:iz g g' fa fb fc ρ=(g a b).bind λx=>(asB x).bind λk=>if k=e_ then(fc ρ).bind λc=>g' b c else .ok (.bl cm):=by unfold iz;rw[U,j];rfl
 rw[z]at p;refine⟨o,a,b,s2.fh,bh.mono s2.ff q1,q2,?_⟩
 have p2:=p.step (s1.trans s2);cases e:g a b with
 |error x=>rw[e]at p2;exact p2|ok d=>
  rw[e]at p2;intro v n l B f;have p3:=aH.step p2 B;cases d with
  |bl k=>
   refine⟨k,f,?_⟩
   cases k with
   |false=>exact p3 _ n l (B2.refl B.fh) rfl|true=>
    have p4:=p3;refine aD (r.mono (s1.trans (s2.trans B)).ff) B.fh (λe I=>p4.err (by rw[I];rfl)) λc i w m q S Y=>⟨m,b,c,S.fh,bh.mono (B.trans S).ff q2,Y,?_⟩
    rw[i]at p4;exact p4.step S
  |_=>exact(W.ns p3).elim
end
inductive Pat where
 |nm (i:Nat)|tp (is:List Nat)
noncomputable def mJ:bi->be->ab->ab
 |i::is,d::ds,ρ=>mJ is ds (ρ.set i (a_ d))|_,_,ρ=>ρ
def dS:Pat->A'->ab->M ab
 |.nm i,d,ρ=>.ok (ρ.set i (a_ d))|.tp is,.tup ds,ρ=>if ds.length=is.length then .ok (mJ is ds ρ)else .error .stuck
 |.tp _,_,_=>.error .stuck
def iw:bi->TGs
 |[]=>gNil|i::is=>gCons (gm i) (iw is)
def gP(K:Pn):Pat->TG
 |.nm i=>gm i|.tp is=>gTup K is.length (iw is)
theorem uy{K:Pn}{F H:Hp}{R:St->Hp->Prop}:∀{is:bi} {ds:be} {vs:bm} {σ:St} {ρ:ab},fQ K F σ ρ->ay K F ds vs->ds.length=is.length->(∀B,fQ K F B (mJ is ds ρ)->R B H)->iw is vs σ H R
 |[],[],_,σ,ρ,r,q,_,h=>⟨q,h σ r⟩|[],_::_,_,_,_,_,_,e,_=>by simp at e|_::_,[],_,_,_,_,_,e,_=>by simp at e|i::is,d::ds,_,σ,ρ,r,⟨v,vs,e,q,t⟩,l,h=>⟨v,vs,e,uy (r.set q i) t a7 h⟩
theorem gP_run{R:St->Hp->Prop}{p:Pat}(r:fQ K F σ ρ)(s:aM F H)(q:bh K F d v)(e:dS p d ρ=.ok ρ')(h:∀B,fQ K F B ρ'->R B H):gP K p v σ H R:=by
 cases p with
 |nm i=>have:=KI e;subst this;exact h _ (r.set q i)|tp is=>
  cases d with
  |tup ds=>
   have S:(if ds.length=is.length then Jp _ else K6 Err.stuck)=Jp ρ':=e;by_cases I:ds.length=is.length
   .rw[p_ I]at S;have:=KI S;subst this;obtain⟨a,xs,ev,t,z⟩:=q;exact⟨a,xs,ev,s.tup t,by rw[z.length,I],uy r z I h⟩
   simp_all
  |_=>cases e
theorem nJ{p:Pat}{e:Err}(h:dS p d ρ=.error e):e=.stuck:=by
 cases p with
 |nm i=>cases h|tp is=>
  cases d with
  |tup ds=>
   have B:(if ds.length=is.length then Jp _ else K6 Err.stuck)=K6 e:=h
   lia
  |_=>cases h;rfl
structure mC(K:Pn)(F1:Hp)(J:It)(ds:be):Prop where
 go:∀(i:Nat) (F H:Hp),aM F1 F->aM F H->i<ds.length->J.go i H
 yl:∀(i:Nat) (F H:Hp) (x:V) (H':Hp) (d:A'),aM F1 F->aM F H->ds[i]?=a_ d->J.yld i H x H'->∃F',B2 F H F' H'/\bh K F' d x
 st:∀(F H:Hp),aM F1 F->aM F H->J.stop ds.length H
def iD(K:Pn)(W:bY)(f:ce):TI:=λσ H R=>TDx K σ H λF ρ=>match f ρ with
 |.ok ds=>∀J F1 H1,B2 F H F1 H1->mC K F1 J ds->R J H1|.error e=>W.p e F H
noncomputable def jb:A'->M be
 |.lst ds=>.ok ds|.tup ds=>.ok ds|_=>.error .stuck
def fIt(fa:b6):ce:=λρ=>(fa ρ).bind jb
def iSeq(K:Pn)(tl:TE):TI:=λσ H R=>tl σ H λx H1=>∃a,x=.ref a/\((∃xs,SqL K H1 a xs)/\R (Itl K a) H1\/(∃xs,SqT K H1 a xs)/\R (Itt K a) H1)
def ym(t:SqL K F a xs)(z:ay K F ds xs):mC K F (Itl K a) ds where
 go:=λi F' H' s1 s2 hi=>⟨xs,xs[i]'(by exact z.length▸hi),s2.lst (s1.lst t),ad⟩
 yl:=λi F' H' x H2 d s1 s2 I B=>by obtain⟨rfl,B⟩:=B;obtain⟨v,e1,q⟩:=z.get I;have e2:=B xs (s2.lst (s1.lst t));rw[e1]at e2;cases e2;exact⟨F',B2.refl s2,q.mono s1⟩
 st:=λF' H' s1 s2=>⟨xs,s2.lst (s1.lst t),by rw[z.length];simp⟩
def iter_tup(t:SqT K F a xs)(z:ay K F ds xs):mC K F (Itt K a) ds where
 go:=λi F' H' s1 s2 hi=>⟨xs,xs[i]'(by exact z.length▸hi),s2.tup (s1.tup t),ad⟩
 yl:=λi F' H' x H2 d s1 s2 I B=>by obtain⟨rfl,B⟩:=B;obtain⟨v,e1,q⟩:=z.get I;have e2:=B xs (s2.tup (s1.tup t));rw[e1]at e2;cases e2;exact⟨F',B2.refl s2,q.mono s1⟩
 st:=λF' H' s1 s2=>⟨xs,s2.tup (s1.tup t),by rw[z.length];simp⟩
noncomputable def aG(lo:Int)(n:Nat):be:=(A_ n).map λk:Nat=>A'.int (lo+k)
theorem ui{lo:Int}:mC K F (Itr lo n) (aG lo n) where
 go:=λi F' H' s1 s2 hi=>by show i<n;simp_all[aG]
 yl:=λi F' H' x H2 d s1 s2 B I=>by
  obtain⟨e,I⟩:=I;subst e I;unfold aG at B;rw[E_]at B;have hi:=by have:=(oe.mp (show((A_ n).map λk:Nat=>A'.int (lo+k))[i]?=a_ d by simp_all)).1;simpa using this
  rw[Mm hi]at B;cases B;exact⟨F',B2.refl s2,rfl⟩
 st:=λF' H' s1 s2=>by show n<=_;simp[aG]
noncomputable def bc(i:Int):Bool:=m_ (-(2^62)<=i)&&m_ (i<2^62)
def oH:be->M be
 |[.int j]=>if bc j=e_ then .ok (aG 0 j.toNat)else .error .stuck
 |_=>.error .stuck
def BE:be->M be
 |[.int i,.int j]=>if (bc i&&bc j)=e_ then .ok (aG i (j-i).toNat)else .error .stuck
 |_=>.error .stuck
noncomputable def lE(g:be->M be)(fr:ce):ce:=λρ=>(fr ρ).bind g
section
variable{W:bY}{Q:VK}
noncomputable def gS(ix:List (Option Nat))(ρ:ab):ab:=ix.map λo=>match o with
 |none=>d_|some j=>(ρ[j]?).join
def aW(p:Pat)(ft:cd)(fe:b6)(ρ0:ab):be->M be
 |[]=>.ok []|d::ds=>(dS p d ρ0).bind λρ=>(ft ρ).bind λb=>if b=e_ then(fe ρ).bind λy=>(aW p ft fe ρ0 ds).bind λr=>.ok (y::r)else aW p ft fe ρ0 ds
def bB(fi:ce)(ix:List (Option Nat))(p:Pat)(ft:cd)(fe:b6):b6:=λρ=>(fi ρ).bind λds=>if ds.length<=n_ then(aW p ft fe (gS ix ρ) ds).bind λr=>.ok (.lst r)else .error .stuck
noncomputable def jZ:cd:=λ_=>.ok e_
theorem fQ.inS{F:Hp}{ρ:ab}(r:fQ K F σ ρ)(ix:List (Option Nat)):fQ K F (Lake.inS ix σ) (gS ix ρ):=
 ⟨by simp[Lake.inS,gS],λi d e=>by
  unfold gS at e;unfold Lake.inS;rw[E_]at e ⊢;cases h:ix[i]? with
  |none=>simp_all|some o=>
   rw[h]at e;cases o with
   |none=>cases e|some j=>
    have e1:ρ[j]?=a_ (a_ d):=by
     cases z:ρ[j]? with
     |none=>simp_all|some w=>simp_all
    obtain⟨v,h1,B⟩:=r.sl j d e1;exact⟨v,a7,B⟩⟩
theorem Fy{p:Pat}(h:tD K W e_ (bB fi ix p ft fe) σ H Q):
  tComp (iD K W fi) ix (gP K p) (tDT K W ft) (tD K W cm fe) σ H Q:=by
 obtain⟨F,ρ,r,s,q⟩:=h;refine⟨F,ρ,r,s,?_⟩
 cases N:fi ρ with
 |error e=>exact q.err (by unfold bB;rw[N];rfl)|ok ds=>
  intro J F1 H1 s1 it;have e0:bB fi ix p ft fe ρ=if ds.length<=n_ then(aW p ft fe (gS ix ρ) ds).bind λr=>.ok (.lst r)else .error .stuck:=by unfold bB;rw[N];rfl
  rw[e0]at q;by_cases L:ds.length<=n_
  .rw[p_ L]at q;refine⟨λi m ys H2=>m=ds.length-i/\i<=ds.length/\∃Y B,B2 F1 H1 Y H2/\ay K Y B ys/\B.length<=i /\
    (match aW p ft fe (gS ix ρ) (ds.drop i)with
     |.ok I=>aW p ft fe (gS ix ρ) ds=.ok (B++I)|.error e=>W.p e F H),⟨ds.length,ac,IH _,F1,[],B2.refl s1.fh,rfl,IH _,?_⟩,?_⟩
   .rw[LV];cases e:aW p ft fe (gS ix ρ) ds with
    |ok I=>rfl|error x=>exact q.err (by rw[e];rfl)
   .rintro i m ys H2 ⟨rfl,hi,Y,B,s2,A,ly,j⟩;have u:ys.length<=n_:=by rw[A.length];lia
    by_cases c:i<ds.length
    .have ed:ds.drop i=ds[i]::ds.drop (i+1):=Js c;rw[ed]at j;refine .inr ⟨it.go i Y H2 s2.ff s2.fh c,u,λo H'=>(i+1<=ds.length/\∃Y B,B2 F1 H1 Y H'/\ay K Y B o/\B.length<=i+1 /\
      (match aW p ft fe (gS ix ρ) (ds.drop (i+1))with
       |.ok I=>aW p ft fe (gS ix ρ) ds=.ok (B++I)|.error e=>W.p e F H)),λo H' n=>⟨ds.length-(i+1),ac,rfl,n⟩,λx H' y=>?_⟩
     obtain⟨P,g,X⟩:=it.yl i Y H2 x H' ds[i] s2.ff s2.fh ad y;have r3:fQ K P (Lake.inS ix σ) (gS ix ρ):=(r.mono (s1.trans (s2.trans g)).ff).inS ix;have t:B2 F H P H':=s1.trans (s2.trans g);rw[aW]at j;cases z:dS p ds[i] (gS ix ρ)with
     |error e=>rw[z]at j;have:=nJ z;subst this;exact(W.ns j).elim|ok k=>
      rw[z]at j;refine gP_run r3 g.fh X z λR r4=>?_;have U:match ((ft k).bind λb=>if b=e_ then(fe k).bind λy=>(aW p ft fe (gS ix ρ) (ds.drop (i+1))).bind λr=>.ok (y::r)else aW p ft fe (gS ix ρ) (ds.drop (i+1)))with
       |.ok I=>aW p ft fe (gS ix ρ) ds=.ok (B++I)|.error e=>W.p e F H:=j
      refine gT r4 g.fh (λe C=>by rw[C]at U;exact W.mono U t) λb D F5 H5 l=>?_;rw[D]at U;cases b with
      |false=>
       have S:match aW p ft fe (gS ix ρ) (ds.drop (i+1))with
        |.ok I=>aW p ft fe (gS ix ρ) ds=.ok (B++I)|.error e=>W.p e F H:=U
       exact⟨c,F5,B,s2.trans (g.trans l),A.mono (g.trans l).ff,ac,S⟩
      |true=>
       have S:match ((fe k).bind λy=>(aW p ft fe (gS ix ρ) (ds.drop (i+1))).bind λr=>.ok (y::r))with
        |.ok I=>aW p ft fe (gS ix ρ) ds=.ok (B++I)|.error e=>W.p e F H:=U
       refine aD (r4.mono l.ff) l.fh (λe C=>by rw[C]at S;exact W.mono S (t.trans l)) λd Z v F6 H6 G T=>?_;rw[Z]at S;refine⟨c,F6,B++[d],s2.trans (g.trans (l.trans G)),ay.append (A.mono (g.trans (l.trans G)).ff) ⟨v,[],rfl,T,rfl⟩,by simp;lia,?_⟩
       have f:match ((aW p ft fe (gS ix ρ) (ds.drop (i+1))).bind λr=>.ok (d::r):M be)with
        |.ok I=>aW p ft fe (gS ix ρ) ds=.ok (B++I)|.error e=>W.p e F H:=S
       cases O:aW p ft fe (gS ix ρ) (ds.drop (i+1))with
       |ok I=>rw[O]at f;show _=Jp ((B++[d])++I);rw[IG];exact f|error x=>rw[O]at f;exact f
    .have:i=ds.length:=ac
     subst this;rw[M4]at j;have w:aW p ft fe (gS ix ρ) ds=.ok (B++[]):=j;rw[J1]at w;rw[w]at q;refine .inl ⟨it.st Y H2 s2.ff s2.fh,u,λa E=>?_⟩;have st:B2 F H Y H2:=s1.trans s2;exact q (.ref a) Y _ (st.trans (B2.grow s2.fh E)) ⟨a,ys,rfl,aq,s2.fh.free E,st.hh.free E,A⟩
  .rw[q_ L]at q;exact(W.ns q).elim
end
set_option genInjectivity true in
inductive B4 where
 |nx (ρ:ab)|rt (d:A')|bk (ρ:ab)|ct (ρ:ab)
abbrev b0:=ab->M B4
variable{g2:b0}
structure Rep(K:Pn)(F0 H0 FB:Hp)(O:bi)(F H:Hp)(σ:St)(ρ:ab):Prop where
 st:B2 F0 H0 F H
 fb:aM FB F
 len:ρ.length=σ.length
 fz:∀(i:Nat) (d:A'),ρ[i]?=a_ (a_ d)->i∉O->AtI (λv=>σ[i]?=a_ (a_ v)) (bh K F d)
 ow:∀(i:Nat) (d:A'),ρ[i]?=a_ (a_ d)->i∈O->AtI (λv=>σ[i]?=a_ (a_ v)) (oE K F H0 H d)
 ap:∀(i j:Nat) (d e:A') (a:h_),i∈O->j∈O->(ρ[i]?=a_ (a_ d)/\isO d=e_)->(ρ[j]?=a_ (a_ e)/\isO e=e_)->σ[i]?=a_ (a_ (.ref a))->σ[j]?=a_ (a_ (.ref a))->i=j
def oF(O O2:bi)(σ:St)(ρ:ab)(b:h_):Prop:=∃(i:Nat) (d:A'),i∈O/\i∉O2/\isO d=e_/\ρ[i]?=a_ (a_ d)/\σ[i]?=a_ (a_ (.ref b))
open Classical in
noncomputable def plus(F H:Hp)(A:Addr->Prop):Hp:=λb=>if A b then H b else F b
open Classical in
noncomputable def minus(F:Hp)(A:Addr->Prop):Hp:=λb=>if A b then none else F b
theorem gU{A:h_->Prop}(h:A b):plus F H A b=H b:=by simp_all[plus]
theorem dh{A:h_->Prop}(h:¬A b):plus F H A b=F b:=by simp_all[plus]
theorem BY{A:h_->Prop}(h:A b):minus F A b=d_:=by simp_all[minus]
theorem j5{A:h_->Prop}(h:¬A b):minus F A b=F b:=by simp_all[minus]
theorem Rep.own(r:Rep K F0 H0 FB O F H σ ρ)(h:oF O O2 σ ρ b):F b=d_/\H0 b=d_/\∃o,H b=a_ o/\isMu o=e_:=by
 obtain⟨i,d,hi,_,B,e1,e2⟩:=h;obtain⟨v,e3,q⟩:=r.ow i _ e1 hi;rw[e2]at e3;obtain⟨a,o,e,p,m,f,z⟩:=q.top B
 simp_all
theorem Rep.mi(r:Rep K F0 H0 FB O F H σ ρ):aM F (plus F H (oF O O2 σ ρ)):=λb o h=>by
 by_cases B:oF O O2 σ ρ b
 .rw[(r.own B).1]at h;cases h
 simp_all[dh]
theorem Rep.fg(r:Rep K F0 H0 FB O F H σ ρ):aM (plus F H (oF O O2 σ ρ)) H:=λb o h=>by
 by_cases B:oF O O2 σ ρ b
 .simp_all[gU]
 .rw[dh B]at h;exact r.st.fh b o h
theorem Rep.freeze(r:Rep K F0 H0 FB O F H σ ρ)(I:∀i∈O2,i∈O):Rep K F0 H0 FB O2 (plus F H (oF O O2 σ ρ)) H σ ρ where
 st:=⟨r.st.ff.trans r.mi,r.st.hh,r.fg,λb o h=>by
  by_cases c:oF O O2 σ ρ b
  .exact .inr (r.own c).2.1
  .rw[dh c]at h;exact r.st.nw b o h⟩
 fb:=r.fb.trans r.mi
 len:=r.len
 fz:=λi d e hi=>by
  by_cases S:i∈O
  .obtain⟨v,e3,q⟩:=r.ow i d e S;refine⟨v,e3,?_⟩
   cases B:isO d with
   |true=>obtain⟨a,_,rfl,_⟩:=q.top B;exact q.give B r.mi (gU ⟨i,d,S,hi,B,e,e3⟩)
   |false=>rw[oE.non B]at q;exact q.mono r.mi
  .obtain⟨v,e3,q⟩:=r.fz i d e S;exact⟨v,e3,q.mono r.mi⟩
 ow:=λi d e hi=>by
  obtain⟨v,e3,q⟩:=r.ow i d e (I i hi);refine⟨v,e3,?_⟩
  cases B:isO d with
  |true=>
   obtain⟨a,o,rfl,p,_,f,z⟩:=q.top B;refine q.re B r.mi ?_ λ_ h=>h;have:¬oF O O2 σ ρ a:=λ⟨j,k,U,g,Y,f1,f2⟩=>by
    have:=r.ap i j d k a (I i hi) U ⟨e,B⟩ ⟨f1,Y⟩ e3 f2
    simp_all
   simp_all[dh]
  |false=>rw[oE.non B]at q ⊢;exact q.mono r.mi
 ap:=λi j d e a hi U=>r.ap i j d e a (I i hi) (I j U)
def Rep.repE(r:Rep K F0 H0 FB [] F H σ ρ):fQ K F σ ρ:=⟨r.len,λi d e=>r.fz i d e ad⟩
def Rep.jQ(r:Rep K F0 H0 FB O F H σ ρ):fQ K (plus F H (oF O [] σ ρ)) σ ρ:=(r.freeze ad).repE
noncomputable def erase:bi->ab->ab
 |[],ρ=>ρ|i::is,ρ=>erase is (ρ.set i d_)
theorem hV:∀(O:bi) (ρ:ab),(erase O ρ).length=ρ.length
 |[],_=>rfl|i::is,ρ=>by rw[erase,hV,Ii]
theorem yF:∀(O:bi) (ρ:ab) (i:Nat) (d:A'),(erase O ρ)[i]?=a_ (a_ d)->ρ[i]?=a_ (a_ d)/\i∉O
 |[],_,_,_,h=>⟨h,ad⟩|j::is,ρ,i,d,h=>by
  obtain⟨h1,I⟩:=yF is _ i d h;by_cases e:j=i
  .subst e;have B:=by
    have:=(oe.mp h1).1;simpa using this
   rw[t_ B]at h1;cases h1
  .rw[o_ e]at h1;exact⟨h1,by simp[I];lia⟩
def Rep.l9(r:Rep K F0 H0 FB O F H σ ρ):fQ K F σ (erase O ρ):=
 ⟨by rw[hV,r.len],λi d e=>let ⟨h1,B⟩:=yF O ρ i d e;r.fz i d h1 B⟩
theorem Rep.step(r:Rep K F0 H0 FB O F H σ ρ)(s:B2 F H F1 H1):Rep K F0 H0 FB O F1 H1 σ ρ where
 st:=r.st.trans s
 fb:=r.fb.trans s.ff
 len:=r.len
 fz:=λi d e hi=>let ⟨v,e3,q⟩:=r.fz i d e hi;⟨v,e3,q.mono s.ff⟩
 ow:=λi d e hi=>by
  obtain⟨v,e3,q⟩:=r.ow i d e hi;refine⟨v,e3,?_⟩
  cases B:isO d with
  |true=>
   obtain⟨a,u,rfl,p,_,f,z⟩:=q.top B;refine q.re B s.ff ?_ (s.hh a);cases e1:F1 a with
   |none=>rfl|some o=>
    rcases s.nw a o e1 with h|h
    .simp_all
    simp_all
  |false=>rw[oE.non B]at q ⊢;exact q.mono s.ff
 ap:=r.ap
theorem Rep.gw(r:Rep K F0 H0 FB O F H σ ρ)(s:B2 (plus F H (oF O [] σ ρ)) H F1 H1):Rep K F0 H0 FB O (minus F1 (oF O [] σ ρ)) H1 σ ρ:=by
 refine r.step ⟨λb o h=>?_,s.hh,λb o h=>?_,λb o h=>?_⟩
 .by_cases B:oF O [] σ ρ b
  .rw[(r.own B).1]at h;cases h
  .rw[j5 B];exact s.ff b o (by simp_all[dh])
 .by_cases B:oF O [] σ ρ b
  .simp_all[BY]
  .rw[j5 B]at h;exact s.fh b o h
 .by_cases B:oF O [] σ ρ b
  .simp_all[BY]
  .rw[j5 B]at h;rcases s.nw b o h with z|z
   .simp_all[dh]
   simp_all
theorem Rep.qR(r:Rep K F0 H0 FB O F H σ ρ)(s:B2 (plus F H (oF O [] σ ρ)) H F1 H1)(a:h_)(xs:bm)(h:SqT K F1 a xs):SqT K (minus F1 (oF O [] σ ρ)) a xs:=by
 have key:∀{b:h_} {o:HO},F1 b=a_ o->isMu o=cm->minus F1 (oF O [] σ ρ) b=a_ o:=λ{b o} h n=>by
  by_cases B:oF O [] σ ρ b
  .obtain⟨_,_,u,e,m⟩:=r.own B;have:=s.ff b u (by simp_all[gU])
   simp_all
  simp_all[j5]
 rcases h with(h|⟨o,h⟩)|h
 .exact .inl (.inl (key h rfl))
 .exact .inl (.inr ⟨o,key h rfl⟩)
 .exact .inr h
theorem Rep.set{d:A'}{v:V}(r:Rep K F0 H0 FB O F H σ ρ)(q:bh K F d v)(i:Nat):Rep K F0 H0 FB (O.filter (· != i)) F H (σ.set i (a_ v)) (ρ.set i (a_ d)) where
 st:=r.st
 fb:=r.fb
 len:=by rw[Ii,Ii,r.len]
 fz:=λj e h I=>by
  by_cases B:i=j
  .subst B;have hi:=by
    have:=(oe.mp h).1;simpa using this
   rw[t_ hi]at h;cases h;exact⟨v,by rw[t_ (by exact r.len▸hi)],q⟩
  .rw[o_ B]at h;rw[o_ B];exact r.fz j e h λz=>I (Iv.mpr ⟨z,by simpa using IV B⟩)
 ow:=λj e h I=>by obtain⟨h1,c⟩:=Iv.mp I;rw[o_ (λz=>by simp[z]at c)]at h ⊢;exact r.ow j e h h1
 ap:=λj k ds es a I b e1 e2 e3 e4=>by obtain⟨Y,U⟩:=Iv.mp I;obtain⟨S,k2⟩:=Iv.mp b;rw[o_ (λz=>by simp[z]at U)]at e1 e3;rw[o_ (λz=>by simp[z]at k2)]at e2 e4;exact r.ap j k ds es a Y S e1 e2 e3 e4
theorem Rep.setOwn(r:Rep K F0 H0 FB O F H σ ρ)(q:oE K F H0 H d v)(o:∀a,v=.ref a->isO d=e_->¬oF O [i] σ ρ a):Rep K F0 H0 FB (i::O.filter (· != i)) F H (σ.set i (a_ v)) (ρ.set i (a_ d)) where
 st:=r.st
 fb:=r.fb
 len:=by rw[Ii,Ii,r.len]
 fz:=λj e h S=>by simp only[x_,not_or]at S;have B:i≠j:=λz=>S.1 z.symm;rw[o_ B]at h ⊢;exact r.fz j e h λz=>S.2 (Iv.mpr ⟨z,by simpa using IV B⟩)
 ow:=λj e h S=>by
  by_cases B:i=j
  .subst B;have hi:=by
    have:=(oe.mp h).1;simpa using this
   rw[t_ hi]at h;cases h;exact⟨v,by rw[t_ (by exact r.len▸hi)],q⟩
  .rw[o_ B]at h ⊢;rcases x_.mp S with z|z
   .simp_all
   .exact r.ow j e h (Iv.mp z).1
 ap:=λj k ds es a S t e1 e2 e3 e4=>by
  have key:∀{k':Nat} {U I:A'},k'∈O->k'≠i->((ρ.set i (a_ d))[i]?=a_ (a_ U)/\isO U=e_)->((ρ.set i (a_ d))[k']?=a_ (a_ I)/\isO I=e_)->(σ.set i (a_ v))[i]?=a_ (a_ (.ref a))->(σ.set i (a_ v))[k']?=a_ (a_ (.ref a))->False:=by
   intro k' U I c b f1 f2 f3 f4;have hi:=by have:=(oe.mp f1.1).1;simpa using this
   rw[t_ hi]at f1;rw[t_ (by exact r.len▸hi)]at f3;rw[o_ (IV b)]at f2 f4;have n:=by simpa using f3
   have m:=by simpa using f1.1
   exact o a n (m▸f1.2) ⟨k',I,c,a7,f2.2,f2.1,f4⟩
  rcases x_.mp S with g|g
  .grind
  .obtain⟨l,s⟩:=Iv.mp g;have B:i≠j:=λz=>by simp[z]at s
   rcases x_.mp t with Y|Y
   .subst Y;exact(key l (IV B) e2 e1 e4 e3).elim
   .obtain⟨p,k2⟩:=Iv.mp Y;have f:i≠k:=λz=>by simp[z]at k2
    rw[o_ B]at e1 e3;rw[o_ f]at e2 e4;exact r.ap j k ds es a l p e1 e2 e3 e4
theorem Rep.dT(r:Rep K F0 H0 FB O F H σ ρ)(s:B2 (plus F H (oF O [] σ ρ)) H F1 H1):aM F (minus F1 (oF O [] σ ρ)):=λb o h=>by
 by_cases B:oF O [] σ ρ b
 .rw[(r.own B).1]at h;cases h
 .rw[j5 B];exact s.ff b o (by simp_all[dh])
theorem E6(h:i∉O):O.filter (· != i)=O:=by grind[QJ]
theorem Rep.set'(r:Rep K F0 H0 FB O F H σ ρ)(q:bh K F d v)(hi:i∉O):Rep K F0 H0 FB O F H (σ.set i (a_ v)) (ρ.set i (a_ d)):=by
 have:=r.set q i
 simp_all[E6]
def Rep.base{B:Hp}(r:Rep K F0 H0 FB O F H σ ρ)(s:aM B FB):Rep K F0 H0 B O F H σ ρ:=⟨r.st,s.trans r.fb,r.len,r.fz,r.ow,r.ap⟩
theorem Rep.wU{m:A'}{u:HO}(r:Rep K F0 H0 FB O F H σ ρ)(hi:i∈O)(e1:ρ[i]?=a_ (a_ d))(n:isO d=e_)(e2:σ[i]?=a_ (a_ (.ref a)))(q:F a=d_->H0 a=d_->oE K F H0 (upd H a u) m (.ref a)):Rep K F0 H0 FB O F (upd H a u) σ (ρ.set i (a_ m)):=by
 have U:=r.own (O2:=[]) ⟨i,d,hi,ad,n,e1,e2⟩;refine⟨⟨r.st.ff,λb o h=>?_,λb o h=>?_,r.st.nw⟩,r.fb,by rw[Ii,r.len],λj e h I=>?_,λj e h I=>?_,λj k es fs b I t f1 f2 f3 f4=>?_⟩
 .rw[av (aL h U.2.1)];exact r.st.hh b o h
 .rw[av (aL h U.1)];exact r.st.fh b o h
 .have B:i≠j:=λz=>I (z▸hi);rw[o_ B]at h;exact r.fz j e h I
 .by_cases B:i=j
  .subst B;rw[t_ ((oe.mp e1).1)]at h;cases h;exact⟨.ref a,e2,q U.1 U.2.1⟩
  .rw[o_ B]at h;obtain⟨v,e3,z⟩:=r.ow j e h I;refine⟨v,e3,?_⟩
   cases Y:isO e with
   |true=>
    obtain⟨b,o,rfl,p,_,f,_⟩:=z.top Y;have c:b≠a:=λz=>by subst z;exact B (r.ap i j d e b hi I ⟨e1,n⟩ ⟨h,Y⟩ e2 e3)
    exact z.re Y (aM.refl _) f λo h=>by rw[av c];exact h
   |false=>simp_all[oE.non]
 .have S:∀{j:Nat} {e:A'},((ρ.set i (a_ m))[j]?=a_ (a_ e)/\isO e=e_)->∃s,ρ[j]?=a_ (a_ s)/\isO s=e_:=λ{j e} f=>by
   grind[o_]
  obtain⟨l,w⟩:=S f1;obtain⟨g,g2⟩:=S f2;exact r.ap j k l g b I t w g2 f3 f4
def Rep.write{I:be}{B:bm}(r:Rep K F0 H0 FB O F H σ ρ)(hi:i∈O)(e1:ρ[i]?=a_ (a_ (.lst ds)))(e2:σ[i]?=a_ (a_ (.ref a)))(q:ay K F I B):Rep K F0 H0 FB O F (upd H a (.lst B)) σ (ρ.set i (a_ (.lst I))):=
 r.wU hi e1 rfl e2 λf z=>⟨a,B,rfl,aq,f,z,q⟩
noncomputable def Pat.names:Pat->bi
 |.nm i=>[i]|.tp is=>is
theorem uz{R:St->Hp->Prop}:∀{is:bi} {ds:be} {vs:bm} {σ:St} {ρ:ab},Rep K F0 H0 FB O F H σ ρ->(∀i∈is,i∉O)->ay K F ds vs->ds.length=is.length->(∀B,Rep K F0 H0 FB O F H B (mJ is ds ρ)->R B H)->iw is vs σ H R
 |[],[],_,σ,ρ,r,_,q,_,h=>⟨q,h σ r⟩|[],_::_,_,_,_,_,_,_,e,_=>by simp at e|_::_,[],_,_,_,_,_,_,e,_=>by simp at e|i::is,d::ds,_,σ,ρ,r,n,⟨v,vs,e,q,t⟩,l,h=>⟨v,vs,e,uz (r.set' q (n i ad)) (λj I=>n j (by simp[I])) t a7 h⟩
theorem gP_rep{R:St->Hp->Prop}{p:Pat}(r:Rep K F0 H0 FB O F H σ ρ)(n:∀i∈p.names,i∉O)(q:bh K F d v)(e:dS p d ρ=.ok ρ')(h:∀B,Rep K F0 H0 FB O F H B ρ'->R B H):gP K p v σ H R:=by
 cases p with
 |nm i=>have:=KI e;subst this;exact h _ (r.set' q (n i (by simp[Pat.names])))|tp is=>
  cases d with
  |tup ds=>
   have S:(if ds.length=is.length then Jp _ else K6 Err.stuck)=Jp ρ':=e;by_cases I:ds.length=is.length
   .rw[p_ I]at S;have:=KI S;subst this;obtain⟨a,xs,ev,t,z⟩:=q;exact⟨a,xs,ev,r.st.fh.tup t,by rw[z.length,I],uz r n z I h⟩
   simp_all
  |_=>cases e
def eV(K:Pn)(W:bY)(ro:Bool)(F0 H0 FB:Hp)(OL O':bi)(D:Ends)(r:M B4):Prop:=match r with
 |.ok (.nx ρ)=>∀σ F H,Rep K F0 H0 FB O' F H σ ρ->D.nx σ H|.ok (.rt d)=>∀v F H,B2 F0 H0 F H->Val K ro F H0 H d v->D.rt v H|.ok (.bk ρ)=>∀σ F H,Rep K F0 H0 FB OL F H σ ρ->D.bk σ H|.ok (.ct ρ)=>∀σ F H,Rep K F0 H0 FB OL F H σ ρ->D.ct σ H|.error e=>W.p e F0 H0
def tS(K:Pn)(W:bY)(ro:Bool)(F0 H0:Hp)(OL O O':bi)(g:b0):TS:=λD σ H=>∃FB F ρ,Rep K F0 H0 FB O F H σ ρ/\eV K W ro F0 H0 FB OL O' D (g ρ)
noncomputable def bJ:b0:=λρ=>.ok (.nx ρ)
noncomputable def aO(g h:b0):b0:=λρ=>(g ρ).bind λfl=>match fl with
 |.nx ρ'=>h ρ'|fl=>.ok fl
noncomputable def sIf(ft:cd)(g h:b0):b0:=λρ=>(ft ρ).bind λb=>if b=e_ then g ρ else h ρ
def aI(O:bi)(i:Nat)(f:b6):b0:=λρ=>(f (erase O ρ)).bind λd=>.ok (.nx (ρ.set i (a_ d)))
def xy(O:bi)(p:Pat)(f:b6):b0:=λρ=>(f (erase O ρ)).bind λd=>(dS p d ρ).bind λρ'=>.ok (.nx ρ')
noncomputable def lK(ρ:ab)(i:Nat):M be:=match ρ[i]? with
 |some (a_ (.lst ds))=>.ok ds|_=>.error .stuck
noncomputable def put(ρ:ab)(i:Nat)(ds:be):M B4:=.ok (.nx (ρ.set i (a_ (.lst ds))))
def kr(O:bi)(i:Nat)(f:b6):b0:=λρ=>(lK ρ i).bind λds=>(f (erase O ρ)).bind λd=>if ds.length<n_ then put ρ i (ds++[d])else .error .stuck
noncomputable def asI:A'->M Int
 |.int i=>.ok i|_=>.error .stuck
def Dl(i:Nat)(fi f:b6):b0:=λρ=>(f ρ).bind λd=>(lK ρ i).bind λds=>(fi ρ).bind λk=>(asI k).bind λk=>if lM d=e_ then(match ixN ds.length k with
 |some j=>put ρ i (ds.set j d)|none=>.error .stuck)else .error .stuck
noncomputable def cu(f:b6):b0:=λρ=>(f ρ).bind λd=>.ok (.rt d)
def ee(p:Pat)(g:b0):be->b0
 |[],ρ=>.ok (.nx ρ)|d::ds,ρ=>(dS p d ρ).bind λI=>(g I).bind λfl=>match fl with
  |.nx B=>ee p g ds B|.ct B=>ee p g ds B|.bk B=>.ok (.nx B)|.rt d=>.ok (.rt d)
def jk(O:bi)(fi:ce)(p:Pat)(g:b0):b0:=λρ=>(fi (erase O ρ)).bind λds=>ee p g ds ρ
noncomputable def mE(ft:cd)(g:b0):Nat->b0
 |0,_=>.error .stuck|n+1,ρ=>(ft ρ).bind λb=>if b=e_ then(g ρ).bind λfl=>match fl with
  |.nx B=>mE ft g n B|.ct B=>mE ft g n B|.bk B=>.ok (.nx B)|.rt d=>.ok (.rt d)else .ok (.nx ρ)
section
variable{W:bY}{own:Bool}{D:Ends}{h:b0}{f fi:b6}
def eV.err{x:M B4}{e:Err}(p:eV K W ro F0 H0 FB OL O' D x)(h:x=.error e):W.p e F0 H0:=by rw[h]at p;exact p
def eV.i7{x:M B4}{e:Err}(p:eV K W ro F0 H0 FB OL O' D x)(s:B2 F0 H0 F H)(h:x=.error e):W.p e F H:=W.mono (p.err h) s
theorem eV.stuck{x:M B4}{P:Prop}(p:eV K W ro F0 H0 FB OL O' D x)(h:x=.error .stuck):P:=(W.ns (p.err h)).elim
noncomputable def aft(own:Bool)(i:Nat)(O:bi):bi:=if own=e_ then i::O.filter (· != i)else O.filter (· != i)
theorem Rep.bindV(r:Rep K F0 H0 FB O F H σ ρ)(q:Val K own F H2 H d v)(B:aM H0 H2)(I:∀a,oF O [] σ ρ a->∃o,H2 a=a_ o):Rep K F0 H0 FB (aft own i O) F H (σ.set i (a_ v)) (ρ.set i (a_ d)):=by
 cases own with
 |false=>exact r.set q i|true=>
  refine r.setOwn (oE.back B q) λa g S z=>?_;obtain⟨b,_,e,_,_,_,n⟩:=oE.top S q;obtain⟨j,es,h1,B,c,Y,U⟩:=z;obtain⟨o,f⟩:=I a ⟨j,es,h1,ad,c,Y,U⟩
  simp_all
def Ft(t:tS K W ro F0 H0 OL O (aft own i O) (aI O i f) D σ H):zW (tD K W own f) (gm i) D σ H:=by obtain⟨FB,F,ρ,r,p⟩:=t;refine aD r.l9 r.st.fh (λe B=>p.i7 r.st (by unfold aI;rw[B];rfl)) λd I v F1 H1 s1 q=>?_;simp[aI,I]at p;exact p _ F1 H1 ((r.step s1).bindV q r.st.hh λa S=>let ⟨_,_,_,e,_⟩:=r.own S;⟨_,e⟩)
def lu(h:lK ρ i=.ok ds):ρ[i]?=a_ (a_ (.lst ds)):=by
 unfold lK at h;split at h
 .cases h;assumption
 .cases h
def qU{e:Err}(h:lK ρ i=.error e):e=.stuck:=by
 unfold lK at h;split at h
 .cases h
 .cases h;rfl
def Rep.Gg(r:Rep K F0 H0 FB O F H σ ρ)(hi:i∈O)(e:ρ[i]?=a_ (a_ (.lst ds))):∃a xs,σ[i]?=a_ (a_ (.ref a))/\H a=a_ (.lst xs)/\ay K F ds xs:=by obtain⟨v,e3,a,xs,rfl,p,_,_,t⟩:=r.ow i _ e hi;exact⟨a,xs,e3,p,t⟩
def tApp(K:Pn)(i:Nat)(te:TE):TS:=tDrop (tBM K "list" Fz (oY i) (EW te tNil))
def rs_setI(hi:i∈O)(t:tS K W ro F0 H0 OL O O (Dl i fi f) D σ H):zW (tD K W cm f) (gSub (oY i) (tD K W cm fi) rSetL) D σ H:=by
 obtain⟨FB,F,ρ,r,p⟩:=t;refine aD r.jQ r.fg (λe Y=>p.i7 (r.freeze ad).st (by unfold Dl;rw[Y];rfl)) λd g v F1 H1 s1 q=>?_;rw[Dl,g]at p;cases I:lK ρ i with
 |error e=>have:=qU I;subst this;exact p.stuck (by rw[I];rfl)|ok ds=>
  rw[I]at p;have B:=r.gw s1;obtain⟨a,xs,e2,h,z⟩:=B.Gg hi (lu I);refine⟨.ref a,e2,(aD B.jQ B.fg (λe Y=>p.i7 (B.freeze ad).st (by rw[Y];rfl)) λk c w l H2 s2 q2=>?_)⟩
  rw[c]at p;cases k with
  |int k=>
   have p:eV K W ro F0 H0 FB OL O D (if lM d=e_ then(match ixN ds.length k with
    |some j=>put ρ i _|none=>.error .stuck)else .error .stuck):=p
   by_cases U:lM d=e_
   .rw[p_ U]at p;cases S:ixN ds.length k with
    |none=>rw[S]at p;exact p.stuck rfl|some j=>
     rw[S]at p;refine⟨a,xs,k,j,rfl,q2,s2.hh _ _ h,by exact z.length▸S,?_⟩
     have b:=bh.flat (r.qR s1) U q;exact p σ _ _ ((B.gw s2).write hi (lu I) e2 (ay.set (b.mono (B.dT s2)) j (z.mono (B.dT s2))))
   .rw[q_ U]at p;exact p.stuck rfl
  |_=>exact p.stuck rfl
end
noncomputable def stk:M α:=.error .stuck
def eY:A'->cg
 |.int i,.int j=>.ok (.int (i+j))|.lst xs,.lst ys=>if xs.length+ys.length<=n_ then .ok (.lst (xs++ys))else stk
 |.tup xs,.tup ys=>if xs.length+ys.length<=n_ then .ok (.tup (xs++ys))else stk
 |_,_=>stk
def Ep:A'->cg
 |.int i,.int j=>.ok (.int (i-j))|_,_=>stk
noncomputable def dD(i:Int):Bool:=m_ (-(2^64)<i)&&m_ (i<2^64)
def pz:A'->cg
 |.int i,.int j=>if (dD i||dD j)=e_ then .ok (.int (i*j))else stk
 |_,_=>stk
def dI:A'->cg
 |.int i,.int j=>if (m_ (0<j)&&m_ (j<18446744073709551616))=e_ then .ok (.int (i/j))else stk
 |_,_=>stk
def ig:A'->cg
 |.int i,.int j=>if 0<j then .ok (.int (i%j))else stk
 |_,_=>stk
def powD:A'->cg
 |.int i,.int j=>if (m_ (0<=j)&&m_ (j<=1000000)&&m_ (i.natAbs<2^64))=e_ then .ok (.int (i^j.toNat))else stk
 |_,_=>stk
def As:cg
 |.int i=>.ok (.int (-i))|_=>stk
def ltD:A'->cg
 |.int i,.int j=>.ok (.bl (m_ (i<j)))|_,_=>stk
def leD:A'->cg
 |.int i,.int j=>.ok (.bl (m_ (i<=j)))|_,_=>stk
def gtD:A'->cg
 |.int i,.int j=>.ok (.bl (m_ (j<i)))|_,_=>stk
noncomputable def b2z(b:Bool):Int:=if b then 1 else 0
mutual
noncomputable def eqD:A'->A'->Bool
 |.non,.non=>e_|.bl a,.bl b=>a==b|.bl a,.int b=>b2z a==b|.int a,.bl b=>a==b2z b|.int a,.int b=>a==b|.tup xs,.tup ys=>mD xs ys|.lst xs,.lst ys=>mD xs ys|_,_=>cm
noncomputable def mD:be->be->Bool
 |[],[]=>e_|d::ds,e::es=>eqD d e&&mD ds es|_,_=>cm
end
mutual
noncomputable def C':A'->Nat->Bool
 |.tup ds,n=>(match n with
  |0=>cm|n+1=>kj ds n)
 |.lst ds,n=>(match n with
  |0=>cm|n+1=>kj ds n)
 |.ins _ _,_=>cm|.dic _,_=>cm|.dil _,_=>cm|.non,_=>e_|.bl _,_=>e_|.int _,_=>e_
noncomputable def kj:be->Nat->Bool
 |[],_=>e_|d::ds,n=>C' d n&&kj ds n
end
def eqM(a b:A'):M A':=if (C' a 40&&C' b 40)=e_ then .ok (.bl (eqD a b))else stk
def neM(a b:A'):M A':=if (C' a 40&&C' b 40)=e_ then .ok (.bl (!eqD a b))else stk
def qO(a b:A'):M A':=(jb b).bind λds=>if (C' a 40&&kj ds 40)=e_ then .ok (.bl (!ds.any λd=>eqD d a))else stk
def xZ:A'->cg
 |.non,.non=>.ok (.bl cm)|_,.non=>.ok (.bl e_)|_,_=>stk
def jl(ds:be)(i:Int):M A':=match atI ds i with
 |some d=>.ok d|none=>stk
def ixD:A'->cg
 |.lst ds,.int i=>jl ds i|.tup ds,.int i=>jl ds i|_,_=>stk
def lx:cc
 |[.lst ds]=>.ok (.int ds.length)|[.tup ds]=>.ok (.int ds.length)|_=>stk
def gv:be->M (List Bool)
 |[]=>.ok []|d::ds=>(asB d).bind λb=>(gv ds).bind λr=>.ok (b::r)
def bZ:be->M a9
 |[]=>.ok []|d::ds=>(asI d).bind λb=>(bZ ds).bind λr=>.ok (b::r)
def allD:cc
 |[.lst ds]=>(gv ds).bind λbs=>.ok (.bl (bs.all id))|_=>stk
def sumD:cc
 |[.lst ds]=>(bZ ds).bind λis=>.ok (.int is.sum)|_=>stk
def gI:cc
 |[.lst ds]=>.ok (.lst ds)|[.tup ds]=>.ok (.lst ds)|_=>stk
def eW:cc
 |[.lst ds]=>.ok (.tup ds)|[.tup ds]=>.ok (.tup ds)|_=>stk
def intD:cc
 |[.int i]=>.ok (.int i)|[.bl b]=>.ok (.int (b2z b))|_=>stk
noncomputable def iV(i j:Int):Int:=if j>i then j else i
noncomputable def BZ(i j:Int):Int:=if j<i then j else i
def maxL:a9->M A'
 |[]=>stk|i::is=>.ok (.int (is.foldl iV i))
def minL:a9->M A'
 |[]=>stk|i::is=>.ok (.int (is.foldl BZ i))
def maxD:cc
 |[.int i,.int j]=>.ok (.int (iV i j))|[.lst ds]=>(bZ ds).bind maxL|_=>stk
def minD:cc
 |[.int i,.int j]=>.ok (.int (BZ i j))|[.lst ds]=>(bZ ds).bind minL|_=>stk
def pS:cg
 |.int _=>.ok (.bl e_)|.bl _=>.ok (.bl e_)|.ins _ _=>stk|.dic _=>stk|.dil _=>stk|_=>.ok (.bl cm)
def jc:cg
 |.bl _=>.ok (.bl e_)|.ins _ _=>stk|.dic _=>stk|.dil _=>stk|_=>.ok (.bl cm)
def mU:cg
 |.lst _=>.ok (.bl e_)|.ins _ _=>stk|.dic _=>stk|.dil _=>stk|_=>.ok (.bl cm)
def fLR(fr:ce):b6:=λρ=>(fr ρ).bind bu
noncomputable def iJ:Nat->be->be
 |_,[]=>[]|k,d::ds=>.tup [.int k,d]::iJ (k+1) ds
noncomputable def itemsL:A'->M be
 |.lst ds=>.ok ds|_=>.error .stuck
def fEnum(fa:b6):ce:=λρ=>(fa ρ).bind λd=>(itemsL d).bind λds=>.ok (iJ 0 ds)
noncomputable def wR:be->be->be
 |d::ds,e::es=>.tup [d,e]::wR ds es|_,_=>[]
def bV(nN n:Nat)(g:b0)(ds:be):M A':=if ds.length=n then(g (ds.map a_++C_ (nN-ds.length) d_)).bind λfl=>match fl with
 |.nx _=>.ok .non|.rt d=>.ok d|_=>stk else stk
@[simp] theorem ai{α β:Type}(a:α)(f:α->M β):Si (Jp a:M α) f=f a:=id rfl
@[simp]def bind_er{α β:Type}(e:Err)(f:α->M β):Si (K6 e:M α) f=.error e:=id rfl
@[simp] theorem dG:∀is:a9,bZ (is.map A'.int)=.ok is
 |[]=>rfl|i::is=>by simp[bZ,asI,dG is]
@[simp] theorem Ei:∀is:List Bool,gv (is.map A'.bl)=.ok is
 |[]=>rfl|i::is=>by simp[gv,asB,Ei is]
@[simp] theorem G5(n:Nat):∀is:a9,kj (is.map A'.int) n=e_
 |[]=>by rfl|i::is=>by simp[kj,C',G5 n is]
@[simp] theorem yH:∀is B:a9,mD (is.map A'.int) (B.map A'.int)=m_ (is=B)
 |[],[]=>by rfl|[],_::_=>by rfl|_::_,[]=>by rfl|i::is,j::B=>by
  simp[mD,eqD,yH is B]
  lia
theorem iq(h:k<ds.length):jl ds (k:Int)=.ok ds[k]:=by simp_all[jl,atI,ixN]
theorem getI_int{k:Int}(I:0<=k)(h:k<is.length):jl (is.map A'.int) k=.ok (.int (is[k.toNat]'(by omega))):=by
 have B:k.toNat<(is.map A'.int).length:=by simp;lia
 have e:k=k.toNat:=ac
 have:=iq B;rw[<- e]at this;rw[this];simp
theorem iy{p:Pat}{g:b0}(P:Nat->ab->Prop):∀(ds:be) (k:Nat) (ρ:ab),P k ρ ->
  (∀(i:Nat) (d:A') (ρ:ab),ds[i]?=a_ d->P (k+i) ρ->∃I,dS p d ρ=.ok I/\∃B,(g I=.ok (.nx B)\/g I=.ok (.ct B))/\P (k+i+1) B)->∃ρ',ee p g ds ρ=.ok (.nx ρ')/\P (k+ds.length) ρ'
 |[],k,ρ,h,_=>⟨ρ,rfl,h⟩|d::ds,k,ρ,h,st=>by
  obtain⟨I,e1,B,e2,S⟩:=st 0 d ρ rfl h;obtain⟨ρ',e3,b⟩:=iy P ds _ B S λi U ρ a Y=>by have:=st (i+1) U ρ a7 ac;exact(show k+(i+1)+1=k+1+i+1 by lia)▸this
  grind[ee,ai]
theorem eK{p:Pat}{fe:b6}{ρ0:ab}(f:A'->A'):∀(ds:be),(∀d∈ds,∃ρ,dS p d ρ0=.ok ρ/\fe ρ=.ok (f d))->aW p jZ fe ρ0 ds=.ok (ds.map f)
 |[],_=>rfl|d::ds,h=>by obtain⟨ρ,e1,e2⟩:=h d ad;rw[aW,e1];simp only[ai,jZ,e2,eK f ds λx B=>h x (by simp[B])];simp
@[simp]def small_def(i:Int):dD i=(m_ (-(2^64)<i)&&m_ (i<2^64)):=id rfl
@[simp]def small_def2(i:Int):bc i=(m_ (-(2^62)<=i)&&m_ (i<2^62)):=id rfl
@[simp]def eqDs_nilR(ds:be):mD ds []=ds.isEmpty:=by cases ds<;>rfl
section
variable{fr:ab->M (List A')}{fu:cd}{g h:b0}
@[simp]def e_var0(d:A')(r:ab):ae 0 (a_ d::r)=.ok d:=id rfl
@[simp]def e_varS(i:Nat)(o:Option A')(r:ab):ae (i+1) (o::r)=ae i r:=by rfl
@[simp]def e_c(d:A'):fC d ρ=.ok d:=id rfl
@[simp]def e_1(k:cg):f1 k fa ρ=(fa ρ).bind k:=id rfl
@[simp]def e_2(k:A'->cg):f2 k fa fb ρ=(fa ρ).bind λa=>(fb ρ).bind λb=>k a b:=id rfl
@[simp]def e_nil:au ρ=.ok []:=id rfl
@[simp]def e_cons:aa fa fr ρ=(fa ρ).bind λa=>(fr ρ).bind λr=>.ok (a::r):=id rfl
@[simp]def e_L(k:cc):fL k fr ρ=(fr ρ).bind k:=id rfl
@[simp]def e_ite:fIte ft fa fb ρ=(ft ρ).bind λb=>if b=e_ then fa ρ else fb ρ:=id rfl
@[simp]def e_and:fAnd ft fu ρ=(ft ρ).bind λb=>if b=e_ then fu ρ else .ok cm:=id rfl
@[simp]def e_or:fOr ft fu ρ=(ft ρ).bind λb=>if b=e_ then .ok e_ else fu ρ:=id rfl
@[simp]def e_not:fNot ft ρ=(ft ρ).bind λb=>.ok (!b):=id rfl
@[simp]def e_B:fB fa ρ=(fa ρ).bind asB:=id rfl
@[simp]def e_andV:E8 fa fb ρ=(fa ρ).bind λa=>(asB a).bind λb=>if b=e_ then fb ρ else .ok (.bl cm):=id rfl
@[simp]def e_tru:wN fa ρ=(fa ρ).bind truD:=id rfl
@[simp]def e_chain(k k':A'->cg):iz k k' fa fb fc ρ=(fa ρ).bind λa=>(fb ρ).bind λb=>(k a b).bind λx=>(asB x).bind λz=>if z=e_ then(fc ρ).bind λc=>k' b c else .ok (.bl cm):=id rfl
@[simp]def e_it:fIt fa ρ=(fa ρ).bind jb:=id rfl
@[simp]def e_rng(k:be->M be):lE k fr ρ=(fr ρ).bind k:=id rfl
@[simp]def e_comp(fi:ce)(ix:List (Option Nat))(p:Pat):bB fi ix p ft fa ρ=(fi ρ).bind λds=>if ds.length<=n_ then(aW p ft fa (gS ix ρ) ds).bind λr=>.ok (.lst r)else .error .stuck:=id rfl
@[simp]def e_asB(b:Bool):asB (.bl b)=.ok b:=id rfl
@[simp]def e_asI(b:Int):asI (.int b)=.ok b:=id rfl
@[simp]def e_itemsL(ds:be):jb (.lst ds)=.ok ds:=id rfl
@[simp]def e_itemsT(ds:be):jb (.tup ds)=.ok ds:=id rfl
@[simp]def e_truB(b:Bool):truD (.bl b)=.ok b:=id rfl
@[simp]def e_truL(ds:be):truD (.lst ds)=.ok (!ds.isEmpty):=id rfl
@[simp]def e_addI(i j:Int):eY (.int i) (.int j)=.ok (.int (i+j)):=id rfl
@[simp]def e_subI(i j:Int):Ep (.int i) (.int j)=.ok (.int (i-j)):=id rfl
@[simp]def e_negI(i:Int):As (.int i)=.ok (.int (-i)):=id rfl
@[simp]def e_ltI(i j:Int):ltD (.int i) (.int j)=.ok (.bl (m_ (i<j))):=id rfl
@[simp]def e_leI(i j:Int):leD (.int i) (.int j)=.ok (.bl (m_ (i<=j))):=id rfl
@[simp]def e_gtI(i j:Int):gtD (.int i) (.int j)=.ok (.bl (m_ (j<i))):=id rfl
@[simp]def e_ixL(ds:be)(i:Int):ixD (.lst ds) (.int i)=jl ds i:=id rfl
@[simp]def e_ixT(ds:be)(i:Int):ixD (.tup ds) (.int i)=jl ds i:=id rfl
@[simp]def e_lenL(ds:be):lx [.lst ds]=.ok (.int ds.length):=id rfl
@[simp]def e_lenT(ds:be):lx [.tup ds]=.ok (.int ds.length):=id rfl
@[simp]def e_all(ds:be):allD [.lst ds]=(gv ds).bind λbs=>.ok (.bl (bs.all id)):=id rfl
@[simp]def e_listL(ds:be):gI [.lst ds]=.ok (.lst ds):=id rfl
@[simp]def e_listT(ds:be):gI [.tup ds]=.ok (.lst ds):=id rfl
@[simp]def e_tupleL(ds:be):eW [.lst ds]=.ok (.tup ds):=id rfl
@[simp]def e_intB(b:Bool):intD [.bl b]=.ok (.int (b2z b)):=id rfl
@[simp]def e_max2(i j:Int):maxD [.int i,.int j]=.ok (.int (iV i j)):=id rfl
@[simp]def e_maxL(ds:be):maxD [.lst ds]=(bZ ds).bind maxL:=id rfl
@[simp]def e_isiBB(b:Bool):jc (.bl b)=.ok (.bl e_):=id rfl
@[simp]def e_isiBI(i:Int):jc (.int i)=.ok (.bl cm):=id rfl
@[simp]def e_isiII(i:Int):pS (.int i)=.ok (.bl e_):=id rfl
@[simp]def e_isiLL(ds:be):mU (.lst ds)=.ok (.bl e_):=id rfl
@[simp]def Hd(d:A'):xZ d .non=.ok (.bl (match d with|.non=>cm|_=>e_)):=by cases d<;>rfl
@[simp]def e_next:bJ ρ=.ok (.nx ρ):=id rfl
@[simp] theorem e_seq:aO g h ρ=(g ρ).bind λfl=>match fl with
 |.nx ρ'=>h ρ'|fl=>.ok fl:=id rfl
@[simp]def e_if:sIf ft g h ρ=(ft ρ).bind λb=>if b=e_ then g ρ else h ρ:=id rfl
@[simp]def e_setB(O:bi)(i:Nat):aI O i fa ρ=(fa (erase O ρ)).bind λd=>.ok (.nx (ρ.set i (a_ d))):=id rfl
@[simp]def e_ret:cu fa ρ=(fa ρ).bind λd=>.ok (.rt d):=id rfl
@[simp]def e_for(O:bi)(fi:ce)(p:Pat):jk O fi p g ρ=(fi (erase O ρ)).bind λds=>ee p g ds ρ:=id rfl
@[simp]def e_unpB(O:bi)(p:Pat):xy O p fa ρ=(fa (erase O ρ)).bind λd=>(dS p d ρ).bind λρ'=>.ok (.nx ρ'):=id rfl
@[simp]def e_appB(O:bi)(i:Nat):kr O i fa ρ=(lK ρ i).bind λds=>(fa (erase O ρ)).bind λd=>if ds.length<n_ then put ρ i (ds++[d])else .error .stuck:=id rfl
@[simp] theorem e_setI(i:Nat):Dl i fb fa ρ=(fa ρ).bind λd=>(lK ρ i).bind λds=>(fb ρ).bind λk=>(asI k).bind λk=>if lM d=e_ then(match ixN ds.length k with
 |some j=>put ρ i (ds.set j d)|none=>.error .stuck)else .error .stuck:=id rfl
@[simp]def e_put(i:Nat)(ds:be):put ρ i ds=.ok (.nx (ρ.set i (a_ (.lst ds)))):=id rfl
@[simp]def e_lst0(ds:be)(r:ab):lK (a_ (.lst ds)::r) 0=.ok ds:=id rfl
@[simp]def e_lstS(i:Nat)(o:Option A')(r:ab):lK (o::r) (i+1)=lK r i:=by rfl
@[simp]def e_er0:erase [] ρ=ρ:=id rfl
@[simp]def e_erS(i:Nat)(O:bi):erase (i::O) ρ=erase O (ρ.set i d_):=id rfl
@[simp]def yL(i:Nat)(d:A'):dS (.nm i) d ρ=.ok (ρ.set i (a_ d)):=id rfl
@[simp]def e_btp(is:bi)(ds:be):dS (.tp is) (.tup ds) ρ=if ds.length=is.length then .ok (mJ is ds ρ)else .error .stuck:=id rfl
@[simp]def e_sa0(ds:be):mJ [] ds ρ=ρ:=by rfl
@[simp]def e_saS(i:Nat)(is:bi)(d:A')(ds:be):mJ (i::is) (d::ds) ρ=mJ is ds (ρ.set i (a_ d)):=id rfl
@[simp]def e_in0:gS [] ρ=[]:=id rfl
@[simp]def e_inN(ix:List (Option Nat)):gS (d_::ix) ρ=d_::gS ix ρ:=id rfl
@[simp]def e_inS(j:Nat)(ix:List (Option Nat)):gS (a_ j::ix) ρ=(ρ[j]?).join::gS ix ρ:=id rfl
@[simp]def e_tup(ds:be):bT ds=if ds.length<=n_ then .ok (.tup ds)else .error .stuck:=id rfl
@[simp]def e_lst(ds:be):bu ds=if ds.length<=n_ then .ok (.lst ds)else .error .stuck:=id rfl
@[simp]def e_line:n_=16777216:=LH
@[simp] theorem e_run(a b:Nat)(ds:be):bV a b g ds=if ds.length=b then(g (ds.map a_++C_ (a-ds.length) d_)).bind λfl=>match fl with
 |.nx _=>.ok .non|.rt d=>.ok d|_=>stk else stk:=id rfl
@[simp] theorem yJ{j:Int}(h:bc j=e_):oH [.int j]=.ok (aG 0 j.toNat):=by show(if bc j=e_ then _ else _)=_;lia
@[simp] theorem e_rng2{i j:Int}(h:bc i=e_)(B:bc j=e_):BE [.int i,.int j]=.ok (aG i (j-i).toNat):=by show(if (bc i&&bc j)=e_ then _ else _)=_;lia
@[simp] theorem lO{i j:Int}(h:0<j):ig (.int i) (.int j)=.ok (.int (i%j)):=by simp[ig,h]
@[simp] theorem ng{i j:Int}(h:0<j)(B:j<18446744073709551616):dI (.int i) (.int j)=.ok (.int (i/j)):=by simp_all[dI]
@[simp] theorem e_mulR{i j:Int}(h:dD j=e_):pz (.int i) (.int j)=.ok (.int (i*j)):=by show(if (dD i||dD j)=e_ then _ else _)=_;lia
@[simp] theorem e_mulL{i j:Int}(h:dD i=e_):pz (.int i) (.int j)=.ok (.int (i*j)):=by show(if (dD i||dD j)=e_ then _ else _)=_;lia
end
section
variable{W:bY}{own:Bool}{a b c:Jj}{es rest:List Jj}{p:Pb}{f:b6}{fr:ab->M (List A')}{fu:cd}
def PE.imp{t t':TE}(h:PE X e t)(q:∀σ H Q,t' σ H Q->t σ H Q):PE X e t':=λB1 s σ H Q I z=>h B1 s σ H Q I (q σ H Q z)
def PT.imp{t t':TT}(h:PT X e t)(q:∀σ H Q,t' σ H Q->t σ H Q):PT X e t':=λB1 s σ H Q I z=>h B1 s σ H Q I (q σ H Q z)
def PW.imp{t t':TT}(h:PW X e t)(q:∀σ H Q,t' σ H Q->t σ H Q):PW X e t':=λB B1 s σ H Q I z=>h B B1 s σ H Q I (q σ H Q z)
def PA.imp{t t':TA}(h:PA X es t)(q:∀σ H Q,t' σ H Q->t σ H Q):PA X es t':=λps B1 s σ H Q I z=>h ps B1 s σ H Q I (q σ H Q z)
def PI.imp{t t':TI}(h:PI X tg e t)(q:∀σ H Q,t' σ H Q->t σ H Q):PI X tg e t':=λB1 s σ H Q I z=>h B1 s σ H Q I (q σ H Q z)
def PS.imp{st:Jl}{t t':TS}(h:PS X st t)(q:∀D σ H,t' D σ H->t D σ H):PS X st t':=λB1 s σ H D I z=>h B1 s σ H D I (q D σ H z)
def PSs.imp{st:List Jl}{t t':TS}(h:PSs X st t)(q:∀D σ H,t' D σ H->t D σ H):PSs X st t':=λB1 s σ H D I z=>h B1 s σ H D I (q D σ H z)
abbrev DE(K:Pn)(W:bY)(own:Bool)(X:Cx)(e:Jj)(f:b6):Prop:=PE X e (tD K W own f)
abbrev DT(K:Pn)(W:bY)(X:Cx)(e:Jj)(f:cd):Prop:=PT X e (tDT K W f)
abbrev DW(K:Pn)(W:bY)(X:Cx)(e:Jj)(f:cd):Prop:=PW X e (tDT K W f)
abbrev DA(K:Pn)(W:bY)(X:Cx)(es:List Jj)(f:ce):Prop:=PA X es (tDA K W f)
abbrev DI(K:Pn)(W:bY)(X:Cx)(tg e:Jj)(f:ce):Prop:=PI X tg e (iD K W f)
abbrev DG(K:Pn)(X:Cx)(tg:Jj)(p:Pat):Prop:=PG X tg (gP K p)
abbrev DS(K:Pn)(W:bY)(ro:Bool)(X:Cx)(OL O O':bi)(st:Jl)(g:b0):Prop:=∀F0 H0:Hp,PS X st (tS K W ro F0 H0 OL O O' g)
abbrev DSs(K:Pn)(W:bY)(ro:Bool)(X:Cx)(OL O O':bi)(st:List Jl)(g:b0):Prop:=∀F0 H0:Hp,PSs X st (tS K W ro F0 H0 OL O O' g)
abbrev Op2(K:Pn)(W:bY)(own:Bool)(X:Cx)(o:g_->g_->Nl g_)(g:A'->cg):Prop:=OpR X o (rD2 K W own g)
abbrev kZ(K:Pn)(W:bY)(own:Bool)(X:Cx)(v:g_)(g:cc):Prop:=fS X v (rDL K W own g)
def ag(i:Nat)(U: ~~~(X.N[i]?=a_ x))(I:autoParam (Vis X.env.scope x) Jq3)(S:((x==("__debug__":IL))=cm)⁻¹)(B:((x==("__classdict__":IL))=cm)⁻¹):DE K W cm X (.Name x pos) (ae i):=(pv i U I S B).imp λ_ H _=>by
    intro h;obtain⟨F,ρ,r,s,p⟩:=h;unfold ae at p
    match e:ρ[i]? with
    |some (a_ d)=>rw[e]at p;obtain⟨v,e1,q⟩:=r.sl i d e;exact⟨v,e1,p v F H (B2.refl s) q⟩
    |some d_=>rw[e]at p;exact(W.ns p).elim|none=>rw[e]at p;exact(W.ns p).elim
def af{i:Int}{j}:DE K W cm X (.Constant (.int i) j pos) (fC (.int i)):=pe_int.imp λ_ _ _=>rd_c λ_=>rfl
def iM{k:Bool}{j}:DE K W cm X (.Constant (.bool k) j pos) (fC (.bl k)):=pe_bl.imp λ_ _ _=>rd_c λ_=>rfl
def yQ{j}:DE K W cm X (.Constant .none j pos) (fC .non):=pe_non.imp λ_ _ _=>rd_c λ_=>rfl
def AQ{n:Int}(B:∃t,X.mg x=a_ (.int n t))(I: ~~~(Gl X x))(S:((x==("__debug__":IL))=cm)⁻¹):DE K W cm X (.Name x pos) (fC (.int n)):=(pe_gint I B S).imp λ_ _ _=>rd_c λ_=>rfl
def aj(h:DE K W e_ X e f):DE K W cm X e f:=PE.imp h λ_ _ _ ⟨F,ρ,r,s,p⟩=>⟨F,ρ,r,s,p.frz⟩
def aw{op:Operator}(B:Op2 K W own X (Ko op) g)(S:DE K W cm X a fa)(I:DE K W cm X b fb):DE K W own X (.BinOp a op b pos) (f2 g fa fb):=(pe_op B S I).imp λ_ _ _=>rd_2
def rT{op:UnaryOp}{g:cg}(B:UnR X (Sl op) (rD1 K W own g))(I:DE K W cm X a fa):DE K W own X (.UnaryOp op a pos) (f1 g fa):=(pe_un B I).imp λ_ _ _=>rd_1
def CK(B:Op2 K W cm X (IP op) g)(U:DE K W cm X a fa)(S:DE K W cm X b fb)(I:autoParam (Mo op b=cm) Jq9):DE K W cm X (.Compare a [op] [b] pos) (f2 g fa fb):=
 (pe_cmpR B U S I).imp λ_ _ _=>rd_2
def aJ(B:Op2 K W cm X (IP op) g)(U:DE K W cm X a fa)(S:DE K W cm X b fb)(I:autoParam (Mo op b=cm) Jq9):DT K W X (.Compare a [op] [b] pos) (fB (f2 g fa fb)):=
 (FH B U S I).imp λσ H Q h=>by exact rd_2 (rd_B h)
def de_chain(I:Op2 K W cm X (IP op) g)(B:Op2 K W cm X (IP op') g')(d:DE K W cm X a fa)(Y:DE K W cm X b fb)(U:DE K W cm X c fc)(S:autoParam (QN [op,op'] [b,c]=cm) Jq7):DE K W cm X (.Compare a [op,op'] [b,c] pos) (iz g g' fa fb fc):=(pe_chain I B d Y U S).imp λ_ _ _=>BI
def pV(I:Op2 K W cm X (IP op) g)(B:Op2 K W cm X (IP op') g')(d:DE K W cm X a fa)(Y:DE K W cm X b fb)(U:DE K W cm X c fc)(S:autoParam (QN [op,op'] [b,c]=cm) Jq7):DT K W X (.Compare a [op,op'] [b,c] pos) (fB (iz g g' fa fb fc)):=(pt_chain I B d Y U S).imp λσ H Q h=>by exact BI (rd_B h)
theorem m6(I:DE K W cm X a fa)(U: ~~~(X.K=K))(S:autoParam (∀B,Q6 a X.env B=(do let v <- B;NK a.pos;Ln [v] (truthy v))) Jq4):DT K W X a (wN fa):=by
 subst U;exact(pt_truth I S).imp λ_ _ H1=>by
   intro h;obtain⟨F,ρ,r,s,p⟩:=h;refine aD r s (λe S=>?_) λa I x F1 H1 s1 q1=>?_
   .simp_all[wN]
   .have z:wN fa ρ=truD a:=by unfold wN;rw[I];rfl
    rw[z]at p;cases e:truD a with
    |ok b=>rw[e]at p;exact⟨b,tru_of s1.fh q1 e,p F1 H1 s1⟩|error x=>
     rw[e]at p;have:x=.stuck:=by
      cases a with
      |ins C fs=>cases e;rfl|dic ks=>cases e;rfl|dil ks=>cases e;rfl|_=>cases e
     subst this;exact(W.ns p).elim
theorem yN(I:DT K W X a ft):DT K W X (.UnaryOp .Not a pos) (fNot ft):=(pt_not I).imp λ_ _ _=>by
  intro h;obtain⟨F,ρ,r,s,p⟩:=h;refine gT r s (λe S=>?_) λb B F1 H1 s1=>?_
  .simp_all[fNot]
  .simp[fNot,B]at p;exact p F1 H1 s1
def wd(B:DT K W X a ft):DW K W X (.BoolOp .And [a] pos) ft:=by
  intro S B1 s σ H Q I h;refine isTrue_and (B' (B B1 s σ H Q I h) λc s1 e=>?_);cases c with
  |true=>exact isTrue_and_nil e|false=>exact e
def yM(B:DT K W X a ft):DW K W X (.BoolOp .Or [a] pos) ft:=by
  intro S B1 s σ H Q I h;refine isTrue_or (B' (B B1 s σ H Q I h) λc s1 e=>?_);cases c with
  |false=>exact isTrue_or_nil e|true=>exact e
theorem CA(I:DT K W X a ft)(B:DW K W X (.BoolOp .And (b::rest) pos) fu):DW K W X (.BoolOp .And (a::b::rest) pos) (fAnd ft fu):=(pw_and I B).imp λ_ _ _=>by
  intro h;obtain⟨F,ρ,r,s,p⟩:=h;refine gT r s (λe S=>?_) λb B F1 H1 s1=>?_
  .simp_all[fAnd]
  .simp[fAnd,B]at p;cases b with
   |true=>exact Bq r s1 p|false=>exact p F1 H1 s1
theorem Hg(I:DT K W X a ft)(B:DW K W X (.BoolOp .Or (b::rest) pos) fu):DW K W X (.BoolOp .Or (a::b::rest) pos) (fOr ft fu):=(pw_or I B).imp λ_ _ _=>by
  intro h;obtain⟨F,ρ,r,s,p⟩:=h;refine gT r s (λe S=>?_) λb B F1 H1 s1=>?_
  .simp_all[fOr]
  .simp[fOr,B]at p;cases b with
   |false=>exact Bq r s1 p|true=>exact p F1 H1 s1
def de_one{op}(h:DE K W cm X a f):DE K W cm X (.BoolOp op [a] pos) f:=λB1 s σ H Q I hw=>BoolOp_one (h B1 s σ H Q I hw)
def de_and(B:DE K W cm X a fa)(S:DE K W cm X (.BoolOp .And (b::rest) pos) fb):DE K W cm X (.BoolOp .And (a::b::rest) pos) (E8 fa fb):=(pe_and B S).imp λ_ _ _=>by
  intro h;obtain⟨F,ρ,r,s,p⟩:=h;refine aD r s (λe I=>p.err (by unfold E8;rw[I];rfl)) λa B x F1 H1 s1 q1=>?_;simp[E8,B]at p;cases a with
  |bl b=>
   refine⟨b,q1,?_⟩
   cases b with
   |true=>exact⟨F1,ρ,r.mono s1.ff,s1.fh,aH.step p s1⟩|false=>exact p _ F1 H1 s1 rfl
  |_=>exact(W.ns p).elim
def de_ite(S:DT K W X c ft)(U:DE K W own X a fa)(B:DE K W own X b fb):DE K W own X (.IfExp c a b pos) (fIte ft fa fb):=(pe_ifExp S U B).imp λ_ _ _=>by
  intro h;obtain⟨F,ρ,r,s,p⟩:=h;refine gT r s (λe I=>p.err (by unfold fIte;rw[I];rfl)) λb B F1 H1 s1=>?_;simp[fIte,B]at p;cases b with
  |true=>exact⟨F1,ρ,r.mono s1.ff,s1.fh,p.step s1⟩|false=>exact⟨F1,ρ,r.mono s1.ff,s1.fh,p.step s1⟩
def bq:DA K W X [] au:=eX.imp λ_ _ _=>rd_nil
theorem bL(B:DE K W cm X e fa)(U:DA K W X es fr)(S: ~~~(k_ (e::es) X.env=(cm,Il e X.env)::k_ es X.env)):DA K W X (e::es) (aa fa fr):=(cx B U S).imp λ_ _ _=>by
  intro h;obtain⟨F,ρ,r,s,p⟩:=h;refine aD r s (λe I=>?_) λa B x F1 H1 s1 q1=>mf (r.mono s1.ff) s1.fh (λe I=>?_) λds Y xs b H2 s2 q2=>?_
  .simp_all[aa]
  .rw[aa,B,I]at p;exact W.mono p s1
  .rw[aa,B,Y]at p;exact p _ b H2 (s1.trans s2) ⟨x,xs,rfl,bh.mono s2.ff q1,q2⟩
theorem bU{S}(h:DA K W X es fr):DE K W own X (.Tuple es S pos) (fL bT fr):=(pe_tup h).imp λ_ _ _=>by
  intro h;obtain⟨F,ρ,r,s,p⟩:=rd_L h;refine⟨F,ρ,r,s,?_⟩
  cases e:fr ρ with
  |error x=>simp_all|ok ds=>
   rw[e]at p;intro vs F' H' t q;obtain⟨F1,es,s1,q1,z⟩:=p vs F' H' t q;unfold bT at z;by_cases B:es.length<=n_
   .rw[p_ B]at z;refine⟨by exact q1.length▸B,λa I=>z _ _ _ (B2.lay s1 I) ?_⟩
    have:bh K _ (.tup es) _:=⟨a,vs,rfl,SqT.of aq,q1.mono (aM.upd (s1.free I))⟩
    cases own with
    |true=>exact this|false=>exact this
   .rw[q_ B]at z;exact(W.ns z).elim
theorem aX(h:DA K W X es fr):DE K W e_ X (.List es pos) (fL bu fr):=(FV h).imp λ_ _ _=>by
  intro h;obtain⟨F,ρ,r,s,p⟩:=rd_L h;refine⟨F,ρ,r,s,?_⟩
  cases e:fr ρ with
  |error x=>simp_all|ok ds=>
   rw[e]at p;intro vs F' H' t q;obtain⟨F1,es,s1,q1,z⟩:=p vs F' H' t q;unfold bu at z;by_cases B:es.length<=n_
   .rw[p_ B]at z;exact⟨by exact q1.length▸B,λa I=>z _ F1 _ (B2.grow s1 I) ⟨a,vs,rfl,aq,s1.free I,I,q1⟩⟩
   .rw[q_ B]at z;exact(W.ns z).elim
def az{id:String}{g:cc}(c:kZ K W own X (.builtin id) g)(a:X.mg x=d_)(U:K0 x=a_ (.builtin id))(d:DA K W X (e::es) fr)(b: ~~~(Gl X x))(Y:(x≠"__name__")⁻¹)(S:((x==("__debug__":IL))=cm)⁻¹)(B: ~~~(k_ (e::es) X.env=(cm,Il e X.env)::k_ es X.env))(I: ~~~((Jy pos (k_ es X.env)).any (·.1)=cm)):DE K W own X (.Call (.Name x p) (e::es) [] pos) (fL g fr):=
 (mN c b a U d Y S B I).imp λ_ _ _=>rd_L
def aK{T:String}{g:cc}(c:kZ K W own X (.type T) g)(a:X.mg x=d_)(U:K0 x=a_ (.type T))(d:DA K W X (e::es) fr)(b: ~~~(Gl X x))(Y:(x≠"__name__")⁻¹)(S:((x==("__debug__":IL))=cm)⁻¹)(B: ~~~(k_ (e::es) X.env=(cm,Il e X.env)::k_ es X.env))(I: ~~~((Jy pos (k_ es X.env)).any (·.1)=cm)):DE K W own X (.Call (.Name x p) (e::es) [] pos) (fL g fr):=
 (qD c b a U d Y S B I).imp λ_ _ _=>rd_L
def aB(I:IxR X (rD2 K W own g))(U:DE K W cm X a fa)(S:DE K W cm X b fb)(B:autoParam (Bg b) Jq10):DE K W own X (.Subscript a b pos) (f2 g fa fb):=(pe_ix I U S B).imp λ_ _ _=>rd_2
def gK(S:X.N.Nodup)(hi: ~~~(X.N[i]?=a_ x))(B:autoParam (Loc X.env.scope x) Jq3)(I:autoParam (X.fn x=e_\/X.env.scope.names.lookup x=a_ .local) Jq3):DG K X (.Name x pos) (.nm i):=jr S hi B I
theorem bE(f:DE K W cm X e fa)(i: ~~~(X.K=K)):DI K W X tg e (fIt fa):=by
 subst i;refine PI.imp (t:=iSeq X.K (tD X.K W cm fa)) ?_ λ_ _ _=>by
   intro h;obtain⟨F,ρ,r,s,p⟩:=h;refine aD r s (λe j=>?_) λa g x F1 H1 s1 q1=>?_
   .simp_all[fIt]
   .have z:fIt fa ρ=jb a:=by unfold fIt;rw[g];rfl
    rw[z]at p;cases a with
    |lst ds=>obtain⟨b,xs,e,t,z⟩:=q1;exact⟨b,e,.inl ⟨⟨xs,s1.fh.lst t⟩,p _ F1 H1 s1 (ym t z)⟩⟩
    |tup ds=>obtain⟨b,xs,e,t,z⟩:=q1;exact⟨b,e,.inr ⟨⟨xs,s1.fh.tup t⟩,p _ F1 H1 s1 (iter_tup t z)⟩⟩
    |_=>exact(W.ns p).elim
 intro B1 s σ H R I h;refine B' (f B1 s σ H _ I h) λv s1 d=>?_;obtain⟨y,H1,B,c,q1⟩:=d;obtain⟨l,e1,q⟩:=q1;subst e1;cases c;rcases q with⟨⟨xs,S⟩,q⟩|⟨⟨xs,S⟩,q⟩
 .obtain⟨its,Y,p,hz⟩:=B.list S;refine L6 p.isList ?_;refine⟨s1.z,[s1.z],_,_,H1,rfl,B.kept (t':=s1.toks) λb o e=>c_ _ e,qf l _,⟨_,i_ _ rfl,rfl,rfl⟩,λb U=>?_,q⟩
  have e:b=s1.z:=by simpa using U
  subst e;exact B.Ew (f_ _) (B.hok.fresh (f_ _))
 .obtain⟨its,Y,p,hz⟩:=B.tuple S;refine Lm (show s1.heap.IsTuple l its.toArray from p) ?_;refine⟨s1.z,[s1.z],_,_,H1,rfl,B.kept (t':=s1.toks) λb o e=>c_ _ e,tQ l _,⟨_,i_ _ rfl,rfl,rfl⟩,λb U=>?_,q⟩
  have e:b=s1.z:=by simpa using U
  subst e;exact B.Ew (f_ _) (B.hok.fresh (f_ _))
theorem d7(S:X.mg "range"=d_)(b:DA K W X [a] fr)(U: ~~~(Gl X "range"))(I: ~~~(k_ [a] X.env=[(cm,Il a X.env)])):DI K W X tg (.Call (.Name "range" p) [a] [] pos) (lE oH fr):=(FQ U S b I).imp λ_ H R=>by
  intro h;obtain⟨F,ρ,r,s,p⟩:=h;refine mf r s (λe c=>?_) λds Y xs F1 H1 s1 q1=>?_
  .simp_all[lE]
  .simp[lE,Y]at p;cases ds with
   |nil=>exact(W.ns p).elim|cons d ds=>
    cases d with
    |int j=>
     cases ds with
     |cons _ _=>exact(W.ns p).elim|nil=>
      obtain⟨v,vs,e,q,t⟩:=q1;have p':match (if bc j=e_ then Jp (aG 0 j.toNat)else K6 Err.stuck)with
       |.ok ds=>∀J F1 H1,B2 F H F1 H1->mC K F1 J ds->R J H1|.error e=>W.p e F H:=p
      by_cases B:bc j=e_
      .rw[p_ B]at p';unfold bc at B;simp at B;exact⟨j,by rw[e,show v=.int j from q,show vs=[]from t],B.1,B.2,p' _ F1 H1 s1 ui⟩
      .rw[q_ B]at p';exact(W.ns p').elim
    |_=>exact(W.ns p).elim
theorem Hr(d:X.mg "range"=d_)(k:DA K W X [a,b] fr)(f: ~~~(Gl X "range"))(c: ~~~(k_ [a,b] X.env=[(cm,Il a X.env),(cm,Il b X.env)]))(U: ~~~(k_ [b] X.env=[(cm,Il b X.env)])):
  DI K W X tg (.Call (.Name "range" p) [a,b] [] pos) (lE BE fr):=(FP f d k c U).imp λ_ H R=>by
    intro h;obtain⟨F,ρ,r,s,p⟩:=h;refine mf r s (λe l=>?_) λds g xs F1 H1 s1 q1=>?_
    .simp_all[lE]
    .have z:lE BE fr ρ=BE ds:=by unfold lE;rw[g];rfl
     rw[z]at p;by_cases I:∃i j,ds=[.int i,.int j]
     .obtain⟨i,j,rfl⟩:=I;obtain⟨v,vs,e,q,Y,S,e2,q2,t⟩:=q1;have p':match (if (bc i&&bc j)=e_ then Jp (aG i (j-i).toNat)else K6 Err.stuck)with
       |.ok ds=>∀J F1 H1,B2 F H F1 H1->mC K F1 J ds->R J H1|.error e=>W.p e F H:=p
      by_cases B:(bc i&&bc j)=e_
      .rw[p_ B]at p';unfold bc at B;simp at B;exact⟨i,j,by rw[e,show v=.int i from q,e2,show Y=.int j from q2,show S=[]from t],⟨B.1.1,B.1.2,B.2.1,B.2.2⟩,p' _ F1 H1 s1 ui⟩
      .rw[q_ B]at p';exact(W.ns p').elim
     .have:BE ds=.error .stuck:=by
       unfold BE;split
       .exact IA ⟨_,_,rfl⟩ I
       .rfl
      rw[this]at p;exact(W.ns p).elim
variable{st:Jl}{g h:b0}
def b9:DSs K W ro X OL O O [] bJ:=λ_ _=>qz.imp λ_ σ H=>by intro t;obtain⟨FB,F,ρ,r,p⟩:=t;exact p σ F H r
def ah(h1:DS K W ro X OL O O' st g)(I:DSs K W ro X OL O' O2 sts h):DSs K W ro X OL O O2 (st::sts) (aO g h):=λF0 H0=>(bS (h1 F0 H0) (I F0 H0)).imp λ_ _ _=>by
  intro t;obtain⟨FB,F,ρ,r,p⟩:=t;refine⟨FB,F,ρ,r,?_⟩
  unfold aO at p;cases e:g ρ with
  |error x=>exact p.err (by rw[e];rfl)|ok fl=>
   rw[e]at p;cases fl with
   |nx ρ'=>exact λB F' H' r'=>⟨FB,F',ρ',r',p⟩|rt d=>exact p|bk ρ'=>exact p|ct ρ'=>exact p
def ao(h1:DS K W ro X OL O O' st g):DSs K W ro X OL O O' [st] g:=λF0 H0=>f9 (h1 F0 H0)
def cb(h1:DSs K W ro X OL O2 O' sts g)(B:(∀i∈O2,i∈O)⁻¹):DSs K W ro X OL O O' sts g:=λF0 H0=>PSs.imp (h1 F0 H0) λ_ _ _=>by intro t;obtain⟨FB,F,ρ,r,p⟩:=t;exact⟨FB,_,ρ,r.freeze B,p⟩
def cp{sa sb:List Jl}(S:DT K W X c ft)(U:DSs K W ro X OL O O' sa g)(B:DSs K W ro X OL O O' sb h):DS K W ro X OL O O' (.If c sa sb pos) (sIf ft g h):=λF0 H0=>(FL S (U F0 H0) (B F0 H0)).imp λ_ _ _=>by
  intro t;obtain⟨FB,F,ρ,r,p⟩:=t;refine gT r.jQ r.fg (λe I=>p.i7 (r.freeze ad).st (by unfold sIf;rw[I];rfl)) λb B F1 H1 s1=>?_;simp[sIf,B]at p;cases b with
  |true=>exact⟨FB,_,ρ,r.gw s1,p⟩|false=>exact⟨FB,_,ρ,r.gw s1,p⟩
def AJ(Y:X.N.Nodup)(U:DE K W own X e f)(hi: ~~~(X.N[i]?=a_ x))(B:autoParam (Loc X.env.scope x) Jq3)(I: ~~~(J4 e (a_ (.Name x pos')) pos.line X.env=JM cm))(S:autoParam (X.fn x=e_\/X.env.scope.names.lookup x=a_ .local) Jq3):
  DS K W ro X OL O (aft own i O) (.Assign [.Name x pos'] e pos) (aI O i f):=λF0 H0=>(qB Y hi B U I S).imp λ_ _ _=>Ft
def aA(B:DE K W ro X e f):DS K W ro X OL O O' (.Return (a_ e) pos) (cu f):=λF0 H0=>(xO B).imp λ_ _ _=>by intro t;obtain⟨FB,F,ρ,r,p⟩:=t;have I:=r.freeze (O2:=[]) ad;refine aD r.jQ r.fg (λe B=>p.i7 I.st (by unfold cu;rw[B];rfl)) λd S v F1 H1 s1 q=>?_;simp[cu,S]at p;exact p v F1 H1 (I.st.trans s1) (q.back r.st.hh)
theorem bG{fs:ce}{pt:Pat}(hi:DI K W X tg iter fs)(s:DG K X tg pt)(v:DSs K W ro X O O O body g)(n:(∀i∈pt.names,i∉O)⁻¹)(q:autoParam (QV (u_ X.prog X.w) X.A X.env X.xe) Jq11)(u: ~~~(X.calm=e_))(o:autoParam (∀x,Ku iter X.env x=JM x) Jq4):DS K W ro X OL O O (.For tg iter body [] pos) (jk O fs pt g):=λF0 H0=>(u4 q u hi s (v F0 H0) o).imp λD σ H=>by
    intro t;obtain⟨FB,F,ρ,r,p⟩:=t;refine⟨F,erase O ρ,r.l9,r.st.fh,?_⟩
    cases e:fs _ with
    |error x=>exact p.i7 r.st (by unfold jk;rw[e];rfl)|ok ds=>
     have z:jk O fs pt g ρ=ee pt g ds ρ:=by unfold jk;rw[e];rfl
     intro J F1 H1 s1 it;refine⟨λi m σ H=>∃F ρ,Rep K F0 H0 F1 O F H σ ρ/\i<=ds.length/\m=ds.length-i/\eV K W ro F0 H0 FB OL O D (ee pt g (ds.drop i) ρ),⟨ds.length,F1,ρ,?_,IH _,ac,a7⟩,?_⟩
     .have b:=r.step s1;exact⟨b.st,aM.refl _,b.len,b.fz,b.ow,b.ap⟩
     .rintro i m f H2 ⟨c,I,U,hi,rfl,p2⟩;by_cases a:i<ds.length
      .rw[(Js a)]at p2;refine .inr ⟨it.go i c H2 U.fb U.st.fh a,λB H'=>(∃F ρ,Rep K F0 H0 F1 O F H' B ρ/\eV K W ro F0 H0 FB OL O D _),λB H' ⟨F,ρ,r,p⟩=>⟨ds.length-(i+1),ac,F,ρ,r,a,rfl,p⟩,λx H' y=>?_⟩;obtain⟨w,k,l⟩:=it.yl i c H2 x H' ds[i] U.fb U.st.fh ad y;simp[ee]at p2;cases eb:dS pt ds[i] I with
       |error x=>have:=nJ eb;subst this;exact p2.stuck (by rw[eb];rfl)|ok Y=>
        rw[eb]at p2;have p2:eV K W ro F0 H0 FB OL O D ((g Y).bind λfl=>match fl with
         |.nx I=>ee pt g _ I|.ct I=>ee pt g _ I|.bk I=>.ok _|.rt d=>.ok _):=p2
        refine gP_rep (U.step k) n l eb λj r4=>⟨F1,w,Y,r4,?_⟩
        cases h:g Y with
        |error x=>exact p2.err (by rw[h];rfl)|ok fl=>
         rw[h]at p2;cases fl with
         |nx S=>exact λB F' H' r'=>⟨F',S,r',p2⟩|ct S=>exact λB F' H' r'=>⟨F',S,r',p2⟩|bk S=>exact λB F' H' r'=>p2 B F' H' (r'.base ((r.step s1).fb))|rt d=>exact p2
      .have:i=ds.length:=ac
       subst this;rw[M4]at p2;exact .inl ⟨it.st c H2 U.fb U.st.fh,p2 f c H2 (U.base (r.step s1).fb)⟩
def ds_while(h:DT K W X c ft)(S:DSs K W ro X O O O body g)(a:autoParam (QV (u_ X.prog X.w) X.A X.env X.xe) Jq11):DS K W ro X OL O O (.While c body [] pos) (mE ft g m):=λF0 H0=>(ps_while a h (S F0 H0)).imp λD σ H=>by
  intro t;refine⟨λm σ H=>tS K W ro F0 H0 OL O O (mE ft g m) D σ H,⟨m,t⟩,?_⟩
  rintro m σ H ⟨FB,F,ρ,r,p⟩;cases m with
  |zero=>exact p.stuck rfl|succ m=>
   simp[mE]at p;refine gT r.jQ r.fg (λe f=>p.i7 (r.freeze ad).st (by rw[f];rfl)) λb S F1 H1 s1=>?_;rw[S]at p;have U:=r.gw s1;cases b with
   |false=>exact p σ _ H1 U|true=>
    refine⟨λB H'=>tS K W ro F0 H0 OL O O _ D B H',λB H' n=>⟨m,M8 _,n⟩,FB,_,ρ,U,?_⟩
    cases Y:g ρ with
    |error x=>exact p.err (by rw[Y];rfl)|ok fl=>
     rw[Y]at p;cases fl with
     |nx I=>exact λB F' H' r'=>⟨FB,F',I,r',p⟩|ct I=>exact λB F' H' r'=>⟨FB,F',I,r',p⟩|bk I=>exact λB F' H' r'=>p B F' H' r'|rt d=>exact p
def jC(h:DE K W cm X e f)(l:(i∈O)⁻¹)(o: ~~~(X.N[i]?=a_ x))(n:autoParam (Vis X.env.scope x) Jq3)(j:((x==("__debug__":IL))=cm)⁻¹)(k:((x==("__classdict__":IL))=cm)⁻¹)(s: ~~~(X.K=K))(Y: ~~~(k_ [e] X.env=[(cm,Il e X.env)]))(S: ~~~(Jv (.Name x p) "append" X.env (Il (.Name x p) X.env)=Il (.Name x p) X.env))(b: ~~~(((Jy q (k_ [e] X.env)).all (λx=> !x.1)&&(LR q (KG [] X.env)).all (λx=>x.1.isSome)&&m_ ([e].length+([]:List LA).length+(if ([]:List LA).isEmpty then 0 else 1)<30))=e_))(B: ~~~((Jy q (k_ [] X.env)).any (·.1)=cm))(I: ~~~((apos.endLine==q.line)=e_))(c: ~~~(J4 (.Call (.Attribute (.Name x p) "append" apos) [e] [] q) d_ pos.line X.env=JM cm)):
  DS K W ro X OL O O (.Expr (.Call (.Attribute (.Name x p) "append" apos) [e] [] q) pos) (kr O i f):=λF0 H0=>by
 subst s;exact PS.imp (nT (pe_bm ML M7 Pc yb (pv i o n j k) (cx h eX Y) S b I Y B) c) λ_ σ _=>by
   intro t;obtain⟨FB,F,ρ,r,p⟩:=t;cases U:lK ρ i with
   |error e=>have:=qU U;subst this;exact p.stuck (by unfold kr;rw[U];rfl)|ok ds=>
    obtain⟨a,xs,e2,m,z⟩:=r.Gg l (lu U);refine⟨.ref a,e2,⟨rfl,_,_,rfl,SqL.of m⟩,(aD r.l9 r.st.fh (λe h=>p.i7 r.st (by unfold kr;rw[U];rw[h];rfl)) λd j v F1 H1 s1 q=>?_)⟩
    have u:kr O i f ρ=if ds.length<n_ then put ρ i (ds++[d])else .error .stuck:=by unfold kr;rw[U,j];rfl
    rw[u]at p;by_cases g:ds.length<n_
    .rw[p_ g]at p;exact⟨a,xs,v,rfl,rfl,s1.hh _ _ m,by exact z.length▸g,p σ F1 _ ((r.step s1).write l (lu U) e2 (ay.append (z.mono s1.ff) ⟨v,[],rfl,q,rfl⟩))⟩
    .rw[q_ g]at p;exact p.stuck rfl
end
section
variable{W:bY}{own:Bool}
def OpR.imp{f:g_->g_->Nl g_}{r r':R2}(h:OpR X f r)(q:∀x y H Q,r' x y H Q->r x y H Q):OpR X f r':=λB1 s σ H x y v u Q I S B z=>h B1 s σ H x y v u Q I S B (q x y H Q z)
def UnR.imp{f:g_->Nl g_}{r r':V->Hp->VK->Prop}(h:UnR X f r)(q:∀x H Q,r' x H Q->r x H Q):UnR X f r':=λB1 s σ H x v Q I B z=>h B1 s σ H x v Q I B (q x H Q z)
def fS.imp{f:g_}{r r':bm->Hp->VK->Prop}(h:fS X f r)(q:∀x H Q,r' x H Q->r x H Q):fS X f r':=λB1 s σ H x v Q I B z=>h B1 s σ H x v Q I B (q x H Q z)
def IxR.imp{r r':R2}(h:IxR X r)(q:∀x y H Q,r' x y H Q->r x y H Q):IxR X r':=λB sl B1 s σ H x y v u Q I U S z e=>h B sl B1 s σ H x y v u Q I U S (q x y H Q z) e
def aH.stuck{Q:VK}{P:Prop}(p:aH K W own F H (stk) Q):P:=(W.ns p).elim
theorem aH.int{F H:Hp}{Q:VK}{i:Int}(p:aH K W own F H (.ok (.int i)) Q)(s:aM F H):Q (.int i) H:=p _ F H (B2.refl s) (by cases own<;>rfl)
theorem aH.bl{F H:Hp}{Q:VK}{b:Bool}(p:aH K W own F H (.ok (.bl b)) Q)(s:aM F H):Q (.bl b) H:=p _ F H (B2.refl s) (by cases own<;>rfl)
theorem aH.tup{F H:Hp}{Q:VK}{ds:be}{xs:bm}{a:h_}(p:aH K W own F H (.ok (.tup ds)) Q)(s:aM F H)(q:ay K F ds xs)(B:H a=d_):Q (.ref a) (upd H a (.tup xs)):=
 p _ _ _ (B2.lay s B) (by
  have:bh K _ (.tup ds) _:=⟨a,xs,rfl,SqT.of aq,q.mono (aM.upd (s.free B))⟩
  cases own<;>exact this)
def aH.same{Q:VK}(p:aH K W own F H (.ok (.tup ds)) Q)(s:aM F H)(q:bh K F (.tup ds) v):Q v H:=p _ F H (B2.refl s) (by cases own<;>exact q)
theorem aH.lst{F H:Hp}{Q:VK}{ds:be}{xs:bm}{a:h_}(p:aH K W e_ F H (.ok (.lst ds)) Q)(s:aM F H)(q:ay K F ds xs)(B:H a=d_):Q (.ref a) (upd H a (.lst xs)):=
 p _ F _ (B2.grow s B) ⟨a,xs,rfl,aq,s.free B,B,q⟩
def i9(S:∀a b,(∃i j,a=.int i/\b=.int j)\/g a b=stk){x:V}{Q:VK}(h:rD2 K W own g x y H Q):∃F i j,aM F H/\x=.int i/\y=.int j/\aH K W own F H (g (.int i) (.int j)) Q:=by
 obtain⟨F,a,b,s,I,B,p⟩:=h;rcases S a b with⟨i,j,rfl,rfl⟩|e
 .exact⟨F,i,j,s,I,B,p⟩
 .rw[e]at p;exact p.stuck
def tm:Op2 K W own X (Ko .Sub) Ep:=op_sub.imp λx y H Q h=>by obtain⟨F,i,j,s,e1,e2,p⟩:=i9 (λa b=>by cases a<;>cases b<;>first|exact .inr rfl|simp) h;exact⟨i,j,e1,e2,p.int s⟩
def kz:Op2 K W own X (Ko .Mult) pz:=op_mul.imp λx y H Q h=>by
 obtain⟨F,i,j,s,e1,e2,p⟩:=i9 (λa b=>by cases a<;>cases b<;>first|exact .inr rfl|simp) h;have p':aH K W own F H (if (dD i||dD j)=e_ then .ok _ else stk) Q:=p;by_cases B:(dD i||dD j)=e_
 .rw[p_ B]at p';refine⟨i,j,e1,e2,?_,p'.int s⟩
  unfold dD at B;simp at B;exact B
 .rw[q_ B]at p';exact p'.stuck
theorem G2:OpR X (Ko .FloorDiv) (rI (λ_ j=>0<j/\j<18446744073709551616) λi j=>.int (i/j)):=opI λi j _ _ _ _ _ B q=>by
 obtain⟨S,I⟩:=B;exact floordiv_int ac (by rw[Int.fdiv_eq_ediv_of_nonneg i ac];exact q) (.inl (PyProof.noPylong_of_log2 (by
   have a:j.natAbs<2^64:=ac
   have b:=(Nat.log2_lt ac).mpr a
   lia)))
def cL:Op2 K W own X (Ko .FloorDiv) dI:=G2.imp λx y H Q h=>by
 obtain⟨F,i,j,s,e1,e2,p⟩:=i9 (λa b=>by cases a<;>cases b<;>first|exact .inr rfl|simp) h;have p':aH K W own F H (if (m_ _&&m_ _)=e_ then .ok _ else stk) Q:=p;by_cases B:(m_ (0<j)&&m_ (j<18446744073709551616))=e_
 .rw[p_ B]at p';simp at B;exact⟨i,j,e1,e2,B,p'.int s⟩
 .rw[q_ B]at p';exact p'.stuck
def cT:Op2 K W own X (Ko .Mod) ig:=op_mod.imp λx y H Q h=>by
 obtain⟨F,i,j,s,e1,e2,p⟩:=i9 (λa b=>by cases a<;>cases b<;>first|exact .inr rfl|simp) h;have p':aH K W own F H (if 0<j then .ok _ else stk) Q:=p;by_cases B:0<j
 .rw[p_ B]at p';exact⟨i,j,e1,e2,B,p'.int s⟩
 .rw[q_ B]at p';exact p'.stuck
def DC:Op2 K W own X (Ko .Pow) powD:=op_pow.imp λx y H Q h=>by
 obtain⟨F,i,j,s,e1,e2,p⟩:=i9 (λa b=>by cases a<;>cases b<;>first|exact .inr rfl|simp) h;have p':aH K W own F H (if (m_ _&&m_ _&&m_ _)=e_ then .ok _ else stk) Q:=p;by_cases B:(m_ (0<=j)&&m_ (j<=1000000)&&m_ (i.natAbs<2^64))=e_
 .rw[p_ B]at p';simp at B;exact⟨i,j,e1,e2,⟨B.1.1,B.1.2,B.2⟩,p'.int s⟩
 .rw[q_ B]at p';exact p'.stuck
def qN:UnR X (Sl .USub) (rD1 K W own As):=un_neg.imp λx H Q h=>by
 obtain⟨F,a,s,B,p⟩:=h;cases a with
 |int i=>exact⟨i,B,aH.int p s⟩|_=>exact aH.stuck p
def o_lt:Op2 K W own X (IP .Lt) ltD:=op_lt.imp λx y H Q h=>by obtain⟨F,i,j,s,e1,e2,p⟩:=i9 (λa b=>by cases a<;>cases b<;>first|exact .inr rfl|simp) h;exact⟨i,j,e1,e2,p.bl s⟩
def o_le:Op2 K W own X (IP .LtE) leD:=op_le.imp λx y H Q h=>by obtain⟨F,i,j,s,e1,e2,p⟩:=i9 (λa b=>by cases a<;>cases b<;>first|exact .inr rfl|simp) h;exact⟨i,j,e1,e2,p.bl s⟩
def o_gt:Op2 K W own X (IP .Gt) gtD:=op_gt.imp λx y H Q h=>by obtain⟨F,i,j,s,e1,e2,p⟩:=i9 (λa b=>by cases a<;>cases b<;>first|exact .inr rfl|simp) h;exact⟨i,j,e1,e2,p.bl s⟩
theorem op_catL:OpR X (Ko .Add) (λx y H Q=>∃l b xs U,x=.ref l/\y=.ref b/\SqL X.K H l xs/\SqL X.K H b U/\xs.length+U.length<=n_/\∀p,H p=d_->Q (.ref p) (upd H p (.lst (xs++U)))):=by
 rintro B1 s σ H x y v u Q I k j ⟨l,b,xs,U,rfl,rfl,w,z,hz,q⟩;cases k;cases j;obtain⟨its,r,p1,F⟩:=I.list w;obtain⟨B,f,p2,m⟩:=I.list z;have E:=r.length;have D:=f.length;obtain⟨⟨C,A,h,sl⟩,g,t,n,o⟩:=id p1.isList;obtain⟨⟨i,d,e,Y⟩,S,c,n2,a⟩:=id p2.isList;subst t o c a;refine O7 ⟨_,g,rfl⟩ ⟨_,S,rfl⟩ noFill_list_add seq_list_add PySem.F.slot_list_add PySem.F.entry_list_add (PySem.F.args_list_add_2 _ _) (list_addW l b its.toArray B.toArray n n2 A d sl Y a7) ⟨g,S,?_⟩;have ea:its.toArray++B.toArray=(its++B).toArray:=by simp
 exact ea▸⟨.ref _,_,I.lnew (r.append f) a7,rfl,q _ I.fresh⟩
def op_cat3:OpR X (Ko .Add) (λx y H Q=>∃a b xs ys,x=.ref a/\y=.ref b/\SqT X.K H a xs/\SqT X.K H b ys/\xs.length+ys.length<=n_/\(xs=[]->Q (.ref b) H)/\(ys=[]->Q (.ref a) H)/\∀p,H p=d_->Q (.ref p) (upd H p (.tup (xs++ys)))):=by
 rintro B1 s σ H x y v u Q I h g ⟨a,b,xs,ys,rfl,rfl,l,k,hz,q1,q2,r⟩;by_cases i:xs=[]
 .subst i;cases h;cases g;obtain⟨its,q,p1,_⟩:=I.tuple l;obtain⟨B,D,p2,_⟩:=I.tuple k;cases q;obtain⟨⟨C,A,m,sl⟩,j,z,n,w⟩:=id p1;obtain⟨⟨o,d,f,U⟩,S,c,n2,Y⟩:=id p2;subst z w c Y;exact O7 ⟨_,j,rfl⟩ ⟨_,S,rfl⟩ Px Qy MV MM (MD _ _)
   (tuple_addW0 a b #[] B.toArray n n2 A d sl U rfl) ⟨j,S,⟨.ref b,H,I,rfl,q1 rfl⟩⟩
 .exact op_catT B1 s σ H _ _ v u Q I h g ⟨a,b,xs,ys,rfl,rfl,l,k,i,hz,λe=>q2 e,λ_ p t=>r p t⟩
def ck(g: ~~~(X.K=K)):Op2 K W e_ X (Ko .Add) eY:=by
 subst g;refine(op_add.or (op_catL.or op_cat3)).imp λx y H Q h=>?_;obtain⟨F,a,b,s,d,c,p⟩:=h;cases a with
 |int i=>
  cases b with
  |int j=>exact .inl ⟨i,j,d,c,p.int s⟩|_=>exact aH.stuck p
 |lst ds=>
  cases b with
  |lst es=>
   obtain⟨a,xs,e1,Y,I⟩:=d;obtain⟨b,ys,e2,U,B⟩:=c;have p':aH X.K W e_ F H (if ds.length+es.length<=n_ then .ok _ else stk) Q:=p;by_cases S:ds.length+es.length<=n_
   .rw[p_ S]at p';exact .inr (.inl ⟨a,b,xs,ys,e1,e2,s.lst Y,s.lst U,by rw[I.length,B.length];exact S,λl f=>p'.lst s (I.append B) f⟩)
   .rw[q_ S]at p';exact p'.stuck
  |_=>exact aH.stuck p
 |tup ds=>
  cases b with
  |tup es=>
   obtain⟨a,xs,e1,Y,I⟩:=d;obtain⟨b,ys,e2,U,B⟩:=c;have p':aH X.K W e_ F H (if ds.length+es.length<=n_ then .ok _ else stk) Q:=p;by_cases S:ds.length+es.length<=n_
   .rw[p_ S]at p';refine .inr (.inr ⟨a,b,xs,ys,e1,e2,s.tup Y,s.tup U,by rw[I.length,B.length];exact S,λe=>?_,λe=>?_,λl f=>p'.tup s (I.append B) f⟩)
    .have z:=by have:=I.length;rw[e]at this;exact LQ.mp this.symm
     subst z;exact p'.same s ⟨b,ys,rfl,U,B⟩
    .have z:=by have:=B.length;rw[e]at this;exact LQ.mp this.symm
     subst z;rw[J1]at p';exact p'.same s ⟨a,xs,rfl,Y,I⟩
   .rw[q_ S]at p';exact p'.stuck
  |_=>exact aH.stuck p
 |_=>exact aH.stuck p
def G7:Op2 K W own X (IP .IsNot) xZ:=op_notN.imp λx y H Q h=>by
 obtain⟨F,a,b,s,B,I,p⟩:=h;have key:∀{k:Bool},xZ a b=.ok (.bl k)->b=.non->((!decide _)=k)->y=V.non/\Q (.bl (!decide (x=V.non))) H:=λ{k} e1 e2 e3=>by subst e2;rw[e1]at p;exact e3▸⟨I,p.bl s⟩
 cases b with
 |non=>
  cases a with
  |non=>exact key rfl rfl (by rw[show x=.non from B];rfl)|bl k=>exact key rfl rfl (by rw[show x=.bl k from B];rfl)|int k=>exact key rfl rfl (by rw[show x=.int k from B];rfl)|tup ds=>obtain⟨l,xs,e,_⟩:=B;exact key rfl rfl (by rw[e];rfl)
  |lst ds=>obtain⟨l,xs,e,_⟩:=B;exact key rfl rfl (by rw[e];rfl)
  |ins C fs=>obtain⟨l,dx,xs,e,_⟩:=B;exact key rfl rfl (by rw[e];rfl)
  |dic ks=>obtain⟨l,xs,e,_⟩:=B;exact key rfl rfl (by rw[e];rfl)
  |dil ks=>obtain⟨l,xs,e,_⟩:=B;exact key rfl rfl (by rw[e];rfl)
 |_=>cases a<;>exact aH.stuck p
theorem GU{Q:VK}{i:Int}(p:aH K W cm F H (jl ds i) Q)(s:aM F H)(r:ay K F ds xs):∃v,atI xs i=a_ v/\Q v H:=by
 unfold jl at p;cases e:atI ds i with
 |none=>rw[e]at p;exact aH.stuck p|some d=>
  rw[e]at p;unfold atI at e;cases B:ixN ds.length i with
  |none=>simp_all|some j=>
   rw[B]at e;obtain⟨v,e1,q⟩:=r.get (show ds[j]?=a_ d from e);refine⟨v,?_,p v F H (B2.refl s) q⟩
   unfold atI;rw[r.length,B];exact e1
def bP(Y: ~~~(X.K=K)):IxR X (rD2 K W cm ixD):=by
 subst Y;refine Gy.imp λx y H Q h=>?_;obtain⟨F,a,b,s,U,S,p⟩:=h;cases a with
 |lst ds=>
  cases b with
  |int i=>obtain⟨a,xs,e1,B,I⟩:=U;obtain⟨v,e2,q⟩:=GU p s I;exact .inl ⟨a,xs,i,v,e1,S,s.lst B,e2,q⟩
  |_=>exact aH.stuck p
 |tup ds=>
  cases b with
  |int i=>obtain⟨a,xs,e1,B,I⟩:=U;obtain⟨v,e2,q⟩:=GU p s I;exact .inr ⟨a,xs,i,v,e1,S,s.tup B,e2,q⟩
  |_=>exact aH.stuck p
 |_=>exact aH.stuck p
def gu(B: ~~~(X.K=K)):kZ K W own X (.builtin "len") lx:=by
 subst B;refine kS.imp λxs H Q h=>?_;obtain⟨F,ds,s,q,p⟩:=h;cases ds with
 |nil=>exact aH.stuck p|cons d ds=>
  cases ds with
  |cons _ _=>cases d<;>exact aH.stuck p
  |nil=>
   obtain⟨v,vs,e,q,e2⟩:=q;cases d with
   |lst es=>
    obtain⟨a,ys,e1,t,r⟩:=q;refine⟨a,ys,by rw[e,e1,show vs=[]from e2],.inl (s.lst t),?_⟩
    exact r.length▸aH.int p s
   |tup es=>
    obtain⟨a,ys,e1,t,r⟩:=q;refine⟨a,ys,by rw[e,e1,show vs=[]from e2],.inr (s.tup t),?_⟩
    exact r.length▸aH.int p s
   |_=>exact aH.stuck p
end
section
variable{W:bY}{own:Bool}
def gW{g:cc}(B:∀ds,(∃d,ds=[d])\/g ds=stk){Q:VK}(h:rDL K W own g xs H Q):∃F d x,aM F H/\xs=[x]/\bh K F d x/\aH K W own F H (g [d]) Q:=by
 obtain⟨F,ds,s,q,p⟩:=h;rcases B ds with⟨d,rfl⟩|e
 .obtain⟨v,vs,e,q1,e2⟩:=q;exact⟨F,d,v,s,by rw[e,show vs=[]from e2],q1,p⟩
 .rw[e]at p;exact p.stuck
def EJ{g:cc}(I:∀ds,(∃d,ds=[d])\/(∃d e,ds=[d,e])\/g ds=stk){Q:VK}(h:rDL K W own g xs H Q):(∃F d x,aM F H/\xs=[x]/\bh K F d x/\aH K W own F H (g [d]) Q)\/∃F d e x y,aM F H/\xs=[x,y]/\bh K F d x/\bh K F e y/\aH K W own F H (g [d,e]) Q:=by
 obtain⟨F,ds,s,q,p⟩:=h;rcases I ds with⟨d,rfl⟩|⟨d,e,rfl⟩|e
 .obtain⟨v,vs,e,q1,e2⟩:=q;exact .inl ⟨F,d,v,s,by rw[e,show vs=[]from e2],q1,p⟩
 .obtain⟨v,vs,e1,q1,w,B,e2,q2,e3⟩:=q;exact .inr ⟨F,d,e,v,w,s,by rw[e1,e2,show B=[]from e3],q1,q2,p⟩
 .rw[e]at p;exact p.stuck
theorem uO{F:Hp}:∀{ds:be} {xs:bm} {bs:List Bool},ay K F ds xs->gv ds=.ok bs->xs=bs.map V.bl
 |[],_,_,q,e=>by cases e;exact q|d::ds,_,bs,⟨v,vs,e1,q,r⟩,e=>by
  cases d with
  |bl b=>
   cases e2:gv ds with
   |error x=>simp_all[gv,]|ok cs=>simp[gv,e2]at e;cases e;rw[e1,show v=.bl b from q,uO r e2];rfl
  |_=>cases e
theorem uP:∀{ds:be} {e:Err},gv ds=.error e->e=.stuck
 |[],_,h=>by cases h|d::ds,e,h=>by
  cases d with
  |bl b=>
   cases e2:gv ds with
   |error x=>simp[gv,e2]at h;cases h;exact uP e2|ok cs=>simp_all[gv,]
  |_=>cases h;rfl
theorem cW{F:Hp}:∀{ds:be} {xs:bm} {bs:a9},ay K F ds xs->bZ ds=.ok bs->xs=bs.map V.int
 |[],_,_,q,e=>by cases e;exact q|d::ds,_,bs,⟨v,vs,e1,q,r⟩,e=>by
  cases d with
  |int b=>
   cases e2:bZ ds with
   |error x=>simp_all[bZ,]|ok cs=>simp[bZ,e2]at e;cases e;rw[e1,show v=.int b from q,cW r e2];rfl
  |_=>cases e
theorem gk:∀{ds:be} {e:Err},bZ ds=.error e->e=.stuck
 |[],_,h=>by cases h|d::ds,e,h=>by
  cases d with
  |int b=>
   cases e2:bZ ds with
   |error x=>simp[bZ,e2]at h;cases h;exact gk e2|ok cs=>simp_all[bZ,]
  |_=>cases h;rfl
def HS(B:X.calm=e_)(I: ~~~(X.K=K)):kZ K W own X (.builtin "all") allD:=by
 subst I;refine(call_all B).imp λxs H Q h=>?_;obtain⟨F,d,x,s,e,q,p⟩:=gW (λds=>by match ds with|[d]=>simp|[]=>exact .inr rfl|a::b::c=>exact .inr (by cases a<;>rfl)) h;cases d with
 |lst ds=>
  obtain⟨a,ys,e1,t,r⟩:=q;have p':aH X.K W own F H ((gv ds).bind λbs=>.ok _) Q:=p;cases eb:gv ds with
  |error z=>rw[eb]at p';have:=uP eb;subst this;exact aH.stuck p'|ok bs=>
   rw[eb]at p';refine⟨a,bs,by rw[e,e1],?_,aH.bl p' s⟩
   exact(uO r eb)▸s.lst t
 |_=>exact aH.stuck p
def oS(I: ~~~(X.K=K)):kZ K W e_ X (.type "list") gI:=by
 subst I;refine zg.imp λxs H Q h=>?_;obtain⟨F,d,x,s,e,q,p⟩:=gW (λds=>by match ds with|[d]=>simp|[]=>exact .inr rfl|a::b::c=>exact .inr (by cases a<;>rfl)) h;cases d with
 |lst ds=>obtain⟨a,ys,e1,t,r⟩:=q;exact⟨a,ys,by rw[e,e1],.inl (s.lst t),λl B=>aH.lst p s r B⟩
 |tup ds=>obtain⟨a,ys,e1,t,r⟩:=q;exact⟨a,ys,by rw[e,e1],.inr (s.tup t),λl B=>aH.lst p s r B⟩
 |_=>exact aH.stuck p
def fK(I: ~~~(X.K=K)):kZ K W own X (.type "tuple") eW:=by
 subst I;refine wA.imp λxs H Q h=>?_;obtain⟨F,d,x,s,e,q,p⟩:=gW (λds=>by match ds with|[d]=>simp|[]=>exact .inr rfl|a::b::c=>exact .inr (by cases a<;>rfl)) h;cases d with
 |lst ds=>obtain⟨a,ys,e1,t,r⟩:=q;exact⟨a,ys,by rw[e,e1],.inl ⟨s.lst t,λl B=>aH.tup p s r B⟩⟩
 |tup ds=>obtain⟨a,ys,rfl,t,r⟩:=q;exact⟨a,ys,e,.inr ⟨s.tup t,aH.same p s ⟨a,ys,rfl,t,r⟩⟩⟩
 |_=>exact aH.stuck p
def c_int:kZ K W own X (.type "int") intD:=HP.imp λxs H Q h=>by
 obtain⟨F,d,x,s,e,q,p⟩:=gW (λds=>by match ds with|[d]=>simp|[]=>exact .inr rfl|a::b::c=>exact .inr (by cases a<;>rfl)) h;cases d with
 |int i=>exact .inl ⟨i,by rw[e,show x=.int i from q],aH.int p s⟩|bl b=>exact .inr ⟨b,by rw[e,show x=.bl b from q],aH.int p s⟩|_=>exact aH.stuck p
theorem fold_max:∀(is:a9) (i:Int),(is.foldl iV i=i\/is.foldl iV i∈is)/\i<=is.foldl iV i/\∀a∈is,a<=is.foldl iV i
 |[],i=>⟨.inl rfl,O4 _,λ_ h=>nomatch h⟩
 |j::is,i=>by
  obtain⟨h1,I,B⟩:=fold_max is (iV i j);have z:(iV i j=i\/iV i j=j)/\i<=iV i j/\j<=iV i j:=by unfold iV;split<;>(refine⟨?_,?_,?_⟩<;>first|lia)
  grind
theorem fold_min:∀(is:a9) (i:Int),(is.foldl BZ i=i\/is.foldl BZ i∈is)/\is.foldl BZ i<=i/\∀a∈is,is.foldl BZ i<=a
 |[],i=>⟨.inl rfl,O4 _,λ_ h=>nomatch h⟩
 |j::is,i=>by
  obtain⟨h1,I,B⟩:=fold_min is (BZ i j);have z:(BZ i j=i\/BZ i j=j)/\BZ i j<=i/\BZ i j<=j:=by unfold BZ;split<;>(refine⟨?_,?_,?_⟩<;>first|lia)
  grind
theorem AF{i m:Int}(h1:m∈i::is)(B:∀a∈i::is,a<=m):is.foldl iV i=m:=by
 obtain⟨S,g2,I⟩:=fold_max is i
 grind
theorem AE{i m:Int}(h1:m∈i::is)(B:∀a∈i::is,m<=a):is.foldl BZ i=m:=by
 obtain⟨S,g2,I⟩:=fold_min is i
 grind
theorem HM(g:X.calm=e_):fS X (.builtin "max") (λxs H Q=>∃a i is,xs=[.ref a]/\SqL X.K H a ((i::is).map V.int)/\Q (.int (is.foldl iV i)) H):=by
 rintro B1 s σ H xs us Q I r ⟨a,i,is,rfl,c,q⟩;obtain⟨u,rfl,rfl⟩:=r.one;obtain⟨its,Y,p,hz⟩:=I.list c;have hi:=intsAre_of Y;obtain⟨xs,e⟩:=hi.allInts.items;have B:i::is=xs.toList.map (·.1):=by rw[<- hi.numsOf,<- QA,<- e]
 have hsz:0<xs.size:=by
  have h:=Kd Lx B;simp at h
  lia
 have S:=p.isList;rw[e]at S;refine max_intList (I.ok.hd g) S hsz λv h' tk b d=>?_;obtain⟨t,rfl⟩:=Rw b;obtain⟨h1,k⟩:=argBest_gt (Qd xs) (xs.size-1);refine⟨.int _,H,I.kept d,⟨t,rfl⟩,?_⟩
 have:=AF (m:=Qd xs (argBest (λi j=>m_ (Qd xs i>Qd xs j)) (xs.size-1))) (by
   rw[B,Rv];exact getD_mem (by rw[l_,Iu];lia)) (λa U=>by
   rw[B]at U;obtain⟨j,f,rfl⟩:=mem_getD U;rw[l_,Iu]at f;rw[<- Rv];exact k j ac)
 exact this▸q
theorem HK(g:X.calm=e_):fS X (.builtin "min") (λxs H Q=>∃a i is,xs=[.ref a]/\SqL X.K H a ((i::is).map V.int)/\Q (.int (is.foldl BZ i)) H):=by
 rintro B1 s σ H xs us Q I r ⟨a,i,is,rfl,c,q⟩;obtain⟨u,rfl,rfl⟩:=r.one;obtain⟨its,Y,p,hz⟩:=I.list c;have hi:=intsAre_of Y;obtain⟨xs,e⟩:=hi.allInts.items;have B:i::is=xs.toList.map (·.1):=by rw[<- hi.numsOf,<- QA,<- e]
 have hsz:0<xs.size:=by
  have h:=Kd Lx B;simp at h
  lia
 have S:=p.isList;rw[e]at S;refine min_intList (I.ok.hd g) S hsz λv h' tk b d=>?_;obtain⟨t,rfl⟩:=Rw b;obtain⟨h1,k⟩:=argBest_lt (Qd xs) (xs.size-1);refine⟨.int _,H,I.kept d,⟨t,rfl⟩,?_⟩
 have:=AE (m:=Qd xs (argBest (λi j=>m_ (Qd xs i<Qd xs j)) (xs.size-1))) (by
   rw[B,Rv];exact getD_mem (by rw[l_,Iu];lia)) (λa U=>by
   rw[B]at U;obtain⟨j,f,rfl⟩:=mem_getD U;rw[l_,Iu]at f;rw[<- Rv];exact k j ac)
 simp_all
def Ba(B:X.calm=e_)(S: ~~~(X.K=K)):kZ K W own X (.builtin "max") maxD:=by
 subst S;refine((HN B).or (HM B)).imp λxs H Q h=>?_;rcases EJ (λds=>by match ds with|[d]=>exact .inl ⟨d,rfl⟩|[d,e]=>exact .inr (.inl ⟨d,e,rfl⟩)|[]=>exact .inr (.inr rfl)|a::b::c::d=>exact .inr (.inr (by cases a<;>cases b<;>rfl))) h with⟨F,d,x,s,e,q,p⟩|⟨F,d,I,x,y,s,e,q,q2,p⟩
 .cases d with
  |lst ds=>
   obtain⟨a,ys,e1,t,r⟩:=q;have p':aH X.K W own F H ((bZ ds).bind maxL) Q:=p;cases eb:bZ ds with
   |error z=>rw[eb]at p';have:=gk eb;subst this;exact aH.stuck p'|ok is=>
    rw[eb]at p';cases is with
    |nil=>exact aH.stuck p'|cons i is=>refine .inr ⟨a,i,is,by rw[e,e1],?_,aH.int p' s⟩;exact(cW r eb)▸s.lst t
  |_=>exact aH.stuck p
 .cases d with
  |int i=>
   cases I with
   |int j=>exact .inl ⟨i,j,by rw[e,show x=.int i from q,show y=.int j from q2],aH.int p s⟩|_=>exact aH.stuck p
  |_=>cases I<;>exact aH.stuck p
def c_min(B:X.calm=e_)(S: ~~~(X.K=K)):kZ K W own X (.builtin "min") minD:=by
 subst S;refine((HL B).or (HK B)).imp λxs H Q h=>?_;rcases EJ (λds=>by match ds with|[d]=>exact .inl ⟨d,rfl⟩|[d,e]=>exact .inr (.inl ⟨d,e,rfl⟩)|[]=>exact .inr (.inr rfl)|a::b::c::d=>exact .inr (.inr (by cases a<;>cases b<;>rfl))) h with⟨F,d,x,s,e,q,p⟩|⟨F,d,I,x,y,s,e,q,q2,p⟩
 .cases d with
  |lst ds=>
   obtain⟨a,ys,e1,t,r⟩:=q;have p':aH X.K W own F H ((bZ ds).bind minL) Q:=p;cases eb:bZ ds with
   |error z=>rw[eb]at p';have:=gk eb;subst this;exact aH.stuck p'|ok is=>
    rw[eb]at p';cases is with
    |nil=>exact aH.stuck p'|cons i is=>refine .inr ⟨a,i,is,by rw[e,e1],?_,aH.int p' s⟩;exact(cW r eb)▸s.lst t
  |_=>exact aH.stuck p
 .cases d with
  |int i=>
   cases I with
   |int j=>exact .inl ⟨i,j,by rw[e,show x=.int i from q,show y=.int j from q2],aH.int p s⟩|_=>exact aH.stuck p
  |_=>cases I<;>exact aH.stuck p
end
theorem SqL.inj{B1:Vp}{σ:St}{H:Hp}{s:j_}{a:h_}{xs ys:bm}(I:B3 X B1 σ H s)(h:SqL X.K H a xs)(h':SqL X.K H a ys):xs=ys:=by
 obtain⟨i1,Y,p1,_⟩:=I.list h;obtain⟨i2,U,p2,_⟩:=I.list h';obtain⟨o,n,e,_,_,d⟩:=p1;obtain⟨o',b,B,_,_,S⟩:=p2;rw[e]at B;cases B;rw[d]at S;injection S with d1 _
 have:=by simpa using Kd Oj d1
 subst this;exact Y.inj U
theorem SqT.inj{B1:Vp}{σ:St}{H:Hp}{s:j_}{a:h_}{xs ys:bm}(I:B3 X B1 σ H s)(h:SqT X.K H a xs)(h':SqT X.K H a ys):xs=ys:=by
 obtain⟨i1,Y,p1,_⟩:=I.tuple h;obtain⟨i2,U,p2,_⟩:=I.tuple h';obtain⟨o,e,_,n,d⟩:=p1;obtain⟨o',B,_,b,S⟩:=p2;rw[e]at B;cases B;rw[d]at S;injection S with d1 _
 have:=by simpa using Kd Oj d1
 subst this;exact Y.inj U
theorem ay.all_eq{F:Hp}(e:Nat->Bool):∀{ds es:be},ds.length=es.length->(∀(j:Nat) a b,ds[j]?=a_ a->es[j]?=a_ b->e j=eqD a b)->(A_ ds.length).all e=mD ds es:=by
 intro ds
 induction ds generalizing e with
 |nil=>intro es h _;cases es with
  |nil=>rfl|cons _ _=>simp at h
 |cons d ds B=>
  intro es h q;cases es with
  |nil=>simp at h|cons b es=>simp_all[K9,mD]
theorem pU:∀{ds es:be},ds.length≠es.length->mD ds es=cm
 |[],[],h=>IA rfl h|[],_::_,_=>rfl|_::_,[],_=>rfl|d::ds,e::es,h=>by rw[mD,pU (λz=>h (by simp[z])),RZ]
theorem Ct(e:Nat->Bool):∀{ds es:be},(∀(j:Nat) a b,ds[j]?=a_ a->es[j]?=a_ b->e j=eqD a b)->((A_ (min ds.length es.length)).all e&&ds.length==es.length)=mD ds es:=by
 intro ds es q;by_cases B:ds.length=es.length
 .have e1:min ds.length es.length=ds.length:=ac
  rw[e1,ay.all_eq (F:=λ_=>d_) e B q,B,beq_self_eq_true,Bool.and_true]
 simp_all[pU]
mutual
theorem vZ:∀{d:A'} {n:Nat},C' d n=e_->eqD d d=e_
 |.non,_,_=>rfl|.bl b,_,_=>by simp[eqD]|.int i,_,_=>by simp[eqD]|.tup ds,0,h=>by simp_all[C']|.tup ds,n+1,h=>by simp only[C']at h;simp only[eqD];exact rJ h|.lst ds,0,h=>by simp_all[C']|.lst ds,n+1,h=>by simp only[C']at h;simp only[eqD];exact rJ h|.ins _ _,_,h=>by simp_all[C']|.dic _,_,h=>by simp_all[C']|.dil _,_,h=>by simp_all[C']
theorem rJ:∀{ds:be} {n:Nat},kj ds n=e_->mD ds ds=e_
 |[],_,_=>rfl|d::ds,n,h=>by simp only[kj,D_]at h;simp only[mD,vZ h.1,rJ h.2,Bool.and_self]
end
theorem vB:∀{ds:be} {n i:Nat} {d:A'},kj ds n=e_->ds[i]?=a_ d->C' d n=e_
 |[],_,_,_,_,h=>by simp at h|_::_,_,0,_,h,e=>by simp_all[kj]|_::_,_,i+1,_,h,e=>by simp[kj,D_]at h;exact vB h.2 (by simpa using e)
def lN(ds es:be)(j:Nat):Bool:=match ds[j]?,es[j]? with
 |some a,a_ b=>eqD a b|_,_=>e_
inductive Sh(s:j_):A'->g_->Prop
 |non:Sh s .non .none
 |bl (b:Bool):Sh s (.bl b) (.bool b)
 |int (i:Int) (t:Nat):Sh s (.int i) (.int i t)
 |tup {ds:List A'} {l:h_} {is:Array g_} (p:s.heap.IsTuple l is):Sh s (.tup ds) (.ref l)
 |lst {ds:List A'} {l:h_} {is:Array g_} (p:s.heap.IsList l is):Sh s (.lst ds) (.ref l)
noncomputable def sq:A'->A'->Bool
 |.tup _,.tup _=>e_|.lst _,.lst _=>e_|_,_=>cm
def xh{a b:A'}(h:sq a b=e_):(∃ds es,a=.tup ds/\b=.tup es)\/∃ds es,a=.lst ds/\b=.lst es:=by
 unfold sq at h;split at h
 .exact .inl ⟨_,_,rfl,rfl⟩
 .exact .inr ⟨_,_,rfl,rfl⟩
 .cases h
def eqAt_U{s:j_}{a b:A'}{v:g_}(U:Sh s a u)(S:Sh s b v)(B:A.units<IU):sq a b=e_\/LN A s u v (eqD a b):=match U,S with
 |.non,.non=>.inr (.same _)|.non,.bl b=>.inr (.none_bool b)|.non,.int b I=>.inr (.none_int b I)|.non,.tup q=>.inr (.none_tuple q B)|.non,.lst q=>.inr (.none_list q B)|.bl a,.non=>.inr (.bool_none a)|.bl a,.bl b=>.inr (.bool_bool a b)|.bl a,.int b I=>.inr (.bool_int a b I)|.bl a,.tup q=>.inr (.bool_tuple a q B)|.bl a,.lst q=>.inr (.bool_list a q B)|.int a t,.non=>.inr (.int_none a t)|.int a t,.bl b=>.inr (.int_bool a t b)|.int a t,.int b I=>.inr (.int_int a t b I)|.int a t,.tup q=>.inr (.int_tuple a t q B)|.int a t,.lst q=>.inr (.int_list a t q B)|.tup p,.non=>.inr (.tuple_none p B)|.tup p,.bl b=>.inr (.tuple_bool b p B)|.tup p,.int b I=>.inr (.tuple_int b I p B)|.tup _,.tup _=>.inl rfl|.tup p,.lst q=>.inr (.tuple_list p q B)|.lst p,.non=>.inr (.list_none p B)|.lst p,.bl b=>.inr (.list_bool b p B)|.lst p,.int b I=>.inr (.list_int b I p B)|.lst p,.tup q=>.inr (.list_tuple p q B)|.lst _,.lst _=>.inl rfl
def rcAt_U{s:j_}{a b:A'}{v:g_}(U:Sh s a u)(S:Sh s b v)(B:A.units<IU):sq a b=e_\/QF A s u v (eqD a b):=match U,S with
 |.non,.non=>.inr (.none_none)|.non,.bl b=>.inr (.none_bool b)|.non,.int b I=>.inr (.none_int b I)|.non,.tup q=>.inr (.none_tuple q B)|.non,.lst q=>.inr (.none_list q B)|.bl a,.non=>.inr (.bool_none a)|.bl a,.bl b=>.inr (.bool_bool a b)|.bl a,.int b I=>.inr (.bool_int a b I)|.bl a,.tup q=>.inr (.bool_tuple a q B)|.bl a,.lst q=>.inr (.bool_list a q B)|.int a t,.non=>.inr (.int_none a t)|.int a t,.bl b=>.inr (.int_bool a t b)|.int a t,.int b I=>.inr (.int_int a t b I)|.int a t,.tup q=>.inr (.int_tuple a t q B)|.int a t,.lst q=>.inr (.int_list a t q B)|.tup p,.non=>.inr (.tuple_none p B)|.tup p,.bl b=>.inr (.tuple_bool b p B)|.tup p,.int b I=>.inr (.tuple_int b I p B)|.tup _,.tup _=>.inl rfl|.tup p,.lst q=>.inr (.tuple_list p q B)|.lst p,.non=>.inr (.list_none p B)|.lst p,.bl b=>.inr (.list_bool b p B)|.lst p,.int b I=>.inr (.list_int b I p B)|.lst p,.tup q=>.inr (.list_tuple p q B)|.lst _,.lst _=>.inl rfl
def rcNeAt_U{s:j_}{a b:A'}{v:g_}(U:Sh s a u)(S:Sh s b v)(B:A.units<IU):sq a b=e_\/PZ A s u v (!eqD a b):=match U,S with
 |.non,.non=>.inr (.none_none)|.non,.bl b=>.inr (.none_bool b)|.non,.int b I=>.inr (.none_int b I)|.non,.tup q=>.inr (.none_tuple q B)|.non,.lst q=>.inr (.none_list q B)|.bl a,.non=>.inr (.bool_none a)|.bl a,.bl b=>.inr (.bool_bool a b)|.bl a,.int b I=>.inr (.bool_int a b I)|.bl a,.tup q=>.inr (.bool_tuple a q B)|.bl a,.lst q=>.inr (.bool_list a q B)|.int a t,.non=>.inr (.int_none a t)|.int a t,.bl b=>.inr (.int_bool a t b)|.int a t,.int b I=>.inr (.int_int a t b I)|.int a t,.tup q=>.inr (.int_tuple a t q B)|.int a t,.lst q=>.inr (.int_list a t q B)|.tup p,.non=>.inr (.tuple_none p B)|.tup p,.bl b=>.inr (.tuple_bool b p B)|.tup p,.int b I=>.inr (.tuple_int b I p B)|.tup _,.tup _=>.inl rfl|.tup p,.lst q=>.inr (.tuple_list p q B)|.lst p,.non=>.inr (.list_none p B)|.lst p,.bl b=>.inr (.list_bool b p B)|.lst p,.int b I=>.inr (.list_int b I p B)|.lst p,.tup q=>.inr (.list_tuple p q B)|.lst _,.lst _=>.inl rfl
section
variable{s:j_}
def xn(I:B3 X B1 σ H s)(B:aM F H){x:V}(o:C' d n=e_)(q:bh X.K F d x)(r:B5 x u):Sh s d u:=by
 cases d with
 |non=>cases(show x=.non from q);cases r;exact .non|bl b=>cases(show x=.bl b from q);cases r;exact .bl b|int i=>cases(show x=.int i from q);obtain⟨t,rfl⟩:=r;exact .int i t
 |tup ds=>obtain⟨l,xs,rfl,t,_⟩:=q;cases r;obtain⟨is,_,p,_⟩:=I.tuple (B.tup t);exact .tup (show s.heap.IsTuple l is.toArray from p)
 |lst ds=>obtain⟨l,xs,rfl,t,_⟩:=q;cases r;obtain⟨is,_,p,_⟩:=I.list (B.lst t);exact .lst p.isList
 |_=>simp[C']at o
theorem rR{n:Nat}(S:∀(d e:A') {v:V},bh X.K F d v->bh X.K F e v->C' d n=e_->C' e n=e_->d=e):∀(ds es:be) {xs:bm},ay X.K F ds xs->ay X.K F es xs->kj ds n=e_->kj es n=e_->ds=es
 |[],[],_,_,_,_,_=>rfl|[],_::_,_,q,⟨_,_,e,_,_⟩,_,_=>by rw[show _=[]from q]at e;cases e|_::_,[],_,⟨_,_,e,_,_⟩,q,_,_=>by rw[show _=[]from q]at e;cases e|d::ds,e::es,_,⟨v,vs,e1,q1,Y⟩,⟨w,a,e2,q2,U⟩,I,B=>by rw[e1]at e2;cases e2;simp[kj,D_]at I B;rw[S d e q1 q2 I.1 B.1,rR S ds es Y U I.2 B.2]
theorem wj{e:A'}(S:sq d d=cm)(q:bh X.K F d v)(r:bh X.K F e v)(I:C' d n=e_)(B:C' e n=e_):d=e:=by
 cases d<;>first|(cases S;done)|(simp[C']at I;done)|(subst q)
 all_goals cases e<;>first|(simp[C']at B;done)|(first|(obtain⟨_,_,z,_⟩:=r;cases z)|(cases r<;>rfl))
theorem wk(I:B3 X B1 σ H s)(S:aM F H):∀(n:Nat) (d e:A') {v:V},bh X.K F d v->bh X.K F e v->C' d n=e_->C' e n=e_->d=e
 |n,.tup ds,e,v,⟨l,xs,e1,h1,b⟩,r,B,U=>by
  subst e1;cases n with
  |zero=>simp_all[C']|succ n=>
   cases e with
   |tup es=>obtain⟨c,ys,e2,Y,a⟩:=r;cases e2;cases SqT.inj I (S.tup h1) (S.tup Y);rw[rR (wk I S n) _ _ b a (by simp_all[C']) (by simp_all[C'])]
   |lst es=>obtain⟨c,ys,e2,Y,a⟩:=r;cases e2;obtain⟨i1,_,p1,_⟩:=I.list (S.lst Y);obtain⟨i2,_,p2,_⟩:=I.tuple (S.tup h1);exact IA rfl (PY p1.isList (show s.heap.IsTuple l i2.toArray from p2))
   |_=>first|(simp[C']at U;done)|(cases r)
 |n,.lst ds,e,v,⟨l,xs,e1,h1,b⟩,r,B,U=>by
  subst e1;cases n with
  |zero=>simp_all[C']|succ n=>
   cases e with
   |lst es=>obtain⟨c,ys,e2,Y,a⟩:=r;cases e2;cases SqL.inj I (S.lst h1) (S.lst Y);rw[rR (wk I S n) _ _ b a (by simp_all[C']) (by simp_all[C'])]
   |tup es=>obtain⟨c,ys,e2,Y,a⟩:=r;cases e2;obtain⟨i1,_,p1,_⟩:=I.list (S.lst h1);obtain⟨i2,_,p2,_⟩:=I.tuple (S.tup Y);exact IA rfl (PY p1.isList (show s.heap.IsTuple l i2.toArray from p2))
   |_=>first|(simp[C']at U;done)|(cases r)
 |_,.non,_,_,q,r,B,U=>wj rfl q r B U|_,.bl _,_,_,q,r,B,U=>wj rfl q r B U|_,.int _,_,_,q,r,B,U=>wj rfl q r B U|_,.ins _ _,_,_,_,_,B,_=>by simp_all[C']|_,.dic _,_,_,_,_,B,_=>by simp_all[C']|_,.dil _,_,_,_,_,B,_=>by simp_all[C']
termination_by n=>n
theorem rcAt_S{a b:A'}{x:V}{v:g_}(I:B3 X B1 σ H s)(h:aM F H)(O:sq a b=e_)(z:bh X.K F a x)(w:bh X.K F b y)(t:B5 x u)(r:B5 y v)(o:A.units<IU)(E:∀(ds es:be) (j:Nat) (U S:A') (x y:V) (u v:g_),(a=.tup ds/\b=.tup es\/a=.lst ds/\b=.lst es)->ds[j]?=a_ U->es[j]?=a_ S->bh X.K F U x->bh X.K F S y->B5 x u->B5 y v->LN A.in1 s u v (eqD U S)):QF A s u v (eqD a b):=by
 rcases xh O with⟨ds,es,rfl,rfl⟩|⟨ds,es,rfl,rfl⟩
 .obtain⟨D,xs,rfl,h1,f⟩:=z;cases t;obtain⟨is,c,p1,_⟩:=I.tuple (h.tup h1);obtain⟨C,ys,rfl,B,d⟩:=w;cases r;obtain⟨n,Y,p2,_⟩:=I.tuple (h.tup B);have K:=c.length;have J:=Y.length;have N:=f.length;have L:=d.length;have q:=SeqAt.RcAt.tuples (A:=A) (e:=lN ds es) (show s.heap.IsTuple D is.toArray from p1) (show s.heap.IsTuple C n.toArray from p2) o (λj h1 B=>by
   obtain⟨k,f1,p⟩:=c.atA h1;obtain⟨i,f2,g2⟩:=Y.atA B;obtain⟨U,g,m⟩:=f.at f1;obtain⟨S,k2,l⟩:=d.at f2;rw[show lN ds es j=eqD U S by simp only[lN,g,k2]];exact E ds es j U S k i _ _ (.inl ⟨rfl,rfl⟩) g k2 m l p g2)
  rw[show is.toArray.size=ds.length by simp_all,show n.toArray.size=es.length by simp_all,Ct _ (λj a b h1 B=>by simp_all[lN])]at q;exact q
 .obtain⟨D,xs,rfl,h1,f⟩:=z;cases t;obtain⟨is,c,p1,_⟩:=I.list (h.lst h1);obtain⟨C,ys,rfl,B,d⟩:=w;cases r;obtain⟨n,Y,p2,_⟩:=I.list (h.lst B);have K:=c.length;have J:=Y.length;have N:=f.length;have L:=d.length;by_cases G:ds.length=es.length
  .have q:=SeqAt.RcAt.lists (A:=A) (e:=lN ds es) p1.isList p2.isList a7 o (λj h1 B=>by
   obtain⟨k,f1,p⟩:=c.atA h1;obtain⟨i,f2,g2⟩:=Y.atA B;obtain⟨U,g,m⟩:=f.at f1;obtain⟨S,k2,l⟩:=d.at f2;rw[show lN ds es j=eqD U S by simp only[lN,g,k2]];exact E ds es j U S k i _ _ (.inr ⟨rfl,rfl⟩) g k2 m l p g2)
   rw[show is.toArray.size=ds.length by grind,ay.all_eq (F:=F) _ G (λj a b h1 B=>by simp_all[lN])]at q;exact q
  .exact(show eqD (.lst ds) (.lst es)=cm from pU G)▸SeqAt.RcAt.lists_lengths (A:=A) p1.isList p2.isList a7 o
theorem rcNeAt_S{a b:A'}{x:V}{v:g_}(I:B3 X B1 σ H s)(h:aM F H)(O:sq a b=e_)(z:bh X.K F a x)(w:bh X.K F b y)(t:B5 x u)(r:B5 y v)(o:A.units<IU)(E:∀(ds es:be) (j:Nat) (U S:A') (x y:V) (u v:g_),(a=.tup ds/\b=.tup es\/a=.lst ds/\b=.lst es)->ds[j]?=a_ U->es[j]?=a_ S->bh X.K F U x->bh X.K F S y->B5 x u->B5 y v->LN A.in1 s u v (eqD U S)):PZ A s u v (!eqD a b):=by
 rcases xh O with⟨ds,es,rfl,rfl⟩|⟨ds,es,rfl,rfl⟩
 .obtain⟨D,xs,rfl,h1,f⟩:=z;cases t;obtain⟨is,c,p1,_⟩:=I.tuple (h.tup h1);obtain⟨C,ys,rfl,B,d⟩:=w;cases r;obtain⟨n,Y,p2,_⟩:=I.tuple (h.tup B);have K:=c.length;have J:=Y.length;have N:=f.length;have L:=d.length;have q:=SeqAt.RcNeAt.tuples (A:=A) (e:=lN ds es) (show s.heap.IsTuple D is.toArray from p1) (show s.heap.IsTuple C n.toArray from p2) o (λj h1 B=>by
   obtain⟨k,f1,p⟩:=c.atA h1;obtain⟨i,f2,g2⟩:=Y.atA B;obtain⟨U,g,m⟩:=f.at f1;obtain⟨S,k2,l⟩:=d.at f2;rw[show lN ds es j=eqD U S by simp only[lN,g,k2]];exact E ds es j U S k i _ _ (.inl ⟨rfl,rfl⟩) g k2 m l p g2)
  rw[show is.toArray.size=ds.length by grind,show n.toArray.size=es.length by grind,Ct _ (λj a b h1 B=>by simp_all[lN])]at q;exact q
 .obtain⟨D,xs,rfl,h1,f⟩:=z;cases t;obtain⟨is,c,p1,_⟩:=I.list (h.lst h1);obtain⟨C,ys,rfl,B,d⟩:=w;cases r;obtain⟨n,Y,p2,_⟩:=I.list (h.lst B);have K:=c.length;have J:=Y.length;have N:=f.length;have L:=d.length;by_cases G:ds.length=es.length
  .have q:=SeqAt.RcNeAt.lists (A:=A) (e:=lN ds es) p1.isList p2.isList a0 o (λj h1 B=>by
   obtain⟨k,f1,p⟩:=c.atA h1;obtain⟨i,f2,g2⟩:=Y.atA B;obtain⟨U,g,m⟩:=f.at f1;obtain⟨S,k2,l⟩:=d.at f2;rw[show lN ds es j=eqD U S by simp only[lN,g,k2]];exact E ds es j U S k i _ _ (.inr ⟨rfl,rfl⟩) g k2 m l p g2)
   rw[show is.toArray.size=ds.length by grind,ay.all_eq (F:=F) _ G (λj a b h1 B=>by simp_all[lN])]at q;exact q
  .exact(show eqD (.lst ds) (.lst es)=cm from pU G)▸SeqAt.RcNeAt.lists_lengths (A:=A) p1.isList p2.isList (by simp;lia) o
theorem ok_sub{a b I B:A'}{es:be}(U:C' a n=e_)(S:C' b n=e_)(h:a=.tup ds/\b=.tup es\/a=.lst ds/\b=.lst es)(Y:ds[j]?=a_ I)(k2:es[j]?=a_ B):∃m,n=m+1/\C' I m=e_/\C' B m=e_:=by
 cases n with
 |zero=>grind[C']|succ m=>exact⟨m,rfl,by rcases h with⟨rfl,rfl⟩|⟨rfl,rfl⟩<;>exact⟨vB U Y,vB S k2⟩⟩
theorem eqAt_N(I:B3 X B1 σ H s)(d:aM F H):∀(n:Nat) (a b:A') {x y:V} {u v:g_} {A:Kb},C' a n=e_->C' b n=e_->bh X.K F a x->bh X.K F b y->B5 x u->B5 y v->A.units+n<IU->LN A s u v (eqD a b):=by
 intro n
 induction n with
 |zero=>intro a b x y u v A S f B c Y U l;refine(eqAt_U (xn I d S B Y) (xn I d f c U) ac).resolve_left λh=>?_;rcases xh h with⟨ds,es,rfl,rfl⟩|⟨ds,es,rfl,rfl⟩<;>simp[C']at S
 |succ n K=>
  intro a b x y u v A S f B c Y U l;rcases eqAt_U (A:=A) (xn I d S B Y) (xn I d f c U) ac with h|h
  .by_cases g:x=y
   .subst g;cases(show a=b from wk I d _ a b B c S f);rw[vZ S];rcases xh h with⟨ds,es,rfl,_⟩|⟨ds,es,rfl,_⟩<;>(obtain⟨i,xs,rfl,_⟩:=B;cases Y;cases U;exact SeqAt.EqAt.same _)
   .have q:=rcAt_S (A:=A) I d h B c Y U ac λds es j O N r p w t o k k2 G E L g2=>by
     obtain⟨m,e,D,C⟩:=ok_sub S f o k k2
     grind
    rcases xh h with⟨ds,es,rfl,rfl⟩|⟨ds,es,rfl,rfl⟩<;>(obtain⟨i,xs,rfl,_⟩:=B;obtain⟨J,ys,rfl,_⟩:=c;cases Y;cases U;exact SeqAt.EqAt.of_refs (λz=>g (by rw[z])) q)
  simp_all
def Ha(I:B3 X B1 σ H s)(f:aM F H)(a b:A'){x:V}{v:g_}(d:C' a n=e_)(c:C' b n=e_)(Y:bh X.K F a x)(U:bh X.K F b y)(S:B5 x u)(B:B5 y v)(e:A.units+n<IU):LN A s u v (eqD a b):=eqAt_N I f n a b d c Y U S B e
theorem eqAt_I(I:B3 X B1 σ H s)(i:aM F H){a b:A'}(Y:C' a n=e_)(U:C' b n=e_)(l:A.units+n<IU)(ds es:be)(j:Nat)(S B:A')(x y:V)(u v:g_)(h:a=.tup ds/\b=.tup es\/a=.lst ds/\b=.lst es)(g:ds[j]?=a_ S)(k2:es[j]?=a_ B)(f:bh X.K F S x)(e:bh X.K F B y)(k:B5 x u)(g2:B5 y v):LN A.in1 s u v (eqD S B):=by obtain⟨m,rfl,d,c⟩:=ok_sub Y U h g k2;exact Ha I i S B d c f e k g2 ac
theorem rcAt_D(I:B3 X B1 σ H s)(B:aM F H)(a b:A'){x:V}{v:g_}(e:C' a n=e_)(d:C' b n=e_)(c:bh X.K F a x)(Y:bh X.K F b y)(U:B5 x u)(S:B5 y v)(f:A.units+n<IU):QF A s u v (eqD a b):=
 (rcAt_U (xn I B e c U) (xn I B d Y S) ac).elim (λh=>rcAt_S I B h c Y U S ac (eqAt_I I B e d f)) id
theorem rcNeAt_D(I:B3 X B1 σ H s)(B:aM F H)(a b:A'){x:V}{v:g_}(e:C' a n=e_)(d:C' b n=e_)(c:bh X.K F a x)(Y:bh X.K F b y)(U:B5 x u)(S:B5 y v)(f:A.units+n<IU):PZ A s u v (!eqD a b):=
 (rcNeAt_U (xn I B e c U) (xn I B d Y S) ac).elim (λh=>rcNeAt_S I B h c Y U S ac (eqAt_I I B e d f)) id
end
section
variable{W:bY}{own:Bool}
def aH.blS{Q:VK}{s:j_}{b:Bool}(p:aH K W own F H (.ok (.bl b)) Q)(s1:aM F H)(I:B3 X B1 σ H s):EP X B1 σ Q (.bool b) s:=⟨.bl b,H,I,rfl,p.bl s1⟩
theorem pq(e:X.A.units+64<IU)(d: ~~~(X.K=K)):Op2 K W own X (IP .Eq) eqM:=by
 subst d;rintro B1 s σ H x y v u Q I U S ⟨F,a,b,s1,c,Y,p⟩;unfold eqM at p;by_cases B:(C' a 40&&C' b 40)=e_
 .rw[p_ B]at p;simp at B;exact rcAt_D I s1 a b B.1 B.2 c Y U S ac _ _ _ _ (p.blS s1 I)
 .rw[q_ B]at p;exact p.stuck
theorem Et(e:X.A.units+64<IU)(d: ~~~(X.K=K)):Op2 K W own X (IP .NotEq) neM:=by
 subst d;rintro B1 s σ H x y v u Q I U S ⟨F,a,b,s1,c,Y,p⟩;unfold neM at p;by_cases B:(C' a 40&&C' b 40)=e_
 .rw[p_ B]at p;simp at B;exact rcNeAt_D I s1 a b B.1 B.2 c Y U S ac _ _ _ _ (p.blS s1 I)
 .rw[q_ B]at p;exact p.stuck
end
section
variable{s:j_}
theorem B3.qe{t':Nat}{T:h_}(I:B3 X B1 σ H s)(d:∀b∈ch,En X B1 H b)(k:∀b o,b∉ch->s.heap.get? b=a_ o->h'.get? b=a_ o)(f:s.heap.objs.size<=T)(a:xs.length<=n_/\∃its:bv,B6 xs its/\PM h' T its.toArray):B3 X B1 σ (upd H T (.tup xs)) {s with heap:=h',toks:=t'}:=by
 have B:=I.hok.fresh f;have g:∀b u,H b=a_ u->b∉ch:=λb u e z=>by rw[(d b z).1]at e;lia
 have Y:∀{b:h_} {o:NY},s.heap.get? b=a_ o->b≠T:=λ{b o} e=>G_ (y_ (r_ e) f);refine I.step (λb U=>?_) (λb o _ _ S e _=>k b o S e) (λb o _ _ S e _=>⟨o.slots,k b o S e⟩) (λb o _ e n=>by rw[av (Y e)];exact n)
  (λb o S e=>⟨o,k b o S e⟩) (λb ys e=>by rw[av (aL e B)];exact e) (λb o u e=>by rw[av (aL e B)];exact e) (λb ps e=>⟨#[],by rw[av (aL e B),e];simp⟩) (λm i=>?_) (λb u e=>?_) I.bare
 .obtain⟨f0,f1,f2,f3,f4,f5⟩:=d b U;exact⟨f3,f1,f4,f5⟩
 .obtain⟨o,es,ep,h,r⟩:=i;exact⟨o,es,ep,k _ o (λz=>(d _ z).2.1 rfl) h,r⟩
 .by_cases U:b=T
  .subst U;rw[aq]at e;cases e;exact a
  .rw[av U]at e;refine(I.hok b u e).stay (λc v S q=>k c v ?_ q) (λc q=>?_) λc ys q=>?_
   .grind
   .rw[av (aL q B)];exact q
   grind[av]
theorem B3.zU{t':Nat}(I:B3 X B1 σ H s)(S:∀b∈ch,En X B1 H b)(k:∀b o,b∉ch->s.heap.get? b=a_ o->h'.get? b=a_ o):B3 X B1 σ H {s with heap:=h',toks:=t'}:=by
 have U:∀b u,H b=a_ u->b∉ch:=λb u e z=>by rw[(S b z).1]at e;lia
 refine I.step (λb d=>?_) (λb o _ _ B e _=>k b o B e) (λb o _ _ B e _=>⟨o.slots,k b o B e⟩) (λb o _ e n=>n)
  (λb o B e=>⟨o,k b o B e⟩) (λb ys e=>e) (λb o u e=>e) (λb ps e=>⟨#[],a7⟩) (λm a=>?_) (λb u e=>?_) I.bare
 .obtain⟨f0,f1,f2,f3,f4,f5⟩:=S b d;exact⟨f3,f1,f4,f5⟩
 .obtain⟨o,es,ep,Y,r⟩:=a;exact⟨o,es,ep,k _ o (λz=>(S _ z).2.1 rfl) Y,r⟩
 .refine(I.hok b u e).stay (λc v B q=>k c v ?_ q) (λ_ q=>q) λ_ _ q=>q
  grind
end
noncomputable def Ite(K:Pn)(a:h_):It:=
 ⟨λi H=>∃xs x,SqL K H a xs/\xs[i]?=a_ x,λi H x H'=>∃T y,H T=d_/\x=.ref T/\H'=upd H T (.tup [.int i,y])/\∀xs,SqL K H a xs->xs[i]?=a_ y,λi H=>∃xs,SqL K H a xs/\xs.length<=i⟩
theorem wY(a e it:h_)(j:e≠it):Turn P w K (.Tuple elts k pos) (Ite K a) [e,it] e (λi h=>(∃B,IsEnum h e it i B)/\h.IsListIter it a i) where
 mem:=by simp
 obj:=λi h st b U=>by
  obtain⟨⟨B,Y⟩,o,e1,c,d⟩:=st
  grind
 keep:=λi h h' st F=>by obtain⟨⟨B,Y⟩,S⟩:=st;exact⟨⟨B,F e ad _ Y⟩,S.at λo x=>F it ad o x⟩
 item:=by
  intro X C hw D G i B1 s σ H E I n st v;subst C hw D;obtain⟨⟨B,Y⟩,S⟩:=st;obtain⟨xs,x,m,t⟩:=v;obtain⟨its,r,p,hz⟩:=I.list m;obtain⟨u,Z,L⟩:=r.get t;refine wpAny_pyNext_enum_item Y S p.isList (x:=u) a7 j λh1 O g T hsz Q=>⟨_,rfl,Qc O λJ A f=>?_⟩
  have l:=J3 (r_ Y);have W:B3 X B1 σ (upd H s.z (.tup [.int i,x])) {s with heap:=J,toks:=s.toks+1}:=I.qe n (λb o U q=>by exact(f.2 b (λz=>U (by simp[z]))).trans (Q b o (λz=>U (by simp[z])) (λz=>U (by simp[z])) q)) (f_ _) ⟨ad,[.int i s.toks,u],.cons ⟨_,rfl⟩ (.cons L .nil),⟨_,(f.2 _ l).trans T,rfl,0,rfl⟩⟩
  refine⟨.ref s.z,_,W,rfl,⟨s.z,x,I.hok.fresh (f_ _),rfl,rfl,λys N=>by rw[I.C4 N m];exact t⟩,⟨⟨u,by simpa using A⟩,g.at λo y=>(f.2 it j.symm).trans y⟩,λb U=>?_⟩
  have R:=(n b U).1;have:b≠s.z:=by
   rcases x_.mp U with rfl|U
   .exact l.symm
   .have:=by simpa using U
    subst this;obtain⟨o,e1,_⟩:=S;exact G_ (r_ e1)
  simp_all[av]
 done:=by intro X C hw D G i B1 s σ H E I n st v;subst C hw D;obtain⟨⟨B,Y⟩,S⟩:=st;obtain⟨xs,m,t⟩:=v;obtain⟨its,r,p,hz⟩:=I.list m;have hl:=r.length;exact wpAny_pyNext_enum_end (I.ok.hd G) Y S p.isList (Kt a7) λJ eb=>⟨rfl,I.zU n λb o U q=>eb b o (λz=>U (by simp[z])) q⟩
 self:=λ_ _ _ _ _ st h=>by obtain⟨⟨B,Y⟩,_⟩:=st;exact L7 Y h
theorem rL:∀(ds:be) (k i:Nat),(iJ k ds)[i]?=(ds[i]?).map λd=>.tup [.int ((k+i:Nat):Int),d]
 |[],k,i=>by rfl|d::ds,k,0=>by rfl|d::ds,k,i+1=>by
  rw[iJ,Km,rL ds _ i,Km]
  lia
theorem kO:∀(ds:be) (k:Nat),(iJ k ds).length=ds.length
 |[],_=>rfl|d::ds,k=>by rw[iJ,F_,kO ds,F_]
theorem yn(t:SqL K F a xs)(z:ay K F ds xs):mC K F (Ite K a) (iJ 0 ds) where
 go:=λi F' H' s1 s2 hi=>⟨xs,xs[i]'(by rw[z.length];simp_all[kO]),s2.lst (s1.lst t),ad⟩
 yl:=λi F' H' x H2 d s1 s2 I S=>by
  obtain⟨T,y,U,ex,Y,S⟩:=S;subst ex Y;rw[rL]at I;cases B:ds[i]? with
  |none=>simp_all|some b=>rw[B]at I;simp at I;subst I;obtain⟨v,e1,q⟩:=z.get B;have e2:=S xs (s2.lst (s1.lst t));rw[e1]at e2;cases e2;exact⟨upd F' T _,B2.lay s2 U,T,_,rfl,SqT.of aq,⟨.int i,[y],rfl,rfl,y,[],rfl,(q.mono s1).mono (aM.upd (s2.free U)),rfl⟩⟩
 st:=λF' H' s1 s2=>⟨xs,s2.lst (s1.lst t),by rw[z.length,kO];simp⟩
section
variable{W:bY}{own:Bool}{a b:Jj}{es:List Jj}{p:Pb}{f:b6}{fr:ab->M (List A')}
def iEnum(K:Pn)(tl:TE):TI:=λσ H R=>tl σ H λx H1=>∃a,x=.ref a/\(∃xs,SqL K H1 a xs)/\R (Ite K a) H1
def pi_enum(m:Gl X "enumerate")(g:X.mg "enumerate"=d_)(i:PE X a tl)(c: ~~~(k_ [a] X.env=[(cm,Il a X.env)])):
  PI X (.Tuple elts k q) (.Call (.Name "enumerate" p) [a] [] pos) (iEnum X.K tl):=by
 intro B1 s σ H R I h;refine RF (lW I m g boot_enumerate (Jb (B' ((cx i eX c) pos B1 s σ H (λvs H1=>match vs with
  |[x]=>∃a,x=.ref a/\(∃xs,SqL X.K H1 a xs)/\R (Ite X.K a) H1
  |_=>False) I h) λus s1 ⟨vs,H1,S,e,q1⟩=>?_) c rfl))
 rcases vs with _|⟨x,_|⟨_,_⟩⟩
 .exact Jt q1
 rotate_left
 .exact Jt q1
 .obtain⟨l,rfl,⟨xs,f⟩,q⟩:=q1;obtain⟨u,rfl,rfl⟩:=e.one;obtain⟨its,n,pl,hz⟩:=S.list f;refine RS pl.isList λo d U hsz j=>L7 d ?_;refine⟨s1.z+1,[s1.z+1,s1.z],_,_,H1,rfl,(S.kept (t':=s1.toks) j),wY l _ _ (OU _),⟨⟨_,d⟩,U⟩,λb Y=>?_,q⟩
  have B:s1.z<=b:=by
   rcases x_.mp Y with rfl|Y
   .simp
   .have:=by simpa using Y
    exact Mu this.symm
  exact S.Ew B (S.hok.fresh B)
theorem di_enum(I:X.mg "enumerate"=d_)(S:DE K W cm X a fa)(U: ~~~(Gl X "enumerate"))(B: ~~~(k_ [a] X.env=[(cm,Il a X.env)]))(c: ~~~(X.K=K)):
  DI K W X (.Tuple elts k q) (.Call (.Name "enumerate" p) [a] [] pos) (fEnum fa):=by
 subst c;exact(pi_enum U I S B).imp λ_ _ _=>by
   intro h;obtain⟨F,ρ,r,s,p⟩:=h;refine aD r s (λe f=>?_) λd Y v F1 H1 s1 q1=>?_
   .simp_all[fEnum]
   .simp[fEnum,Y]at p;cases d with
    |lst ds=>obtain⟨b,xs,e,t,z⟩:=q1;exact⟨b,e,⟨xs,s1.fh.lst t⟩,p _ F1 H1 s1 (yn t z)⟩
    |_=>exact(W.ns p).elim
def cK:PTs X [] (tDT K W jZ):=λB1 s σ H Q I h=>pts_nil B1 s σ H Q I (by obtain⟨F,ρ,r,s1,q⟩:=h;exact q F H (B2.refl s1))
def dR:PGs X [] (iw []):=FR
def ba{is:bi}(U:X.N.Nodup)(Y:PGs X es (iw is))(hi: ~~~(X.N[i]?=a_ x))(B:autoParam (Loc X.env.scope x) Jq3)(S:autoParam (X.fn x=e_\/X.env.scope.names.lookup x=a_ .local) Jq3)(I: ~~~((KQ (.Name x p::es) X.env).map (·.2)=Ng (.Name x p) X.env::(KQ es X.env).map (·.2))):PGs X (.Name x p::es) (iw (i::is)):=pM (jr U hi B S) Y I
theorem lP{is:bi}(g:X.calm=e_)(h:PGs X es (iw is))(d: ~~~((KQ es X.env).length=is.length))(B: ~~~((KQ es X.env).findIdx? (·.1)=d_))(i: ~~~(X.K=K)):DG K X (.Tuple es k pos) (.tp is):=by subst i;rintro B1 s σ H v u Q I r ⟨a,xs,e1,c,f,hw⟩;subst e1;cases r;obtain⟨its,S,Y,hz⟩:=I.tuple c;exact assign_Tuple_tuple (I.ok.hd g) Y (by simp[d,<- f,S.length]) B λh' U=>h B1 _ σ H xs _ Q (I.kept (t':=s.toks) λb o e=>U b o (G_ (r_ e)) e) a7 hw
theorem oJ{ix:List (Option Nat)}:∀{is:bi},(∀i∈is,ix[i]?=a_ d_)->∀vs I H' (Q:St->Hp->Prop),iw is vs I H' Q->iw is vs I H' λB H2=>Q B H2/\∀(i:Nat) v,I[i]?=a_ (a_ v)->(∃j,ix[i]?=a_ (a_ j))->B[i]?=a_ (a_ v)
 |[],_,vs,I,H',Q,⟨e,q⟩=>⟨e,q,λ_ _ h _=>h⟩|i::is,c,vs,I,H',Q,⟨v,r,e,q⟩=>by
  refine⟨v,r,e,?_⟩
  have:=oJ (λj f=>c j (by simp[f])) r _ H' Q q;have U:∀{is:bi} {vs:bm} {S:St} {H1:Hp} {Q Y:St->Hp->Prop},(∀B H2,Q B H2->Y B H2)->iw is vs S H1 Q->iw is vs S H1 Y:=by
   intro is
   induction is with
   |nil=>rintro vs S H1 Q Y m ⟨e,q⟩;exact⟨e,m _ _ q⟩
   |cons i is b=>rintro vs S H1 Q Y m ⟨v,r,e,q⟩;exact⟨v,r,e,b m q⟩
  refine U (λB H2 a=>?_) this;obtain⟨q1,q2⟩:=a;refine⟨q1,λj w h a=>?_⟩
  obtain⟨l,d⟩:=a;refine q2 j w ?_ ⟨l,d⟩
  grind
def mS{is:bi}(h:∀i∈is,ix[i]?=a_ d_):oX ix (gP K (.tp is)):=λx B H' Q ⟨a,xs,e,t,l,q⟩=>⟨a,xs,e,t,l,oJ h xs B H' Q q⟩
def cN{L:h_}{s:j_}(S:N'.Nodup)(hi: ~~~(N'[i]?=a_ x))(B:autoParam (Loc (bf X N' sc L cs s H fp).env.scope x) Jq3)(I:autoParam ((bf X N' sc L cs s H fp).fn x=e_\/(bf X N' sc L cs s H fp).env.scope.names.lookup x=a_ .local) Jq3):DG K (bf X N' sc L cs s H fp) (.Name x pos) (.nm i):=pg_c S hi B I
variable{pt:Pat}
def bR(N':List IL)(ix:List (Option Nat))(hi:DI K W X tg iter fi)(Y:∀L cs s H fp,DG K (bf X N' sc L cs s H fp) tg pt)(S:oX ix (gP K pt))(B:∀L cs s H fp,PTs (bf X N' sc L cs s H fp) ifs (tDT K W ft))(a:∀L cs s H fp,DE K W cm (bf X N' sc L cs s H fp) elt fe)(b: ~~~(X.calm=e_))(ok: ~~~(bH X.N X.env.scope N' sc ix=e_))(U: ~~~(sc.kind=.function))(I:autoParam (∀x,Ku iter X.env x=JM x) Jq4):
  DE K W e_ X (.ListComp elt [⟨tg,iter,ifs,0⟩] sc pos) (bB fi ix pt ft fe):=(pe_comp N' ix b hi Y S B a ok U I).imp λ_ _ _=>Fy
def tD_fr{Q:VK}(h:tD K W own f σ H Q):tD K W e_ f σ H Q:=by
 cases own with
 |true=>exact h|false=>obtain⟨F,ρ,r,s,p⟩:=h;exact⟨F,ρ,r,s,p.frz⟩
def we(own:Bool)(N':List IL)(ix:List (Option Nat))(f:X.N.Nodup)(hi:DI K W X tg iter fi)(c:∀L cs s H fp,DG K (bf X N' sc L cs s H fp) tg pt)(Y:oX ix (gP K pt))(S:∀L cs s H fp,PTs (bf X N' sc L cs s H fp) ifs (tDT K W ft))(d:∀L cs s H fp,DE K W cm (bf X N' sc L cs s H fp) elt fe)(b: ~~~(X.N[i]?=a_ x))(I: ~~~(X.env.scope.names.lookup x=a_ .local))(e: ~~~(X.calm=e_))(B: ~~~(J4 (.ListComp elt [⟨tg,iter,ifs,0⟩] sc pos) (a_ (.Name x py)) spos.line X.env=JM e_))(ok: ~~~(bH X.N X.env.scope N' sc ix=e_))(a: ~~~(sc.kind=.function))(U:autoParam (∀x,Ku iter X.env x=JM x) Jq4):
  DS K W ro X OL O (aft own i O) (.Assign [.Name x py] (.ListComp elt [⟨tg,iter,ifs,0⟩] sc pos) spos) (aI O i (bB fi ix pt ft fe)):=λF0 H0=>
 (nS N' ix f b I e hi c Y S d B ok a U).imp λD σ H t=>Fy (tD_fr (Ft t))
def ds_setI{r:Pb}(c:DE K W cm X e f)(a:DE K W cm X b fk)(Y:(i∈O)⁻¹)(h: ~~~(X.N[i]?=a_ x))(S:autoParam (Vis X.env.scope x) Jq3)(d:((x==("__debug__":IL))=cm)⁻¹)(I:((x==("__classdict__":IL))=cm)⁻¹)(g:autoParam (∀v,Ng (.Subscript (.Name x p) b q) X.env v=(do
   let ov <- Ln [v] (Il (.Name x p) X.env)
   let B <- Ln [v,ov] (Il b X.env)
   NK q
   Ln [v,ov,B] (Sm ov B v)
   release [v,ov,B] [])) Jq4)(U: ~~~(OE [.Subscript (.Name x p) b q] e r.line X.env=JM cm))(hw: ~~~(OF [.Subscript (.Name x p) b q] e X.env=JM d_))(h1: ~~~((KQ [.Subscript (.Name x p) b q] X.env).map (·.2)=[Ng (.Subscript (.Name x p) b q) X.env])):
  DS K W ro X OL O O (.Assign [.Subscript (.Name x p) b q] e r) (Dl i fk f):=λF0 H0=>(BN c (FT (pv i h S d I) a set_list g) U hw h1).imp λ_ _ _=>rs_setI Y
def Hj{pt:Pat}(I:DE K W cm X e f)(U:DG K X tg pt)(n:(∀i∈pt.names,i∉O)⁻¹)(S: ~~~(OE [tg] e pos.line X.env=JM cm))(hw: ~~~(OF [tg] e X.env=JM d_))(h1: ~~~((KQ [tg] X.env).map (·.2)=[Ng tg X.env])):DS K W ro X OL O O (.Assign [tg] e pos) (xy O pt f):=λF0 H0=>(BN I U S hw h1).imp λ_ _ _=>by
    intro t;obtain⟨FB,F,ρ,r,p⟩:=t;refine aD r.l9 r.st.fh (λe I=>p.i7 r.st (by unfold xy;rw[I];rfl)) λd Y v F1 H1 s1 q=>?_;have z:xy O pt f ρ=(dS pt d ρ).bind λρ'=>.ok (.nx ρ'):=by unfold xy;rw[Y];rfl
    rw[z]at p;cases e:dS pt d ρ with
    |error x=>have:=nJ e;subst this;exact p.stuck (by rw[e];rfl)|ok ρ'=>rw[e]at p;exact gP_rep (r.step s1) n q e λB r'=>p B F1 H1 r'
inductive SpD(K:Pn)(vs:List V)(H:Hp)(n:Nat)(P:Hp->List A'->Prop):Prop
 |mk (F:Hp) (ds:List A') (s:aM F H) (q:ay K F ds vs) (l:ds.length=n) (p:P F ds)
def spF(K:Pn)(ro:Bool)(g:cc)(n:Nat):Sp:=λvs H Q _=>SpD K vs H n λF ds=>aH K D' ro F H (g ds) Q
theorem Bz{g:b0}(h:ds.length≠n):bV nN n g ds=stk:=by simp_all
theorem Hx{g:b0}(F:jN X.prog X.w X.K X.mg X.base CX0 k fad fd ps (spF K ro (bV nN n g) n))(a:kf k X.A)(b:X.mg x=a_ (.ref fad))(c:MB X.K (.ref fad)=e_)(f:Binds X.K fd ps [])(i:DA K D' X (e::es) fr)(d: ~~~(Gl X x))(U:((x==("__debug__":IL))=cm)⁻¹)(I: ~~~(k_ (e::es) X.env=(cm,Il e X.env)::k_ es X.env))(S: ~~~((Jy pos (k_ es X.env)).any (·.1)=cm)):
  DE K D' ro X (.Call (.Name x p) (e::es) [] pos) (fL (bV nN n g) fr):=by
 refine PE.imp (Ag F a d b c f .nil xQ i U I S) λσ H Q h=>?_;obtain⟨F,ρ,r,s,p⟩:=rd_L h;refine⟨F,ρ,r,s,?_⟩
 cases e1:fr ρ with
 |error z=>simp_all|ok ds=>
  rw[e1]at p;intro vs F' H' st q;obtain⟨F1,B,s1,q1,z⟩:=p vs F' H' st q;rw[J1];by_cases Y:B.length=n
  .exact⟨F1,B,s1,q1,Y,z⟩
  .rw[Bz Y]at z;exact aH.stuck z
end
section
variable{base:IF}
theorem Fg{vs:bm}(q:ay K F ds vs)(h:(ds.map a_++C_ (N.length-ds.length) d_)[i]?=a_ (a_ d)):AtI (λv=>(start N vs)[i]?=a_ (a_ v)) (bh K F d):=by
 have hi:i<ds.length:=by
  by_cases hi:i<ds.length
  .exact hi
  .simp_all[Kz,P2]
 rw[JR a7,E_]at h;cases e:ds[i]? with
 |none=>rw[e]at h;cases h|some B=>
  rw[e]at h;cases h;obtain⟨v,e1,q1⟩:=q.get e;refine⟨v,?_,q1⟩
  unfold start;rw[JR (by rw[l_,q.length];exact hi),E_,e1];rfl
theorem fn_D{st:Jl}{f:h_}(F:Fun K x qual st f fd)(S:jM N ps (aT st))(ro:Bool)(g:b0)(U:∀(cdv:g_) (A:Kb) (outer:List Qk) (s:j_) (H:Hp) (E:XK),kf k (A.deeper (Ni qual (aT st) s.heap.objs.size f cdv)) ->
   DSs K D' ro (cxOf CX0 P w K mg base N qual (aT st) f cdv A outer s H E).nox [] [] O' (d8 st) g):jN P w K mg base CX0 (k+1) f fd ps (spF K ro (bV N.length ps.length g) ps.length):=by
 refine F.okX S (λvs H Q E ⟨F,ds,s,q,l,p⟩=>by rw[q.length,l]) λcdv A outer s H vs Q E B I=>?_;obtain⟨F1,ds,s1,q,l,p⟩:=I;refine⟨_,U cdv A outer s H E B F1 H,F1,F1,ds.map a_++C_ (N.length-ds.length) d_,?_,?_⟩
 .refine⟨B2.refl s1,aM.refl _,?_,λi d e _=>Fg q e,(λi d e h=>nomatch h),(λi j ds es a h=>nomatch h)⟩
  unfold start;rw[II,II,l_,l_,Qp,Qp,q.length]
 .have e1:bV N.length ps.length g ds=(g (ds.map a_++C_ (N.length-ds.length) d_)).bind λfl=>match fl with
   |.nx _=>.ok .non|.rt d=>.ok d|_=>stk:=by exact p_ l
  rw[e1]at p;cases e2:g _ with
  |error z=>rw[e2]at p;exact p|ok fl=>
   rw[e2]at p;cases fl with
   |nx ρ=>exact λσ F H r=>p .non F H r.st (by cases ro<;>rfl)
   |rt d=>exact λv F H st q=>p v F H st q|bk ρ=>exact aH.stuck p|ct ρ=>exact aH.stuck p
def spLaw(K:Pn):Sp:=λvs H Q _=>∃(a:h_) (ns:a9),vs=[.ref a]/\SqL K H a (ns.map V.int)/\ns.length<=63/\∀H',Q (.bl e_) H'
theorem dw{F:Hp}:∀is:a9,ay K F (is.map A'.int) (is.map V.int)
 |[]=>rfl|i::is=>⟨.int i,is.map V.int,rfl,rfl,dw is⟩
theorem law_ok{f:h_}{B:Nat->cc}(F:∀n,jN P w K mg base CX0 k f fd [x] (spF K ro (B n) 1))(h:∀ns:a9,ns.length<=63->∃n,B n [.lst (ns.map .int)]=.ok (.bl e_)):jN P w K mg base CX0 k f fd [x] (spLaw K):=by
 refine⟨λvs H Q E ⟨a,ns,e,_⟩=>by rw[e];rfl,λA outer s H I us vs Q E U d g S ⟨a,ns,e,Y,c,q⟩=>?_⟩
 obtain⟨n,b⟩:=h ns c;refine(F n).run A outer s H I us vs Q E U d g S ⟨H,[.lst _],aM.refl _,⟨.ref a,[],e,⟨a,_,rfl,Y,dw ns⟩,rfl⟩,rfl,?_⟩;rw[b];intro v F' H' st z;have:v=.bl e_:=by cases ro<;>exact z
 simp_all
end
structure Kit(K:Pn):Prop where
 FD:Ly K (.type "int") (.type "int")=a_ e_
 Dv:Ly K (.type "bool") (.type "int")=a_ e_
 Ds:Ly K (.type "list") (.type "int")=a_ cm
 A9:Ly K (.type "tuple") (.type "int")=a_ cm
 sX:Ly K (.type "NoneType") (.type "int")=a_ cm
 Du:Ly K (.type "int") (.type "bool")=a_ cm
 Ae:Ly K (.type "bool") (.type "bool")=a_ e_
 Ac:Ly K (.type "list") (.type "bool")=a_ cm
 xH:Ly K (.type "tuple") (.type "bool")=a_ cm
 qv:Ly K (.type "NoneType") (.type "bool")=a_ cm
 Dt:Ly K (.type "int") (.type "list")=a_ cm
 Ad:Ly K (.type "bool") (.type "list")=a_ cm
 Aa:Ly K (.type "list") (.type "list")=a_ e_
 xG:Ly K (.type "tuple") (.type "list")=a_ cm
 qu:Ly K (.type "NoneType") (.type "list")=a_ cm
section
variable{W:bY}{own:Bool}{a b:Jj}{p:Pb}{fr:ab->M (List A')}
def isi_D{s:j_}{T:String}{x:V}{a b bl U Y:Bool}{Q:Mq}(I:B3 X B1 σ H s)(S:aM F H)(q:bh X.K F d x)(r:B5 x u)(hi:Ly X.K (.type "int") (.type T)=a_ a)(n:Ly X.K (.type "bool") (.type T)=a_ b)(m:Ly X.K (.type "list") (.type T)=a_ bl)(g:Ly X.K (.type "tuple") (.type T)=a_ U)(j:Ly X.K (.type "NoneType") (.type T)=a_ Y)(h:∀k tk,(match d with|.int _=>k=a|.bl _=>k=b|.lst _=>k=bl|.tup _=>k=U|.non=>k=Y|.ins _ _=>False|.dic _=>False|.dil _=>False)->Q (.bool k) {s with toks:=tk})(c:∀C fs,d≠.ins C fs)(f:∀ks,d≠.dic ks)(e:∀ks,d≠.dil ks):
  w_ (u_ X.prog X.w) X.A (Ms (.builtin "isinstance") [u,.type T]) Q X.xe s:=by
 cases d with
 |non=>cases(show x=.non from q);cases r;exact Q7 PySem.W.kitx_none I.kIn LO j (λz=>nomatch z) λtk=>h _ tk rfl
 |bl y=>cases(show x=.bl y from q);cases r;exact Q7 PySem.W.kitx_bool I.kIn LO n (λz=>nomatch z) λtk=>h _ tk rfl
 |int i=>cases(show x=.int i from q);obtain⟨t,rfl⟩:=r;exact Q7 PySem.W.kitx_int I.kIn LO hi (λz=>nomatch z) λtk=>h _ tk rfl
 |lst ds=>obtain⟨l,xs,rfl,t,_⟩:=q;cases r;obtain⟨its,_,pl,_⟩:=I.list (S.lst t);obtain⟨o,h1,B,_⟩:=pl.isList;exact Q7 PySem.W.kitx_list I.kIn ⟨o,h1,B⟩ m (λz=>nomatch z) λtk=>h _ tk rfl
 |tup ds=>obtain⟨l,xs,rfl,t,_⟩:=q;cases r;obtain⟨its,_,pl,_⟩:=I.tuple (S.tup t);obtain⟨o,h1,B,_⟩:=pl;exact Q7 PySem.W.kitx_tuple I.kIn ⟨o,h1,B⟩ g (λz=>nomatch z) λtk=>h _ tk rfl
 |ins C fs=>exact IA rfl (c C fs)|dic ks=>exact IA rfl (f ks)|dil ks=>exact IA rfl (e ks)
theorem Hw{T:String}{y:IL}{g:cg}(j:fS X (.builtin "isinstance") (λxs H Q=>∃v,xs=[v,.ty T]/\rD1 K W own g v H Q))(e:X.mg "isinstance"=d_)(U:X.mg y=d_)(I:K0 y=a_ (.type T))(k:DE K W cm X a fa)(f: ~~~(Gl X "isinstance"))(Y: ~~~(Gl X y))(c:(y≠"__name__")⁻¹)(i:((y==("__debug__":IL))=cm)⁻¹)(b: ~~~(k_ [a,.Name y p2] X.env=[(cm,Il a X.env),(cm,Il (.Name y p2) X.env)]))(B: ~~~(k_ [.Name y p2] X.env=[(cm,Il (.Name y p2) X.env)]))(S: ~~~((Jy pos (k_ [.Name y p2] X.env)).any (·.1)=cm)):
  DE K W own X (.Call (.Name "isinstance" p) [a,.Name y p2] [] pos) (f1 g fa):=
 (mN j f e boot_isinstance (cx k (cx (pe_bltn (v:=.ty T) Y U I rfl c i) eX B) a7) am am a7 S).imp λσ H Q h=>by
  obtain⟨F,ρ,r,s,q⟩:=rd_1 h;refine⟨F,ρ,r,s,?_⟩
  cases e1:fa ρ with
  |error z=>rw[e1]at q;exact q|ok d=>rw[e1]at q;exact λv F' H' st z=>⟨v,rfl,q v F' H' st z⟩
theorem HR(B:Kit K)(a: ~~~(X.K=K)):fS X (.builtin "isinstance") (λxs H Q=>∃v,xs=[v,.ty "int"]/\rD1 K W own pS v H Q):=by
 subst a;rintro B1 s σ H xs us Q I r ⟨v,rfl,F,d,s1,q,p⟩;obtain⟨u,w,rfl,U,S⟩:=r.two;cases(show w=K7 "int" from S);by_cases hi:(∃C fs,d=.ins C fs)\/(∃ks,d=.dic ks)\/∃ks,d=.dil ks
 .rcases hi with⟨C,fs,rfl⟩|⟨ks,rfl⟩|⟨ks,rfl⟩<;>exact aH.stuck p
 .refine isi_D I s1 q U B.FD B.Dv B.Ds B.A9 B.sX (λk tk Y=>⟨.bl k,H,I.tok tk,rfl,?_⟩) (λC fs e=>hi (.inl ⟨C,fs,e⟩)) (λks e=>hi (.inr (.inl ⟨ks,e⟩))) (λks e=>hi (.inr (.inr ⟨ks,e⟩)));cases d<;>first|(subst Y;exact aH.bl p s1)|simp_all
def E9(I:Kit K)(c:X.mg "isinstance"=d_)(Y:X.mg "int"=d_)(e:DE K W cm X a fa)(f: ~~~(X.K=K))(d: ~~~(Gl X "isinstance"))(b: ~~~(Gl X "int"))(S: ~~~(k_ [a,.Name "int" p2] X.env=[(cm,Il a X.env),(cm,Il (.Name "int" p2) X.env)]))(B: ~~~(k_ [.Name "int" p2] X.env=[(cm,Il (.Name "int" p2) X.env)]))(U: ~~~((Jy pos (k_ [.Name "int" p2] X.env)).any (·.1)=cm)):
  DE K W own X (.Call (.Name "isinstance" p) [a,.Name "int" p2] [] pos) (f1 pS fa):=Hw (HR I f) c Y (by rfl) e d b am am S B U
theorem Eh(B:Kit K)(a: ~~~(X.K=K)):fS X (.builtin "isinstance") (λxs H Q=>∃v,xs=[v,.ty "bool"]/\rD1 K W own jc v H Q):=by
 subst a;rintro B1 s σ H xs us Q I r ⟨v,rfl,F,d,s1,q,p⟩;obtain⟨u,w,rfl,U,S⟩:=r.two;cases(show w=K7 "bool" from S);by_cases hi:(∃C fs,d=.ins C fs)\/(∃ks,d=.dic ks)\/∃ks,d=.dil ks
 .rcases hi with⟨C,fs,rfl⟩|⟨ks,rfl⟩|⟨ks,rfl⟩<;>exact aH.stuck p
 .refine isi_D I s1 q U B.Du B.Ae B.Ac B.xH B.qv (λk tk Y=>⟨.bl k,H,I.tok tk,rfl,?_⟩) (λC fs e=>hi (.inl ⟨C,fs,e⟩)) (λks e=>hi (.inr (.inl ⟨ks,e⟩))) (λks e=>hi (.inr (.inr ⟨ks,e⟩)));cases d<;>first|(subst Y;exact aH.bl p s1)|simp_all
def rV(I:Kit K)(c:X.mg "isinstance"=d_)(Y:X.mg "bool"=d_)(e:DE K W cm X a fa)(f: ~~~(X.K=K))(d: ~~~(Gl X "isinstance"))(b: ~~~(Gl X "bool"))(S: ~~~(k_ [a,.Name "bool" p2] X.env=[(cm,Il a X.env),(cm,Il (.Name "bool" p2) X.env)]))(B: ~~~(k_ [.Name "bool" p2] X.env=[(cm,Il (.Name "bool" p2) X.env)]))(U: ~~~((Jy pos (k_ [.Name "bool" p2] X.env)).any (·.1)=cm)):
  DE K W own X (.Call (.Name "isinstance" p) [a,.Name "bool" p2] [] pos) (f1 jc fa):=Hw (Eh I f) c Y (by rfl) e d b am am S B U
theorem Eg(B:Kit K)(a: ~~~(X.K=K)):fS X (.builtin "isinstance") (λxs H Q=>∃v,xs=[v,.ty "list"]/\rD1 K W own mU v H Q):=by
 subst a;rintro B1 s σ H xs us Q I r ⟨v,rfl,F,d,s1,q,p⟩;obtain⟨u,w,rfl,U,S⟩:=r.two;cases(show w=K7 "list" from S);by_cases hi:(∃C fs,d=.ins C fs)\/(∃ks,d=.dic ks)\/∃ks,d=.dil ks
 .rcases hi with⟨C,fs,rfl⟩|⟨ks,rfl⟩|⟨ks,rfl⟩<;>exact aH.stuck p
 .refine isi_D I s1 q U B.Dt B.Ad B.Aa B.xG B.qu (λk tk Y=>⟨.bl k,H,I.tok tk,rfl,?_⟩) (λC fs e=>hi (.inl ⟨C,fs,e⟩)) (λks e=>hi (.inr (.inl ⟨ks,e⟩))) (λks e=>hi (.inr (.inr ⟨ks,e⟩)));cases d<;>first|(subst Y;exact aH.bl p s1)|simp_all
def AO(I:Kit K)(c:X.mg "isinstance"=d_)(Y:X.mg "list"=d_)(e:DE K W cm X a fa)(f: ~~~(X.K=K))(d: ~~~(Gl X "isinstance"))(b: ~~~(Gl X "list"))(S: ~~~(k_ [a,.Name "list" p2] X.env=[(cm,Il a X.env),(cm,Il (.Name "list" p2) X.env)]))(B: ~~~(k_ [.Name "list" p2] X.env=[(cm,Il (.Name "list" p2) X.env)]))(U: ~~~((Jy pos (k_ [.Name "list" p2] X.env)).any (·.1)=cm)):
  DE K W own X (.Call (.Name "isinstance" p) [a,.Name "list" p2] [] pos) (f1 mU fa):=Hw (Eg I f) c Y (by rfl) e d b am am S B U
def tRng(ta:TA)(lo hi:bm->Option Int):TE:=λσ H Q=>ta σ H λvs H1=>∃i j,lo vs=a_ i/\hi vs=a_ j/\(-(2^62)<=i/\i<2^62/\ -(2^62)<=j/\j<2^62)/\∀r,H1 r=d_->Q (.ref r) (upd H1 r (.rng i j))
noncomputable def lo1:bm->Option Int
 |[.int _]=>a_ 0|_=>d_
noncomputable def hi1:bm->Option Int
 |[.int j]=>a_ j|_=>d_
noncomputable def lo2:bm->Option Int
 |[.int i,.int _]=>a_ i|_=>d_
noncomputable def hi2:bm->Option Int
 |[.int _,.int j]=>a_ j|_=>d_
def BD{s:j_}{lo hi:Int}{t u v:Tok}{tk:Nat}(I:B3 X B1 σ H s):B3 X B1 σ (upd H s.heap.objs.size (.rng lo hi)) {s with heap:=s.heap.push {cls:=.type "range",data:=.fields #[.int lo t,.int hi u,.int 1 v]},toks:=tk}:=
 I.laid (λb o e=>c_ _ e) (f_ _) ⟨t,u,v,i_ _ rfl⟩
def pe_rng1(c:Gl X "range")(b:X.mg "range"=d_)(d:PA X [a] ta)(U: ~~~(k_ [a] X.env=[(cm,Il a X.env)])):PE X (.Call (.Name "range" p) [a] [] pos) (tRng ta lo1 hi1):=by
 intro B1 s σ H Q I h;refine RF (lW I c b Ql (Jb (B' (d pos B1 s σ H _ I h) λus s1 Y=>?_) U rfl));obtain⟨vs,H1,S,B,q1⟩:=Y;obtain⟨i,j,e1,e2,e,q⟩:=q1
 match vs,B,e1,e2 with
 |[.int k],B,e1,e2=>cases e1;cases e2;obtain⟨u,rfl,t,rfl⟩:=B.one;exact call_range_1 ⟨.ref _,_,BD S,rfl,q _ S.fresh⟩
theorem pe_rng2(d:Gl X "range")(c:X.mg "range"=d_)(e:PA X [a,b] ta)(f: ~~~(k_ [a,b] X.env=[(cm,Il a X.env),(cm,Il b X.env)]))(S: ~~~(k_ [b] X.env=[(cm,Il b X.env)])):PE X (.Call (.Name "range" p) [a,b] [] pos) (tRng ta lo2 hi2):=by
 intro B1 s σ H Q I h;refine RF (lW I d c Ql (Jb (B' (e pos B1 s σ H _ I h) λus s1 Y=>?_) a7 (by rw[S];rfl)));obtain⟨vs,H1,U,B,q1⟩:=Y;obtain⟨i,j,e1,e2,g,q⟩:=q1
 match vs,B,e1,e2 with
 |[.int k,.int m],B,e1,e2=>cases e1;cases e2;obtain⟨u,w,rfl,⟨t,rfl⟩,t',rfl⟩:=B.two;exact call_range_2 ⟨.ref _,_,BD U,rfl,q _ U.fresh⟩
theorem B6.of_get:∀{xs:bm} {us:bv},xs.length=us.length->(∀(i:Nat) v u,xs[i]?=a_ v->us[i]?=a_ u->B5 v u)->B6 xs us
 |[],[],_,_=>.nil|[],_::_,h,_=>by simp at h|_::_,[],h,_=>by simp at h|x::xs,u::us,h,q=>.cons (q 0 x u rfl rfl) (B6.of_get a7 λi v w h1 B=>q (i+1) v w a7 a7)
def uk{lo:Int}:∀{n:Nat} {acc:bv},acc.length=n->(∀(i:Nat) v,acc[i]?=a_ v->∃t,v=.int (lo+i) t)->B6 ((A_ n).map λk:Nat=>V.int (lo+k)) acc:=by
 intro n acc B h;refine B6.of_get (by simp[B]) λi v u e1 e2=>?_;obtain⟨t,rfl⟩:=h i u e2;have hi:=by have:=(oe.mp e1).1;simpa using this
 rw[E_,Mm hi]at e1;cases e1;exact⟨t,rfl⟩
theorem wB(a:X.calm=e_):fS X (.type "list") (λxs H Q=>∃r lo hi,xs=[.ref r]/\H r=a_ (.rng lo hi)/\(-(2^62)<=lo/\lo<2^62/\ -(2^62)<=hi/\hi<2^62)/\(hi-lo).toNat<=n_/\∀l,H l=d_->Q (.ref l) (upd H l (.lst ((A_ (hi-lo).toNat).map λk:Nat=>V.int (lo+k))))):=by
 rintro B1 s σ H xs us Q I S ⟨r,lo,hi,rfl,b,⟨h,g,f,d⟩,hz,q⟩;obtain⟨u,rfl,rfl⟩:=S.one;obtain⟨t,u,v,e⟩:=(show ∃t u v,s.heap.get? r=a_ {cls:=.type "range",data:=.fields #[.int lo t,.int hi u,.int 1 v]}from I.hok r _ b)
 refine call_list_range (n:=(hi-lo).toNat) (I.ok.hd a) e (SD h g f d) (by grind[Qz]) a7 λh' tk B c U e2 it=>?_;have Y:B6 ((A_ (hi-lo).toNat).map λk:Nat=>V.int (lo+k)) B.toList:=uk (by exact it.1) λi v hi=>by
  obtain⟨t,e⟩:=it.2 i v (by simpa using hi)
  simp_all
 exact⟨.ref _,_,I.laid U (f_ _) (show gQ _ h' _ (.lst _)from⟨a7,B.toList,c,Y,a7⟩),rfl,q _ I.fresh⟩
def rQ(lo:Int)(n:Nat):ay K F (aG lo n) ((A_ n).map λk:Nat=>V.int (lo+k)):=by
 refine ay.of_get (by simp[aG]) λi d v h1 B=>?_;have hi:=by have:=(oe.mp B).1;simpa using this
 unfold aG at h1;rw[E_,Mm hi]at h1 B;cases h1;cases B;rfl
theorem lrng_end{Q:VK}{i j:Int}(p:aH K W e_ F H1 (bu (aG i (j-i).toNat)) Q)(s:aM F H1)(S:H1 r=d_):
  (j-i).toNat<=n_/\∀l,upd H1 r (.rng i j) l=d_->Q (.ref l) (upd (upd H1 r (.rng i j)) l (.lst ((A_ (j-i).toNat).map λk:Nat=>V.int (i+k)))):=by
 unfold bu at p;by_cases I:(aG i (j-i).toNat).length<=n_
 .rw[p_ I]at p;refine⟨by simp_all[aG],λl B=>?_⟩
  have s2:B2 F H1 F (upd H1 r (.rng i j)):=B2.grow s S;have e:=s2.hh.free B;exact p _ F _ (s2.trans (B2.grow s2.fh B)) ⟨l,_,rfl,aq,s.free e,e,rQ i _⟩
 .rw[q_ I]at p;exact(W.ns p).elim
theorem de_lrng2(d:X.mg "list"=d_)(q:X.mg "range"=d_)(x:DA K W X [a,b] fr)(w: ~~~(X.calm=e_))(t: ~~~(Gl X "range"))(f: ~~~(Gl X "list"))(o: ~~~(k_ [a,b] X.env=[(cm,Il a X.env),(cm,Il b X.env)]))(Y: ~~~(k_ [b] X.env=[(cm,Il b X.env)]))(I: ~~~(k_ [.Call (.Name "range" q1) [a,b] [] q2] X.env=[(cm,Il (.Call (.Name "range" q1) [a,b] [] q2) X.env)])):DE K W e_ X (.Call (.Name "list" p) [.Call (.Name "range" q1) [a,b] [] q2] [] pos) (fLR (lE BE fr)):=by
 refine PE.imp (qD (wB w) f d IZ (cx (pe_rng2 t q x o Y) eX I) am am I rfl) λσ H Q h=>?_;obtain⟨F,ρ,r,s,p⟩:=h;refine mf r s (λe y=>p.err (by simp_all[fLR])) λds u xs F1 H1 s1 q1=>?_;simp[fLR,lE,u]at p;have p1:=p.step s1;by_cases S:∃i j,ds=[.int i,.int j]
 .obtain⟨i,j,rfl⟩:=S;obtain⟨v,vs,e2,q2,l,U,e3,n,e4⟩:=q1;have p2:aH K W e_ F1 H1 ((if (bc i&&bc j)=e_ then Jp (aG i (j-i).toNat)else K6 Err.stuck).bind bu) Q:=p1;by_cases B:(bc i&&bc j)=e_
  .rw[p_ B]at p2;unfold bc at B;simp at B;have e5:xs=[.int i,.int j]:=by rw[e2,show v=.int i from q2,e3,show l=.int j from n,show U=[]from e4]
   subst e5;refine⟨i,j,rfl,rfl,⟨B.1.1,B.1.2,B.2.1,B.2.2⟩,λm c=>?_⟩
   obtain⟨k,g⟩:=lrng_end p2 s1.fh c;exact⟨m,i,j,rfl,aq,⟨B.1.1,B.1.2,B.2.1,B.2.2⟩,k,g⟩
  .rw[q_ B]at p2;exact(W.ns p2).elim
 .have:BE ds=.error .stuck:=by
   unfold BE;split
   .exact IA ⟨_,_,rfl⟩ S
   .rfl
  rw[this]at p1;exact(W.ns p1).elim
end
section
variable{es:List Jj}{p:Pb}
def gp{L:h_}{s:j_}{is:bi}(U:N'.Nodup)(Y:PGs (bf X N' sc L cs s H fp) es (iw is))(hi: ~~~(N'[i]?=a_ x))(B:autoParam (Loc (bf X N' sc L cs s H fp).env.scope x) Jq3)(S:autoParam ((bf X N' sc L cs s H fp).fn x=e_\/(bf X N' sc L cs s H fp).env.scope.names.lookup x=a_ .local) Jq3)(I: ~~~((KQ (.Name x p::es) (bf X N' sc L cs s H fp).env).map (·.2)=Ng (.Name x p) (bf X N' sc L cs s H fp).env::(KQ es (bf X N' sc L cs s H fp).env).map (·.2))):PGs (bf X N' sc L cs s H fp) (.Name x p::es) (iw (i::is)):=pM (pg_c U hi B S) Y I
end
open PySem.W in
section
open PySem.W
variable{key:Nat->Int}
noncomputable def ltK(key:Nat->Int)(i j:Nat):Bool:=m_ (key i<key j)
end
section
open PySem.W
variable{key:Nat->Int}
def Ex(prog:IQ)(w:JX)(A:Kb)(key:Nat->Int)(vs:bv)(s':j_):Prop:=
 w_ (u_ prog w) A (keyKind' vs.toArray) (fun κ s2=>s2=s'/\∀i j (C:Bool->j_->Prop),i<vs.length->j<vs.length->C (ltK key i j) s'->O_ prog w A κ vs i j C s') (λ_ _=>False) s'
end
noncomputable def insL{α:Type}(lt:α->α->Bool)(x:α):List α->List α
 |[]=>[x]|y::ys=>if lt y x=e_ then y::insL lt x ys else x::y::ys
def cv{α:Type}(lt:α->α->Bool):List α->List α
 |[]=>[]|x::xs=>insL lt x (cv lt xs)
noncomputable def ltZ(a b:Int):Bool:=m_ (a<b)
noncomputable def qX:a9->a9->Bool
 |[],[]=>cm|[],_::_=>e_|_::_,[]=>cm|a::as,b::bs=>if a=b then qX as bs else m_ (a<b)
noncomputable def aR(t:a9):A':=.tup (t.map .int)
def tupD:A'->M a9
 |.tup ds=>bZ ds|_=>stk
def gC:be->M (List a9)
 |[]=>.ok []|d::ds=>(tupD d).bind λt=>(gC ds).bind λr=>.ok (t::r)
section
variable{lt:α->α->Bool}
structure Ord(lt:α->α->Bool):Prop where
 irr:∀a,lt a a=cm
 tr:∀a b c,lt a b=e_->lt b c=e_->lt a c=e_
 tot:∀a b,lt a b=cm->lt b a=cm->a=b
theorem ordZ:Ord ltZ:=⟨λa=>by simp[ltZ],λa b c h1 B=>by grind[ltZ],λa b h1 B=>by grind[ltZ]⟩
theorem BR:Ord qX:=by
 refine⟨λa=>?_,λa b c=>?_,λa b=>?_⟩
 .induction a with
  |nil=>rfl|cons x xs B=>simp[qX,B]
 .induction a generalizing b c with
  |nil=>
   cases b with
   |nil=>simp|cons y ys=>
    intro _ I;cases c with
    |nil=>simp_all[qX]|cons z S=>rfl
  |cons x xs B=>
   intro h1 I;cases b with
   |nil=>simp_all[qX]|cons y ys=>
    cases c with
    |nil=>simp_all[qX]|cons z S=>grind[qX]
 .induction a generalizing b with
  |nil=>
   cases b with
   |nil=>simp|cons y ys=>simp[qX]
  |cons x xs B=>
   cases b with
   |nil=>simp[qX]|cons y ys=>
    intro h1 I;simp[qX]at h1 I
    grind
theorem rm(x:α):∀l:List α,(insL lt x l).Perm (x::l)
 |[]=>Li _|y::ys=>by
  rw[insL];split
  .exact((rm x ys).cons y).trans (List.Perm.swap x y ys)
  rfl
theorem bD:∀l:List α,(cv lt l).Perm l
 |[]=>Li _|x::xs=>(rm x _).trans ((bD xs).cons x)
theorem Ord.le_trans(o:Ord lt){a b c:α}(h1:lt b a=cm)(I:lt c b=cm):lt c a=cm:=by
 cases h:lt c a with
 |false=>rfl|true=>
  cases B:lt b c with
  |true=>rw[o.tr b c a B h]at h1;lia|false=>
   have:=o.tot c b I B
   simp_all
theorem Ord.asym(o:Ord lt){a b:α}(h:lt a b=e_):lt b a=cm:=by
 cases B:lt b a with
 |false=>rfl|true=>have:=o.tr a b a h B;rw[o.irr]at this;simp_all
theorem rl(o:Ord lt)(x:α):∀l:List α,l.Pairwise (λa b=>lt b a=cm)->(insL lt x l).Pairwise (λa b=>lt b a=cm)
 |[],_=>by simp[insL]|y::ys,h=>by
  rw[insL];rw[Kh]at h;split
  .rename_i B;rw[Kh];refine⟨λb I=>?_,rl o x ys h.2⟩
   rcases x_.mp ((rm x ys).mem_iff.mp I)with e|e
   .exact e▸o.asym B
   simp_all
  .rename_i B;rw[Kh,Kh];refine⟨λb I=>?_,h⟩
   rcases x_.mp I with e|e
   .simp_all
   .exact o.le_trans (by simpa using B) (h.1 b e)
theorem gh(o:Ord lt):∀l:List α,(cv lt l).Pairwise (λa b=>lt b a=cm)
 |[]=>K2|x::xs=>rl o x _ (gh o xs)
theorem mj(o:Ord lt):∀{l m:List α},l.Perm m->l.Pairwise (λa b=>lt b a=cm)->m.Pairwise (λa b=>lt b a=cm)->l=m
 |[],m,h,_,_=>(List.Perm.nil_eq h)|a::l,m,h,h1,B=>by
  cases m with
  |nil=>simp_all|cons b m=>
   rw[Kh]at h1 B;have e:a=b:=by
    rcases x_.mp (h.mem_iff.mp JJ)with e|e
    .exact e
    .rcases x_.mp (h.mem_iff.mpr JJ)with e2|e2
     .simp_all
     .exact o.tot a b (B.1 a e) (h1.1 b e2)
   subst e;rw[mj o (List.Perm.cons_inv h) h1.2 B.2]
end
section
open PySem.W
variable{lt:α->α->Bool}
def getD_get{l:List α}{d:α}(h:i<l.length):l.getD i d=l[i]:=by simp[h]
noncomputable def rk(lt:α->α->Bool)(B:List α)(d:α)(i:Nat):Int:=((B.filter λz=>lt z (B.getD i d)).length:Int)
theorem filter_lt{p q:α->Bool}(h:∀z,p z=e_->q z=e_):∀l:List α,(l.filter p).length<=(l.filter q).length/\((∃z∈l,p z=cm/\q z=e_)->(l.filter p).length<(l.filter q).length)
 |[]=>⟨f_ _,λ⟨_,h,_⟩=>nomatch h⟩
 |x::xs=>by
  obtain⟨i1,i2⟩:=filter_lt h xs
  grind
theorem Dq(o:Ord lt){B:List α}{d:α}(hi:i<B.length)(S:j<B.length):ltK (rk lt B d) i j=lt (B.getD i d) (B.getD j d):=by
 unfold ltK rk;cases h:lt _ _ with
 |true=>
  refine Jf ?_;have:=(filter_lt (q:=λz=>lt z _) (λz hz=>o.tr _ _ _ hz h) B).2 ⟨_,(by rw[getD_get hi];exact Iz hi),o.irr _,h⟩
  lia
 |false=>
  refine IS ?_;have:=(filter_lt (p:=λz=>lt z (B.getD j d)) (q:=λz=>lt z _) (λz hz=>by
   cases I:lt z _ with
   |true=>rfl|false=>
    have e:=o.le_trans h I
    lia) B).1
  lia
theorem vals_map(r:B6 xs us)(ps:bi)(I:∀i∈ps,i<xs.length):B6 (ps.map λi=>xs.getD i .non) (ps.map λi=>us.getD i .none):=by
 refine B6.of_get ad λk v u h1 B=>?_;rw[E_]at h1 B;cases e:ps[k]? with
 |none=>simp_all|some i=>rw[e]at h1 B;simp only[Mb,LJ]at h1 B;have hi:=I i (Jd e);obtain⟨S,e1,q⟩:=r.get (i:=i) (x:=xs[i]) ad;simp_all
def rk_ints(is:a9)(i j:Nat)(hi:i<is.length)(B:j<is.length):ltK (rk ltZ is 0) i j=m_ (is.getD i 0<is.getD j 0):=Dq ordZ hi B
theorem I9{s':j_}(hi:Ma its is)(U:2<=its.length):Ex prog w A (rk ltZ is 0) its s':=by
 have d:=hi.length;obtain⟨S,I,rest,rfl⟩:∃S I rest,its=S::I::rest:=by
  match its,U with
  |S::I::rest,_=>lia
 unfold Ex;rw[keyKind_ints hi];refine fm ⟨rfl,λi j C h1 U Y=>?_⟩;unfold O_;obtain⟨b,e1⟩:=B hi i h1;obtain⟨a,e2⟩:=B hi j U;rw[e1,e2];rw[rk_ints is i j ac ac]at Y;exact kat_lt_int Y
where
 B {vs:bv} {ns:a9} (h:Ma vs ns) (i:Nat) (hi:i<vs.length):∃t,vs.getD i JB=.int (ns.getD i 0) t:=by
  induction h generalizing i with
  |nil=>simp_all|cons n t r c=>
   cases i with
   |zero=>exact⟨t,rfl⟩|succ i=>simp_all
noncomputable def lexF(f:Bool):a9->a9->Bool
 |a::as,b::bs=>if a=b then lexF f as bs else m_ (a<b)
 |_,_=>f
theorem vG:∀as bs:a9,lexF (m_ (as.length<bs.length)) as bs=qX as bs
 |[],[]=>rfl|[],_::_=>by rfl|_::_,[]=>by rfl|a::as,b::bs=>by
  have:=vG as bs
  simp_all[lexF,qX,]
theorem mx{prog:IQ}{w:JX}{A:Kb}{s':j_}{f:Bool}{Q:Bool->j_->Prop}:∀{us vs:bv} {as bs:a9} (i:Nat),Ma us as->Ma vs bs->Q (lexF f as bs) s'->KatLex prog w A e_ f Q (us.zip vs) i s'
 |_,_,_,bs,_,.nil,_,h=>kat_nil (by cases bs<;>exact h)
 |_,_,_,_,_,.cons a t r,.nil,h=>kat_nil h|_,_,_,_,i,.cons a t r,.cons b u r',h=>by
  refine kat_cons (SeqAt.EqAt.int_int a t b u _ _ _ _ ?_);by_cases e:a=b
  .rw[show(a==b)=e_ by simpa using e];rw[lexF,p_ e]at h;exact kat_yes (mx _ r r' h)
  .rw[show(a==b)=cm by simp_all];rw[lexF,q_ e]at h;refine kat_no ?_;cases B:(e_&&i==0)with
   |true=>exact oneLt_int h|false=>exact kat_one _ _ (QZ h)
theorem HZ{s:j_}{ts:List a9}(I:B3 X B1 σ H s)(O:aM F H)(r:ay X.K F (ts.map aR) xs)(c:(ts.all λt=> !t.isEmpty)=e_)(g:B6 xs its)(h2:2<=its.length)(G:∀b o,s.heap.get? b=a_ o->h1.get? b=a_ o):Ex X.prog X.w A (rk qX ts []) its {s with heap:=h1}:=by
 have l1:=g.length;have E:=r.length;rw[l_]at E;have B:∀i,i<its.length->∃(l:h_) (S:NY) (us:bv) (n:Nat),its.getD i JB=.ref l/\h1.get? l=a_ S/\S.cls=.type "tuple"/\S.data=.seq us.toArray n/\Ma us (ts.getD i []):=λi hi=>by obtain⟨v,e1,l,ys,rfl,y,D⟩:=r.get (i:=i) (d:=aR (ts[i]'(by omega))) (by simp[show i<ts.length by lia]);obtain⟨u,e3,rfl⟩:=g.get e1;obtain⟨us,p,pl,_⟩:=I.tuple (O.tup y);obtain⟨S,R,Q,n,P⟩:=pl;have e4:ys=(ts[i]'(by omega)).map V.int:=cW D (dG _);rw[e4]at p;exact⟨l,S,us,n,a7,G _ _ R,Q,P,by rw[getD_get (show i<ts.length by lia)];exact intsAre_of p⟩
 have U:∀(k:Nat),k<=its.length->∃fs,KatTups h1 (its.drop (its.length-k)) fs/\fs.length=k/\∀v∈fs,∃i t,v=L3 i t:=by
  intro k
  induction k with
  |zero=>intro _;exact⟨[],by rw[Oy,M4];exact PX,rfl,λ_ h=>nomatch h⟩
  |succ k J=>
   intro hk;obtain⟨fs,q1,q2,Y⟩:=J ac;have hi:its.length-(k+1)<its.length:=ac
   obtain⟨l,S,us,n,e1,e2,e3,e4,e5⟩:=B _ hi;have K:(ts.getD (its.length-(k+1)) [])≠[]:=by rw[getD_get (show its.length-(k+1)<ts.length by lia)];have:=Jc.mp c _ (Iz (show its.length-(k+1)<ts.length by lia));simpa using this
   obtain⟨z,Z⟩:∃z,ts.getD (its.length-(k+1)) []=z:=⟨_,rfl⟩
   rw[Z]at e5 K;obtain⟨f,fr,ef,N⟩:∃f fr,us=f::fr/\∃i t,f=L3 i t:=by
    cases e5 with
    |nil=>simp_all|cons m t r=>exact⟨_,_,rfl,_,_,rfl⟩
   refine⟨f::fs,?_,by simp[q2],λv a=>?_⟩
   .rw[Js hi,show its.length-(k+1)+1=its.length-k by lia];rw[getD_get hi]at e1;exact e1▸PB e2 e3 e4 (by rw[ef];rfl) q1
   .rcases x_.mp a with e|e
    .exact e▸N
    .exact Y v e
 obtain⟨fs,q1,q2,Y⟩:=U its.length (f_ _);rw[Nj,LV]at q1;refine kat_kind (s:={s with heap:=h1}) (T:=.type "int") q1 ac (λv a=>?_) rfl ⟨rfl,λi j C hi L q=>?_⟩
 .obtain⟨i,t,e⟩:=Y v a;exact e▸Pz rfl
 .unfold O_;obtain⟨x1,o1,us,n1,e1,W,_,d1,x⟩:=B i hi;obtain⟨x2,o2,vs,n2,e2,g2,_,d2,w⟩:=B j L;rw[e1,e2];rw[Dq BR (show i<ts.length by lia) (show j<ts.length by lia)]at q;refine kat_lt (s:={s with heap:=h1}) W d1 g2 d2 (mx 0 x w ?_);rw[Jm,Jm,x.length,w.length,vG];exact q
theorem Bm{F:Hp}{t:a9}(h:tupD d=.ok t):d=aR t:=by
 cases d with
 |tup ds=>
  have:∀{ds:be} {t:a9},bZ ds=.ok t->ds=t.map .int:=by
   intro ds
   induction ds with
   |nil=>intro t h;cases h;rfl|cons d ds B=>
    intro t h;cases d with
    |int i=>
     cases e:bZ ds with
     |error x=>simp_all[bZ,]|ok r=>grind[bZ,asI,ai]
    |_=>cases h
  unfold aR;rw[this h]
 |_=>cases h
theorem GJ:∀{ds:be} {t:a9},bZ ds=.ok t->ds=t.map .int:=λ{ds t} h=>by
 have:=Bm (F:=λ_=>d_) (d:=.tup ds) h
 simp_all[aR]
theorem mG:∀{ds:be} {ts:List a9},gC ds=.ok ts->ds=ts.map aR
 |[],_,h=>by cases h;rfl|d::ds,ts,h=>by
  cases e:tupD d with
  |error x=>simp_all[gC]|ok t=>
   cases e2:gC ds with
   |error x=>simp_all[gC,]|ok r=>simp[gC,e,e2]at h;cases h;rw[Bm (F:=λ_=>d_) e,mG e2];rfl
theorem mH:∀{ds:be} {e:Err},gC ds=.error e->e=.stuck
 |[],_,h=>by cases h|d::ds,e,h=>by
  cases e1:tupD d with
  |error x=>
   simp[gC,e1]at h;cases h;cases d with
   |tup ds=>exact gk e1|_=>cases e1;rfl
  |ok t=>
   cases e2:gC ds with
   |error x=>simp[gC,e1,e2]at h;cases h;exact mH e2|ok r=>simp_all[gC]
end
noncomputable def cX(n d:Nat):Option Int->Nat
 |none=>d|some v=>if v<0 then(v+(n:Int)).toNat else min v.toNat n
def cutL(xs:List α)(lo hi:Option Int):List α:=(xs.drop (cX xs.length 0 lo)).take (cX xs.length xs.length hi-cX xs.length 0 lo)
def dU:A'->Option Int->Option Int->M A'
 |.lst ds,lo,hi=>.ok (.lst (cutL ds lo hi))|.tup ds,lo,hi=>if (m_ (cX ds.length 0 lo=0)&&m_ (cX ds.length ds.length hi=ds.length))=e_ then stk else .ok (.tup (cutL ds lo hi))
 |_,_,_=>stk
noncomputable def nU:ab->M (Option Int):=λ_=>.ok d_
def mn(f:b6):ab->M (Option Int):=λρ=>(f ρ).bind λd=>(asI d).bind λi=>.ok (a_ i)
noncomputable def fSl(g:A'->Option Int->Option Int->M A')(fa:b6)(fl fu:ab->M (Option Int)):b6:=λρ=>(fa ρ).bind λa=>(fl ρ).bind λl=>(fu ρ).bind λu=>g a l u
def extD(ρ:ab)(i:Nat)(ds:be):A'->M B4
 |.lst es=>if ds.length+es.length<=n_ then put ρ i (ds++es)else stk
 |_=>stk
def sExt(O:bi)(i:Nat)(f:b6):b0:=λρ=>(lK ρ i).bind λds=>(f (erase O ρ)).bind λd=>extD ρ i ds d
section
variable{W:bY}{own:Bool}{a b d:Jj}{lo hi:Option Jj}{es:List Jj}{p r t u:Pb}{f:b6}{fl:ab->M (Option Int)}
def tDO(K:Pn)(W:bY)(f:ab->M (Option Int)):TO:=λσ H Q=>TDx K σ H λF ρ=>match f ρ with
 |.ok o=>∀F' H',B2 F H F' H'->Q o H'|.error e=>W.p e F H
def EV{R:Option Int->Hp->Prop}(r:fQ K F σ ρ)(s:aM F H)(I:∀e,fl ρ=.error e->W.p e F H)(B:∀o,fl ρ=.ok o->∀F1 H1,B2 F H F1 H1->R o H1):tDO K W fl σ H R:=by
 refine⟨F,ρ,r,s,?_⟩
 cases e:fl ρ with
 |ok d=>exact B d e|error x=>exact I x e
abbrev DP(K:Pn)(W:bY)(X:Cx)(e:Option Jj)(f:ab->M (Option Int)):Prop:=PO X e (tDO K W f)
def PO.imp{t t':TO}(h:PO X lo t)(q:∀σ H Q,t' σ H Q->t σ H Q):PO X lo t':=λB1 s σ H Q I z=>h B1 s σ H Q I (q σ H Q z)
def jD:DP K W X d_ nU:=po_none.imp λσ H Q ⟨F,ρ,r,s,p⟩=>p F H (B2.refl s)
theorem iK(h:DE K W cm X e f):DP K W X (a_ e) (mn f):=(po_some h).imp λσ H Q ⟨F,ρ,r,s,p⟩=>by
 refine aD r s (λe I=>?_) λd B v F1 H1 s1 q1=>?_
 .simp_all[mn]
 .simp[mn,B]at p;cases d with
  |int i=>exact⟨i,q1,p F1 H1 s1⟩|_=>exact(W.ns p).elim
def rDS(K:Pn)(W:bY)(own:Bool)(g:A'->Option Int->Option Int->M A'):V->Option Int->Option Int->Hp->VK->Prop:=λx lo hi H Q=>TX1 (bh K) x H λF a=>aH K W own F H (g a lo hi) Q
theorem wm{g:A'->Option Int->Option Int->M A'}(b:SlR X (rDS K W own g))(U:DE K W cm X a fa)(S:DP K W X lo fl)(I:DP K W X hi fu):DE K W own X (.Subscript a (.Slice lo hi d_ p2) pos) (fSl g fa fl fu):=(pe_slice b U S I).imp λ_ _ _=>by
  intro h;obtain⟨F,ρ,r,s,p⟩:=h;refine aD r s (λe Y=>p.err (by simp_all[fSl])) λa U x F1 H1 s1 q1=>EV (r.mono s1.ff) s1.fh (λe Y=>(p.step s1).err (by simp_all[fSl])) λl S f H2 s2=>?_;refine EV ((r.mono s1.ff).mono s2.ff) s2.fh (λe Y=>(p.step (s1.trans s2)).err (by simp_all[fSl])) λu I c d B=>⟨c,a,B.fh,bh.mono (s2.trans B).ff q1,?_⟩
  simp only[fSl,U,S,I,ai]at p;exact p.step ((s1.trans s2).trans B)
def cX_sIx(n d:Nat)(o:Option Int):cX n d o=HT.sIx n d o:=by rfl
def ay.cut{l u:Option Int}(h:ay K F ds xs):ay K F (cutL ds l u) (cutV xs l u):=by unfold cutL cutV;exact h.length▸ay.take _ (ay.drop _ h)
theorem x_sl(g: ~~~(X.K=K)):SlR X (rDS K W e_ dU):=by
 subst g;intro B1 s σ H x v b Y lo hi sl Q I c f pl d h;refine(SlR.or sl_list sl_tup) B1 s σ H x v b Y lo hi sl Q I c f pl d ?_;obtain⟨F,a,s1,U,p⟩:=h;cases a with
 |lst ds=>obtain⟨l,xs,e,t,z⟩:=U;exact .inl ⟨l,xs,e,s1.lst t,λr B=>aH.lst p s1 z.cut B⟩
 |tup ds=>
  obtain⟨l,xs,e,t,z⟩:=U;have p':aH X.K W e_ F H (if (m_ _&&m_ _)=e_ then stk else .ok _) Q:=p;by_cases S:(m_ (cX ds.length 0 lo=0)&&m_ (cX ds.length ds.length hi=ds.length))=e_
  .rw[p_ S]at p';exact p'.stuck
  .rw[q_ S]at p';refine .inr ⟨l,xs,e,s1.tup t,λhw=>S ?_,λr B=>aH.tup p' s1 z.cut B⟩;rw[cX_sIx,cX_sIx,<- z.length]
   simp_all
 |_=>exact aH.stuck p
theorem ds_ext(n:DE K W e_ X e f)(m:(i∈O)⁻¹)(y: ~~~(X.N[i]?=a_ x))(u:autoParam (Vis X.env.scope x) Jq3)(j:((x==("__debug__":IL))=cm)⁻¹)(k:((x==("__classdict__":IL))=cm)⁻¹)(A: ~~~(X.K=K))(U: ~~~(k_ [e] X.env=[(cm,Il e X.env)]))(S: ~~~(Jv (.Name x p) "extend" X.env (Il (.Name x p) X.env)=Il (.Name x p) X.env))(Y: ~~~(((Jy q (k_ [e] X.env)).all (λx=> !x.1)&&(LR q (KG [] X.env)).all (λx=>x.1.isSome)&&m_ ([e].length+([]:List LA).length+(if ([]:List LA).isEmpty then 0 else 1)<30))=e_))(B: ~~~((Jy q (k_ [] X.env)).any (·.1)=cm))(I: ~~~((apos.endLine==q.line)=e_))(g: ~~~(J4 (.Call (.Attribute (.Name x p) "extend" apos) [e] [] q) d_ pos.line X.env=JM cm)):
  DS K W ro X OL O O (.Expr (.Call (.Attribute (.Name x p) "extend" apos) [e] [] q) pos) (sExt O i f):=λF0 H0=>by
 subst A;exact PS.imp (nT (pe_bm ML Qj PySem.F.type_list_extend Gd (pv i y u j k) (cx n eX U) S Y I U B) g) λ_ σ _=>by
   intro t;obtain⟨FB,F,ρ,r,p⟩:=t;cases c:lK ρ i with
   |error e=>have:=qU c;exact p.stuck (by simp_all[sExt])|ok ds=>
    obtain⟨a,xs,e2,o,z⟩:=r.Gg m (lu c);refine⟨.ref a,e2,⟨rfl,_,_,rfl,SqL.of o⟩,(aD r.l9 r.st.fh (λe n=>p.i7 r.st (by simp_all[sExt])) λd j v F1 H1 s1 q=>?_)⟩
    simp only[sExt,c,j,ai]at p;cases d with
    |lst es=>
     obtain⟨b,s,e3,w,_,_,l⟩:=q;by_cases h:ds.length+es.length<=n_
     .have ep:extD ρ i ds (.lst es)=put ρ i _:=p_ h;rw[ep]at p;exact⟨a,b,xs,s,rfl,by rw[e3],s1.hh _ _ o,w,by rw[z.length,l.length];exact h,p σ F1 _ ((r.step s1).write m (lu c) e2 (ay.append (z.mono s1.ff) l))⟩
     .exact p.stuck (q_ h)
    |_=>exact p.stuck rfl
end
section
variable{fl:ab->M (Option Int)}
@[simp]def e_pNone:nU ρ=.ok d_:=id rfl
@[simp]def e_pSome:mn fa ρ=(fa ρ).bind λd=>(asI d).bind λi=>.ok (a_ i):=id rfl
@[simp]def e_slF(k:A'->Option Int->Option Int->M A'):fSl k fa fl fu ρ=(fa ρ).bind λa=>(fl ρ).bind λl=>(fu ρ).bind λu=>k a l u:=id rfl
@[simp] theorem e_pow{i j:Int}(I:0<=j)(h1:j<=1000000)(B:i.natAbs<2^64):powD (.int i) (.int j)=.ok (.int (i^j.toNat)):=by
 show(if (m_ _&&m_ _&&m_ _)=e_ then _ else _)=_
 simp_all
@[simp]def e_eqII(i j:Int):eqM (.int i) (.int j)=.ok (.bl (m_ (i=j))):=by rfl
@[simp]def e_neII(i j:Int):neM (.int i) (.int j)=.ok (.bl (!decide (i=j))):=by rfl
@[simp] theorem cut_take{α:Type}(xs:List α){j:Int}(h:0<=j):cutL xs d_ (a_ j)=xs.take j.toNat:=by simp_all[cutL,cX,q_]
@[simp] theorem cut_drop{α:Type}(xs:List α){j:Int}(h:0<=j):cutL xs (a_ j) d_=xs.drop j.toNat:=by simp_all[cutL,cX,q_,J9,]
end
def revD:cg
 |.lst ds=>.ok (.lst ds.reverse)|_=>stk
@[simp]def e_rev(ds:be):revD (.lst ds)=.ok (.lst ds.reverse):=id rfl
section
variable{W:bY}{a b d:Jj}{tp:TO}{p r t:Pb}{f:b6}
theorem Cp{α:Type}:∀l:List α,(A_ l.length).filterMap (λk=>l[k]?)=l
 |[]=>rfl|a::l=>by
  rw[F_,K9,Mn,Q2];simp
  congr 1
  exact Cp l
theorem Cq{α β:Type}{f g:α->Option β}:∀{l:List α},(∀a∈l,f a=g a)->l.filterMap f=l.filterMap g
 |[],_=>rfl|a::l,h=>by rw[Mn,Mn,h a ad,Cq λx B=>h x (by simp[B])]
theorem uX(its:bv):QM its.toArray d_ d_ (a_ (-1))=its.reverse.toArray:=by
 unfold QM Na sliceRange;simp only[Option.getD_some,Jm]
 congr 1
 have I:(if ((its.length:Int)-1)> -1 then((its.length:Int)-1- -1- -1-1)/(- -1)else 0).toNat=its.length:=by
  by_cases h:((its.length:Int)-1)> -1
  .lia
  .lia
 simp only[show ¬((-1)>0) by decide,Pu,I,Q2];have e:=Cp its.reverse;rw[List.length_reverse]at e;refine Eq.trans (Cq λk B=>?_) e;show its.toArray[_]?=_;rw[Qq,List.getElem?_reverse (IM.mp B)]
 congr 1
 lia
def tRv(r:V->Hp->VK->Prop)(te:TE)(tp:TO):TE:=λσ H Q=>te σ H λx H1=>tp σ H1 λo H2=>o=a_ (-1)/\r x H2 Q
def rRevL(K:Pn):V->Hp->VK->Prop:=λx H Q=>∃a xs,x=.ref a/\SqL K H a xs/\∀p,H p=d_->Q (.ref p) (upd H p (.lst xs.reverse))
theorem pe_rev(n:PE X e te)(S:PO X (a_ d) tp):PE X (.Subscript e (.Slice d_ d_ (a_ d) p2) pos) (tRv (rRevL X.K) te tp):=by
 intro B1 s σ H Q I h;refine Sa (B' (n B1 s σ H _ I h) λv s1 S=>?_);obtain⟨x,H1,t,f,q1⟩:=S;refine(wpAny_Slice ?_)
 refine fm (fm (B' (S B1 s1 σ H1 _ t q1) λU B S=>?_));obtain⟨o,u,p,i,g⟩:=S;obtain⟨rfl,l,xs,rfl,k,q⟩:=g;cases f;have Y:B3 X B1 σ u {B with heap:=B.heap.push {cls:=.type "slice",data:=.fields #[.none,.none,U]}}:=p.kept λb j q=>c_ _ q;obtain⟨its,r,a,hz⟩:=Y.list k;have c:=r.length;have m:w_ (u_ X.prog X.w) X.A (P6 (.ref l) (.ref B.z)) (EP X B1 σ Q) X.xe {B with heap:=B.heap.push {cls:=.type "slice",data:=.fields #[.none,.none,U]}}:=by
  refine Qw a.isList (OW ..) .none .none i am ?_ a7;rw[uX];refine⟨.ref (B.heap.push {cls:=.type "slice",data:=.fields #[.none,.none,U]}).objs.size,_,Y.laid (λb j q=>c_ _ q) (f_ _) ?_,rfl,q _ (Y.hok.fresh (f_ _))⟩
  exact⟨a7,_,0,r.reverse,i_ _ rfl⟩
 exact tail_any a.isList.typeIs O6.lookup m (by rfl)
def de_rev{j}(B:DE K W cm X a fa)(U: ~~~(X.K=K)):DE K W e_ X (.Subscript a (.Slice d_ d_ (a_ (.UnaryOp .USub (.Constant (.int 1) j p3) p4)) p2) pos) (f1 revD fa):=by
 subst U;refine PE.imp (pe_rev B (iK (K:=X.K) (W:=W) (rT qN af))) λσ H Q h=>?_;obtain⟨F,ρ,r,s,p⟩:=h;refine aD r s (λe S=>p.err (by unfold f1;rw[S];rfl)) λa B x F1 H1 s1 q1=>⟨F1,ρ,r.mono s1.ff,s1.fh,?_⟩
 intro Y H2 s2;refine⟨rfl,?_⟩
 simp[f1,B]at p;have p:=p.step (s1.trans s2);cases a with
 |lst ds=>obtain⟨l,xs,e,t,z⟩:=q1;exact⟨l,xs,e,s2.fh.lst (s2.ff.lst t),λr I=>aH.lst p s2.fh (ay.reverse (z.mono s2.ff)) I⟩
 |_=>exact aH.stuck p
end
def zy(Cs:List h_)(x:IL):cg
 |.ins C fs=>if Cs.contains C=e_ then(match fs.lookup x with
  |some d=>.ok d|none=>stk)else stk
 |_=>stk
noncomputable def isC(C:h_)(m:IL):A'->Bool
 |.ins D fs=>(D==C)&&(fs.lookup m).isNone|_=>cm
def pB(C:h_)(m:IL)(g:cc)(fo:b6)(fr:ce):b6:=λρ=>(fo ρ).bind λo=>if isC C m o=e_ then(fr ρ).bind λas=>g (o::as)else stk
def gn(C C2:h_)(m:IL)(g g2:cc)(fo:b6)(fr:ce):b6:=λρ=>(fo ρ).bind λo=>if isC C m o=e_ then(fr ρ).bind λas=>g (o::as)else if isC C2 m o=e_ then(fr ρ).bind λas=>g2 (o::as)else stk
def newR(C:h_)(g:cc):cc
 |[d]=>(g [d]).bind λr=>.ok (.ins C [("gaps",r)])|_=>stk
noncomputable def twoL:A'->A'->Bool
 |.lst xs,.lst ys=>m_ (xs.length=ys.length)|_,_=>cm
def newP(C:h_)(g:cc):cc
 |[d,e]=>(g [d]).bind λr=>(g [e]).bind λB=>if twoL r B=e_ then .ok (.ins C [("gaps",r),("beside",B)])else stk
 |_=>stk
def sStk:b0:=λ_=>stk
section
variable{W:bY}{own:Bool}{o a b c d:Jj}{es:List Jj}{y m:IL}{p:Pb}{f fo:b6}{fr:ab->M (List A')}{C2:h_}{Cs:List h_}
def Hk{st:Jl}:DS K W ro X OL O O' st sStk:=λF0 H0 B1 s σ H D I h=>by obtain⟨FB,F,ρ,r,p⟩:=h;exact p.stuck rfl
theorem tP.at{F:Hp}{x:IL}:∀{gs:List (IL×A')} {fs:List (IL×V)},tP K F gs fs->(∀d,gs.lookup x=a_ d->∃v,fs.lookup x=a_ v/\bh K F d v)/\(gs.lookup x=d_->fs.lookup x=d_)
 |[],fs,h=>by cases(show fs=[]from h);simp|(g,d)::gs,fs,h=>by
  obtain⟨v,r,rfl,h1,B⟩:=h;rw[J5,J5];cases e:x==g with
  |true=>simp_all|false=>exact(tP.at (x:=x) B)
theorem yR(g:∀C∈Cs,Cls K C/\kg K C y)(I:DE K W cm X e fa)(b: ~~~(Jv e y X.env (Il e X.env)=Il e X.env))(f: ~~~(X.K=K)):DE K W cm X (.Attribute e y pos) (f1 (zy Cs y) fa):=by
 subst f;refine(FX I b).imp λσ H Q h=>?_;obtain⟨F,ρ,r,s,p⟩:=h;refine aD r s (λe I=>p.err (by simp_all[f1])) λa c x F1 H1 s1 q1=>?_;simp[f1,c]at p;cases a with
 |ins C gs=>
  obtain⟨l,dx,fs,e1,ea,j⟩:=q1;have p':aH X.K W cm F H (if Cs.contains C=e_ then(match gs.lookup y with
   |some d=>.ok d|none=>stk)else stk) Q:=p
  by_cases S:Cs.contains C=e_
  .rw[p_ S]at p';obtain⟨h1,i⟩:=g C a7;cases B:gs.lookup y with
   |none=>rw[B]at p';exact aH.stuck p'|some d=>rw[B]at p';obtain⟨v,U,Y⟩:=j.at.1 d B;exact⟨l,C,dx,fs,v,e1,s1.fh _ _ ea,h1,i,U,(p'.step s1) v F1 H1 (B2.refl s1.fh) Y⟩
  .rw[q_ S]at p';exact aH.stuck p'
 |_=>exact aH.stuck p
def PE.or{S B:TE}(h1:PE X e S)(U:PE X e B):PE X e (λσ H Q=>S σ H Q\/B σ H Q):=λB1 s σ H Q I h=>h.elim (h1 B1 s σ H Q I) (U B1 s σ H Q I)
def Fw{g:b0}{Q:VK}(h:tD K D' ro (pB C m (bV nN n g) fo fr) σ H Q):tMeth C m (spF K ro (bV nN n g) n) [] E0 (tD K D' cm fo) (tDA K D' fr) σ H Q:=by
 obtain⟨F,ρ,r,s,p⟩:=h;refine aD r s (λe S=>p.err (by unfold pB;rw[S];rfl)) λo c x F1 H1 s1 q1=>?_;simp only[pB,c,ai]at p;by_cases I:isC C m o=e_
 .rw[p_ I]at p;cases o with
  |ins D gs=>
   obtain⟨l,dx,fs,e1,ea,f⟩:=id q1;have B:((D==C)&&(gs.lookup m).isNone)=e_:=I;rw[D_]at B;obtain⟨Y,d⟩:=B;have Y:=by simpa using Y
   subst Y;refine⟨l,dx,fs,e1,s1.fh _ _ ea,f.at.2 (by simpa using d),?_⟩
   have p:=p.step s1;refine mf (r.mono s1.ff) s1.fh (λe S=>p.err (by rw[S];rfl)) λas U vs i H2 s2 b=>?_;rw[U]at p;have p:aH K D' ro F1 H1 (bV nN n g _) Q:=p;have p:=p.step s2;rw[J1];by_cases a:(A'.ins D gs::as).length=n
   .exact⟨i,.ins D gs::as,s2.fh,⟨x,vs,rfl,bh.mono s2.ff q1,b⟩,a,p⟩
   .rw[Bz a]at p;exact aH.stuck p
  |_=>cases I
 .rw[q_ I]at p;exact aH.stuck p
theorem BH{g:b0}{Q:VK}(h:tD K D' ro (gn C C2 m (bV nN n g) (bV nN2 n2 g2) fo fr) σ H Q):
  tD K D' ro (pB C m (bV nN n g) fo fr) σ H Q\/tD K D' ro (pB C2 m (bV nN2 n2 g2) fo fr) σ H Q:=by
 obtain⟨F,ρ,r,s,p⟩:=h;cases B:fo ρ with
 |error e=>
  refine .inl ⟨F,ρ,r,s,?_⟩
  simp_all[gn,pB]
 |ok o=>
  have e2:pB C m (bV nN n g) fo fr ρ=if isC C m o=e_ then(fr ρ).bind λas=>bV nN n g (o::as)else stk:=by unfold pB;rw[B];rfl
  have e3:pB C2 m (bV nN2 n2 g2) fo fr ρ=if isC C2 m o=e_ then(fr ρ).bind λas=>bV nN2 n2 g2 (o::as)else stk:=by unfold pB;rw[B];rfl
  simp only[gn,B,ai]at p;by_cases I:isC C m o=e_
  .rw[p_ I]at p e2;exact .inl ⟨F,ρ,r,s,by exact e2▸p⟩
  .rw[q_ I]at p;exact .inr ⟨F,ρ,r,s,by exact e3▸p⟩
def CW(X:Cx)(o:Jj)(m:IL)(apos:Pb)(es:List Jj)(pos:Pb)(pl:Nl Bool):Prop:=Il (.Call (.Attribute o m apos) es [] pos) X.env=(do let ov <- Il o X.env;NK apos.atName;let (f,B) <- Ln [ov] (Ol ov m pl);Rx pos f B (Jy pos (k_ es X.env)) (LR pos (KG [] X.env)))
section
variable{fad2:h_}{fd2:Kw}{g:b0}
def BP(c:Cls X.K C)(M:Meth X.K C m fad)(F:jN X.prog X.w X.K X.mg X.base CX0 k fad fd ps (spF X.K ro (bV nN n g) n))(U:kf k X.A)(a:Binds X.K fd ps [])(Y:DE X.K D' cm X o fo)(b:DA X.K D' X (e::es) fr)(B:k_ (e::es) X.env=(cm,Il e X.env)::k_ es X.env)(I:(Jy pos (k_ es X.env)).any (·.1)=cm)(S:CW X o m apos (e::es) pos pl):DE X.K D' ro X (.Call (.Attribute o m apos) (e::es) [] pos) (pB C m (bV nN n g) fo fr):=
 (pe_meth Y c M F U a .nil xQ b B I S).imp λ_ _ _=>Fw
def xP(c:Cls X.K C)(M:Meth X.K C m fad)(F:jN X.prog X.w X.K X.mg X.base CX0 k fad fd ps (spF X.K ro (bV nN n g) n))(I:kf k X.A)(U:Binds X.K fd ps [])(S:DE X.K D' cm X o fo)(B:CW X o m apos [] pos pl):DE X.K D' ro X (.Call (.Attribute o m apos) [] [] pos) (pB C m (bV nN n g) fo au):=
 (pe_meth0 S c M F I U .nil xQ B).imp λσ H Q h=>by
  obtain⟨F,ρ,r,s,z⟩:=Fw h;refine⟨F,ρ,r,s,?_⟩
  cases e1:fo ρ with
  |error d=>rw[e1]at z;exact z|ok od=>rw[e1]at z;intro v F' H' st q;obtain⟨l,dx,fs,h1,b,a,Y⟩:=z v F' H' st q;exact⟨l,dx,fs,h1,b,a,rd_nil Y⟩
def de_meth2(c:Cls K C)(M:Meth K C m fad)(F:jN X.prog X.w X.K X.mg X.base CX0 k fad fd ps (spF K ro (bV nN n g) n))(d:kf k X.A)(f:Binds X.K fd ps [])(i:Cls K C2)(j:Meth K C2 m fad2)(l:jN X.prog X.w X.K X.mg X.base CX0 k2 fad2 fd2 ps2 (spF K ro (bV nN2 n2 g2) n2))(S:kf k2 X.A)(U:Binds X.K fd2 ps2 [])(a:DE K D' cm X o fo)(b:DA K D' X (e::es) fr)(h: ~~~(X.K=K))(B: ~~~(k_ (e::es) X.env=(cm,Il e X.env)::k_ es X.env))(I: ~~~((Jy pos (k_ es X.env)).any (·.1)=cm))(Y: ~~~(CW X o m apos (e::es) pos pl)):
  DE K D' ro X (.Call (.Attribute o m apos) (e::es) [] pos) (gn C C2 m (bV nN n g) (bV nN2 n2 g2) fo fr):=by
 subst h;exact(PE.or (BP c M F d f a b B I Y) (BP i j l S U a b B I Y)).imp λ_ _ _=>BH
def nr(c:Cls K C)(M:Meth K C m fad)(F:jN X.prog X.w X.K X.mg X.base CX0 k fad fd ps (spF K ro (bV nN n g) n))(Y:kf k X.A)(a:Binds X.K fd ps [])(d:Cls K C2)(e:Meth K C2 m fad2)(f:jN X.prog X.w X.K X.mg X.base CX0 k2 fad2 fd2 ps2 (spF K ro (bV nN2 n2 g2) n2))(B:kf k2 X.A)(I:Binds X.K fd2 ps2 [])(U:DE K D' cm X o fo)(b: ~~~(X.K=K))(S: ~~~(CW X o m apos [] pos pl)):
  DE K D' ro X (.Call (.Attribute o m apos) [] [] pos) (gn C C2 m (bV nN n g) (bV nN2 n2 g2) fo au):=by
 subst b;exact(PE.or (xP c M F Y a U S) (xP d e f B I U S)).imp λ_ _ _=>BH
end
def spI1(K:Pn)(C:h_)(g:cc):Sp:=λvs H Q _=>∃p dx v F d,vs=[.ref p,v]/\H p=a_ (.ins C dx [])/\F p=d_/\aM F H/\bh K F d v/\(match g [d]with
 |.ok r=>∀w F' H',aM F F'->aM F' H'->F' p=d_->(∀b o,F' b=a_ o->F b=a_ o\/H b=d_)->(∀c o,H c=a_ o->c≠p->H' c=a_ o)->H' p=a_ (.ins C dx [("gaps",w)])->bh K F' r w->Q .non H'|.error e=>D'.p e F H)
def spI2(K:Pn)(C:h_)(g:cc):Sp:=λvs H Q _=>∃p dx v S F d U,vs=[.ref p,v,S]/\H p=a_ (.ins C dx [])/\F p=d_/\aM F H/\bh K F d v/\bh K F U S/\(match (g [d]).bind λr=>(g [U]).bind λB=>if twoL r B=e_ then .ok (r,B)else stk with
 |.ok (r,B)=>∀w I F' H',aM F F'->aM F' H'->F' p=d_->(∀b o,F' b=a_ o->F b=a_ o\/H b=d_)->(∀c o,H c=a_ o->c≠p->H' c=a_ o)->H' p=a_ (.ins C dx [("gaps",w),("beside",I)])->bh K F' r w->bh K F' B I->Q .non H'|.error e=>D'.p e F H)
theorem B2.born{x dx:h_}{fs:List (IL×V)}(s:aM F H)(a:H x=d_)(I:H dx=d_)(B:dx≠x)(h1:aM F F')(Y:aM F' H')(U:F' x=d_)(g:∀b o,F' b=a_ o->F b=a_ o\/upd (upd H dx (.own x)) x (.ins C dx []) b=d_)(f:∀c o,upd (upd H dx (.own x)) x (.ins C dx []) c=a_ o->c≠x->H' c=a_ o)(d:H' x=a_ (.ins C dx fs)):B2 F H (upd F' x (.ins C dx fs)) H' where
 ff:=h1.trans (aM.upd U)
 hh:=λc o e=>by grind[av]
 fh:=λc o e=>by
  by_cases S:c=x
  .simp_all[aq]
  .rw[av S]at e;exact Y _ _ e
 nw:=λc o e=>by grind[av]
theorem de_newR{g:cc}(j:Mk X.K C fI)(P:jN X.prog X.w X.K X.mg X.base CX0 k fI fdI ps (spI1 K C g))(t:kf (k+1) X.A)(y:X.mg x=a_ (.ref C))(D:Binds X.K fdI ps [])(E:DA K D' X [e] fr)(A: ~~~(Gl X x))(f:((x==("__debug__":IL))=cm)⁻¹)(Y: ~~~(k_ [e] X.env=(cm,Il e X.env)::k_ [] X.env))(a: ~~~((Jy pos (k_ [] X.env)).any (·.1)=cm)):
  DE K D' cm X (.Call (.Name x p) [e] [] pos) (fL (newR C g) fr):=by
 refine PE.imp (FU j P t A y D .nil xQ E f Y a) λσ H Q h=>?_;obtain⟨F,ρ,r,s,p⟩:=rd_L h;refine⟨F,ρ,r,s,?_⟩
 cases e1:fr ρ with
 |error z=>simp_all|ok ds=>
  rw[e1]at p;intro vs F1 H1 st q;obtain⟨m,i,s1,q1,z⟩:=p vs F1 H1 st q;rcases i with _|⟨d,_|⟨_,_⟩⟩
  .exact aH.stuck z
  rotate_left
  .exact aH.stuck z
  .obtain⟨v,S,rfl,n,u⟩:=q1;cases(show S=[]from u);intro x dx U I b;refine⟨x,dx,v,m,d,rfl,aq,s1.free U,λc o e=>?_,n,?_⟩
   .rw[av (λh=>by rw[h,s1.free U]at e;lia),av (λh=>by rw[h,s1.free I]at e;lia)];exact s1 _ _ e
   .have z:aH K D' cm m H1 ((g [d]).bind λr=>.ok _) Q:=z;cases B:g [d]with
    |error e=>rw[B]at z;exact Jt z|ok r=>rw[B]at z;intro w F' H' h1 O l N L J G;exact⟨rfl,z _ _ H' (B2.born s1 U I b h1 O l N L J) ⟨x,dx,_,rfl,aq,w,[],rfl,bh.mono (aM.upd l) G,rfl⟩⟩
theorem de_newP{g:cc}(A:Mk X.K C fI)(FI:jN X.prog X.w X.K X.mg X.base CX0 k fI fdI ps (spI2 K C g))(N:kf (k+1) X.A)(P:X.mg x=a_ (.ref C))(T:Binds X.K fdI ps [])(W:DA K D' X [e,a] fr)(R: ~~~(Gl X x))(n:((x==("__debug__":IL))=cm)⁻¹)(j: ~~~(k_ [e,a] X.env=(cm,Il e X.env)::k_ [a] X.env))(l: ~~~((Jy pos (k_ [a] X.env)).any (·.1)=cm)):
  DE K D' cm X (.Call (.Name x p) [e,a] [] pos) (fL (newP C g) fr):=by
 refine PE.imp (FU A FI N R P T .nil xQ W n j l) λσ H Q h=>?_;obtain⟨F,ρ,r,s,p⟩:=rd_L h;refine⟨F,ρ,r,s,?_⟩
 cases e1:fr ρ with
 |error z=>simp_all|ok ds=>
  rw[e1]at p;intro vs F1 H1 st q;obtain⟨D,u,s1,q1,z⟩:=p vs F1 H1 st q;rcases u with _|⟨d,_|⟨y,_|⟨_,_⟩⟩⟩
  .exact aH.stuck z
  .exact aH.stuck z
  rotate_left
  .exact aH.stuck z
  .obtain⟨v,G,rfl,L,J,U,rfl,b,O⟩:=q1;cases(show U=[]from O);intro x dx f S m;refine⟨x,dx,v,J,D,d,y,rfl,aq,s1.free f,λc o e=>?_,L,b,?_⟩
   .rw[av (λh=>by rw[h,s1.free f]at e;lia),av (λh=>by rw[h,s1.free S]at e;lia)];exact s1 _ _ e
   .have z:aH K D' cm D H1 ((g [d]).bind λr=>(g [y]).bind λY=>if twoL r Y=e_ then .ok _ else stk) Q:=z;cases I:g [d]with
    |error e=>rw[I]at z;exact Jt z|ok r=>
     rw[I,ai]at z;cases B:g [y]with
     |error e=>rw[B]at z;exact Jt z|ok Y=>
      rw[B,ai]at z;by_cases i:twoL r Y=e_
      .rw[p_ i]at z;rw[ai,ai,p_ i];intro w E F' H' h1 h2 t h4 h5 h6 h7 Z;exact⟨rfl,z _ _ H' (B2.born s1 f S m h1 h2 t h4 h5 h6) ⟨x,dx,_,rfl,aq,w,_,rfl,bh.mono (aM.upd t) h7,E,[],rfl,bh.mono (aM.upd t) Z,rfl⟩⟩
      .rw[q_ i]at z;exact aH.stuck z
end
section
variable{W:bY}{own:Bool}
theorem HJ(k:X.calm=e_):fS X (.builtin "sum") (λxs H Q=>∃(a:h_) (is:a9),xs=[.ref a]/\SqL X.K H a (is.map V.int)/\Q (.int is.sum) H):=by
 rintro B1 s σ H xs us Q I r ⟨a,is,rfl,h,q⟩;obtain⟨u,rfl,rfl⟩:=r.one;obtain⟨its,f,p,hz⟩:=I.list h;have hi:=intsAre_of f;obtain⟨xs,e⟩:=hi.allInts.items;have i:is=xs.toList.map (·.1):=by rw[<- hi.numsOf,<- QA,<- e]
 have c:=p.isList;rw[e]at c;refine Sq (iter_intList c λY e2 st U S=>?_);subst e2;refine⟨_,_,_,_,_,_,_,Qd xs,rfl,(SF (A:=X.A.in1) (I.ok.hd k) _ a S _).toS,st,U,(λ_ _=>Rw),λs' t' B=>?_⟩
 obtain⟨h',g',m,d,g⟩:=s';have e1:=B.gens;have e2:=B.drawn;have e3:=B.os;subst e1 e2 e3;have j:=old_kept λb o l e=>B.heap b o l e;refine⟨.int _,H,I.kept j,⟨t',rfl⟩,?_⟩
 simp_all[preSum_eq,J9,intItems]
def c_sum(U:X.calm=e_)(Y: ~~~(X.K=K)):kZ K W own X (.builtin "sum") sumD:=by
 subst Y;refine(HJ U).imp λxs H Q h=>?_;obtain⟨F,ds,s,q,p⟩:=h;rcases ds with _|⟨d,_|⟨_,_⟩⟩
 .exact aH.stuck p
 .obtain⟨v,vs,rfl,B,S⟩:=q;cases(show vs=[]from S);cases d with
  |lst ds=>
   obtain⟨a,xs,e,t,z⟩:=B;have p':aH X.K W own F H ((bZ ds).bind λis=>.ok _) Q:=p;cases hi:bZ ds with
   |error e=>rw[hi]at p';have:=gk hi;subst this;exact aH.stuck p'|ok is=>rw[hi]at p';have I:=cW z hi;subst I;exact⟨a,is,by rw[e],s.lst t,aH.int p' s⟩
  |_=>exact aH.stuck p
 .cases d<;>exact aH.stuck p
end
theorem Bi:∀(ds es:be) (i:Nat),(wR ds es)[i]?=(ds[i]?).bind λd=>(es[i]?).map λe=>.tup [d,e]
 |[],es,i=>by rfl|d::ds,[],i=>by simp[wR]|d::ds,e::es,0=>by rfl|d::ds,e::es,i+1=>by rw[wR,Km,Bi ds es i,Km,Km]
theorem uS:∀(ds es:be),(wR ds es).length=min ds.length es.length
 |[],es=>by rfl|d::ds,[]=>by rfl|d::ds,e::es=>by rw[wR,F_,uS ds es,F_,F_];lia
section
variable{s:j_}
def B9{Q:bv->j_->Prop}{a b:Int}{t u v:Tok}(l:A.handled=d_)(j:IsRange s.heap r a b 1 t u v)(U:MX a b 1=e_)(k:Lv a b 1=n)(I:n<=2^24)(m:∀g tk (acc:Array g_),(∀c o,s.heap.get? c=a_ o->g.get? c=a_ o)->Sw (λi v=>∃t,v=.int (a+i*1) t) acc n->Q acc.toList {s with heap:=g,toks:=tk}):w_ (u_ prog w) A (collect (.ref r)) Q E s:=by
 refine b_ (wpAny_runValue (LS QY (b_ (IC (fm ⟨OG OT _,LS RU ?_⟩)))))
 (rw[P9 OT _])
 refine Jo (wpAny_extend_range (R:=λB z=>B=.ok (.ret (.ref s.z))/\∃(acc:Array g_) (c:Nat),z.heap.get? s.z=a_ {cls:=.type "list",dict:=d_,data:=.seq acc c,slots:=#[]}/\Q acc.toList z) l (c_ _ j) U k I s.z _ 0 (i_ _ rfl) λg tk acc c d S it=>?_) (λY z h=>?_) λe z h=>IA h.1 ad
 .exact⟨rfl,acc,c,S,m g tk acc (λz o e=>d z o (G_ (r_ e)) (c_ _ e)) it⟩
 .cases Y with
  |done f=>obtain⟨e,acc,c,S,q⟩:=h;cases e;exact b_ (OQ S (fm q))
  |again p=>
   refine⟨h.1,LM h.2 λB z hz=>?_⟩
   obtain⟨rfl,acc,c,S,q⟩:=hz;exact b_ (OQ S (fm q))
theorem uU{a b:Int}{t u v:Tok}(S:MX a b 1=e_)(k:Lv a b 1=n)(B:n<=2^24):
  Sv prog w (Builtin.«tuple.__new__» ⟨[.type "tuple",.ref r],[]⟩)
   (λA R s=>A.handled=d_/\IsRange s.heap r a b 1 t u v/\∀(g:IF) (tk:Nat) (acc:Array g_),(∀c o,s.heap.get? c=a_ o->g.get? c=a_ o)->Sw (λi v=>∃t,v=.int (a+i*1) t) acc n->R (.ok (.ret (.ref g.objs.size))) {s with heap:=g.push {cls:=.type "tuple",data:=.seq acc},toks:=tk}):=
 .of_wp λA R s h=>by
  obtain⟨q,g,d,tk,p⟩:=s;obtain⟨m,f,h⟩:=h;have Y:=sub_tuple_self;have U:=init_tuple_lookup;have l:=madeHere_tuple
  wp_walk using wpAny_loadPart' f,NH hT,B9 (A:=A.in1) (n:=n) m f S k B
  intro g2 I acc j it;show w_ _ _ (SI acc.toList.toArray >>=λv=>ret v) _ _ _;have hz:acc.toList.toArray.size<=n_:=by
   rw[LH];have:=it.1;simp
   lia
  refine b_ (IC (fm ⟨_,rfl,?_⟩) hz);have e:acc.toList.toArray=acc:=by simp
  exact e▸h g2 I acc j it
end
section
variable{s:j_}
theorem pH{Q:Mq}{a b:Int}{t u v:Tok}(e:A.handled=d_)(Y:IsRange s.heap r a b 1 t u v)(S:MX a b 1=e_)(d:Lv a b 1=n)(B:n<=2^24)(f:∀(g:IF) (tk:Nat) (acc:Array g_),(∀c o,s.heap.get? c=a_ o->g.get? c=a_ o)->Sw (λi v=>∃t,v=.int (a+i*1) t) acc n->Q (.ref g.objs.size) {s with heap:=g.push {cls:=.type "tuple",data:=.seq acc},toks:=tk}):
  w_ (u_ prog w) A (Ms (.type "tuple") [.ref r]) Q E s:=
 callType_newIn F.called_tuple am (F.typeCall_tuple_1 _) (F.newCall_tuple_1 _) (λI=>P1 I _) F.entry_tuple_new
  (uU S d B) ⟨e,Y,λg tk acc U it=>⟨⟨_,i_ _ rfl,rfl⟩,f g tk acc U it⟩⟩
end
section
variable{W:bY}{own:Bool}{a b:Jj}{p:Pb}{fr:ab->M (List A')}
theorem tI(a:X.calm=e_):fS X (.type "tuple") (λxs H Q=>∃r lo hi,xs=[.ref r]/\H r=a_ (.rng lo hi)/\(-(2^62)<=lo/\lo<2^62/\ -(2^62)<=hi/\hi<2^62)/\(hi-lo).toNat<=n_/\∀l,H l=d_->Q (.ref l) (upd H l (.tup ((A_ (hi-lo).toNat).map λk:Nat=>V.int (lo+k))))):=by
 rintro B1 s σ H xs us Q I S ⟨r,lo,hi,rfl,c,⟨j,h,f,d⟩,hz,q⟩;obtain⟨u,rfl,rfl⟩:=S.one;obtain⟨t,u,v,e⟩:=(show ∃t u v,s.heap.get? r=a_ {cls:=.type "range",data:=.fields #[.int lo t,.int hi u,.int 1 v]}from I.hok r _ c)
 refine pH (n:=(hi-lo).toNat) (I.ok.hd a) e (SD j h f d) (by grind[Qz]) a7 λg tk acc U it=>?_;have Y:B6 ((A_ (hi-lo).toNat).map λk:Nat=>V.int (lo+k)) acc.toList:=uk (by exact it.1) λi v hi=>by
  obtain⟨t,e⟩:=it.2 i v (by simpa using hi)
  simp_all
 have B:B3 X B1 σ H {s with heap:=g,toks:=tk}:=I.kept U;exact⟨.ref _,_,B.laid (λb o e=>c_ _ e) (f_ _) (show gQ _ _ _ (.tup _)from⟨a7,acc.toList,Y,⟨_,i_ _ rfl,rfl,0,ad⟩⟩),rfl,q _ B.fresh⟩
def fTR(fr:ce):b6:=λρ=>(fr ρ).bind bT
theorem trng_end{Q:VK}{i j:Int}(p:aH K W own F H1 (bT (aG i (j-i).toNat)) Q)(s:aM F H1)(S:H1 r=d_):
  (j-i).toNat<=n_/\∀l,upd H1 r (.rng i j) l=d_->Q (.ref l) (upd (upd H1 r (.rng i j)) l (.tup ((A_ (j-i).toNat).map λk:Nat=>V.int (i+k)))):=by
 unfold bT at p;by_cases I:(aG i (j-i).toNat).length<=n_
 .rw[p_ I]at p;refine⟨by simp_all[aG],λl B=>?_⟩
  have s2:B2 F H1 F (upd H1 r (.rng i j)):=B2.grow s S;refine p _ _ _ (s2.trans (B2.lay (o:=.tup ((A_ (j-i).toNat).map λk:Nat=>V.int (i+k))) s2.fh B)) ?_;cases own<;>exact⟨l,_,rfl,SqT.of aq,rQ i _⟩
 .rw[q_ I]at p;exact(W.ns p).elim
theorem de_trng1(U:X.mg "tuple"=d_)(i:X.mg "range"=d_)(n:DA K W X [a] fr)(m: ~~~(X.calm=e_))(k: ~~~(Gl X "range"))(Y: ~~~(Gl X "tuple"))(g: ~~~(k_ [a] X.env=[(cm,Il a X.env)]))(I: ~~~(k_ [.Call (.Name "range" q1) [a] [] q2] X.env=[(cm,Il (.Call (.Name "range" q1) [a] [] q2) X.env)])):DE K W own X (.Call (.Name "tuple" p) [.Call (.Name "range" q1) [a] [] q2] [] pos) (fTR (lE oH fr)):=by
 refine PE.imp (qD (tI m) Y U Io (cx (pe_rng1 k i n g) eX I) am am I rfl) λσ H Q h=>?_;obtain⟨F,ρ,r,s,p⟩:=h;refine mf r s (λe o=>p.err (by simp_all[fTR])) λds l xs F1 H1 s1 q1=>?_;simp only[fTR,lE,l,ai]at p;have p1:=p.step s1;by_cases b:∃j,ds=[.int j]
 .obtain⟨j,rfl⟩:=b;obtain⟨v,vs,e2,q2,e3⟩:=q1;have p2:aH K W own F1 H1 ((if bc j=e_ then Jp (aG 0 j.toNat)else K6 Err.stuck).bind bT) Q:=p1;by_cases B:bc j=e_
  .rw[p_ B]at p2;unfold bc at B;simp at B;have e4:xs=[.int j]:=by rw[e2,show v=.int j from q2,show vs=[]from e3]
   subst e4;refine⟨0,j,rfl,rfl,⟨am,am,B.1,B.2⟩,λf S=>?_⟩
   obtain⟨d,c⟩:=trng_end (by rw[Int.sub_zero];exact p2) s1.fh S;exact⟨f,0,j,rfl,aq,⟨am,am,B.1,B.2⟩,d,c⟩
  .rw[q_ B]at p2;exact(W.ns p2).elim
 .have:oH ds=.error .stuck:=by
   unfold oH;split
   .lia
   .rfl
  rw[this]at p1;exact(W.ns p1).elim
end
def fn_stk{base:IF}{f:h_}:jN P w K mg base CX0 k f fd ps (spF K ro (bV nN ps.length λ_=>stk) ps.length) where
 len:=λvs H Q E ⟨F,ds,s,q,l,p⟩=>by rw[q.length,l]
 run:=λA outer s H B us vs Q E S U Y I ⟨F,ds,s1,q,l,p⟩=>by simp[bV,p_ l]at p;exact aH.stuck p
theorem BS{n:Nat}:∀{ds:be} {d:A'},kj ds n=e_->d∈ds->C' d n=e_
 |[],d,_,h=>by simp at h|a::ds,d,h,B=>by
  unfold kj at h;simp at h;rcases x_.mp B with e|e
  .simp_all
  .exact BS h.2 e
section
variable{W:bY}{own:Bool}
open Classical in
theorem has_D{s:Shared}(I:B3 X B1 σ H s)(hF:aM F H){a:A'}{x:V}(od:kj ds 40=true)(oa:C' a 40=true)(qs:ay X.K F ds xs)(rv:B6 xs its)(qa:bh X.K F a x)(ra:B5 x u)(hu:A.units+40<cLine):
  ∃e:Value->Bool,(∀y,y∈its.toArray->SeqAt.EqAt A s y u (e y))/\its.toArray.any e=ds.any λd=>eqD d a:=by
 have each:∀(i:Nat) (y:Value),its[i]?=some y->∃d,ds[i]?=some d/\SeqAt.EqAt A s y u (eqD d a):=λi y hy=>by
  have hi:i<its.length:=(List.getElem?_eq_some_iff.mp hy).1;have h1:i<xs.length:=by rw[rv.length];exact hi
  have h2:i<ds.length:=by rw[<- qs.length];exact h1
  obtain⟨v,e1,q1⟩:=qs.get (List.getElem?_eq_getElem h2);obtain⟨w,e2,r2⟩:=rv.get e1;rw[hy]at e2;cases e2;exact⟨_,List.getElem?_eq_getElem h2,Ha I hF _ a (BS od (List.getElem_mem h2)) oa q1 qa r2 ra hu⟩
 refine⟨λy=>decide (∃(i:Nat) (d:A'),its[i]?=some y/\ds[i]?=some d/\eqD d a=true),λy hy=>?_,?_⟩
 .by_cases h:∃(i:Nat) (d:A'),its[i]?=some y/\ds[i]?=some d/\eqD d a=true
  .obtain⟨i,d,h1,h2,h3⟩:=h;obtain⟨d',h4,h5⟩:=each i y h1;rw[h2]at h4;cases h4;rw[h3]at h5;have:decide (∃(i:Nat) (d:A'),its[i]?=some y/\ds[i]?=some d/\eqD d a=true)=true:=decide_eq_true ⟨i,d,h1,h2,h3⟩
   simp_all
  .have hm:y∈its:=by simpa using hy
   obtain⟨i,hi⟩:=List.getElem?_of_mem hm
   grind[decide_eq_false]
 .rw[Bool.eq_iff_iff];simp only[List.any_toArray,List.any_eq_true,decide_eq_true_eq];constructor
  .rintro⟨y,hy,i,d,h1,h2,h3⟩;exact⟨d,List.mem_of_getElem? h2,h3⟩
  .rintro⟨d,hd,h3⟩;obtain⟨i,hi⟩:=List.getElem?_of_mem hd;have h2:i<ds.length:=(List.getElem?_eq_some_iff.mp hi).1;have h4:i<its.length:=by rw[<- rv.length,qs.length];exact h2
   exact⟨its[i],List.getElem_mem h4,i,d,List.getElem?_eq_getElem h4,hi,h3⟩
theorem Aq(k:X.A.units+64<IU)(j: ~~~(X.K=K)):Op2 K W own X (IP .NotIn) qO:=by
 subst j;rintro B1 s σ H x y v u Q I g f ⟨F,a,b,s1,i,h,p⟩;have S:=by show X.A.units+1+40<IU;lia
 cases b with
 |lst ds=>
  obtain⟨l,xs,rfl,t,z⟩:=h;cases f;have p':aH X.K W own F H (if (C' a 40&&kj ds 40)=e_ then .ok (.bl (!ds.any λd=>eqD d a))else stk) Q:=p;by_cases B:(C' a 40&&kj ds 40)=e_
  .rw[p_ B]at p';simp at B;obtain⟨its,U,pl,_⟩:=I.list (s1.lst t);obtain⟨e,Y,c⟩:=has_D (A:=X.A.in1) I s1 B.2 B.1 z U i g S;refine SeqAt.notIn_listAt e pl.isList Y ?_;exact c▸p'.blS s1 I
  .rw[q_ B]at p';exact p'.stuck
 |tup ds=>
  obtain⟨l,xs,rfl,t,z⟩:=h;cases f;have p':aH X.K W own F H (if (C' a 40&&kj ds 40)=e_ then .ok (.bl (!ds.any λd=>eqD d a))else stk) Q:=p;by_cases B:(C' a 40&&kj ds 40)=e_
  .rw[p_ B]at p';simp at B;obtain⟨its,U,pl,_⟩:=I.tuple (s1.tup t);obtain⟨e,Y,c⟩:=has_D (A:=X.A.in1) I s1 B.2 B.1 z U i g S;refine SeqAt.notIn_tupleAt e (show s.heap.IsTuple l its.toArray from pl) Y ?_;exact c▸p'.blS s1 I
  .rw[q_ B]at p';exact p'.stuck
 |_=>exact aH.stuck p
end
abbrev ZRec(h:IF)(z p q:h_)(m k:g_):Prop:=h.get? z=a_ {cls:=.type "zip",dict:=d_,data:=.fields #[m,k,.bool cm,.ref p,.ref q],slots:=#[]}
def Off(z q u v:h_)(h h':IF):Prop:=∀c o,c≠z->c≠q->c≠u->c≠v->h.get? c=a_ o->h'.get? c=a_ o
section
variable{q u v:h_}{a b:g_}{g:IF}
def Off.then(A:Off z q u v h h')(B:Off z q u v h' g):Off z q u v h g:=λc o a b d e x=>B c o a b d e (A c o a b d e x)
def Off.byZ(A:JG z h h'):Off z q u v h h':=λc o a _ _ _ x=>A c o a x
def Off.byQ(A:JG q h h'):Off z q u v h h':=λc o _ a _ _ x=>A c o a x
def Off.byU(A:JG u h h'):Off z q u v h h':=λc o _ _ a _ x=>A c o a x
def Off.byV(A:JG v h h'):Off z q u v h h':=λc o _ _ _ a x=>A c o a x
def Off.new{o:NY}:Off z q u v h (h.push o):=λ_ _ _ _ _ _ x=>c_ _ x
end
section
variable{s:j_}{p q:h_}{r k:g_}
def Ey(S:ZRec s.heap z p q r k)(Y:∃o,s.heap.get? c=a_ o/\o.cls=.type "StopIteration")(a:∀h',JG z s.heap h'->(∃o,h'.get? c=a_ o/\o.cls=.type "StopIteration")->T () {s with heap:=h'}):w_ (u_ P w) A (Nt (.ref z) 0 .none) T E s:=by
 obtain⟨o,e,t⟩:=Y;have U:c≠z:=by intro I;rw[JT (e.symm.trans (I▸S))]at t;exact IA t ad
 exact KN S (show 0<5 by decide) λh' _ B=>a h' B.extBut ⟨o,B.extBut _ _ U e,t⟩
end
def repD:A'->cg
 |.lst ds,.int k=>if (m_ (-(2^63)<=k)&&m_ (k<2^63)&&m_ (ds.length*k.toNat<=n_))=e_ then .ok (.lst (C_ k.toNat ds).flatten)else stk
 |_,_=>stk
@[simp] theorem e_rep{ds:be}{k:Int}(I: -9223372036854775808<=k)(h1:k<9223372036854775808)(B:ds.length*k.toNat<=16777216):repD (.lst ds) (.int k)=.ok (.lst (C_ k.toNat ds).flatten):=by show(if _ then _ else _)=_;simp_all
theorem ay.rep{K:Pn}{F:Hp}{ds:be}{xs:bm}(h:ay K F ds xs):∀m:Nat,ay K F (C_ m ds).flatten (C_ m xs).flatten
 |0=>rfl|m+1=>by exact h.append (ay.rep h m)
section
variable{W:bY}{a b:Jj}
def de_rep(f:DE K W e_ X a fa)(d:DE K W cm X b fb):DE K W e_ X (.BinOp a .Mult b pos) (f2 repD fa fb):=by
 refine PE.imp (pe_op op_rep f d) λσ H Q h=>?_;obtain⟨F,ρ,r,s,p⟩:=h;refine aD r s (λe S=>p.err (by unfold f2;rw[S];rfl)) λx U v F1 H1 s1 q1=>aD (r.mono s1.ff) s1.fh (λe S=>(p.step s1).err (by unfold f2;rw[U];rw[S];rfl)) λy c u i H2 s2 q2=>?_;simp only[f2,U,c]at p;cases x with
 |lst ds=>
  cases y with
  |int k=>
   obtain⟨l,xs,e1,Y,g,t3,t4⟩:=q1;have p':aH K W e_ F H (if (m_ _&&m_ _&&m_ _)=e_ then .ok _ else stk) Q:=p;by_cases B:(m_ (-(2^63)<=k)&&m_ (k<2^63)&&m_ (ds.length*k.toNat<=n_))=e_
   .rw[p_ B]at p';simp at B;have I:=t4.mono s2.ff;exact⟨l,k,xs,e1,q2,s2.hh l _ Y,B.1.1,B.1.2,by exact t4.length▸B.2,λz hz=>((p'.step (s1.trans s2)).lst s2.fh (I.rep k.toNat) hz)⟩
   .rw[q_ B]at p';exact p'.stuck
  |_=>exact aH.stuck p
 |_=>exact aH.stuck p
end
theorem B2.stays{o:HO}(s:B2 F H F' H')(n:F a=d_)(h:H a=a_ o):F' a=d_:=by
 cases e:F' a with
 |none=>rfl|some u=>
  rcases s.nw a u e with z|z
  .simp_all
  simp_all
structure wQ(K:Pn)(F G H:Hp)(ds:be)(vs:bm):Prop where
 len:vs.length=ds.length
 get:∀(k:Nat) (d:A'),ds[k]?=a_ d->∃a xs es,vs[k]?=a_ (.ref a)/\d=.lst es/\H a=a_ (.lst xs)/\F a=d_/\G a=d_/\ay K F es xs
 ap:∀(j k:Nat) (a:h_),vs[j]?=a_ (.ref a)->vs[k]?=a_ (.ref a)->j=k
section
variable{vs:List V}
def wQ.nil:wQ K F G H [] []:=⟨rfl,λk d e=>by simp at e,λj k a e=>by simp⟩
def wQ.step(o:wQ K F G H ds vs)(s:B2 F H F' H'):wQ K F' G H' ds vs where
 len:=o.len
 get:=λk d e=>by obtain⟨a,xs,es,h1,Y,B,U,S,I⟩:=o.get k d e;exact⟨a,xs,es,h1,Y,s.hh _ _ B,s.stays U B,S,I.mono s.ff⟩
 ap:=o.ap
def wQ.back(o:wQ K F G H ds vs)(s:aM G' G):wQ K F G' H ds vs where
 len:=o.len
 get:=λk d e=>by obtain⟨a,xs,es,h1,Y,U,S,I,B⟩:=o.get k d e;exact⟨a,xs,es,h1,Y,U,S,s.free I,B⟩
 ap:=o.ap
theorem wQ.at(o:wQ K F G H ds vs)(h:vs[k]?=a_ (.ref a)):∃xs es,ds[k]?=a_ (.lst es)/\H a=a_ (.lst xs)/\F a=d_/\G a=d_/\ay K F es xs:=by
 have B:k<ds.length:=by exact o.len▸(oe.mp h).1
 obtain⟨b,xs,es,h1,c,Y,U,S,I⟩:=o.get k ds[k] ad
 simp_all
theorem wQ.add(o:wQ K F G H ds vs){es:be}(S:∀k:Nat,vs[k]?≠a_ (.ref a))(f:H a=a_ (.lst xs))(c:F a=d_)(Y:G a=d_)(U:ay K F es xs):wQ K F G H (ds++[.lst es]) (vs++[.ref a]) where
 len:=by simp[o.len]
 get:=λk d e=>by
  rcases OA k ds.length with z|z|z
  .rw[JR z]at e;obtain⟨b,ys,fs,g,g2⟩:=o.get k d e;exact⟨b,ys,fs,by rw[JR (by exact o.len▸z)];exact g,g2⟩
  .subst z;simp at e;refine⟨a,xs,es,?_,e.symm,f,c,Y,U⟩
   rw[<- o.len];simp
  .have:=(oe.mp e).1;simp at this
   lia
 ap:=λj k b e1 e2=>by
  have key:∀m,(vs++[V.ref a])[m]?=a_ _->(m<vs.length/\vs[m]?=a_ (.ref b))\/(m=vs.length/\b=a):=λm e=>by
   rcases OA m vs.length with z|z|z
   .rw[JR z]at e;exact .inl ⟨z,e⟩
   .subst z;simp at e;exact .inr ⟨rfl,e.symm⟩
   .have:=(oe.mp e).1;simp at this
    lia
  rcases key j e1 with⟨_,I⟩|⟨I,i⟩<;>rcases key k e2 with⟨_,B⟩|⟨B,h⟩
  .exact o.ap j k b I B
  .grind
  .grind
  lia
end
section
variable{W:bY}
theorem BG{p:Pat}(r:fQ K F σ ρ)(s:aM F H)(hL:∀ρ d,fe ρ=.ok d->∃es,d=.lst es)(A:∀e,bB fi ix p ft fe ρ=.error e->W.p e F H)(Q:∀rs,bB fi ix p ft fe ρ=.ok (.lst rs)->∀ys U H2,B2 F H U H2->wQ K U H H2 rs ys->R ys H2):iD K W fi σ H λJ H1=>nu J ix (gP K p) (tDT K W ft) (tD K W e_ fe) σ R H1:=by
 refine⟨F,ρ,r,s,?_⟩
 cases O:fi ρ with
 |error e=>exact A e (by unfold bB;rw[O];rfl)|ok ds=>
  intro J F1 H1 s1 it;have C:bB fi ix p ft fe ρ=if ds.length<=n_ then(aW p ft fe (gS ix ρ) ds).bind λr=>.ok (.lst r)else .error .stuck:=by unfold bB;rw[O];rfl
  by_cases N:ds.length<=n_
  .rw[p_ N]at C;rw[C]at A Q;refine⟨λi m ys H2=>m=ds.length-i/\i<=ds.length/\∃U B,B2 F1 H1 U H2/\wQ K U H1 H2 B ys/\B.length<=i /\
    (match aW p ft fe (gS ix ρ) (ds.drop i)with
     |.ok I=>aW p ft fe (gS ix ρ) ds=.ok (B++I)|.error e=>W.p e F H),⟨ds.length,ac,IH _,F1,[],B2.refl s1.fh,wQ.nil,IH _,?_⟩,?_⟩
   .rw[LV];cases e:aW p ft fe (gS ix ρ) ds with
    |ok I=>rfl|error x=>exact A x (by rw[e];rfl)
   .rintro i m ys H2 ⟨rfl,hi,U,B,s2,D,ly,j⟩;have t:ys.length<=n_:=by rw[D.len];lia
    by_cases f:i<ds.length
    .have ed:ds.drop i=ds[i]::ds.drop (i+1):=Js f;rw[ed]at j;refine .inr ⟨it.go i U H2 s2.ff s2.fh f,t,λo H'=>(i+1<=ds.length/\∃U B,B2 F1 H1 U H'/\wQ K U H1 H' B o/\B.length<=i+1 /\
      (match aW p ft fe (gS ix ρ) (ds.drop (i+1))with
       |.ok I=>aW p ft fe (gS ix ρ) ds=.ok (B++I)|.error e=>W.p e F H)),λo H' n=>⟨ds.length-(i+1),ac,rfl,n⟩,λx H' y=>?_⟩
     obtain⟨Z,c,q3⟩:=it.yl i U H2 x H' ds[i] s2.ff s2.fh ad y;have r3:fQ K Z (Lake.inS ix σ) (gS ix ρ):=(r.mono (s1.trans (s2.trans c)).ff).inS ix;have q:B2 F H Z H':=s1.trans (s2.trans c);simp[aW]at j;cases w:dS p ds[i] (gS ix ρ)with
     |error e=>rw[w]at j;have:=nJ w;subst this;exact(W.ns j).elim|ok l=>
      rw[w]at j;refine gP_run r3 c.fh q3 w λσ2 r4=>?_;have Y:match ((ft l).bind λb=>if b=e_ then(fe l).bind λy=>(aW p ft fe (gS ix ρ) (ds.drop (i+1))).bind λr=>.ok (y::r)else aW p ft fe (gS ix ρ) (ds.drop (i+1)))with
       |.ok I=>aW p ft fe (gS ix ρ) ds=.ok (B++I)|.error e=>W.p e F H:=j
      refine gT r4 c.fh (λe E=>by rw[E]at Y;exact W.mono Y q) λb G F5 H5 h=>?_;rw[G]at Y;cases b with
      |false=>
       have S:match aW p ft fe (gS ix ρ) (ds.drop (i+1))with
        |.ok I=>aW p ft fe (gS ix ρ) ds=.ok (B++I)|.error e=>W.p e F H:=Y
       exact⟨f,F5,B,s2.trans (c.trans h),D.step (c.trans h),ac,S⟩
      |true=>
       have S:match ((fe l).bind λy=>(aW p ft fe (gS ix ρ) (ds.drop (i+1))).bind λr=>.ok (y::r))with
        |.ok I=>aW p ft fe (gS ix ρ) ds=.ok (B++I)|.error e=>W.p e F H:=Y
       refine aD (r4.mono h.ff) h.fh (λe E=>by rw[E]at S;exact W.mono S (q.trans h)) λd P v F6 H6 L q6=>?_;rw[P]at S;obtain⟨es,rfl⟩:=hL _ _ P;obtain⟨a,xs,rfl,g1,g2,g3,g4⟩:=q6;have X:=D.step (c.trans h);refine⟨f,F6,B++[.lst es],s2.trans (c.trans (h.trans L)),(X.step L).add (λk hk=>?_) g1 g2 ((s2.trans (c.trans h)).hh.free g3) g4,by simp;lia,?_⟩
       .obtain⟨_,_,_,z,_⟩:=X.at hk;simp_all
       .have g:match ((aW p ft fe (gS ix ρ) (ds.drop (i+1))).bind λr=>.ok (A'.lst es::r):M be)with
         |.ok I=>aW p ft fe (gS ix ρ) ds=.ok (B++I)|.error e=>W.p e F H:=S
        cases T:aW p ft fe (gS ix ρ) (ds.drop (i+1))with
        |ok I=>rw[T]at g;show _=Jp ((B++[A'.lst es])++I);rw[IG];exact g|error x=>rw[T]at g;exact g
    .have:i=ds.length:=ac
     subst this;rw[M4]at j;have u:aW p ft fe (gS ix ρ) ds=.ok (B++[]):=j;rw[J1]at u;exact .inl ⟨it.st U H2 s2.ff s2.fh,t,Q B (by rw[u];rfl) ys U H2 (s1.trans s2) (D.back s1.hh)⟩
  .rw[q_ N]at C;exact(W.ns (A .stuck C)).elim
end
noncomputable def Gh:A'->M be
 |.lst ds=>.ok ds|_=>.error .stuck
def rowAt(rs:be)(a:Int):M (Nat×be):=match ixN rs.length a with
 |some j=>(match rs[j]? with
  |some (.lst es)=>.ok (j,es)|_=>.error .stuck)
 |none=>.error .stuck
def jO(rs:be)(B:Nat×be)(b:Int)(x:A'):M be:=match ixN B.2.length b with
 |some k=>.ok (rs.set B.1 (.lst (B.2.set k x)))|none=>.error .stuck
def vk(i:Nat)(rs:be)(x:A')(I:Nat×be)(fB:b6)(ρ:ab):M B4:=(fB (ρ.set i d_)).bind λb=>(asI b).bind λb=>(jO rs I b x).bind λB=>.ok (.nx (ρ.set i (a_ (.lst B))))
def qr(i:Nat)(rs:be)(x:A')(fA fB:b6)(ρ:ab):M B4:=(fA (ρ.set i d_)).bind λa=>(asI a).bind λa=>(rowAt rs a).bind λB=>vk i rs x B fB ρ
def Dp(i:Nat)(rs:be)(fx fA fB:b6)(ρ:ab):M B4:=(fx (ρ.set i d_)).bind λx=>qr i rs x fA fB ρ
def vh(i:Nat)(fc fx fA fB:b6):b0:=λρ=>(fc ρ).bind λd=>(Gh d).bind λrs=>Dp i rs fx fA fB ρ
noncomputable def yZ(g:b0)(m:M B4):M B4:=m.bind λfl=>match fl with
 |.nx ρ'=>g ρ'|fl=>.ok fl
def gq{g:b0}{m:M B4}{e:Err}(h:m=.error e):yZ g m=.error e:=by rw[h];rfl
section
variable{W:bY}{D:Ends}{g:b0}
theorem rs_rows{p:Pat}{fB:b6}(hL:∀ρ d,fe ρ=.ok d->∃es,d=.lst es)(hi:i<σ.length)(t:tS K W ro F0 H0 OL [] O' (aO (vh i (bB fi ix p ft fe) fx fA fB) g) D σ H):
  tR (pK i (iD K W fi) ix (gP K p) (tDT K W ft) (tD K W e_ fe)) (tR (zW (tD K W cm fx) (gSub (tOp (rIx K) (oY i) (tD K W cm fA)) (tD K W cm fB) rSetL)) (tS K W ro F0 H0 OL [] O' g)) D σ H:=by
 obtain⟨FB,F,ρ,r,q⟩:=t;have rE:=r.repE;have q0:eV K W ro F0 H0 FB OL O' D (yZ g (vh i (bB fi ix p ft fe) fx fA fB ρ)):=q;refine BG rE r.st.fh hL (λe he=>q0.i7 r.st (gq (by unfold vh;rw[he];rfl))) λrs hrs ys F2 H2 s2 ow a ha=>?_;have q1:eV K W ro F0 H0 FB OL O' D (yZ g (Dp i rs fx fA fB ρ)):=by unfold vh at q0;rw[hrs]at q0;exact q0
 have r2:fQ K F2 (σ.set i (a_ (.ref a))) (ρ.set i d_):=⟨by rw[Ii,Ii,r.len],λj d e=>by
  by_cases Q:i=j
  .subst Q;rw[t_ (by exact r.len▸hi)]at e;cases e
  .rw[o_ Q]at e;obtain⟨v,h1,h2⟩:=rE.sl j d e;exact⟨v,a7,h2.mono s2.ff⟩⟩
 have sg:B2 F2 H2 F2 (upd H2 a (.lst ys)):=B2.grow s2.fh ha;have Y:=s2.trans sg;refine aD r2 sg.fh (λe he=>q1.i7 (r.st.trans Y) (gq (by simp_all[Dp]))) λx hx v F3 H3 S qx=>?_;have q2:eV K W ro F0 H0 FB OL O' D (yZ g (qr i rs x fA fB ρ)):=by unfold Dp at q1;rw[hx]at q1;exact q1
 refine⟨.ref a,a7,(aD (r2.mono S.ff) S.fh (λe he=>q2.i7 (r.st.trans (Y.trans S)) (gq (by simp_all[qr]))) λda T va F4 H4 f qa=>?_)⟩
 cases da with
 |int ka=>
  have l:eV K W ro F0 H0 FB OL O' D (yZ g ((rowAt rs ka).bind λje=>vk i rs x je fB ρ)):=by unfold qr at q2;rw[T]at q2;exact q2
  have h3a:H3 a=a_ (.lst ys):=S.hh _ _ aq;have Z:=f.hh _ _ h3a;have N:=((ow.step sg).step S).step f;have J:=Y.trans (S.trans f);cases hj:ixN rs.length ka with
  |none=>exact l.stuck (gq (by simp_all[rowAt]))|some j=>
   have O:=(Ay hj).2.1;obtain⟨b,xs,es,g1,g2,g3,g4,g5,g6⟩:=N.get j rs[j] ad;have erj:rs[j]?=a_ (.lst es):=by rw[<- g2];simp[O]
   have L:eV K W ro F0 H0 FB OL O' D (yZ g (vk i rs x (j,es) fB ρ)):=by
    unfold rowAt at l;rw[hj]at l;have l:eV K W ro F0 H0 FB OL O' D (yZ g (((match rs[j]? with
     |some (.lst es)=>.ok (j,es)|_=>.error .stuck):M (Nat×be)).bind λje=>vk i rs x je fB ρ)):=l
    rw[erj]at l;exact l
   refine .inl ⟨a,ys,ka,.ref b,rfl,qa,SqL.of Z,?_,?_⟩
   .unfold atI;rw[ow.len,hj];exact g1
   refine aD (r2.mono (S.trans f).ff) f.fh (λe he=>L.i7 (r.st.trans J) (gq (by simp_all[vk]))) λdb R vb B E I qb=>?_;cases db with
   |int kb=>
    have q5:eV K W ro F0 H0 FB OL O' D (yZ g ((jO rs (j,es) kb x).bind λrs'=>.ok (.nx (ρ.set i (a_ (.lst rs')))))):=by unfold vk at L;rw[R]at L;exact L
    cases hk:ixN es.length kb with
    |none=>exact q5.stuck (gq (by simp_all[jO]))|some k=>
     have q6:eV K W ro F0 H0 FB OL O' D (g (ρ.set i (a_ (.lst (rs.set j (.lst (es.set k x))))))):=by unfold jO at q5;rw[show((j,es):Nat×be).2=es from rfl,hk]at q5;exact q5
     have h5a:=I.hh _ _ Z;have h5b:=I.hh _ _ g3;have s:=N.step I;have st:B2 F H B E:=J.trans I;refine⟨b,xs,kb,k,rfl,qb,h5b,by exact g6.length▸hk,?_⟩
     have ma:H a=d_:=s2.hh.free ha;have fa2:F2 a=d_:=s2.fh.free ha;have f5a:B a=d_:=(S.trans (f.trans I)).stays fa2 (aq (H:=H2) (a:=a) (o:=.lst ys));have nab:a≠b:=λz=>by
      obtain⟨_,_,_,w,_⟩:=ow.at (k:=j) (a:=b) g1
      simp_all
     have inA:∀c,(c=a\/∃m:Nat,ys[m]?=a_ (.ref c))->B c=d_/\H c=d_:=λc h=>by
      rcases h with z|⟨m,z⟩
      .simp_all
      .obtain⟨_,_,_,_,z1,z2,_⟩:=s.at z;exact⟨z1,z2⟩
     have Ab:b=a\/∃m:Nat,ys[m]?=a_ (.ref b):=.inr ⟨j,g1⟩;have G:aM B (plus B (upd E b (.lst (xs.set k v))) λc=>c=a\/∃m:Nat,ys[m]?=a_ (.ref c)):=λc o h=>by grind[dh]
     have fh:aM (plus B (upd E b (.lst (xs.set k v))) λc=>c=a\/∃m:Nat,ys[m]?=a_ (.ref c)) (upd E b (.lst (xs.set k v))):=λc o h=>by
      by_cases X:c=a\/∃m:Nat,ys[m]?=a_ (.ref c)
      .simp_all[gU]
      .rw[dh X]at h;have:c≠b:=λz=>X (by exact z▸Ab);exact(av this)▸I.fh c o h
     have A:aM F3 (plus B (upd E b (.lst (xs.set k v))) λc=>c=a\/∃m:Nat,ys[m]?=a_ (.ref c)):=(f.trans I).ff.trans G;have y:aM F4 (plus B (upd E b (.lst (xs.set k v))) λc=>c=a\/∃m:Nat,ys[m]?=a_ (.ref c)):=I.ff.trans G;refine⟨FB,plus B (upd E b (.lst (xs.set k v))) (λc=>c=a\/∃m:Nat,ys[m]?=a_ (.ref c)),ρ.set i (a_ (.lst (rs.set j (.lst (es.set k x))))),?_,q6⟩
     have U:=r.st.trans st;refine⟨⟨U.ff.trans G,λc o h=>?_,fh,λc o h=>?_⟩,r.fb.trans (st.ff.trans G),by rw[Ii,Ii,r.len],λm d e _=>?_,(λm d e h=>nomatch h),(λm n d1 d2 c h=>nomatch h)⟩
     .have:c≠b:=λz=>by
       rw[z]at h;have:=r.st.hh _ _ h
       lia
      exact(av this)▸U.hh c o h
     .by_cases X:c=a\/∃m:Nat,ys[m]?=a_ (.ref c)
      .exact .inr (r.st.hh.free (inA c X).2)
      .rw[dh X]at h;exact U.nw c o h
     .by_cases P:i=m
      .subst P;rw[t_ (by exact r.len▸hi)]at e;cases e;refine⟨.ref a,a7,a,ys,rfl,SqL.of ?_,?_⟩
       .simp_all[gU,av]
       .refine ay.of_get (by rw[Ii];exact ow.len) λm d u e1 e2=>?_;by_cases C:j=m
        .subst C;rw[t_ O]at e1;cases e1;rw[g1]at e2;cases e2;exact⟨b,xs.set k v,rfl,SqL.of (by rw[gU Ab,aq]),ay.set (bh.mono A qx) k (g6.mono y)⟩
        .rw[o_ C]at e1;obtain⟨c,ws,fs,k1,rfl,k3,k4,k5,k6⟩:=s.get m d e1;rw[k1]at e2;cases e2;have ncb:c≠b:=λz=>C (s.ap j m b g1 a7);exact⟨c,ws,rfl,SqL.of (by rw[gU (.inr ⟨m,k1⟩),av ncb];exact k3),k6.mono G⟩
      .rw[o_ P]at e;obtain⟨u,h1,h2⟩:=rE.sl m d e;exact⟨u,a7,h2.mono (st.ff.trans G)⟩
   |_=>exact L.stuck (gq (by unfold vk;rw[R];rfl))
 |_=>exact q2.stuck (gq (by unfold qr;rw[T];rfl))
end
theorem qW{fr:ce}:∀ρ d,fL gI fr ρ=.ok d->∃es,d=.lst es:=λρ d h=>by
 unfold fL at h;cases e:fr ρ with
 |error x=>simp_all|ok ds=>
  rw[e]at h;have h:gI ds=.ok d:=h;unfold gI at h
  all_goals first
   |(split at h<;>first|(cases h;done)|(cases h;exact⟨_,rfl⟩))
section
variable{W:bY}{ea eb:Jj}{pt:Pat}{fB:b6}{p1:Pb}{g:b0}
def Hl(N':List IL)(ix:List (Option Nat))(u:X.N.Nodup)(hi:DI K W X tg iter fi)(o:∀L cs s H fp,DG K (bf X N' sc L cs s H fp) tg pt)(m:oX ix (gP K pt))(j:∀L cs s H fp,PTs (bf X N' sc L cs s H fp) ifs (tDT K W ft))(p:∀L cs s H fp,DE K W e_ (bf X N' sc L cs s H fp) elt fe)(w:∀ρ d,fe ρ=.ok d->∃es,d=.lst es)(f:DE K W cm X ex fx)(C:DE K W cm X ea fA)(A:DE K W cm X eb fB)(l:DSs K W ro X OL [] O' sts g)(a: ~~~(X.N[i]?=a_ x))(e: ~~~(X.env.scope.names.lookup x=a_ .local))(r: ~~~(X.calm=e_))(y: ~~~(X.K=K))(S: ~~~(J4 (.ListComp elt [⟨tg,iter,ifs,0⟩] sc pos) (a_ (.Name x py)) spos.line X.env=JM e_))(ok: ~~~(bH X.N X.env.scope N' sc ix=e_))(n: ~~~(sc.kind=.function))(k:autoParam (∀x,Ku iter X.env x=JM x) Jq4)(h:autoParam (Vis X.env.scope x) Jq3)(q:((x==("__debug__":IL))=cm)⁻¹)(c:((x==("__classdict__":IL))=cm)⁻¹)(Y:autoParam (Bg ea) Jq10)(t:autoParam (∀v,Ng (.Subscript (.Subscript (.Name x p1) ea p2) eb p3) X.env v=(do
   let ov <- Ln [v] (Il (.Subscript (.Name x p1) ea p2) X.env)
   let B <- Ln [v,ov] (Il eb X.env)
   NK p3
   Ln [v,ov,B] (Sm ov B v)
   release [v,ov,B] [])) Jq4)(U: ~~~(OE [.Subscript (.Subscript (.Name x p1) ea p2) eb p3] ex p4.line X.env=JM cm))(hw: ~~~(OF [.Subscript (.Subscript (.Name x p1) ea p2) eb p3] ex X.env=JM d_))(h1: ~~~((KQ [.Subscript (.Subscript (.Name x p1) ea p2) eb p3] X.env).map (·.2)=[Ng (.Subscript (.Subscript (.Name x p1) ea p2) eb p3) X.env])):
  DSs K W ro X OL [] O' (.Assign [.Name x py] (.ListComp elt [⟨tg,iter,ifs,0⟩] sc pos) spos::.Assign [.Subscript (.Subscript (.Name x p1) ea p2) eb p3] ex p4::sts) (aO (vh i (bB fi ix pt ft fe) fx fA fB) g):=by
 subst y;intro F0 H0 B1 s σ H D I z;have b:i<σ.length:=by exact I.len▸(oe.mp a).1
 exact bS (nS N' ix u a e r hi o m j p S ok n k) (bS (BN f (FT (pe_ix Gy (pv i a h q c) C Y) A set_list t) U hw h1) (l F0 H0)) B1 s σ H D I (rs_rows w b z)
end
section
variable{s:j_}
theorem lg{q:h_}{xs:Array g_}{v:g_}{Q:Mq}(st:s.heap.IsTupleIter q a i)(I:s.heap.IsTuple a xs)(B:xs[i]?=a_ v)(k:∀h',h'.IsTupleIter q a (i+1)->JY q s.heap h'->Q v {s with heap:=h'}):w_ (u_ prog w) A (NA (.ref q)) Q E s:=by obtain⟨S,e1,e2,e3⟩:=id st;obtain⟨U,f1,_,Y,f3⟩:=I;have ty:=st.typeIs;refine b_ (IT ty KH (Ip KH ty NZ ?_ (NS _)));show w_ _ _ (field _ 0 >>= _) _ _ s;refine b_ (JP e1 e3 rfl (b_ (JP e1 e3 rfl ?_)));refine b_ (Kn f1 f3 ?_);simp[Jn,B];exact b_ (LG e1 e3 ad (fm ⟨v,rfl,fm (k _ ⟨_,KC _ e1 (Nv (Lc e3 _)),(Ow ..).trans e2,by simp_all[Lc,LP]⟩ (Jh ..))⟩))
def qQ{q:h_}{xs:Array g_}{Q:Mq}(S:A.handled=d_)(st:s.heap.IsTupleIter q a i)(I:s.heap.IsTuple a xs)(B:xs[i]?=d_)(k:∀h' e,JG q s.heap h'->(∃o,h'.get? e=a_ o/\o.cls=.type "StopIteration")->E (.ref e) {s with heap:=h'}):w_ (u_ prog w) A (NA (.ref q)) Q E s:=by
 obtain⟨U,e1,e2,e3⟩:=id st;obtain⟨Y,f1,_,b,f3⟩:=I;have ty:=st.typeIs;refine b_ (IT ty KH (Ip KH ty NZ ?_ (NS _)));show w_ _ _ (field _ 0 >>= _) _ _ s;refine b_ (JP e1 e3 rfl (b_ (JP e1 e3 rfl ?_)));refine b_ (Kn f1 f3 ?_);simp[Jn,B];refine b_ (KO (b_ (LG e1 e3 ad (b_ (b_ (m:=firstArgMember _ _) (PH (by rfl) ?_))))));refine IC (b_ (OD ?_)) (by size_fits);first|rw[S]
 exact b_ (fm (PF (k _ _ (((Jh ..).extBut.push _).push _) ⟨_,i_ _ rfl,rfl⟩)))
end
def yO(U:A.handled=d_)(q a:h_)(B:a≠q)(xs:Array g_):Draws prog w A q [q,a] xs.size (λi v=>xs[i]?=a_ v) (λi h=>h.IsTupleIter q a i/\h.IsTuple a xs) where
 live:=λ_ _ st=>let ⟨o,e,_⟩:=st.1;⟨o,e⟩
 frame:=λ_ _ _ st k=>⟨st.1.at λo e=>k q ad o e,let ⟨o,e,r⟩:=st.2;⟨o,k a ad o e,r⟩⟩
 item:=λi s Q E hi st k=>lg st.1 st.2 (v:=xs[i]) ad λh' S I=>k _ h' s.toks ad ⟨S,let ⟨o,e,r⟩:=st.2;⟨o,I.extBut a o B e,r⟩⟩ I
 done:=λs Q E st k=>qQ U st.1 st.2 ad k
def Hb(a:h_)(xs:Array g_)(n:Nat)(Y:Option h_)(sl:Array (Option g_)):Meets (Builtin.«enumerate.__new__» ⟨[.type "enumerate",.ref a],[]⟩) (λ_ R s=>s.heap.get? a=a_ {cls:=.type "tuple",dict:=Y,data:=.seq xs n,slots:=sl}/\R (.ok (.ret (.ref (s.heap.push {cls:=.type "tuple_iterator",data:=.fields #[.ref a,.int 0 0]}).objs.size))) {s with heap:=(s.heap.push {cls:=.type "tuple_iterator",data:=.fields #[.ref a,.int 0 0]}).push {cls:=.type "enumerate",data:=.fields #[.none,.bool cm,.ref s.heap.objs.size,LP 0,.none,.none]}}):=
 .of_wp λprog w A R s h=>by
  obtain⟨U,g,d,tk,S⟩:=s;obtain⟨ea,h⟩:=h;have B:=sub_enumerate;have I:P8 (P7 ⟨U,g,d,tk,S⟩) a xs:=⟨_,ea,rfl,n,rfl⟩
  wp_walk using Mw ea
  refine wpAny_stack_any λz=>fm ?_;split
  .rename_i c _ _ _ _ _;cases(c==K7 "enumerate")<;>(wp_walk using Mw ea,Lm I;exact⟨_,rfl,h⟩)
  .wp_walk using Mw ea,Lm I
   exact⟨_,rfl,h⟩
section
variable{s:j_}
def Ee{xs:Array g_}{Q:Mq}(S:s.heap.IsTuple a xs)(k:∀h',IsEnum h' (s.heap.objs.size+1) s.heap.objs.size 0 .none->h'.IsTupleIter s.heap.objs.size a 0->h'.objs.size=s.heap.objs.size+2->(∀b o,s.heap.get? b=a_ o->h'.get? b=a_ o)->Q (.ref (s.heap.objs.size+1)) {s with heap:=h'}):w_ (u_ prog w) A (Ms (.type "enumerate") [.ref a]) Q E s:=by
 obtain⟨⟨c,U,Y,sl⟩,e1,e2,n,e3⟩:=S;subst e2 e3;refine callType_new PySem.F.called_enumerate am (PySem.F.typeCall_enumerate_1 _) (PySem.F.newCall_enumerate_1 _) (λB=>P1 B _) PySem.F.entry_enumerate_new (Hb a xs n U sl) ⟨e1,?_⟩;have hz:(s.heap.push {cls:=.type "tuple_iterator",data:=.fields #[.ref a,.int 0 0]}).objs.size=s.z+1:=JF ..;rw[hz];have I:=by have z:=i_ (s.heap.push {cls:=.type "tuple_iterator",data:=.fields #[.ref a,.int 0 0]}) (o:={cls:=.type "enumerate",data:=.fields #[.none,.bool cm,.ref s.z,LP 0,.none,.none]}) rfl;exact hz▸z
 exact⟨⟨_,I,rfl⟩,k _ I ⟨_,c_ _ (i_ _ rfl),rfl,rfl⟩ ad λb o z=>c_ _ (c_ _ z)⟩
end
noncomputable def IteT(K:Pn)(a:h_):It:=
 ⟨λi H=>∃xs x,SqT K H a xs/\xs[i]?=a_ x,λi H x H'=>∃T y,H T=d_/\x=.ref T/\H'=upd H T (.tup [.int i,y])/\∀xs,SqT K H a xs->xs[i]?=a_ y,λi H=>∃xs,SqT K H a xs/\xs.length=i⟩
theorem D5(a e it:h_)(n:e≠it):Turn P w K (.Tuple elts k pos) (IteT K a) [e,it] e (λi h=>(∃S,IsEnum h e it i S)/\h.IsTupleIter it a i) where
 mem:=by simp
 obj:=λi h st b U=>by
  obtain⟨⟨S,Y⟩,o,e1,c,d⟩:=st
  grind
 keep:=λi h h' st W=>by obtain⟨⟨S,Y⟩,B⟩:=st;exact⟨⟨S,W e ad _ Y⟩,B.at λo x=>W it ad o x⟩
 item:=by
  intro X Q hw R N i B1 s σ H E I t st J;subst Q hw R;obtain⟨⟨S,Y⟩,B⟩:=st;obtain⟨xs,x,r,D⟩:=J;obtain⟨its,C,p,hz⟩:=I.tuple r;obtain⟨u,hu,ru⟩:=C.get D;have j:s.heap.IsTuple a its.toArray:=p;have f:a≠it:=λz=>by
   obtain⟨T,c1,c2,_⟩:=j;obtain⟨o2,c3,c4,_⟩:=B
   lia
  have nea:e≠a:=λz=>by
   obtain⟨T,c1,c2,_⟩:=j
   lia
  have G:i<its.toArray.size:=by have:=(oe.mp hu).1;simpa using this
  refine wpAny_pyNext_enum_itemD (yO (A:=X.A.in1) (show X.A.in1.handled=d_ from I.ok.hd N) it a f its.toArray) Y ⟨B,j⟩ G n a7 λv h1 tk Z ho l hT hsz hk=>?_;have F:v=u:=by rw[show its.toArray[i]?=its[i]? by simp,hu]at Z;exact(JT Z).symm
  subst F;refine⟨_,rfl,Qc ho λh2 L g=>?_⟩
  have m:e<s.z:=r_ Y;have O:s.z≠e:=J3 m;have I1:B3 X B1 σ (upd H s.z (.tup [.int i,x])) {s with heap:=h2,toks:=tk+1}:=I.qe (ch:=[e,it]) t (λb o U q=>by have h3:=hk b o (λz=>U (by simp[z])) (λz=>U (by simp[z])) q;exact(g.2 b (λz=>U (by simp[z]))).trans h3) (f_ _) ⟨ad,[.int i tk,v],.cons ⟨_,rfl⟩ (.cons ru .nil),⟨_,(g.2 _ O).trans hT,rfl,0,rfl⟩⟩
  refine⟨.ref s.z,_,I1,rfl,⟨s.z,x,I.hok.fresh (f_ _),rfl,rfl,λys hy=>by rw[I.mI hy r];exact D⟩,⟨⟨v,by simpa using L⟩,l.1.at λo y=>(g.2 it n.symm).trans y⟩,λb U=>?_⟩
  have hbn:=(t b U).1;have:b≠s.z:=by
   rcases x_.mp U with z0|U
   .lia
   .have:b=it:=by simpa using U
    subst this;obtain⟨o,e1,_⟩:=B;exact G_ (r_ e1)
  simp_all[av]
 done:=by
  intro X Q hw R N i B1 s σ H E I t st J;subst Q hw R;obtain⟨⟨S,Y⟩,B⟩:=st;obtain⟨xs,r,D⟩:=J;obtain⟨its,C,p,hz⟩:=I.tuple r;have hl:=C.length;have j:s.heap.IsTuple a its.toArray:=p;have f:a≠it:=λz=>by
   obtain⟨T,c1,c2,_⟩:=j;obtain⟨o2,c3,c4,_⟩:=B
   lia
  have hn:i=its.toArray.size:=by simp;lia
  rw[hn]at B;exact wpAny_pyNext_enum_endD (yO (A:=X.A.in1) (show X.A.in1.handled=d_ from I.ok.hd N) it a f its.toArray) Y ⟨B,j⟩ λh2 eb=>⟨rfl,I.zU (t':=s.toks) (ch:=[e,it]) t λb o U q=>eb b o (λz=>U (by simp[z])) q⟩
 self:=λ_ _ _ _ _ st h=>by obtain⟨⟨S,Y⟩,_⟩:=st;exact L7 Y h
theorem DX(t:SqT K F a xs)(z:ay K F ds xs):mC K F (IteT K a) (iJ 0 ds) where
 go:=λi F' H' s1 s2 hi=>⟨xs,xs[i]'(by rw[z.length];simp_all[kO]),s2.tup (s1.tup t),ad⟩
 yl:=λi F' H' x H2 d s1 s2 I S=>by
  obtain⟨T,y,U,ex,Y,S⟩:=S;subst ex Y;rw[rL]at I;cases B:ds[i]? with
  |none=>simp_all|some b=>rw[B]at I;simp at I;subst I;obtain⟨v,e1,q⟩:=z.get B;have e2:=S xs (s2.tup (s1.tup t));rw[e1]at e2;cases e2;exact⟨upd F' T _,B2.lay s2 U,T,_,rfl,SqT.of aq,⟨.int i,[y],rfl,rfl,y,[],rfl,(q.mono s1).mono (aM.upd (s2.free U)),rfl⟩⟩
 st:=λF' H' s1 s2=>⟨xs,s2.tup (s1.tup t),by rw[z.length,kO]⟩
def rG(fa:b6):ce:=λρ=>(fa ρ).bind λd=>(jb d).bind λds=>.ok (iJ 0 ds)
@[simp]def e_enum2{fa:b6}{ρ:ab}:rG fa ρ=(fa ρ).bind λd=>(jb d).bind λds=>.ok (iJ 0 ds):=id rfl
section
variable{W:bY}{a:Jj}{p:Pb}
def iEnum2(K:Pn)(tl:TE):TI:=λσ H R=>tl σ H λx H1=>∃a,x=.ref a/\((∃xs,SqL K H1 a xs)/\R (Ite K a) H1\/(∃xs,SqT K H1 a xs)/\R (IteT K a) H1)
theorem pi_enum2(o:Gl X "enumerate")(m:X.mg "enumerate"=d_)(n:PE X a tl)(f: ~~~(k_ [a] X.env=[(cm,Il a X.env)])):
  PI X (.Tuple elts k q) (.Call (.Name "enumerate" p) [a] [] pos) (iEnum2 X.K tl):=by
 intro B1 s σ H R I h;refine RF (lW I o m boot_enumerate (Jb (B' ((cx n eX f) pos B1 s σ H (λvs H1=>match vs with
  |[x]=>∃a,x=.ref a/\((∃xs,SqL X.K H1 a xs)/\R (Ite X.K a) H1\/(∃xs,SqT X.K H1 a xs)/\R (IteT X.K a) H1)
  |_=>False) I h) λus s1 ⟨vs,H1,S,j,q1⟩=>?_) f rfl))
 rcases vs with _|⟨x,_|⟨_,_⟩⟩
 .simp_all
 rotate_left
 .simp_all
 .obtain⟨l,rfl,q⟩:=q1;obtain⟨u,rfl,rfl⟩:=j.one;have c:∀b∈[s1.z+1,s1.z],En X B1 H1 b:=λb g=>by
   have Y:s1.z<=b:=by
    rcases x_.mp g with t|g
    .simp_all
    .simp_all
   exact S.Ew Y (S.hok.fresh Y)
  rcases q with⟨⟨xs,d⟩,q⟩|⟨⟨xs,d⟩,q⟩
  .obtain⟨its,i,pl,hz⟩:=S.list d;refine RS pl.isList λr U B hsz e=>L7 U ?_;exact⟨s1.z+1,[s1.z+1,s1.z],_,_,H1,rfl,(S.kept (t':=s1.toks) e),wY l _ _ (OU _),⟨⟨_,U⟩,B⟩,c,q⟩
  .obtain⟨its,i,pl,hz⟩:=S.tuple d;refine Ee (show s1.heap.IsTuple l its.toArray from pl) λr U B hsz e=>L7 U ?_;exact⟨s1.z+1,[s1.z+1,s1.z],_,_,H1,rfl,(S.kept (t':=s1.toks) e),D5 l _ _ (OU _),⟨⟨_,U⟩,B⟩,c,q⟩
theorem wg(I:X.mg "enumerate"=d_)(S:DE K W cm X a fa)(U: ~~~(Gl X "enumerate"))(B: ~~~(k_ [a] X.env=[(cm,Il a X.env)]))(c: ~~~(X.K=K)):
  DI K W X (.Tuple elts k q) (.Call (.Name "enumerate" p) [a] [] pos) (rG fa):=by
 subst c;exact(pi_enum2 U I S B).imp λ_ _ _=>by
   intro h;obtain⟨F,ρ,r,s,p⟩:=h;refine aD r s (λe f=>?_) λd Y v F1 H1 s1 q1=>?_
   .simp_all[rG]
   .simp[rG,Y]at p;cases d with
    |lst ds=>obtain⟨b,xs,e,t,z⟩:=q1;exact⟨b,e,.inl ⟨⟨xs,s1.fh.lst t⟩,p _ F1 H1 s1 (yn t z)⟩⟩
    |tup ds=>obtain⟨b,xs,e,t,z⟩:=q1;exact⟨b,e,.inr ⟨⟨xs,s1.fh.tup t⟩,p _ F1 H1 s1 (DX t z)⟩⟩
    |_=>exact(W.ns p).elim
end
def lC{u:h_}(x:h.IsTupleIter u l i)(A:JG c h h')(n:u≠c):h'.IsTupleIter u l i:=x.at λo e=>A u o n e
def kn{xs:Array g_}(x:h.IsTuple l xs)(A:JG c h h')(n:l≠c):h'.IsTuple l xs:=let ⟨o,e,r⟩:=x;⟨o,A l o n e,r⟩
structure Ys(z p q u v l m:h_)(r k a b:g_)(i j:Nat)(xs ys:Array g_)(h:IF):Prop where
 me:ZRec h z p q r k
 its:OS h p (.ref u) (.ref v)
 own:OS h q a b
 one:h.IsTupleIter u l i
 two:h.IsTupleIter v m j
 xl:h.IsTuple l xs
 yl:h.IsTuple m ys
section
variable{p q u v m:h_}{r k a b:g_}{xs ys:Array g_}
def Ys.atZ{r':g_}(D:L9 z p q u v l m)(Z:Ys z p q u v l m r k a b i j xs ys h)(A:JG z h h')(e:ZRec h' z p q r' k'):Ys z p q u v l m r' k' a b i j xs ys h':=
 ⟨e,A _ _ D.TIz Z.its,A _ _ D.TOz Z.own,lC Z.one A D.i1z,lC Z.two A D.i2z,kn Z.xl A D.l1z,kn Z.yl A D.l2z⟩
def Ys.atQ(D:L9 z p q u v l m)(Z:Ys z p q u v l m r k a b i j xs ys h)(A:JG q h h')(e:OS h' q a' b'):Ys z p q u v l m r k a' b' i j xs ys h':=
 ⟨A _ _ D.TOz.symm Z.me,A _ _ D.TITO Z.its,e,lC Z.one A D.TOi1.symm,lC Z.two A D.TOi2.symm,kn Z.xl A D.l1TO,kn Z.yl A D.l2TO⟩
def Ys.atU(D:L9 z p q u v l m)(Z:Ys z p q u v l m r k a b i j xs ys h)(A:JG u h h')(e:h'.IsTupleIter u l n):Ys z p q u v l m r k a b n j xs ys h':=
 ⟨A _ _ D.i1z.symm Z.me,A _ _ D.TIi1 Z.its,A _ _ D.TOi1 Z.own,e,lC Z.two A D.i12.symm,kn Z.xl A D.l1i1,kn Z.yl A D.l2i1⟩
def Ys.atV(D:L9 z p q u v l m)(Z:Ys z p q u v l m r k a b i j xs ys h)(A:JG v h h')(e:h'.IsTupleIter v m n):Ys z p q u v l m r k a b i n xs ys h':=
 ⟨A _ _ D.i2z.symm Z.me,A _ _ D.TIi2 Z.its,A _ _ D.TOi2 Z.own,lC Z.one A D.i12,e,kn Z.xl A D.l1i2,kn Z.yl A D.l2i2⟩
def Ys.new{o:NY}(Z:Ys z p q u v l m r k a b i j xs ys h):Ys z p q u v l m r k a b i j xs ys (h.push o):=
 ⟨c_ _ Z.me,c_ _ Z.its,c_ _ Z.own,Z.one.at λ_ e=>c_ _ e,Z.two.at λ_ e=>c_ _ e,(let ⟨o',e,t⟩:=Z.xl;⟨o',c_ _ e,t⟩),(let ⟨o',e,t⟩:=Z.yl;⟨o',c_ _ e,t⟩)⟩
end
section
variable{s:j_}{p q u v m:h_}{r k a b x y:g_}{xs ys:Array g_}
def EC{T:Bool->j_->Prop}(Z:Ys z p q u v l m .none k a b i j xs ys s.heap)(B:T e_ s):w_ (u_ P w) A (Rn (.ref z)) T E s:=
 b_ (JP Z.me rfl rfl (fm B))
def EB(D:L9 z p q u v l m)(Z:Ys z p q u v l m r k a b i j xs ys s.heap)(I:(#[a,b]:Array g_).setIfInBounds n x=#[a',b'])(S:∀h',JG q s.heap h'->h'.objs.size=s.heap.objs.size->Ys z p q u v l m r k a' b' i j xs ys h'->T () {s with heap:=h'}):w_ (u_ P w) A (updateSeq q (·.setIfInBounds n x)) T E s:=
 wpAny_updateSeq_pair Z.own λh' e B=>S h' B.extBut B.1 (Z.atQ D B.extBut (by rw[I]at e;exact e))
def Bj{c:g_}(D:L9 z p q u v l m)(Z:Ys z p q u v l m r k a b i j xs ys s.heap){r':g_}(I:n<5)(S:(#[r,k,.bool cm,.ref p,.ref q]:Array g_).setIfInBounds n c=#[r',k',.bool cm,.ref p,.ref q])(U:∀h',JG z s.heap h'->h'.objs.size=s.heap.objs.size->Ys z p q u v l m r' k' a b i j xs ys h'->T () {s with heap:=h'}):w_ (u_ P w) A (Nt (.ref z) n c) T E s:=
 KN Z.me I λh' e B=>U h' B.extBut B.1 (Z.atZ D B.extBut (by rw[S]at e;exact e))
theorem ys_gives{T:Mq}(D:L9 z p q u v l m)(Z:Ys z p q u v l m .none (.bool cm) a b i j xs ys s.heap)(L:xs[i]?=a_ x)(K:ys[j]?=a_ y)(N:∀h' a' b',Ys z p q u v l m (LP s.heap.objs.size) (.bool cm) a' b' (i+1) (j+1) xs ys h'->OS h' s.heap.objs.size x y->Off z q u v s.heap h'->T (.ref s.heap.objs.size) {s with heap:=h'}):
  w_ (u_ P w) A (Builtin.«zip.__next__» ⟨[.ref z],[]⟩) (λf s'=>∃c,f=.done (.ret c)/\T c s') E s:=by
 have B:∀{n:Nat} {c:g_} {G:Mq} {s':j_} {r k a b:g_} {i j:Nat},Ys z p q u v l m r k a b i j xs ys s'.heap->(#[r,k,.bool cm,.ref p,.ref q])[n]?=a_ c->G c s'->w_ (u_ P w) A _ G E s':=
  λZ e t=>JP Z.me rfl e t
 refine b_ (show w_ _ _ (JM (s_ z,[])) _ _ _ from fm (b_ (B Z rfl (b_ (B Z rfl (b_ (Kn Z.its rfl ?_)))))));refine b_ (EC Z (b_ (KO (b_ (B Z rfl (b_ (Bj D Z am rfl λg1 X e1 d=>?_)))))));refine b_ (b_ (b_ (Nf (b_ (lg d.one d.xl L λg2 f2 h=>fm ?_)))));have F:=d.atU D h.extBut f2;refine b_ (Kn F.own rfl (b_ (EB D F rfl λg3 W e3 Y=>b_ (N_ (fm (b_ (b_ (Nf (b_ (lg Y.two Y.yl K λg4 f4 g=>fm ?_))))))))));have C:=Y.atV D g.extBut f4;refine b_ (Kn C.own rfl (b_ (EB D C rfl λg5 R e5 U=>b_ (N_ (fm (fm (b_ (Kn U.own rfl (b_ (Qb ?_))))))))));have S:=e5.trans (g.1.trans (e3.trans (h.1.trans e1)));have lt:=r_ U.me;refine b_ (b_ (Bj D U.new am rfl λg6 J e6 Q=>Bj D Q am rfl λO H e7 o=>(fm (Exists.intro _ ⟨rfl,?_⟩))));have I:=H _ _ (J3 lt) (J _ _ (J3 lt) (i_ _ rfl));rw[S]at I o ⊢;exact N O _ _ o I ((Off.byZ X).then ((Off.byU h.extBut).then ((Off.byQ W).then ((Off.byV g.extBut).then ((Off.byQ R).then (Off.new.then ((Off.byZ J).then (Off.byZ H))))))))
theorem ys_ends{T:QX->j_->Prop}(h:A.handled=d_)(D:L9 z p q u v l m)(Z:Ys z p q u v l m .none (.bool cm) a b i j xs ys s.heap)(B:xs[i]?=d_\/ys[j]?=d_)(k:∀h' c,Off z q u v s.heap h'->(∃o,h'.get? c=a_ o/\o.cls=.type "StopIteration")->E (.ref c) {s with heap:=h'}):
  w_ (u_ P w) A (Builtin.«zip.__next__» ⟨[.ref z],[]⟩) T E s:=by
 refine b_ (show w_ _ _ _ _ _ _ from fm (b_ (JP Z.me rfl rfl (b_ (JP Z.me rfl rfl (b_ (Kn Z.its rfl ?_)))))));refine b_ (EC Z (b_ (KO (b_ (JP Z.me rfl rfl (b_ (Bj D Z am rfl λH y e1 I=>?_)))))));refine b_ ?_;cases g:xs[i]? with
 |none=>exact b_ (b_ (Nf (b_ (qQ h I.one I.xl g λg2 c S d=>(Ey (S _ _ D.i1z.symm I.me) d λn f Y=>k n c ((Off.byZ y).then ((Off.byU S).then (Off.byZ f))) Y)))))|some x=>refine b_ (b_ (Nf (b_ (lg I.one I.xl g λg2 f2 S=>fm ?_))));have r:=I.atU D S.extBut f2;refine b_ (Kn r.own rfl (b_ (EB D r rfl λn f e3 e=>b_ (N_ (fm (b_ (b_ (Nf (b_ (qQ h e.two e.yl (B.resolve_left a7) λG c t d=>?_))))))))));exact Ey (t _ _ D.i2z.symm e.me) d λC F U=>k C c ((Off.byZ y).then ((Off.byU S.extBut).then ((Off.byQ f).then ((Off.byV t).then (Off.byZ F))))) U
def yn_gives{T:Option g_->j_->Prop}(D:L9 z p q u v l m)(Z:Ys z p q u v l m .none (.bool cm) a b i j xs ys s.heap)(I:xs[i]?=a_ x)(B:ys[j]?=a_ y)(S:∀h' a' b',Ys z p q u v l m (LP s.heap.objs.size) (.bool cm) a' b' (i+1) (j+1) xs ys h'->OS h' s.heap.objs.size x y->Off z q u v s.heap h'->T (a_ (.ref s.heap.objs.size)) {s with heap:=h'}):
  w_ (u_ P w) A (NL (.ref z)) T E s:=by
 have ty:s.TypeIs (.ref z) "zip":=⟨_,Z.me,rfl⟩
 refine b_ (K3 (IT ty LU ?_));refine Ip LU ty PD (Jo (ys_gives (P:=P) (w:=w) (A:=A.in1) (E:=λ_ _=>False) (T:=λc s'=>T (a_ c) s') D Z I B S) (λf s' h=>?_) λ_ _ h=>h.elim) (Pk _);obtain⟨c,e,h⟩:=h;exact⟨c,e,fm h⟩
def yn_ends{T:Option g_->j_->Prop}(U:A.handled=d_)(D:L9 z p q u v l m)(Z:Ys z p q u v l m .none (.bool cm) a b i j xs ys s.heap)(B:xs[i]?=d_\/ys[j]?=d_)(Y:∀h',Off z q u v s.heap h'->T d_ {s with heap:=h'}):w_ (u_ P w) A (NL (.ref z)) T E s:=by
 have ty:s.TypeIs (.ref z) "zip":=⟨_,Z.me,rfl⟩
 refine b_ (K3 (IT ty LU ?_));refine Ip LU ty PD (ys_ends U D Z B λh' c I S=>?_) (Pk _);obtain⟨o,e,t⟩:=S;exact(b_ (Kl ⟨o,e,t⟩ Ob (fm (Y h' I))))
end
noncomputable def ItzT(K:Pn)(a b:h_):It:=
 ⟨λi H=>∃xs ys x y,SqT K H a xs/\SqT K H b ys/\xs[i]?=a_ x/\ys[i]?=a_ y,λi H v H'=>∃T x y,H T=d_/\v=.ref T/\H'=upd H T (.tup [x,y])/\(∀xs,SqT K H a xs->xs[i]?=a_ x)/\∀ys,SqT K H b ys->ys[i]?=a_ y,λi H=>∃xs ys,SqT K H a xs/\SqT K H b ys/\(xs.length<=i\/ys.length<=i)⟩
theorem EK{p q u v m:h_}(D:L9 z p q u v l m):
  Turn P w K (.Tuple elts k pos) (ItzT K l m) [z,p,q,u,v] z (λi h=>IsZip h z p q .none/\OS h p (.ref u) (.ref v)/\(∃a b,OS h q a b)/\h.IsTupleIter u l i/\h.IsTupleIter v m i) where
 mem:=JJ
 obj:=λi h ⟨r,its,⟨_,_,own⟩,⟨o1,e1,_,d1⟩,⟨o2,e2,_,d2⟩⟩ c hc=>by grind
 keep:=λi h h' ⟨r,its,⟨a,b,own⟩,Y,U⟩ G=>⟨G z ad _ r,G p ad _ its,⟨a,b,G q ad _ own⟩,Y.at λo x=>G u ad o x,U.at λo x=>G v ad o x⟩
 item:=by
  rintro X rfl rfl rfl f i B1 s σ H E I N ⟨r,its,⟨a,b,own⟩,Y,U⟩ ⟨xs,ys,x,y,L,J,gx,W⟩;obtain⟨vs,R,T,_⟩:=I.tuple L;obtain⟨ws,Q,py,_⟩:=I.tuple J;obtain⟨c,hc,rc⟩:=R.get gx;obtain⟨d,hd,rd⟩:=Q.get W;refine yn_gives D ⟨r,its,own,Y,U,T,py⟩ (x:=c) (y:=d) a7 a7 λh' a' b' Z A n=>⟨_,rfl,wpAny_letOwnedTupleGo_zip Z.me λg C B=>?_⟩
  have F:∀e∈[z,p,q,u,v],e<s.z:=by
   simp only[x_,JN,or_false];rintro e (rfl|rfl|rfl|rfl|rfl)
   .exact r_ r
   .exact r_ its
   .exact r_ own
   .exact Y.elim λ_ t=>r_ t.1
   .exact U.elim λ_ t=>r_ t.1
  have O:=Z.atZ D B.extBut C;have nz:=J3 (F z ad);have I':B3 X B1 σ (upd H s.z (.tup [x,y])) {s with heap:=g,toks:=s.toks}:=I.qe N (λe o S t=>by simp at S;exact B.extBut e o S.1 (n e o S.1 S.2.2.1 S.2.2.2.1 S.2.2.2.2 t)) (f_ _) ⟨ad,[c,d],.cons rc (.cons rd .nil),⟨_,B.extBut _ _ nz A,rfl,0,rfl⟩⟩
  refine⟨.ref s.z,_,I',rfl,⟨_,x,y,I.hok.fresh (f_ _),rfl,rfl,λ_ t=>by rw[I.mI t L];exact gx,λ_ t=>by rw[I.mI t J];exact W⟩,⟨C,O.its,⟨_,_,O.own⟩,O.one,O.two⟩,λe S=>?_⟩
  exact(av (G_ (F e S)))▸(N e S).1
 done:=by
  rintro X rfl rfl rfl f i B1 s σ H E I N ⟨r,its,⟨a,b,own⟩,Y,U⟩ ⟨xs,ys,L,J,j⟩;obtain⟨vs,R,T,_⟩:=I.tuple L;obtain⟨ws,Q,py,_⟩:=I.tuple J;have nx:=R.length;have ny:=Q.length;refine yn_ends (I.ok.hd f) D ⟨r,its,own,Y,U,T,py⟩ (j.imp (λt=>Kt a7) λt=>Kt a7) λh' n=>⟨rfl,I.zU N λe o S t=>?_⟩
  simp at S;exact n e o S.1 S.2.2.1 S.2.2.2.1 S.2.2.2.2 t
 self:=λ_ _ _ _ _ st h=>Sz st.1 h
noncomputable abbrev tit(l:h_):NY:={cls:=.type "tuple_iterator",data:=.fields #[.ref l,.int 0 0]}
abbrev zA(h:IF)(l:h_):IF:=h.push (tit l)
abbrev zB(h:IF)(l m:h_):IF:=(zA h l).push (tit m)
abbrev zC(h:IF)(l m:h_):IF:=(zB h l m).push {cls:=.type "tuple",data:=.seq #[.ref h.objs.size,.ref (zA h l).objs.size]}
abbrev zD(h:IF)(l m:h_):IF:=(zC h l m).push {cls:=.type "tuple",data:=.seq #[.none,.none]}
abbrev zE(h:IF)(l m:h_):IF:=(zD h l m).push {cls:=.type "zip",data:=.fields #[.none,.bool cm,.bool cm,.ref (zB h l m).objs.size,.ref (zC h l m).objs.size]}
def zip_newT(l m:h_)(xs ys:Array g_):Meets (Builtin.«zip.__new__» ⟨[.type "zip",.ref l,.ref m],[]⟩) (λ_ R s=>s.heap.IsTuple l xs/\s.heap.IsTuple m ys/\R (.ok (.ret (.ref (zD s.heap l m).objs.size))) {s with heap:=zE s.heap l m}):=
 .of_wp λprog w A R s h=>by
  obtain⟨S,g,d,tk,B⟩:=s;obtain⟨Y,U,h⟩:=h;have I:=sub_zip;have b:P8 (P7 ⟨S,g,d,tk,B⟩) l xs:=Y;have a:P8 (P7 ⟨S.push {cls:=.type "tuple_iterator",data:=.fields #[.ref l,.int 0 0]},g,d,tk,B⟩) m ys:=Heap.IsTuple.push U _
  wp_walk using Lm b,Lm a
  exact⟨_,rfl,h⟩
section
variable{s:j_}
def HF{m:h_}{xs ys:Array g_}{Q:Mq}(f:s.heap.IsTuple l xs)(e:s.heap.IsTuple m ys)(k:∀h',IsZip h' (s.heap.objs.size+4) (s.heap.objs.size+2) (s.heap.objs.size+3) .none->OS h' (s.heap.objs.size+2) (.ref s.heap.objs.size) (.ref (s.heap.objs.size+1)) ->
   OS h' (s.heap.objs.size+3) .none .none->h'.IsTupleIter s.heap.objs.size l 0->h'.IsTupleIter (s.heap.objs.size+1) m 0->(∀c o,s.heap.get? c=a_ o->h'.get? c=a_ o)->Q (.ref (s.heap.objs.size+4)) {s with heap:=h'}):
  w_ (u_ prog w) A (Ms (.type "zip") [.ref l,.ref m]) Q E s:=by
 refine callType_new PySem.F.called_zip am (PySem.F.typeCall_zip_2 _ _) (PySem.F.newCall_zip_2 _ _) (λB=>PySem.F.args_object_init_3 B _ _) PySem.F.entry_zip_new (zip_newT l m xs ys) ⟨f,e,?_⟩;have U:(zA s.heap l).objs.size=s.z+1:=JF ..;have n2:(zB s.heap l m).objs.size=s.z+2:=by rw[JF,U]
 have S:(zC s.heap l m).objs.size=s.z+3:=by rw[JF,n2]
 have d:(zD s.heap l m).objs.size=s.z+4:=by rw[JF,S]
 have I:(zE s.heap l m).get? (zD s.heap l m).objs.size=a_ _:=i_ _ rfl;have Y:(zE s.heap l m).get? (zC s.heap l m).objs.size=a_ _:=c_ _ (i_ _ rfl);have a:(zE s.heap l m).get? (zB s.heap l m).objs.size=a_ _:=c_ _ (c_ _ (i_ _ rfl));have b:(zE s.heap l m).get? (zA s.heap l).objs.size=a_ _:=c_ _ (c_ _ (c_ _ (i_ _ rfl)));rw[n2,S,d]at I;rw[U,n2]at a;rw[S]at Y;rw[U]at b;exact d▸⟨⟨_,I,rfl⟩,k _ I a Y ⟨_,(c_ _ (c_ _ (c_ _ (c_ _ (i_ _ rfl))))),rfl,rfl⟩ ⟨_,b,rfl,rfl⟩ λc o t=>c_ _ (c_ _ (c_ _ (c_ _ (c_ _ t))))⟩
end
theorem GA{ys:bm}{es:be}(t:SqT K F a xs)(z:ay K F ds xs)(Y:SqT K F b ys)(U:ay K F es ys):mC K F (ItzT K a b) (wR ds es) where
 go:=λi F' H' s1 s2 hi=>by rw[uS]at hi;exact⟨xs,ys,xs[i]'(by rw[z.length];lia),ys[i]'(by rw[U.length];lia),s2.tup (s1.tup t),s2.tup (s1.tup Y),Ij _,Ij _⟩
 yl:=λi F' H' x H2 d s1 s2 S g=>by
  obtain⟨T,f,e,c,ex,j,h1,h⟩:=g;subst ex j;rw[Bi]at S;cases I:ds[i]? with
  |none=>simp_all|some m=>
   cases B:es[i]? with
   |none=>simp_all|some l=>rw[I,B]at S;simp at S;subst S;obtain⟨v,e1,q⟩:=z.get I;obtain⟨k,e2,q2⟩:=U.get B;have e3:=h1 xs (s2.tup (s1.tup t));have e4:=h ys (s2.tup (s1.tup Y));rw[e1]at e3;rw[e2]at e4;cases e3;cases e4;exact⟨upd F' T _,B2.lay s2 c,T,_,rfl,SqT.of aq,⟨f,[e],rfl,(q.mono s1).mono (aM.upd (s2.free c)),e,[],rfl,(q2.mono s1).mono (aM.upd (s2.free c)),rfl⟩⟩
 st:=λF' H' s1 s2=>⟨xs,ys,s2.tup (s1.tup t),s2.tup (s1.tup Y),by rw[z.length,U.length,uS];lia⟩
noncomputable def rh:A'->M be
 |.tup ds=>.ok ds|_=>.error .stuck
def yC(fa fb:b6):ce:=λρ=>(fa ρ).bind λa=>(fb ρ).bind λb=>(rh a).bind λds=>(rh b).bind λes=>.ok (wR ds es)
@[simp]def e_zipT{fa fb:b6}{ρ:ab}:yC fa fb ρ=(fa ρ).bind λa=>(fb ρ).bind λb=>(rh a).bind λds=>(rh b).bind λes=>.ok (wR ds es):=id rfl
@[simp]def e_itemsTD(ds:be):rh (.tup ds)=.ok ds:=id rfl
section
variable{W:bY}{a b:Jj}{p:Pb}
def iZipT(K:Pn)(ta tb:TE):TI:=λσ H R=>ta σ H λx H1=>tb σ H1 λy H2=>∃c d,x=.ref c/\y=.ref d/\(∃xs,SqT K H2 c xs)/\(∃ys,SqT K H2 d ys)/\R (ItzT K c d) H2
theorem pi_zipT{ta tb:TE}(C:Gl X "zip")(A:X.mg "zip"=d_)(E:PE X a ta)(D:PE X b tb)(w:k_ [a,b] X.env=[(cm,Il a X.env),(cm,Il b X.env)])(B:k_ [b] X.env=[(cm,Il b X.env)]):
  PI X (.Tuple elts k q) (.Call (.Name "zip" p) [a,b] [] pos) (iZipT X.K ta tb):=by
 intro B1 s σ H R I h;have f:=(cx E (cx D eX B) a7) pos B1 s σ H (λvs H1=>match vs with|[x,y]=>∃c d,x=.ref c/\y=.ref d/\(∃xs,SqT X.K H1 c xs)/\(∃ys,SqT X.K H1 d ys)/\R (ItzT X.K c d) H1|_=>False) I h;refine RF (lW I C A boot_zip (Jb (B' f λus s1 z=>?_) (by rw[w,B]) (by rw[B];rfl)));obtain⟨vs,H1,g,o,q1⟩:=z;rcases vs with _|⟨x,_|⟨y,_|⟨_,_⟩⟩⟩
 .exact Jt q1
 .exact Jt q1
 rotate_left
 .exact Jt q1
 .obtain⟨c,d,J,G,⟨xs,v⟩,⟨ys,u⟩,F⟩:=q1;subst J G;obtain⟨_,_,rfl,rfl,rfl⟩:=o.two;obtain⟨vs,N,r,_⟩:=g.tuple v;obtain⟨K,L,py,_⟩:=g.tuple u;have U:=r;have S:=py;refine HF U S λh' m its own j i l=>Sz m ?_;have Y:∀e∈[s1.z+4,s1.z+2,s1.z+3,s1.z,s1.z+1],s1.z<=e:=by
   simp only[x_,JN,or_false];rintro e (rfl|rfl|rfl|rfl|rfl)<;>lia
  exact⟨_,_,_,_,H1,rfl,g.kept l,EK (zipApart_new (U.elim λ_ t=>r_ t.1) (S.elim λ_ t=>r_ t.1)),⟨m,its,⟨_,_,own⟩,j,i⟩,λe n=>g.Ew (Y e n) (g.hok.fresh (Y e n)),F⟩
theorem AM(n:X.mg "zip"=d_)(u:DE K W cm X a fa)(t:DE K W cm X b fb)(o: ~~~(Gl X "zip"))(m: ~~~(k_ [a,b] X.env=[(cm,Il a X.env),(cm,Il b X.env)]))(S: ~~~(k_ [b] X.env=[(cm,Il b X.env)]))(v: ~~~(X.K=K)):
  DI K W X (.Tuple elts k q) (.Call (.Name "zip" p) [a,b] [] pos) (yC fa fb):=by
 subst v;exact(pi_zipT o n u t m S).imp λ_ _ _=>by
   intro h;obtain⟨F,ρ,r,s,p⟩:=h;refine aD r s (λe f=>?_) λw I z F1 H1 s1 q1=>?_
   .simp_all[yC]
   .refine aD (r.mono s1.ff) s1.fh (λe f=>?_) λg U y x H2 s2 q2=>?_
    .simp only[yC,I,f,ai]at p;exact W.mono p s1
    .rw[yC,I,U]at p;cases w with
     |tup ds=>
      cases g with
      |tup es=>obtain⟨c,xs,e1,l,j⟩:=q1;obtain⟨d,ys,e2,Y,i⟩:=q2;have B:=s2.ff.tup l;exact⟨c,d,e1,e2,⟨xs,s2.fh.tup B⟩,⟨ys,s2.fh.tup Y⟩,p _ x H2 (s1.trans s2) (GA B (j.mono s2.ff) Y i)⟩
      |_=>exact(W.ns p).elim
     |_=>cases g<;>exact(W.ns p).elim
end
section
variable{κ:Type}[KZ κ]
def CV.yo{o:Option V}{u:Option g_}(r:CV o u):o.isSome=u.isSome:=by
 cases o with
 |none=>cases u with
  |none=>rfl|some _=>exact(show False from r).elim
 |some _=>cases u with
  |none=>exact(show False from r).elim|some _=>rfl
theorem CV.getD{o:Option V}{u:Option g_}{d:V}{B:g_}(r:CV o u)(I:B5 d B):B5 (o.getD d) (u.getD B):=by
 cases o with
 |none=>cases u with
  |none=>exact I|some _=>exact(show False from r).elim
 |some _=>cases u with
  |none=>exact(show False from r).elim|some _=>exact r
end
section
variable{s:j_}
def B3.big(I:B3 X B1 σ H s):IX<s.heap.objs.size:=by exact Qo am ((I.mod.glob.keeps I.bk).lt)
end
def ET:List (TE×TE)->St->Hp->(List (V×V)->Hp->Prop)->Prop
 |[],_,H,Q=>Q [] H|(tk,tv)::r,σ,H,Q=>tk σ H λx H1=>tv σ H1 λy H2=>ET r σ H2 λps B=>Q ((x,y)::ps) B
abbrev VV:List (V×V)->List (g_×g_)->Prop:=Jg λp q=>B5 p.1 q.1/\B5 p.2 q.2
def PPs(X:Cx)(pos:Pb)(I:List (Option Jj))(B:List Jj)(S:List (TE×TE)):Prop:=
 ∀(B1:Vp) (s:j_) (σ:St) (H:Hp) (Q:List (V×V)->Hp->Prop),B3 X B1 σ H s->ET S σ H Q ->
  w_ (u_ X.prog X.w) X.A (evalPairs (pairTrees I B X.env pos)) (λvs s'=>∃ps H',B3 X B1 σ H' s'/\VV ps vs/\Q ps H') X.xe s
def pps_nil:PPs X pos [] [] []:=λB1 s σ H Q I h=>pairTrees_nil_walk ⟨[],H,I,.nil,h⟩
def pps_cons{k v:Jj}{ks:List (Option Jj)}{vs:List Jj}{tk:TE}{B:List (TE×TE)}(d:PE X k tk)(b:PE X v tv)(c:PPs X pos ks vs B):
  PPs X pos (a_ k::ks) (v::vs) ((tk,tv)::B):=λB1 s σ H Q I h=>
 pairTrees_cons_walk (B' (d B1 s σ H _ I h) λu s1 ⟨x,H1,g,Y,q1⟩=>B' (b B1 s1 σ H1 _ g q1) λl s2 ⟨y,H2,f,U,q2⟩=>B' (c B1 s2 σ H2 _ f q2) λj m ⟨ps,i,e,S,a⟩=>⟨(x,y)::ps,i,e,.cons ⟨Y,U⟩ S,a⟩)
structure M2(X:Cx)(o:Jj)(m:IL)(apos:Pb)(e f:Jj)(cpos:Pb):Prop where
 base:Jv o m X.env (Il o X.env)=Il o X.env
 few:((Jy cpos (k_ [e,f] X.env)).all (λx=> !x.1)&&(LR cpos (KG [] X.env)).all (λx=>x.1.isSome)
  &&m_ (([e,f]:List Jj).length+([]:List LA).length+(if ([]:List LA).isEmpty then 0 else 1)<30))=e_
 line:(apos.endLine==cpos.line)=e_
 trees:Jy cpos (k_ [e,f] X.env)=[(cm,Il e X.env),(cm,Il f X.env)]
section
open PySem.W
end
def tY(O:bi)(f:b6):b0:=λρ=>(f (erase O ρ)).bind λ_=>.ok (.nx ρ)
section
open PySem.W
end
structure Yd(P:IQ)(w:JX)(K:Pn)(mg:Ld)(base:IF)(CX:CXT)(k:Nat)(x:IL)(st:Jl)(ps:List IL)(sp:Sp)(f:h_)(fd:Kw):Prop where
 d:Def K mg x st ps f fd
 o:jN P w K mg base CX k f fd ps sp
section
open PySem.W
end
section
open PySem.SetTable
end
section
open PySem
def key_is{v:g_}{k:Int}(h:(Nb prog w).is k v=e_):∃t,v=.int k t:=Value.isInt_shape h
end
section
open PySem.W
end
noncomputable abbrev md(P:IQ)(w:JX):Nw P w a9:=tupleKind (Nb P w)
theorem xa{P:IQ}{w:JX}:∀{k:a9} {us:bv},B6 (k.map V.int) us->ItemsAre (Nb P w) k us
 |[],_,.nil=>.nil|i::k,_,.cons r t=>by
  obtain⟨t',rfl⟩:=(show ∃t,_=L3 i t from r)
  exact .cons (by simp[Nb,Ss]) (xa t)
def tO.at{xs:bA}(z:tO h a xs ep)(e:∀o,h.get? a=a_ o->h'.get? a=a_ o):tO h' a xs ep:=
 let ⟨vs,r,S,I,B,o,es,h1,b,Y,U⟩:=z;⟨vs,r,S,I,B,o,es,e o h1,b,Y,U⟩
def rO{xs:bA}(z:tO h a xs ep):gQ H h a (iW a xs ep):=
 ⟨z,let ⟨_,_,_,_,_,o,_,e,_,_,_⟩:=z;⟨o,e⟩,λ_ _ z e=>z.at e⟩
def kh(K:Pn)(H:Hp)(xs:bA):Prop:=∀x∈xs,SqT K H x.2.1 (x.1.map V.int)
def kh.mono{xs:bA}(z:kh K H xs)(s:aM H H'):kh K H' xs:=λx B=>s.tup (z x B)
theorem bp.key{K:Pn}{F:Hp}:∀{ks:List (a9×A')} {xs:bA},bp K F ks xs->kh K F xs
 |[],_,h,x,B=>by rw[show _=[]from h]at B;grind|(k,d)::ks,_,⟨b,v,r,e,t,q,z⟩,x,B=>by
  subst e;rcases x_.mp B with rfl|B
  .exact t
  .exact bp.key z x B
theorem bp.length{K:Pn}{F:Hp}:∀{ks:List (a9×A')} {xs:bA},bp K F ks xs->xs.length=ks.length
 |[],_,h=>by rw[show _=[]from h];rfl|(k,d)::ks,_,⟨b,v,r,e,t,q,z⟩=>by rw[e,F_,F_,bp.length z]
noncomputable def gZ(ks:List (a9×A'))(k:a9):Option A':=(ks.find? λp=>m_ (p.1=k)).map (·.2)
noncomputable def jx(xs:bA)(k:a9):Option V:=(xs.find? λp=>m_ (p.1=k)).map (·.2.2)
def jq(ks:List (a9×A'))(k:a9)(d:A'):List (a9×A'):=if (gZ ks k).isSome=e_ then ks.map (λp=>if p.1=k then(p.1,d)else p)else ks++[(k,d)]
def zL(xs:bA)(k:a9)(b:h_)(v:V):bA:=if (jx xs k).isSome=e_ then xs.map (λx=>if x.1=k then(x.1,x.2.1,v)else x)else xs++[(k,b,v)]
theorem mv(xs:bA)(k:a9)(b:h_)(v:V):(zL xs k b v).length<=xs.length+1:=by
 unfold zL;split
 .rw[l_];lia
 .exact II▸f_ _
theorem mM{k:a9}:∀{xs:bA} {vs:List (a9×h_×g_)},Jg dK xs vs->CV (jx xs k) ((Qf vs k).map (·.2))
 |_,_,.nil=>LO|x::xs,q::vs,.cons h t=>by
  obtain⟨h1,S,B⟩:=h;by_cases e:x.1=k
  .simp[jx,Qf,JK,e,(h1.symm.trans e),];exact B
  .have I:¬q.1=k:=λz=>e (h1.trans z);have:=mM (k:=k) t;simpa only[jx,Qf,JK,e,I,decide_false] using this
theorem bp.at{K:Pn}{F:Hp}{k:a9}:∀{ks:List (a9×A')} {xs:bA},bp K F ks xs->(gZ ks k=d_/\jx xs k=d_)\/∃d v,gZ ks k=a_ d/\jx xs k=a_ v/\bh K F d v
 |[],_,h=>by rw[show _=[]from h];exact .inl ⟨rfl,rfl⟩|(k',d)::ks,_,⟨b,v,r,e,t,q,z⟩=>by
  subst e;by_cases e:k'=k
  .exact .inr ⟨d,v,by simp[gZ,e],by simp[jx,e],q⟩
  .have:=bp.at (k:=k) z;simpa only[gZ,jx,JK,e,decide_false] using this
theorem bp.isSome{K:Pn}{F:Hp}{k:a9}{ks:List (a9×A')}{xs:bA}(z:bp K F ks xs):(jx xs k).isSome=(gZ ks k).isSome:=by rcases z.at with⟨e1,e2⟩|⟨d,v,e1,e2,_⟩<;>rw[e1,e2]<;>rfl
theorem bp.repl{K:Pn}{F:Hp}{k:a9}{d:A'}{v:V}(q:bh K F d v):∀{ks:List (a9×A')} {xs:bA},bp K F ks xs->bp K F (ks.map λp=>if p.1=k then(p.1,d)else p) (xs.map λx=>if x.1=k then(x.1,x.2.1,v)else x)
 |[],_,h=>by rw[show _=[]from h];rfl|(k',S)::ks,_,⟨b,B,r,e,t,I,z⟩=>by
  subst e;rw[v_,v_];by_cases e:k'=k
  .rw[p_ e,p_ e];exact⟨b,v,_,rfl,t,q,bp.repl q z⟩
  .rw[q_ e,q_ e];exact⟨b,B,_,rfl,t,I,bp.repl q z⟩
theorem bp.snoc{K:Pn}{F:Hp}{k:a9}{b:h_}{d:A'}{v:V}(t:SqT K F b (k.map V.int))(q:bh K F d v):∀{ks:List (a9×A')} {xs:bA},bp K F ks xs->bp K F (ks++[(k,d)]) (xs++[(k,b,v)])
 |[],_,h=>by rw[show _=[]from h];exact⟨b,v,[],rfl,t,q,rfl⟩|(k',S)::ks,_,⟨b',B,r,e,t',I,z⟩=>by subst e;exact⟨b',B,_,rfl,t',I,bp.snoc t q z⟩
def bp.put{k:a9}{xs:bA}(z:bp K F ks xs)(t:SqT K F b (k.map V.int))(q:bh K F d v):bp K F (jq ks k d) (zL xs k b v):=by
 unfold jq zL;rw[z.isSome];by_cases h:(gZ ks k).isSome=e_
 .rw[p_ h,p_ h];exact z.repl q
 .rw[q_ h,q_ h];exact z.snoc t q
theorem xA{k:a9}{v:V}{u:g_}(B:B5 v u):∀{xs:bA} {vs:List (a9×h_×g_)},Jg dK xs vs->Jg dK (xs.map λx=>if x.1=k then(x.1,x.2.1,v)else x) (vs.map (Sn k u))
 |_,_,.nil=>.nil|x::xs,q::vs,.cons h t=>by
  rw[v_];refine .cons ?_ (xA B t);obtain⟨h1,I,S⟩:=h;unfold Sn;by_cases e:x.1=k
  .rw[p_ e,p_ (h1.symm.trans e)];exact⟨h1,I,B⟩
  .rw[q_ e,q_ (λz=>e (h1.trans z))];exact⟨h1,I,S⟩
def jn{k:a9}(B:B5 v u){xs:bA}{vs:List (a9×h_×g_)}(r:Jg dK xs vs):Jg dK (zL xs k b v) (M_ vs k b u):=by
 unfold zL M_;simp[(mM r).yo,MG];by_cases h:(Qf vs k).isSome=e_
 .rw[p_ h,p_ h];exact xA B r
 .rw[q_ h,q_ h];exact Paired.snoc r ⟨rfl,rfl,B⟩
theorem BA:∀{xs:bA} {vs:List (a9×h_×g_)},Jg dK xs vs->∀q∈vs,∃x∈xs,x.1=q.1/\x.2.1=q.2.1
 |_,_,.nil,_,h=>nomatch h
 |x::xs,q::vs,.cons h t,y,B=>by
  rcases x_.mp B with rfl|B
  .exact⟨x,ad,h.1,h.2.1⟩
  .obtain⟨I,h1,S⟩:=BA t y B;exact⟨I,by simp[h1],S⟩
section
variable{s:j_}{xs:List cU}{k:List Int}
def ko(I:B3 X B1 σ H s)(h:SqT X.K H b (k.map V.int)):(md X.prog X.w).is s.heap k b:=by obtain⟨its,r,⟨o,h1,S,n,B⟩,_⟩:=I.tuple h;exact⟨o,its.toArray,n,h1,S,B,by simpa using xa r⟩
def Hq(I:B3 X B1 σ H s)(e:H a=a_ (iW a xs ep)):tO s.heap a xs ep:=(show tO s.heap a xs ep/\_ from I.hok a _ e).1
def nj(I:B3 X B1 σ H s)(e:H a=a_ (iW a xs ep))(z:kh X.K H xs):∃vs,Jg dK xs vs/\(a==IX)=cm/\xs.length<=n_/\s.heap.DictOfH (md X.prog X.w) a vs:=by
 obtain⟨vs,r,b,Y,U,o,es,h1,f,d,c⟩:=Hq I e;refine⟨vs,r,b,Y,o,es,ep,h1,f,d,c,λq S=>?_,U⟩
 obtain⟨x,B,e1,e2⟩:=BA r q S;rw[<- e1,<- e2];exact ko I (z x B)
def CG(I:B3 X B1 σ H s)(e:H a=a_ (iW a xs ep)):s.TypeIs (.ref a) "dict"/\(∀b,s_ a=.ref b->∃B,s.heap.get? b=a_ B/\B.dict=d_):=by obtain⟨_,_,_,_,_,o,_,h1,S,_⟩:=Hq I e;exact⟨⟨o,h1,S.1⟩,λc q=>by cases q;exact⟨o,h1,S.2.1⟩⟩
def nq{vs:List (a9×h_×g_)}(c:h.DictOfH (md P w) a vs)(r:Jg dK xs vs)(I:(a==IX)=cm)(B:xs.length<=n_):∃ep,tO h a xs ep:=by obtain⟨o,es,ep,h1,b,Y,U,_,S⟩:=c;exact⟨ep,vs,r,I,B,S,o,es,h1,b,Y,U⟩
end
def sPut(K:Pn)(td ty tv:TE):TS:=λD σ H=>tv σ H λv H1=>td σ H1 λx H2=>ty σ H2 λy B=>∃a b k xs ep,x=.ref a/\y=.ref b/\B a=a_ (iW a xs ep)/\kh K B xs/\SqT K B b (k.map V.int)/\xs.length<n_/\∀ep',D.nx σ (upd B a (iW a (zL xs k b v) ep'))
def tGet2(K:Pn)(td ty tx:TE):TE:=λσ H Q=>td σ H λx H1=>∃a xs ep,x=.ref a/\H1 a=a_ (iW a xs ep)/\ty σ H1 λy H2=>tx σ H2 λz B=>∃b k,y=.ref b/\B a=a_ (iW a xs ep)/\kh K B xs/\SqT K B b (k.map V.int)/\Q ((jx xs k).getD z) B
def rInK(K:Pn)(neg:Bool):R2:=λy x H Q=>∃a b k xs ep,x=.ref a/\y=.ref b/\H a=a_ (iW a xs ep)/\kh K H xs/\SqT K H b (k.map V.int)/\Q (.bl (if neg=e_ then !(jx xs k).isSome else(jx xs k).isSome)) H
def tNewK:TE:=λ_ H Q=>∀p,H p=d_->Q (.ref p) (upd H p (iW p [] 0))
section
variable{o i f:Jj}{ty:TE}
def yP(h:IF)(B:IX<h.objs.size):tO (h.push {cls:=.type "dict",data:=.dict #[]}) h.objs.size [] 0:=
 ⟨[],.nil,Lu.mpr (IV (G_ B)),IH _,Mx,_,#[],i_ _ rfl,⟨rfl,rfl,rfl⟩,rfl,rfl⟩
def pe_newK:PE X (.Dict [] [] pos) tNewK:=λB1 s σ H Q I h=>Pw ⟨.ref s.heap.objs.size,_,I.laid (λ_ _ q=>c_ _ q) (f_ _) (rO (yP s.heap I.big)),rfl,h _ (I.hok.fresh (f_ _))⟩
def B3.dic{s:j_}{xs ys:bA}{t':Nat}(I:B3 X B1 σ H s)(e:H a=a_ (iW a xs ep))(B:JY a s.heap h')(z:tO h' a ys ep'):B3 X B1 σ (upd H a (iW a ys ep')) {s with heap:=h',toks:=t'}:=
 I.write (by exact e▸LO) (.inl rfl) (λc q S w=>(B.2 c S).trans w) (let ⟨_,_,_,_,_,o,_,w,_,_,_⟩:=z;⟨o,w⟩) (rO z)
theorem FK(n:X.A.units+1<IU)(q:PE X o td)(hi:PE X i ty)(m:PE X value tv)(p:J4 value (a_ (.Subscript o i pos')) pos.line X.env=JM cm):PS X (.Assign [.Subscript o i pos'] value pos) (sPut X.K td ty tv):=by
 intro B1 s σ H D I h;refine NJ (B' (m B1 s σ H _ I h) λr s1 B=>?_) p;obtain⟨v,H1,G,f,q1⟩:=B;refine B' (q B1 s1 σ H1 _ G q1) λu s2 B=>?_;obtain⟨x,H2,F,e,q2⟩:=B;refine B' (hi B1 s2 σ H2 _ F q2) λj J B=>?_;obtain⟨y,L,Y,d,a,b,k,xs,ep,ex,C,ea,w,t,K,g⟩:=B;subst ex C;cases(show u=s_ a from e);cases(show j=s_ b from d);obtain⟨vs,c,A,hz,E⟩:=nj Y ea w;have l:vs.length<=n_:=by exact(Ke c)▸hz
 refine OO (KP n) (ko Y t) E λh' U S=>?_;obtain⟨ep',z⟩:=nq U (jn f c) A (by have:=mv xs k b v;lia);exact⟨σ,_,Y.dic ea S z,g ep'⟩
def FW(q:X.A.units+1<IU)(v:PE X o td)(C:PE X e ty)(A:PE X f tx)(m:M2 X o "get" apos e f cpos):PE X (.Call (.Attribute o "get" apos) [e,f] [] cpos) (tGet2 X.K td ty tx):=by
 intro B1 s σ H Q I h;refine Sk m.base m.few m.line KW PL PySem.F.type_dict_get (B' (v B1 s σ H _ I h) λu s1 r=>?_);obtain⟨x,H1,Y,j,a,xs,ep,ex,ea,q1⟩:=r;subst ex;cases(show u=s_ a from j);obtain⟨d,c⟩:=CG Y ea;refine⟨d,c,?_⟩
 rw[m.trees];refine Kr rfl (Nz (Mt (B' (C B1 s1 σ H1 _ Y q1) λp s2 ⟨y,H2,F,i,q2⟩=>Mt (B' (A B1 s2 σ H2 _ F q2) λfv J ⟨z,G,S,g,b,k,E,B,w,t,n⟩=>Od ?_))))
 subst E;cases(show p=s_ b from i);obtain⟨vs,l,D,hz,U⟩:=nj S B w;exact NO PL U.typeIs PySem.F.entry_dict_get (PySem.F.args_dict_get_3 _ _ _) (meetsH_dict_get_default _ a b D fv) ⟨KP q,k,vs,ko S t,U,_,G,S.tok _,(mM l).getD g,n⟩
def G1(Y:X.A.units+1<IU):OpR X (IP .NotIn) (rInK X.K e_):=by rintro B1 s σ H y x u v Q I B S ⟨a,b,k,xs,ep,rfl,rfl,ea,c,t,q⟩;cases(show v=s_ a from S);cases(show u=s_ b from B);obtain⟨vs,U,d,hz,f⟩:=nj I ea c;refine SN (KP Y) (ko I t) d f ?_;have e:=(mM (k:=k) U).yo;rw[MG]at e;exact⟨_,H,I.tok _,by rw[<- e];rfl,q⟩
end
def fV:A'->M a9
 |.tup ds=>bZ ds|_=>stk
noncomputable def ki(ρ:ab)(i:Nat):M (List (a9×A')):=match ρ[i]? with
 |some (a_ (.dic ks))=>.ok ks|_=>.error .stuck
def Fq(i:Nat)(fk fv:b6):b0:=λρ=>(fv ρ).bind λd=>(ki ρ i).bind λks=>(fk ρ).bind λB=>(fV B).bind λk=>if (lM d&&m_ (ks.length<n_))=e_ then .ok (.nx (ρ.set i (a_ (.dic (jq ks k d)))))else .error .stuck
noncomputable def GH:A'->Bool
 |.dic _=>e_|_=>cm
def getDD:A'->A'->cg
 |.dic ks,B,x=>(fV B).bind λk=>.ok ((gZ ks k).getD x)|_,_,_=>stk
def yD(fd fk fx:b6):b6:=λρ=>(fd ρ).bind λd=>if GH d=e_ then(fk ρ).bind λk=>(fx ρ).bind λx=>getDD d k x else stk
def qP:A'->cg
 |B,.dic ks=>(fV B).bind λk=>.ok (.bl (!(gZ ks k).isSome))|_,_=>stk
def dq{e:Err}(h:fV d=.error e):e=.stuck:=by
 cases d with
 |tup ds=>exact gk h|_=>cases h;rfl
theorem fF{k:a9}(h:fV d=.ok k)(q:bh K F d v):∃b,v=.ref b/\SqT K F b (k.map V.int):=by
 cases d with
 |tup ds=>
  obtain⟨b,xs,e,t,z⟩:=q;have:=cW z h
  simp_all
 |_=>cases h
section
variable{W:bY}{D:Ends}{fd:b6}{Q:VK}
def jE(h:ki ρ i=.ok ks):ρ[i]?=a_ (a_ (.dic ks)):=by
 unfold ki at h;split at h
 .cases h;assumption
 .cases h
def rP{e:Err}(h:ki ρ i=.error e):e=.stuck:=by
 unfold ki at h;split at h
 .cases h
 .cases h;rfl
def rs_putD(hi:i∈O)(t:tS K W ro F0 H0 OL O O (Fq i fk fv) D σ H):sPut K (oY i) (tD K W cm fk) (tD K W cm fv) D σ H:=by
 obtain⟨FB,F,ρ,r,p⟩:=t;refine aD r.jQ r.fg (λe c=>p.i7 (r.freeze ad).st (by unfold Fq;rw[c];rfl)) λd m v F1 H1 s1 q=>?_;rw[Fq,m]at p;cases S:ki ρ i with
 |error e=>have:=rP S;subst this;exact p.stuck (by rw[S];rfl)|ok ks=>
  rw[S]at p;have I:=r.gw s1;obtain⟨s,e2,a,xs,rfl,⟨ep,n⟩,_,_,z⟩:=I.ow i _ (jE S) hi;refine⟨.ref a,e2,(aD I.jQ I.fg (λe c=>p.i7 (I.freeze ad).st (by rw[c];rfl)) λh l w u H2 s2 q2=>?_)⟩
  rw[l]at p;have p:eV K W ro F0 H0 FB OL O D ((fV h).bind λk=>if (lM d&&m_ _)=e_ then .ok _ else .error .stuck):=p;cases B:fV h with
  |error e=>have:=dq B;subst this;exact p.stuck (by rw[B];rfl)|ok k=>
   rw[B]at p;have p:eV K W ro F0 H0 FB OL O D (if (lM d&&m_ _)=e_ then .ok _ else .error .stuck):=p;by_cases U:(lM d&&m_ (ks.length<n_))=e_
   .rw[p_ U]at p;simp at U;obtain⟨b,rfl,t⟩:=fF B q2;have Y:=I.gw s2;have j:=bh.flat (r.qR s1) U.1 q;have f:=z.mono (I.dT s2);have g:=I.qR s2 b _ t;exact⟨a,b,k,xs,ep,rfl,rfl,s2.hh _ _ n,f.key.mono Y.st.fh,Y.st.fh.tup g,by exact z.length▸U.2,λep'=>p σ _ _ (Y.wU hi (jE S) rfl e2 λf0 o=>⟨a,_,rfl,⟨ep',aq⟩,f0,o,f.put g (j.mono (I.dT s2))⟩)⟩
   .rw[q_ U]at p;exact p.stuck rfl
theorem rd_getD(h:tD K W cm (yD fd fk fx) σ H Q):tGet2 K (tD K W cm fd) (tD K W cm fk) (tD K W cm fx) σ H Q:=by
 obtain⟨F,ρ,r,s,p⟩:=h;refine aD r s (λe U=>p.err (by simp_all[yD])) λd m x F1 H1 s1 q1=>?_;simp only[yD,m,ai]at p;cases d with
 |dic ks=>
  obtain⟨a,xs,e,⟨ep,g⟩,z⟩:=q1;refine⟨a,xs,ep,e,s1.fh _ _ g,(aD (r.mono s1.ff) s1.fh (λe U=>(p.step s1).err (by rw[U];rfl)) λf l y u H2 s2 q2=>?_)⟩
  rw[l]at p;have B:=s1.trans s2;refine aD (r.mono B.ff) B.fh (λe U=>(p.step B).err (by rw[U];rfl)) λc n w i o S j=>?_;rw[n]at p;have p:aH K W cm F H ((fV f).bind λk=>.ok _) Q:=p;cases I:fV f with
  |error e=>rw[I]at p;have:=dq I;subst this;exact aH.stuck p|ok k=>
   rw[I]at p;obtain⟨b,rfl,t⟩:=fF I q2;have Y:=(z.mono s2.ff).mono S.ff;refine⟨b,k,rfl,S.hh _ _ (s2.hh _ _ (s1.fh _ _ g)),Y.key.mono S.fh,S.fh.tup (S.ff.tup t),p _ i o (B.trans S) ?_⟩
   show bh K i _ _;rcases Y.at with⟨e1,e2⟩|⟨d,v,e1,e2,q⟩
   .rw[e1,e2];exact j
   simp_all
 |_=>exact aH.stuck p
end
def rInK_D{W:bY}{neg:Bool}(f:∀I ks,g I (.dic ks)=(fV I).bind λk=>.ok (.bl (if neg=e_ then !(gZ ks k).isSome else(gZ ks k).isSome)))(Y:∀a b,GH b=cm->g a b=stk){x:V}{Q:VK}(h:rD2 K W cm g x y H Q):rInK K neg x y H Q:=by
 obtain⟨F,a,b,s1,U,S,p⟩:=h;cases b with
 |dic ks=>
  rw[f]at p;cases B:fV a with
  |error e=>rw[B]at p;have:=dq B;subst this;exact aH.stuck p|ok k=>
   rw[B]at p;obtain⟨c,rfl,t⟩:=fF B U;obtain⟨d,xs,rfl,⟨ep,i⟩,z⟩:=S;refine⟨d,c,k,xs,ep,rfl,rfl,s1 _ _ i,z.key.mono s1,s1.tup t,?_⟩
   exact z.isSome▸p _ F H (B2.refl s1) rfl
 |_=>rw[Y _ _ rfl]at p;exact aH.stuck p
section
variable{W:bY}{o:Jj}{fd:b6}{p:Pb}
def Hv:DE K W e_ X (.Dict [] [] pos) (fC (.dic [])):=pe_newK.imp λσ H Q h=>by obtain⟨F,ρ,r,s,q⟩:=h;exact λa B=>q _ F _ (B2.grow s B) ⟨a,[],rfl,⟨0,aq⟩,s.free B,B,rfl⟩
theorem AR(c:X.A.units+64<IU)(I:DE K W cm X o fd)(Y:DE K W cm X ek fk)(U:DE K W cm X ex fx)(b: ~~~(X.K=K))(a: ~~~(Jv o "get" X.env (Il o X.env)=Il o X.env))(hw: ~~~(((Jy cpos (k_ [ek,ex] X.env)).all (λx=> !x.1)&&(LR cpos (KG [] X.env)).all (λx=>x.1.isSome)&&m_ (([ek,ex]:List Jj).length+([]:List LA).length+(if ([]:List LA).isEmpty then 0 else 1)<30))=e_))(S: ~~~((apos.endLine==cpos.line)=e_))(B: ~~~(Jy cpos (k_ [ek,ex] X.env)=[(cm,Il ek X.env),(cm,Il ex X.env)])):DE K W cm X (.Call (.Attribute o "get" apos) [ek,ex] [] cpos) (yD fd fk fx):=by subst b;exact(FW ac I Y U ⟨a,hw,S,B⟩).imp λ_ _ _=>rd_getD
theorem o_notInK(I:X.A.units+64<IU)(B: ~~~(X.K=K)):Op2 K W cm X (IP .NotIn) qP:=by subst B;exact(G1 ac).imp λx y H Q h=>rInK_D (λ_ _=>rfl) (λa b e=>by cases b<;>first|rfl|cases e) h
theorem ds_putD(e:X.A.units+64<IU)(Y:DE K W cm X ek fk)(a:DE K W cm X ev fv)(U:(i∈O)⁻¹)(c: ~~~(X.N[i]?=a_ x))(I:autoParam (Vis X.env.scope x) Jq3)(b:((x==("__debug__":IL))=cm)⁻¹)(B:((x==("__classdict__":IL))=cm)⁻¹)(d: ~~~(X.K=K))(S: ~~~(J4 ev (a_ (.Subscript (.Name x p) ek pos')) pos.line X.env=JM cm)):DS K W ro X OL O O (.Assign [.Subscript (.Name x p) ek pos'] ev pos) (Fq i fk fv):=λF0 H0=>by subst d;exact PS.imp (FK ac (pv i c I b B) Y a S) λ_ _ _=>rs_putD U
end
def EU(K:Pn)(ty tv:TE):TE:=λσ H Q=>∀p,H p=d_->ET [(ty,tv)] σ (upd H p (iW p [] 0)) λps H2=>∃b k v,ps=[(.ref b,v)]/\H2 p=a_ (iW p [] 0)/\SqT K H2 b (k.map V.int)/\∀ep,Q (.ref p) (upd H2 p (iW p [(k,b,v)] ep))
section
variable{f:Jj}{ty:TE}
def BQ(j:X.A.units<IU)(m:PE X e ty)(i:PE X f tv):PE X (.Dict [a_ e] [f] pos) (EU X.K ty tv):=by
 intro B1 s σ H Q I q;have p:=I.laid (t':=s.toks) (λ_ _ q=>c_ _ q) (f_ _) (rO (yP s.heap I.big));refine wpAny_Dict_any rfl rfl ad ad (B' (pps_cons m i pps_nil B1 _ σ _ _ p (q _ (I.hok.fresh (f_ s.z)))) λu s2 l=>?_);obtain⟨ps,H2,Y,B,b,k,v,ep,e2,t,q2⟩:=l;subst ep;cases B with
 |@cons x y xs ys r rs=>cases rs;obtain⟨a,w⟩:=y;obtain⟨d,c⟩:=r;cases(show a=s_ b from d);obtain⟨vs,g,n,hz,o⟩:=nj Y e2 (λx h=>nomatch h);cases g;unfold storeAll;rw[RM];refine b_ (b_ (R0 j (ko Y t) o λh' U S=>fm ?_));show w_ _ _ (RN [] PUnit.unit _) _ _ _;obtain⟨ep',z⟩:=nq U (jn c .nil) n (B_ (mv _ _ _ _) (show 1<=n_ by decide));exact fm ⟨.ref s.z,_,Y.dic e2 S z,rfl,q2 ep'⟩
end
def mkD1(B d:A'):M A':=(fV B).bind λk=>.ok (.dic [(k,d)])
theorem de_disp1{W:bY}{f:Jj}(n:X.A.units+64<IU)(I:DE K W cm X e fa)(l:DE K W cm X f fb)(m: ~~~(X.K=K)):DE K W e_ X (.Dict [a_ e] [f] pos) (f2 mkD1 fa fb):=by
 subst m;exact(BQ ac I l).imp λ_ H _=>by
   intro h;obtain⟨F,ρ,r,s,p⟩:=h;intro a I;have S:B2 F H F (upd H a (iW a [] 0)):=B2.grow s I;refine aD r S.fh (λe U=>(p.step S).err (by unfold f2;rw[U];rfl)) λg i x F1 H1 s1 q1=>aD (r.mono s1.ff) s1.fh (λe U=>(p.step (S.trans s1)).err (by unfold f2;rw[i];rw[U];rfl)) λd j v Y H2 s2 q2=>?_;have e:f2 mkD1 fa fb ρ=(fV g).bind λk=>.ok (.dic [(k,d)]):=by unfold f2;rw[i,j];rfl
   rw[e]at p;cases B:fV g with
   |error e=>rw[B]at p;have:=dq B;subst this;exact aH.stuck p|ok k=>
    rw[B]at p;obtain⟨b,rfl,t⟩:=fF B q1;have f2:Y a=d_:=by
     cases e2:Y a with
     |none=>rfl|some o=>
      rcases s2.nw a o e2 with z|z
      .rcases s1.nw a o z with z|z
       .rw[s.free I]at z;cases z
       simp_all[aq]
      .rw[s1.hh _ _ aq]at z;cases z
    refine⟨b,k,v,rfl,(s2.hh _ _ (s1.hh _ _ aq)),s2.fh.tup (s2.ff.tup t),λep=>p _ Y _ ⟨s1.ff.trans s2.ff,λc o z=>?_,λc o z=>?_,λc o z=>((S.trans (s1.trans s2)).nw c o z)⟩ ⟨a,_,rfl,⟨ep,aq⟩,f2,I,b,v,[],rfl,s2.ff.tup t,q2,rfl⟩⟩
    .rw[av (aL z I)];exact s2.hh _ _ (s1.hh _ _ (by rw[av (aL z I)];exact z))
    .rw[av (aL z f2)];exact s2.fh _ _ z
def pZ(h:IF)(d:h_)(es:Array Jx)(ep:Nat):Prop:=∃o,h.get? d=a_ o/\o.ExactDict/\o.data=.dict es ep
def pZ.ty{s:j_}{d:h_}(z:pZ s.heap d es ep):s.TypeIs (.ref d) "dict":=let ⟨o,h,c,_⟩:=z;⟨o,h,c.1⟩
def pZ.at{d:h_}(z:pZ h d es ep)(e:∀o,h.get? d=a_ o->h'.get? d=a_ o):pZ h' d es ep:=let ⟨o,h,c⟩:=z;⟨o,e o h,c⟩
section
variable{s:j_}{d v q:h_}
def DF(d:h_)(es:Array Jx)(ep:Nat)(B:(d==IX)=cm):Sv prog w (Builtin.«dict.values» ⟨[.ref d],[]⟩) (λ_ R s=>pZ s.heap d es ep/\R (.ok (.ret (.ref s.heap.objs.size))) {s with heap:=s.heap.push {cls:=.type "dict_values",data:=.fields #[.ref d]}}):=
 .of_wp λA R s ⟨z,h⟩=>by refine b_ (b_ (KR z.ty ?_));refine fm ?_;rw[Kq,B];exact b_ (fm (b_ (IC (fm ⟨_,rfl,h⟩))))
def uc(d:h_)(es:Array Jx)(ep:Nat)(B:(d==IX)=cm):Sv prog w (Builtin.«dict.items» ⟨[.ref d],[]⟩) (λ_ R s=>pZ s.heap d es ep/\R (.ok (.ret (.ref s.heap.objs.size))) {s with heap:=s.heap.push {cls:=.type "dict_items",data:=.fields #[.ref d]}}):=
 .of_wp λA R s ⟨z,h⟩=>by refine b_ (b_ (KR z.ty ?_));refine fm ?_;rw[Kq,B];exact b_ (fm (b_ (IC (fm ⟨_,rfl,h⟩))))
theorem DU{Q:Mq}(B:s.heap.IsValuesView v d)(z:pZ s.heap d es ep)(k:Q (.ref s.heap.objs.size) {s with heap:=s.heap.push {cls:=.type "dict_valueiterator",data:=.fields #[.ref d,.int 0 0,.int es.size 0,.int ep 0]}}):w_ (u_ prog w) A (Q5 (.ref v)) Q E s:=by obtain⟨ov,Y,a,U⟩:=id B;obtain⟨od,S,b,I⟩:=z;refine O5 B.typeIs Om (Ip Om B.typeIs PySem.F.entry_dict_values_iter (b_ (fm (b_ ?_))) (PySem.F.args_dict_values_iter_1 _));refine b_ (JP Y U rfl (fm (b_ (b_ (IB S I (b_ (J6 S I ?_)))))));simp only[show Nc "dict_valueiterator"=cm by decide,Mz,Pu];exact IC (fm ⟨_,rfl,"dict_valueiterator",_,⟨_,i_ _ rfl,rfl⟩,JQ.lookup,by simp_all[LP]⟩)
theorem uj{Q:Mq}(B:s.heap.IsItemsView v d)(z:pZ s.heap d es ep)(k:Q (.ref s.heap.objs.size) {s with heap:=s.heap.push {cls:=.type "dict_itemiterator",data:=.fields #[.none,.bool cm,.ref d,.int 0 0,.int es.size 0,.int ep 0,.none,.none]}}):w_ (u_ prog w) A (Q5 (.ref v)) Q E s:=by obtain⟨ov,Y,a,U⟩:=id B;obtain⟨od,S,b,I⟩:=z;refine O5 B.typeIs Ox (Ip Ox B.typeIs PySem.F.entry_dict_items_iter (b_ (fm (b_ ?_))) (PySem.F.args_dict_items_iter_1 _));refine b_ (JP Y U rfl (fm (b_ (b_ (IB S I (b_ (J6 S I ?_)))))));simp only[show Nc "dict_itemiterator"=e_ by decide];refine IC (fm ⟨_,rfl,"dict_itemiterator",_,⟨_,i_ _ rfl,rfl⟩,JU.lookup,by simp_all[LP,ME]⟩) ?_;simp[sizeOk,ME,]
theorem DD{e:Jx}(B:s.heap.IsValIter q d i es.size ep)(z:pZ s.heap d es ep)(b:es[i]?=a_ e)(k:∀h',h'.IsValIter q d (i+1) es.size ep->JY q s.heap h'->Q (a_ e.val) {s with heap:=h'}):w_ (u_ prog w) A (NL (.ref q)) Q E s:=by
 obtain⟨c,q1,q2,I⟩:=id B;obtain⟨od,a,f,Y⟩:=z;refine b_ (K3 (IT B.typeIs JQ (Ip JQ B.typeIs Nm ?_ (Nh _))));refine b_ (fm (b_ (b_ (b_ (Lk B.typeIs (fm (b_ (L8 q1 I ?_))))))));show w_ _ _ (if (s_ d==JB)=e_ then _ else _) _ _ s;refine b_ (fm (b_ (IB a Y ?_)));rw[q_ ad];refine b_ (fm (b_ (J6 a Y ?_)));rw[q_ ad];refine fm ?_;simp[Jn,b];refine b_ (b_ (Lk B.typeIs (fm (b_ (N1 B.typeIs ?_)))));show w_ _ _ (Nt _ 1 _ >>= _) _ _ s;refine b_ (LG q1 I ad ?_);have U:(s.heap.update q (Su (·.setIfInBounds 1 (LP (i+1))))).IsValIter q d (i+1) es.size ep:=⟨_,KC _ q1 (Nv (Lc I _)),(Ow ..).trans q2,by simp_all[Lc,LP]⟩
 have S:NQ {s with heap:=s.heap.update q _} _ "dict_valueiterator":=U.typeIs;exact b_ (Ju (b_ (N1 S (b_ (N1 S (fm (fm ⟨_,rfl,fm (k _ U (Jh ..))⟩)))))))
def Hc(Y:A.handled=d_)(B:s.heap.IsValIter q d i es.size ep)(z:pZ s.heap d es ep)(a:es.size<=i)(k:∀h',JG q s.heap h'->Q d_ {s with heap:=h'}):w_ (u_ prog w) A (NL (.ref q)) Q E s:=by
 obtain⟨b,q1,q2,I⟩:=id B;obtain⟨od,U,c,S⟩:=z;refine b_ (K3 (IT B.typeIs JQ (Ip JQ B.typeIs Nm ?_ (Nh _))));refine b_ (fm (b_ (b_ (b_ (Lk B.typeIs (fm (b_ (L8 q1 I ?_))))))));show w_ _ _ (if (s_ d==JB)=e_ then _ else _) _ _ s;refine b_ (fm (b_ (IB U S ?_)));rw[q_ ad];refine b_ (fm (b_ (J6 U S ?_)));rw[q_ ad];refine fm ?_;simp[Jn,Kt a];refine b_ (b_ (Lk B.typeIs (fm ?_)));show w_ _ _ (Nt _ 0 .none >>= _) _ _ s;refine b_ (LG q1 I ad (b_ ?_));refine b_ (IC (b_ (PH (by rfl) (IC (b_ (OD ?_)) (by size_fits)))) (by size_fits));first|rw[Y]
 refine b_ (fm (PF ?_));refine b_ (Kl ⟨_,i_ _ rfl,rfl⟩ Ob ?_);exact fm (k _ (((Jh ..).extBut.push _).push _))
theorem ua{e:Jx}{ok:g_}(a:NR s.heap q d i es.size ep ok ov)(z:pZ s.heap d es ep)(N:es[i]?=a_ e)(k:∀h',IsItemIterOut h' q d (i+1) es.size ep e.key e.val s.heap.objs.size->h'.get? s.heap.objs.size=a_ {cls:=.type "tuple",data:=.seq #[e.key,e.val]}->h'.objs.size=s.heap.objs.size+1->(∀b o,b≠q->s.heap.get? b=a_ o->h'.get? b=a_ o)->Q (a_ (.ref s.heap.objs.size)) {s with heap:=h'}):w_ (u_ prog w) A (NL (.ref q)) Q E s:=by
 obtain⟨I,g,y,tk,v⟩:=s;obtain⟨od,D,T,C⟩:=z;have ty:NQ ⟨I,g,y,tk,v⟩ (.ref q) "dict_itemiterator":=⟨_,a,rfl⟩
 refine b_ (K3 (IT (name:=Str.ofString "__next__") ty JU (Ip JU ty Nx ?_ (Nn _))));refine b_ (fm (b_ (b_ (b_ (K_ ty (fm (b_ (L8 a rfl ?_))))))));show w_ _ _ (if (s_ d==JB)=e_ then _ else _) _ _ _;refine b_ (fm (b_ (IB D C ?_)));rw[q_ ad];refine b_ (fm (b_ (J6 D C ?_)));rw[q_ ad];refine fm ?_;simp only[show ¬((i:Int)<0)from by lia,Pu,Jn,N];refine b_ (b_ (K_ ty (fm (b_ (NI ty ?_)))));show w_ _ _ (Nt (.ref q) 3 (LP ((i:Int)+1)) >>= _) _ _ _;refine b_ (KN a ad λr H G=>?_);have S:NQ ⟨r,g,y,tk,v⟩ (.ref q) "dict_itemiterator":=⟨_,H,rfl⟩
 refine b_ (Ju (b_ (NI S (b_ (NI S (b_ (Qb ?_)))))));have L:q<I.objs.size:=r_ a;have m:r.objs.size=I.objs.size:=G.1;obtain⟨g2,U⟩:∃g2,g2=r.push {cls:=.type "tuple",data:=.seq #[e.key,e.val]}:=⟨_,rfl⟩
 have l:NR g2 q d (i+1) es.size ep ok ov:=by exact U▸c_ _ H
 have K:g2.get? I.objs.size=a_ {cls:=.type "tuple",data:=.seq #[e.key,e.val]}:=by rw[U,<- m];exact i_ _ rfl
 have J:g2.objs.size=I.objs.size+1:=by rw[U,JF,m]
 have k2:∀b o,b≠q->I.get? b=a_ o->g2.get? b=a_ o:=λb o B e=>by exact U▸c_ _ (G.extBut b o B e)
 rw[m,<- U];refine b_ (b_ (JP l rfl (x:=.none) rfl (fm ?_)));refine b_ (JP l rfl (x:=ok) rfl (b_ (JP l rfl (x:=ov) rfl (b_ (KN l ad λO R F=>(b_ (KN R ad λp u j=>?_)))))));have j:JY q O p:=j;have u:NR p q d (i+1) es.size ep e.key e.val:=u;refine b_ (KN u ad λn t h=>?_);have h:JY q p n:=h;have t:IsItemIterOut n q d (i+1) es.size ep e.key e.val I.objs.size:=t;refine b_ (KN t ad λc P f=>?_);have f:JY q n c:=f;have Y:∀b o,b≠q->g2.get? b=a_ o->c.get? b=a_ o:=λb o B e=>f.extBut b o B (h.extBut b o B (j.extBut b o B (F.extBut b o B e)));exact b_ (N_ (fm (fm ⟨_,rfl,fm (k c P (Y _ _ (J3 L) K) (by show c.objs.size=_;rw[f.1,h.1,j.1,F.1,J]) λb o B e=>Y b o B (k2 b o B e))⟩)))
def yI{ok:g_}(U:A.handled=d_)(B:NR s.heap q d i es.size ep ok ov)(z:pZ s.heap d es ep)(Y:es.size<=i)(k:∀h',JG q s.heap h'->Q d_ {s with heap:=h'}):w_ (u_ prog w) A (NL (.ref q)) Q E s:=by
 obtain⟨od,S,a,I⟩:=z;have ty:s.TypeIs (.ref q) "dict_itemiterator":=⟨_,B,rfl⟩
 refine b_ (K3 (IT ty JU (Ip JU ty Nx ?_ (Nn _))));refine b_ (fm (b_ (b_ (b_ (K_ ty (fm (b_ (L8 B rfl ?_))))))));show w_ _ _ (if (s_ d==JB)=e_ then _ else _) _ _ s;refine b_ (fm (b_ (IB S I ?_)));rw[q_ ad];refine b_ (fm (b_ (J6 S I ?_)));rw[q_ ad];refine fm ?_;simp[Jn,Kt Y];refine b_ (b_ (K_ ty (fm ?_)));show w_ _ _ (Nt _ 2 .none >>= _) _ _ s;refine b_ (LG B rfl ad (b_ ?_));refine b_ (IC (b_ (PH (by rfl) (IC (b_ (OD ?_)) (by size_fits)))) (by size_fits));first|rw[U]
 refine b_ (fm (PF ?_));refine b_ (Kl ⟨_,i_ _ rfl,rfl⟩ Ob ?_);exact fm (k _ (((Jh ..).extBut.push _).push _))
end
noncomputable def VwO(T:String)(p d:h_):HO:=.ext λh=>∃o,h.get? p=a_ o/\o.cls=.type T/\o.data=.fields #[.ref d]
def EI{T:String}{p d:h_}(z:∃o,h.get? p=a_ o/\o.cls=.type T/\o.data=.fields #[.ref d]):gQ H h p (VwO T p d):=⟨z,let ⟨o,e,_⟩:=z;⟨o,e⟩,λ_ _ ⟨o,e,r⟩ k=>⟨o,k o e,r⟩⟩
def tView(T:String)(td:TE):TE:=λσ H Q=>td σ H λx H1=>∃a xs ep,x=.ref a/\H1 a=a_ (iW a xs ep)/\∀p,H1 p=d_->Q (.ref p) (upd H1 p (VwO T p a))
def rSumV:bm->Hp->VK->Prop:=λvs H Q=>∃(p a:h_) (xs:bA) (ep:Nat) (is:a9),vs=[.ref p]/\H p=a_ (VwO "dict_values" p a)/\H a=a_ (iW a xs ep)/\xs.map (·.2.2)=is.map V.int/\Q (.int is.sum) H
theorem vj:∀{xs:bA} {vs:List (a9×h_×g_)} {i:Nat} {e:Jx},Jg dK xs vs->(vs.map Er)[i]?=a_ e->∃x,xs[i]?=a_ x/\e.key=.ref x.2.1/\B5 x.2.2 e.val
 |_,_,_,_,.nil,h=>by simp at h|x::_,q::_,0,e,.cons r _,h=>by simp at h;subst h;exact⟨x,rfl,by rw[r.2.1];rfl,r.2.2⟩|_::_,_::_,i+1,e,.cons _ t,h=>by
  obtain⟨x,h1,B⟩:=vj (i:=i) (e:=e) t a0
  simp_all
theorem pre_sum:∀is:a9,preSum (λi=>(is[i]?).getD 0) is.length=is.sum:=by
 have key:∀(is:a9) (n:Nat),n<=is.length->preSum (λi=>(is[i]?).getD 0) n=(is.take n).sum:=by
  intro is n
  induction n with
  |zero=>intro _;rfl|succ n B=>intro h;rw[preSum,B (OB h),Po,List.sum_append];simp[Ij h]
 simp_all
theorem D2(S:A.handled=d_)(q d:h_)(B:d≠q)(es:Array Jx)(ep:Nat):Walks prog w A q [q,d] [q] es.size (λi v=>∃e,es[i]?=a_ e/\v=e.val) (λi h=>h.IsValIter q d i es.size ep/\pZ h d es ep) where
 sub:=λb U=>by simp_all
 frame:=λ_ _ _ st k=>⟨let ⟨o,e,r⟩:=st.1;⟨o,k q ad o e,r⟩,st.2.at λo e=>k d ad o e⟩
 item:=λi s Q E hi st k=>DD st.1 st.2 (e:=es[i]) ad λh' z b=>k _ h' s.toks ⟨_,ad,rfl⟩ ⟨z,st.2.at λo e=>(b.2 d B).trans e⟩ λc o I e=>b.extBut c o (λz=>I (by simp[z])) e
 done:=λs Q E st k=>Hc S st.1 st.2 (f_ _) λh' b=>k h' s.toks λc o I e=>b c o (λz=>I (by simp[z])) e
 self:=λ_ _ _ _ st k=>wpAny_pyIter_valiter st.1 k
section
variable{s:j_}{xs:List cU}{o:Jj}
def ku(I:B3 X B1 σ H s)(e:H a=a_ (iW a xs ep)):∃(vs:List (a9×h_×g_)) (es:Array Jx),Jg dK xs vs/\(a==IX)=cm/\xs.length<=n_/\pZ s.heap a es ep/\es.toList=vs.map Er/\es.size=xs.length:=by obtain⟨vs,r,U,S,c,u,es,h1,b,Y,B⟩:=Hq I e;exact⟨vs,es,r,U,S,⟨u,h1,b,Y⟩,B,by rw[<- Iu,B,l_,Ke r]⟩
def pe_vals(c:PE X o td)(f: ~~~(Jv o "values" X.env (Il o X.env)=Il o X.env))(d: ~~~((apos.endLine==cpos.line)=e_)):PE X (.Call (.Attribute o "values" apos) [] [] cpos) (tView "dict_values" td):=by
 intro B1 s σ H Q I h;refine Nr f d (B' (c B1 s σ H _ I h) λv s1 b=>?_);obtain⟨x,H1,B,Y,a,xs,ep,ex,ea,q1⟩:=b;subst ex;cases(show v=s_ a from Y);obtain⟨S,U⟩:=CG B ea;obtain⟨vs,es,_,e,_,z,_⟩:=ku B ea;exact⟨"dict","dict.values",KW,Pd,PySem.F.type_dict_values,S,U,Kr rfl (NM (NO Pd S PySem.F.entry_dict_values (PySem.F.args_dict_values_1 _) (DF a es ep e)
  ⟨z,.ref s1.z,_,B.laid (λ_ _ q=>c_ _ q) (f_ _) (EI ⟨_,i_ _ rfl,rfl,rfl⟩),rfl,q1 _ (B.hok.fresh (f_ _))⟩))⟩
def pe_itms(c:PE X o td)(f: ~~~(Jv o "items" X.env (Il o X.env)=Il o X.env))(d: ~~~((apos.endLine==cpos.line)=e_)):PE X (.Call (.Attribute o "items" apos) [] [] cpos) (tView "dict_items" td):=by
 intro B1 s σ H Q I h;refine Nr f d (B' (c B1 s σ H _ I h) λv s1 b=>?_);obtain⟨x,H1,B,Y,a,xs,ep,ex,ea,q1⟩:=b;subst ex;cases(show v=s_ a from Y);obtain⟨S,U⟩:=CG B ea;obtain⟨vs,es,_,e,_,z,_⟩:=ku B ea;exact⟨"dict","dict.items",KW,LL,Pj,S,U,Kr rfl (NM (NO LL S Pe (OX _) (uc a es ep e)
  ⟨z,.ref s1.z,_,B.laid (λ_ _ q=>c_ _ q) (f_ _) (EI ⟨_,i_ _ rfl,rfl,rfl⟩),rfl,q1 _ (B.hok.fresh (f_ _))⟩))⟩
theorem HI(n:X.calm=e_):fS X (.builtin "sum") rSumV:=by
 rintro B1 s σ H vs us Q I r ⟨p,a,xs,ep,is,rfl,k,y,hi,q⟩;obtain⟨u,rfl,c⟩:=r.one;cases(show u=s_ p from c);obtain⟨vs,es,d,F,hz,z,m,hsz⟩:=ku I y;have h:=let ⟨o,e,_⟩:=z;r_ e;have l:is.length=es.size:=by rw[hsz,<- l_ (f:=λx:cU=>x.2.2),hi,l_]
 refine Sq (DU ((show(∃o,s.heap.get? p=a_ o/\o.cls=.type "dict_values"/\o.data=.fields #[.ref a])/\_ from I.hok p _ k).1) z ⟨_,_,_,_,_,_,_,λi=>(is[i]?).getD 0,rfl,(D2 (A:=X.A.in1) (I.ok.hd n) s.z a (G_ h) es ep).toS,⟨⟨_,i_ _ rfl,rfl,rfl⟩,z.at λo e=>c_ _ e⟩,λb w=>?_,λi v C=>?_,λs' t' B=>?_⟩)
 .rw[JF]
  grind
 .obtain⟨e,h1,rfl⟩:=C;obtain⟨x,E,_,U⟩:=vj d (by rw[<- m];simpa using h1);have S:(xs.map (·.2.2))[i]?=a_ x.2.2:=by rw[E_,E];rfl
  rw[hi,E_]at S;cases D:is[i]? with
  |none=>simp_all|some j=>
   rw[D]at S;have e4:=by simpa using S
   rw[<- e4]at U;obtain⟨t,e⟩:=(show ∃t,e.val=L3 j t from U)
   simp_all
 .obtain⟨h',g',G,Y,g⟩:=s';have e1:=B.gens;have e2:=B.drawn;have e3:=B.os;subst e1 e2 e3;refine⟨.int _,H,I.kept λb o e=>B.heap b o (λw=>IA (r_ e) a7) (c_ _ e),⟨t',rfl⟩,?_⟩
  .rw[<- l,pre_sum];exact q
end
noncomputable def ItK(a:h_)(xs:bA)(ep:Nat):It:=
 ⟨λi H=>H a=a_ (iW a xs ep)/\i<xs.length,λi H v H'=>∃T x,H T=d_/\v=.ref T/\xs[i]?=a_ x/\H'=upd H T (.tup [.ref x.2.1,x.2.2]),λi H=>H a=a_ (iW a xs ep)/\xs.length<=i⟩
theorem EN(a q:h_)(xs:bA)(ep:Nat):Turn P w K (.Tuple elts k pos) (ItK a xs ep) [q] q (λi h=>∃ok ov,NR h q a i xs.length ep ok ov) where
 mem:=by simp
 obj:=λi h st b Y=>by grind
 keep:=λi h h' st n=>let ⟨ok,ov,e⟩:=st;⟨ok,ov,n q ad _ e⟩
 item:=by
  intro X A hw C m i B1 s σ H E I U st d;obtain⟨ok,ov,B⟩:=st;obtain⟨g,hi⟩:=d;obtain⟨vs,es,j,v,hz,z,l,hsz⟩:=ku I g;rw[<- hsz]at B;have f0:=(U q ad).1;have c:i<es.size:=ac
  obtain⟨x,p,u,r⟩:=vj (i:=i) (e:=es[i]) j (by rw[<- l];simp[c]);refine ua B z (e:=es[i]) ad λh' out y t keep=>⟨_,rfl,P5 out λD f S=>?_⟩
  have F:B3 X B1 σ (upd H s.z (.tup [.ref x.2.1,x.2.2])) {s with heap:=D,toks:=s.toks}:=I.qe U (λb o Y e=>(S.2 b a7).trans (keep b o a7 e)) (f_ _) ⟨ad,[es[i].key,es[i].val],.cons u (.cons r .nil),⟨_,(S.2 _ (J3 (r_ B))).trans y,rfl,0,rfl⟩⟩;refine⟨.ref s.z,_,F,rfl,⟨_,x,I.hok.fresh (f_ _),rfl,p,rfl⟩,⟨_,_,by exact hsz▸f⟩,λb Y=>?_⟩
  grind[av]
 done:=by intro X A hw C m i B1 s σ H E I U st d;obtain⟨ok,ov,B⟩:=st;obtain⟨g,hi⟩:=d;obtain⟨vs,es,j,v,hz,z,l,hsz⟩:=ku I g;rw[<- hsz]at B;obtain⟨f0,f1,f2,f3,f4,f5⟩:=U q ad;exact yI (I.ok.hd m) B z ac λh' eb=>⟨rfl,I.turned (λb o Y e=>eb b o Y e) f0 f1 f3 f4 f5⟩
 self:=λ_ _ _ _ _ ⟨ok,ov,e⟩ h=>QB e h
noncomputable def vM:A'->M be
 |.dic ks=>.ok (ks.map λp=>.tup [.tup (p.1.map .int),p.2])|_=>.error .stuck
def oi(fd:b6):ce:=λρ=>(fd ρ).bind vM
def sumVD:cg
 |.dic ks=>(bZ (ks.map (·.2))).bind λis=>.ok (.int is.sum)|_=>stk
theorem bp.vals{K:Pn}{F:Hp}:∀{ks:List (a9×A')} {xs:bA},bp K F ks xs->ay K F (ks.map (·.2)) (xs.map (·.2.2))
 |[],_,h=>by rw[show _=[]from h];rfl|(k,d)::ks,_,⟨b,v,r,e,t,q,z⟩=>by subst e;exact⟨v,_,rfl,q,bp.vals z⟩
theorem bp.get{K:Pn}{F:Hp}:∀{ks:List (a9×A')} {xs:bA} {i:Nat} {y:cU},bp K F ks xs->xs[i]?=a_ y->∃k d,ks[i]?=a_ (k,d)/\SqT K F y.2.1 (k.map V.int)/\bh K F d y.2.2
 |[],_,_,_,h,e=>by rw[show _=[]from h]at e;simp at e|(k,d)::ks,_,0,y,⟨b,v,r,e,t,q,z⟩,h=>by subst e;simp at h;subst h;exact⟨k,d,rfl,t,q⟩|(k,d)::ks,_,i+1,y,⟨b,v,r,e,t,q,z⟩,h=>by subst e;simp at h ⊢;exact bp.get z h
theorem GD{xs:bA}(I:F a=a_ (iW a xs ep))(z:bp K F ks xs):mC K F (ItK a xs ep) (ks.map λp=>.tup [.tup (p.1.map .int),p.2]) where
 go:=λi F' H' s1 s2 hi=>⟨s2 _ _ (s1 _ _ I),by rw[z.length];simp_all⟩
 yl:=λi F' H' x H2 d s1 s2 B S=>by
  obtain⟨T,y,Y,ev,U,f⟩:=S;subst ev f;obtain⟨k,g,h1,c,b⟩:=z.get U;rw[E_,h1]at B;have e:=by simpa using B.symm
  subst e;have sl:B2 F' H' (upd F' T (.tup [.ref y.2.1,y.2.2])) _:=B2.lay s2 Y;exact⟨_,sl,T,_,rfl,SqT.of aq,.ref y.2.1,[y.2.2],rfl,⟨y.2.1,_,rfl,sl.ff.tup (s1.tup c),dw k⟩,y.2.2,[],rfl,(b.mono s1).mono sl.ff,rfl⟩
 st:=λF' H' s1 s2=>⟨s2 _ _ (s1 _ _ I),by simp[z.length]⟩
def iItms(td:TE):TI:=λσ H R=>tView "dict_items" td σ H λx H2=>∃p a xs ep,x=.ref p/\H2 p=a_ (VwO "dict_items" p a)/\H2 a=a_ (iW a xs ep)/\R (ItK a xs ep) H2
section
variable{W:bY}{fd:b6}
theorem ri_itms{R:It->Hp->Prop}(h:iD K W (oi fd) σ H R):iItms (tD K W cm fd) σ H R:=by
 obtain⟨F,ρ,r,s,p⟩:=h;refine aD r s (λe Y=>?_) λd U x F1 H1 s1 q1=>?_
 .simp_all[oi]
 .simp only[oi,U,ai]at p;cases d with
  |dic ks=>obtain⟨a,xs,e,⟨ep,B⟩,S⟩:=q1;exact⟨a,xs,ep,e,s1.fh _ _ B,λv I=>⟨v,a,xs,ep,rfl,aq,by rw[av (aL (s1.fh _ _ B) I)];exact s1.fh _ _ B,p _ F1 _ (s1.trans (B2.grow s1.fh I)) (GD B S)⟩⟩
  |_=>exact(W.ns p).elim
theorem rd_sumV{Q:VK}(h:tD K W cm (f1 sumVD fd) σ H Q):tCB rSumV (EW (tView "dict_values" (tD K W cm fd)) tNil) σ H Q:=by
 obtain⟨F,ρ,r,s,p⟩:=h;refine aD r s (λe Y=>p.err (by simp_all[f1])) λd U x F1 H1 s1 q1=>?_;simp only[f1,U,ai]at p;cases d with
 |dic ks=>
  obtain⟨a,xs,e,⟨ep,B⟩,S⟩:=q1;have p:aH K W cm F H ((bZ _).bind λis=>.ok _) Q:=p;cases hi:bZ _ with
  |error e=>rw[hi]at p;have:=gk hi;subst this;exact aH.stuck p|ok is=>rw[hi]at p;exact⟨a,xs,ep,e,s1.fh _ _ B,λv I=>⟨v,a,xs,ep,is,rfl,aq,by rw[av (aL (s1.fh _ _ B) I)];exact s1.fh _ _ B,cW S.vals hi,p _ F1 _ (s1.trans (B2.grow s1.fh I)) rfl⟩⟩
 |_=>exact aH.stuck p
end
section
variable{W:bY}{o:Jj}{fd:b6}{p:Pb}
def di_items(d:DE K W cm X o fd)(U: ~~~(Jv o "items" X.env (Il o X.env)=Il o X.env))(c: ~~~((apos.endLine==cpos.line)=e_)):DI K W X (.Tuple elts k q) (.Call (.Attribute o "items" apos) [] [] cpos) (oi fd):=by
 refine PI.imp ?_ λ_ _ _=>ri_itms;intro B1 s σ H R I h;refine B' (pe_itms d U c B1 s σ H _ I h) λv s1 S=>?_;obtain⟨y,H1,B,Y,p,a,xs,ep,ex,S,f,q1⟩:=S;subst ex;cases(show v=s_ p from Y);obtain⟨vs,es,g,j,hz,z,i,hsz⟩:=ku B f;refine uj ((show(∃o,s1.heap.get? p=a_ o/\o.cls=.type "dict_items"/\o.data=.fields #[.ref a])/\_ from B.hok p _ S).1) z ⟨s1.z,[s1.z],_,_,H1,rfl,B.kept λb o e=>c_ _ e,EN a _ xs ep,⟨_,_,by rw[<- hsz];exact i_ _ rfl⟩,λb U=>?_,q1⟩;have e:=by simpa using U
 subst e;exact B.Ew (f_ _) (B.hok.fresh (f_ _))
def de_sumV(b:X.calm=e_)(U:X.mg "sum"=d_)(Y:DE K W cm X o fd)(c: ~~~(Jv o "values" X.env (Il o X.env)=Il o X.env))(S: ~~~((apos.endLine==cpos.line)=e_))(a: ~~~(Gl X "sum"))(B: ~~~(k_ [.Call (.Attribute o "values" apos) [] [] cpos] X.env=(cm,Il (.Call (.Attribute o "values" apos) [] [] cpos) X.env)::k_ [] X.env))(I: ~~~((Jy pos (k_ [] X.env)).any (·.1)=cm)):
  DE K W cm X (.Call (.Name "sum" p) [.Call (.Attribute o "values" apos) [] [] cpos] [] pos) (f1 sumVD fd):=
 (mN (HI b) a U boot_sum (cx (pe_vals Y c S) eX B) am am B I).imp λ_ _ _=>rd_sumV
end
section
variable{fd:b6}
@[simp]def e_getD:yD fd fk fx ρ=(fd ρ).bind λd=>if GH d=e_ then(fk ρ).bind λk=>(fx ρ).bind λx=>getDD d k x else stk:=id rfl
@[simp]def e_isDic(ks:List (a9×A')):GH (.dic ks)=e_:=id rfl
@[simp]def e_getDD(ks:List (a9×A'))(B x:A'):getDD (.dic ks) B x=(fV B).bind λk=>.ok ((gZ ks k).getD x):=id rfl
@[simp]def e_keyD0:fV (.tup [])=.ok []:=id rfl
@[simp]def rN(B:A')(ks:List (a9×A')):qP B (.dic ks)=(fV B).bind λk=>.ok (.bl (!(gZ ks k).isSome)):=id rfl
@[simp]def e_dicAt0(ks:List (a9×A'))(r:ab):ki (a_ (.dic ks)::r) 0=.ok ks:=id rfl
@[simp]def e_dicAtS(o:Option A')(r:ab)(i:Nat):ki (o::r) (i+1)=ki r i:=by rfl
@[simp]def e_itemsK:oi fd ρ=(fd ρ).bind vM:=id rfl
@[simp]def yK(ks:List (a9×A')):vM (.dic ks)=.ok (ks.map λp=>.tup [.tup (p.1.map .int),p.2]):=id rfl
end
section
open PySem
def Ge:typeLookup (.type "list") "keys"=JM d_:=by rfl
theorem no_keys{B:IF}{g:Array GenState}{d:Drawn}{tk:Nat}{S:OsState}{xs:Array g_}(Y:B.get? a=a_ {cls:=.type "list",dict:=d_,data:=.seq xs n,slots:=sl})(c:A.handled=d_)(k:∀h' I,(∀b U,B.get? b=a_ U->h'.get? b=a_ U)->Q d_ ⟨h',g,d,I,S⟩):w_ (u_ prog w) A (getAttr? (.ref a) "keys") Q E ⟨B,g,d,tk,S⟩:=by
 have ty:∀t,(⟨B,g,d,t,S⟩:j_).TypeIs (.ref a) "list":=λ_=>⟨_,Y,rfl⟩
 have q1:=sub_AttributeError;have q2:=M6.lookup;have j:=M6.bind (.ref a);have i:=am_list_getattr_none
 repeat (any_goals (first|assumption|exact ty _|((with_reducible show w_ _ _ (Ms (RT "list.__getattribute__") _ _) _ _ _);refine OR M6 (ty _) am_entry_list_getattribute (F.args_list_getattribute_2 _ _) (meets_getattribute_miss_list a xs n sl "keys" _ Ge am (by size_fits)) ⟨Y,c,λh' t' e z=>?_⟩)|wp_step))
 obtain⟨h,f,l⟩:=z.there;show w_ _ _ (R6 _ _ _ _ _ _ _) _ _ _;unfold R6
 repeat (any_goals (first|assumption|wp_step))
 exact k _ _ z.keeps
variable{R:Q8->j_->Prop}{κ:Type}[KZ κ]{knd:Nw prog w κ}
def ue:entryFor table "dict.update.loop"=a_ Builtin.«dict.update.loop»:=entryFor_of_tree (by rfl)
def ud:plainId "dict.update.loop"=e_:=by decide +kernel
noncomputable abbrev CRow:=a9×h_×g_
noncomputable def stR(acc:List (κ×h_×g_))(x:κ×h_×g_):List (κ×h_×g_):=M_ acc x.1 x.2.1 x.2.2
abbrev Keep(B h:IF):Prop:=∀c o,B.get? c=a_ o->h.get? c=a_ o
def KKeep(knd:Nw prog w κ):Prop:=∀{B h:IF} {k:κ} {b:h_},knd.is B k b->Keep B h->knd.is h k b
def x5:KKeep (md prog w):=λ{I h k b} z e=>by
 obtain⟨o,its,n,h1,B⟩:=(show IsTupleKey _ I k b from z)
 exact⟨o,its,n,e _ _ h1,B⟩
def CB{D:h_}{rows:List (κ×h_×g_)}(z:h.DictOfH knd D rows)(e:∀o,h.get? D=a_ o->h'.get? D=a_ o)(k:∀x∈rows,knd.is h' x.1 x.2.1):h'.DictOfH knd D rows:=
 let ⟨o,es,ep,h1,U,S,I,_,B⟩:=z;⟨o,es,ep,e o h1,U,S,I,k,B⟩
theorem Fh{L:List (κ×h_×g_)}:∀(M acc:List (κ×h_×g_)),(∀x∈M,x∈L)->(∀x∈acc,∃y∈L,x.1=y.1/\x.2.1=y.2.1)->∀x∈M.foldl stR acc,∃y∈L,x.1=y.1/\x.2.1=y.2.1
 |[],acc,_,h=>h|m::M,acc,I,h=>Fh M _ (λx B=>I x (by simp[B])) λx B=>by
  rcases PyProof.Rows.mem_storedH B with⟨y,S,e1,e2⟩|⟨e1,e2⟩
  .obtain⟨z,hz,f1,f2⟩:=h y S;exact⟨z,hz,e1.trans f1,e2.trans f2⟩
  .exact⟨m,I m ad,e1,e2⟩
theorem Fi:∀(M acc:List (κ×h_×g_)),(M.foldl stR acc).length<=acc.length+M.length
 |[],acc=>f_ _|m::M,acc=>by
  have h1:=Fi M (stR acc m)
  grind[stR,M_,F_]
theorem dic_loop{B:IF}{D I:h_}(hh:A.handled=d_)(H:KKeep knd)(Q:knd.room A.in1)(X:B.IsList l items)(hD:B.get? D=d_)(hI:B.get? I=d_)(b:D≠I)(L:List (κ×h_×g_))(G:items.size=L.length)(hsz:L.length<=n_)(q:∀(j:Nat) (x:κ×h_×g_),L[j]?=a_ x->∃T,items[j]?=a_ (.ref T)/\PM B T #[.ref x.2.1,x.2.2]/\knd.is B x.1 x.2.1):
  ∀(m i:Nat) (s:j_),L.length-i=m->i<=L.length->s.heap.IsListIter I l i->Keep B s.heap->s.heap.DictOfH knd D ((L.take i).foldl stR []) ->
   (∀h' a,Keep B h'->h'.DictOfH knd D (L.foldl stR [])->R (.ok (.ret .none)) {s with heap:=h',toks:=a})->MK (u_ prog w) A (.builtin "dict.update.loop" ⟨[.ref D,.ref I,LP i,.none],[]⟩) R s:=by
 have U:∀{h:IF},Keep B h->∀(i:Nat),∀x∈(L.take i).foldl stR [],knd.is h x.1 x.2.1:=λ{h} Y i x f=>by obtain⟨y,P,e1,e2⟩:=Fh (L:=L) (L.take i) [] (λx f=>Lw f) (λx f=>nomatch f) x f;obtain⟨j,Z⟩:=List.mem_iff_getElem?.mp P;obtain⟨T,_,_,z⟩:=q j y Z;rw[e1,e2];exact H z Y
 have k:∀{h:IF},Keep B h->h.IsList l items:=λ{h} Y=>let ⟨o,e,r⟩:=X;⟨o,Y _ _ e,r⟩;intro m
 induction m with
 |zero=>
  intro i s W hi st Y t d;obtain rfl:i=L.length:=ac
  refine LS ue (b_ (Rk (show A.in1.handled=d_ from hh) st (k Y) a7 λh' eb=>?_));have p:Keep B h':=λc o e=>eb c o (λz=>by simp_all) (Y c o e);rw[M3]at t;exact b_ (fm (fm (d h' s.toks p (CB t (λo e=>eb D o b e) λx f=>(U p L.length x a7)))))
 |succ m O=>
  intro i s W hi st Y t d;have v:i<L.length:=ac
  obtain⟨T,e1,tp,N⟩:=q i L[i] ad;refine LS ue (b_ (Q3 st (k Y) e1 λh1 st1 sb=>?_));have S:Keep B h1:=λc o e=>sb.extBut c o (λz=>by simp_all) (Y c o e);have E:h1.DictOfH knd D ((L.take i).foldl stR []):=CB t (λo e=>sb.extBut D o b e) (U S i);obtain⟨K,F,J,n,t3⟩:=tp;have hT:NQ {s with heap:=h1} (.ref T) "tuple":=⟨K,S _ _ F,J⟩
  refine b_ (Ju (b_ (wpAny_tryCatch ?_)));refine b_ (NH hT (b_ (Kn (S _ _ F) t3 (fm ?_))));show w_ _ _ (Ln [.ref L[i].2.1,L[i].2.2] (dictSet D (.ref L[i].2.1) L[i].2.2)) _ _ _;have C:((L.take i).foldl stR []).length<=n_:=by
   have:=Fi (L.take i) [];rw[Mg,JO]at this
   lia
  refine Ju (R0 (hsz:=C) (knd:=knd) Q (H N S) E λh2 dd2 g=>?_);have u:Keep B h2:=λc o e=>(g.2 c (λz=>by simp_all)).trans (S c o e);have ei:LP ((i:Int)+1)=LP ((i+1:Nat):Int):=by congr 1
  have et:(L.take (i+1)).foldl stR []=M_ ((L.take i).foldl stR []) L[i].1 L[i].2.1 L[i].2.2:=by rw[Po,Ot];simp[v,stR]
  refine fm ⟨OG ud _,?_⟩;show MK _ _ (.builtin "dict.update.loop" ⟨[.ref D,.ref I,LP ((i:Int)+1),.none],[]⟩) _ _;rw[ei];exact O (i+1) _ ac ac (st1.at λo e=>(g.2 I b.symm).trans e) u a7 λh' a k' d'=>d h' a k' d'
end
section
open PySem
variable{s:j_}{κ:Type}[KZ κ]{knd:Nw prog w κ}
def uM{b:Nat}{Q:Mq}(q:A.handled=d_)(z:KKeep knd)(y:knd.room A.in1.in1)(f:s.heap.get? l=a_ {cls:=.type "list",dict:=d_,data:=.seq items b,slots:=sl})(L:List (κ×h_×g_))(Y:items.size=L.length)(hsz:L.length<=n_)(h:∀(j:Nat) (x:κ×h_×g_),L[j]?=a_ x->∃T,items[j]?=a_ (.ref T)/\PM s.heap T #[.ref x.2.1,x.2.2]/\knd.is s.heap x.1 x.2.1)(k:∀h' B,Keep s.heap h'->h'.DictOfH knd s.heap.objs.size (L.foldl stR [])->Q (.ref s.heap.objs.size) {s with heap:=h',toks:=B}):w_ (u_ prog w) A (Ms (.type "dict") [.ref l]) Q E s:=by
 obtain⟨I,g,d,tk,i⟩:=s;refine callType_codes (Q₁:=λu t=>u=.ref I.objs.size/\t=⟨I.push {cls:=.type "dict",data:=.dict #[]},g,d,tk,i⟩) R8 (Q9 _) RV (SE _ ⟨rfl,rfl⟩) ?_;rintro u t ⟨rfl,rfl⟩;have m:(I.push {cls:=.type "dict",data:=.dict #[]}).DictOfH knd I.objs.size []:=⟨_,#[],0,i_ _ rfl,⟨rfl,rfl,rfl⟩,rfl,rfl,λx U=>(nomatch U),Mx⟩
 have ty:(⟨I.push {cls:=.type "dict",data:=.dict #[]},g,d,tk,i⟩:j_).TypeIs _ "dict":=m.typeIs;have a:(I.push {cls:=.type "dict",data:=.dict #[]}).get? l=a_ {cls:=.type "list",dict:=d_,data:=.seq items b,slots:=sl}:=c_ _ f;refine⟨ty,RA _ _,(b_ ?_)⟩;refine b_ (KR ty (fm ?_));show w_ _ _ _ _ _ _;refine b_ (NH (⟨_,a,rfl⟩) (b_ (no_keys a (show A.in1.in1.handled=d_ from q) λh1 v S=>?_)));have p:=λc o e=>S c o (c_ _ e);have r:=CB m (λo e=>S _ o e) λx U=>(nomatch U)
 have n:=let ⟨o,_,_,e,_⟩:=r;r_ e;refine b_ (KO (b_ (L6 (⟨_,p _ _ f,rfl,b,rfl⟩) (fm ⟨OG ud _,(dic_loop (show A.in1.handled=d_ from q) z y (⟨_,f,rfl,b,rfl⟩) (NC (f_ _)) (NC (IY n)) (G_ n) L Y hsz h _ 0 _ rfl (IH _) ⟨_,i_ _ rfl,rfl,rfl⟩ (λc o e=>c_ _ (p c o e)) (CB r (λo e=>c_ _ e) λx U=>(nomatch U)) λh' B k' C=>⟨rfl,k h' B k' C⟩)⟩))))
end
def fj:be->M (List (a9×A'))
 |[]=>.ok []|.tup [B,d]::ds=>(fV B).bind λk=>(fj ds).bind λr=>.ok ((k,d)::r)|_=>stk
def GX(ps:List (a9×A')):List (a9×A'):=ps.foldl (λacc p=>jq acc p.1 p.2) []
def dictA:cc
 |[.lst ds]=>(fj ds).bind λps=>.ok (.dic (GX ps))|_=>stk
theorem qH:∀{ds:be} {e:Err},fj ds=.error e->e=.stuck
 |[],_,h=>by cases h|d::ds,e,h=>by
  unfold fj at h;split at h
  .lia
  .rename_i S a I B;cases Y:fV S with
   |error z=>have:=dq Y;simp_all|ok k=>
    cases U:fj I with
    |error z=>cases B;have:=qH U;simp_all|ok r=>simp_all
  .cases h;rfl
theorem xC:∀{xs acc:bA} {L B:List CRow},Jg dK xs L->Jg dK acc B->Jg dK (xs.foldl (λa x=>zL a x.1 x.2.1 x.2.2) acc) (L.foldl stR B)
 |_,_,_,_,.nil,h=>h|x::xs,acc,q::L,B,.cons r t,h=>by
  rw[Iy,Iy];refine xC t ?_;obtain⟨S,I,r3⟩:=r;have:=jn (k:=x.1) (b:=x.2.1) r3 h
  simp_all[stR]
theorem bp.fold{K:Pn}{F:Hp}:∀{ps acc:List (a9×A')} {xs B:bA},bp K F ps xs->bp K F acc B->bp K F (ps.foldl (λa p=>jq a p.1 p.2) acc) (xs.foldl (λa x=>zL a x.1 x.2.1 x.2.2) B)
 |[],_,_,_,h,z=>by rw[show _=[]from h];exact z|(k,d)::ps,_,_,_,⟨b,v,r,e,t,q,y⟩,z=>by subst e;rw[Iy,Iy];exact bp.fold y (z.put t q)
theorem yx:∀(xs acc:bA),(xs.foldl (λa x=>zL a x.1 x.2.1 x.2.2) acc).length<=acc.length+xs.length
 |[],acc=>f_ _|x::xs,acc=>by
  have h1:=yx xs (zL acc x.1 x.2.1 x.2.2);have B:=mv acc x.1 x.2.1 x.2.2
  grind
section
variable{W:bY}
theorem pairs_at{B1:Vp}{σ:St}{F H:Hp}{s:j_}(I:B3 X B1 σ H s)(Y:aM F H):∀{ds:be} {ys:bm} {its:bv} {ps:List (a9×A')},ay X.K F ds ys->B6 ys its->fj ds=.ok ps ->
  ∃(L:List CRow) (xs:bA),Jg dK xs L/\L.length=its.length/\bp X.K F ps xs/\∀(j:Nat) (x:CRow),L[j]?=a_ x->∃T,its[j]?=a_ (.ref T)/\PM s.heap T #[.ref x.2.1,x.2.2]/\(md X.prog X.w).is s.heap x.1 x.2.1
 |[],_,_,_,h,r,e=>by rw[show _=[]from h]at r;cases r;cases e;exact⟨[],[],.nil,rfl,rfl,λj x h=>by simp at h⟩|d::ds,_,_,ps,⟨v,vs,ev,q,t⟩,r,e=>by
  subst ev;cases r with
  |cons A rs=>
   rename_i u us;unfold fj at e;split at e
   .simp_all
   .rename_i D R N U;cases U;cases i:fV D with
    |error z=>simp_all|ok k=>
     rw[i]at e;cases g:fj ds with
     |error z=>simp_all|ok C=>
      rw[g]at e;cases e;obtain⟨L,xs,h1,G,E,Q⟩:=pairs_at I Y t rs g;obtain⟨T,O,K,w,P,m,J,q1,c,l,a,q2,rfl⟩:=q;subst K J a;cases(show u=s_ T from A);obtain⟨b,rfl,tb⟩:=fF i q1;obtain⟨p,y,tp,_⟩:=I.tuple (Y.tup w);obtain⟨o,n,rfl,S,B⟩:=y.two;cases(show o=s_ b from S);refine⟨(k,b,n)::L,(k,b,c)::xs,.cons ⟨rfl,rfl,B⟩ h1,by simp[G],⟨b,c,xs,rfl,tb,q2,E⟩,λj x f=>?_⟩
      cases j with
      |zero=>simp at f;subst f;exact⟨T,rfl,tp,ko I (Y.tup tb)⟩|succ j=>simp_all
   .cases e
theorem c_dictL(A:X.calm=e_)(O:X.A.units+64<IU)(D: ~~~(X.K=K)):kZ K W e_ X (.type "dict") dictA:=by
 subst D;intro B1 s σ H xs us Q I w h;obtain⟨F,d,x,s1,rfl,q,p⟩:=gW (λds=>by match ds with|[d]=>simp|[]=>exact .inr rfl|a::b::c=>exact .inr (by cases a<;>rfl)) h;obtain⟨u,rfl,v⟩:=w.one;cases d with
 |lst ds=>
  obtain⟨a,ys,rfl,t,r⟩:=q;cases v;have p':aH X.K W e_ F H ((fj ds).bind λps=>.ok _) Q:=p;cases Y:fj ds with
  |error z=>rw[Y]at p';have:=qH Y;subst this;exact aH.stuck p'|ok ps=>
   rw[Y]at p';obtain⟨its,k,pl,hz⟩:=I.list (s1.lst t);obtain⟨o,n,G,U,B,S⟩:=id pl;obtain⟨oc,od,f,osl⟩:=o;cases(show oc=.type "list" from U);cases(show od=d_ from B);cases(show f=.seq its.toArray n from S);obtain⟨L,rows,h1,l,E,P⟩:=pairs_at I s1 r k Y;have C:L.length<=n_:=by rw[l,<- k.length];exact hz
   refine uM (I.ok.hd A) x5 (KP ac) G L (by simp[l]) C (λj x N=>by simp_all) λh' m y J=>?_;have g:(rows.foldl (λa x=>zL a x.1 x.2.1 x.2.2) []).length<=n_:=by
    have:=yx rows [];have:=Ke h1;simp at *
    lia
   obtain⟨ep,z⟩:=nq J (xC h1 .nil) (Lu.mpr (IV (G_ I.big))) g;have i:=I.hok.fresh (f_ s.z);exact⟨.ref s.z,_,I.laid (λb o e=>y b o e) (f_ _) (rO z),rfl,p' _ F _ (B2.grow s1 i) ⟨s.z,_,rfl,⟨ep,aq⟩,s1.free i,i,E.fold rfl⟩⟩
 |_=>exact aH.stuck p
def oB:K0 "dict"=a_ (.type "dict"):=by rfl
end
section
variable{s:j_}{d q:h_}
theorem o8{Q:Mq}(S:(d==IX)=cm)(z:pZ s.heap d es ep)(k:Q (.ref s.heap.objs.size) {s with heap:=s.heap.push {cls:=.type "dict_keyiterator",data:=.fields #[.ref d,.int 0 0,.int es.size 0,.int ep 0]}}):w_ (u_ prog w) A (Q5 (.ref d)) Q E s:=by have ty:=z.ty;obtain⟨od,I,U,B⟩:=z;refine O5 ty MW (Ip MW ty PySem.F.entry_dict_iter (b_ ?_) (PySem.F.args_dict_iter_1 _));refine b_ (KR ty (fm ?_));show w_ _ _ (Kq d >>= _) _ _ s;rw[Kq,S];exact b_ (fm (b_ (IB I B (b_ (J6 I B (b_ (IC (fm ⟨_,rfl,"dict_keyiterator",_,⟨_,i_ _ rfl,rfl⟩,JV.lookup,by simp_all[LP]⟩))))))))
theorem nY{e:Jx}(B:s.heap.IsKeyIter q d i es.size ep)(z:pZ s.heap d es ep)(a:es[i]?=a_ e)(k:∀h',h'.IsKeyIter q d (i+1) es.size ep->JY q s.heap h'->Q (a_ e.key) {s with heap:=h'}):w_ (u_ prog w) A (NL (.ref q)) Q E s:=by
 obtain⟨b,q1,q2,I⟩:=id B;obtain⟨od,Y,c,U⟩:=z;refine b_ (K3 (IT B.typeIs JV (Ip JV B.typeIs ND ?_ (Ny _))));refine b_ (fm (b_ (b_ (b_ (Ll B.typeIs (fm (b_ (L8 q1 I ?_))))))));show w_ _ _ (if (s_ d==JB)=e_ then _ else _) _ _ s;refine b_ (fm (b_ (IB Y U ?_)));rw[q_ ad];refine b_ (fm (b_ (J6 Y U ?_)));rw[q_ ad];refine fm ?_;simp[Jn,a];refine b_ (b_ (Ll B.typeIs (fm (b_ (Rl B.typeIs ?_)))));show w_ _ _ (Nt _ 1 _ >>= _) _ _ s;refine b_ (LG q1 I ad ?_);have S:(s.heap.update q (Su (·.setIfInBounds 1 (LP (i+1))))).IsKeyIter q d (i+1) es.size ep:=⟨_,KC _ q1 (Nv (Lc I _)),(Ow ..).trans q2,by simp_all[Lc,LP]⟩
 exact b_ (Ju (b_ (Rl S.typeIs (fm (fm ⟨_,rfl,fm (k _ S (Jh ..))⟩)))))
def rM(Y:A.handled=d_)(B:s.heap.IsKeyIter q d i es.size ep)(z:pZ s.heap d es ep)(a:es.size<=i)(k:∀h',JG q s.heap h'->Q d_ {s with heap:=h'}):w_ (u_ prog w) A (NL (.ref q)) Q E s:=by
 obtain⟨b,q1,q2,I⟩:=id B;obtain⟨od,U,c,S⟩:=z;refine b_ (K3 (IT B.typeIs JV (Ip JV B.typeIs ND ?_ (Ny _))));refine b_ (fm (b_ (b_ (b_ (Ll B.typeIs (fm (b_ (L8 q1 I ?_))))))));show w_ _ _ (if (s_ d==JB)=e_ then _ else _) _ _ s;refine b_ (fm (b_ (IB U S ?_)));rw[q_ ad];refine b_ (fm (b_ (J6 U S ?_)));rw[q_ ad];refine fm ?_;simp[Jn,Kt a];refine b_ (b_ (Ll B.typeIs (fm ?_)));show w_ _ _ (Nt _ 0 .none >>= _) _ _ s;refine b_ (LG q1 I ad (b_ ?_));refine b_ (IC (b_ (PH (by rfl) (IC (b_ (OD ?_)) (by size_fits)))) (by size_fits));first|rw[Y]
 refine b_ (fm (PF ?_));refine b_ (Kl ⟨_,i_ _ rfl,rfl⟩ Ob ?_);exact fm (k _ (((Jh ..).extBut.push _).push _))
end
noncomputable def ItKK(a:h_)(xs:bA)(ep:Nat):It:=
 ⟨λi H=>H a=a_ (iW a xs ep)/\i<xs.length,λi H v H'=>∃x,v=.ref x.2.1/\xs[i]?=a_ x/\H'=H,λi H=>H a=a_ (iW a xs ep)/\xs.length<=i⟩
theorem EM(a q:h_)(xs:bA)(ep:Nat):Turn P w K tg (ItKK a xs ep) [q] q (λi h=>h.IsKeyIter q a i xs.length ep) where
 mem:=by simp
 obj:=λi h st b B=>by
  obtain⟨o,e,c,d⟩:=st
  simp_all
 keep:=λi h h' st l=>let ⟨o,e,r⟩:=st;⟨o,l q ad _ e,r⟩
 item:=by
  rintro X t hw u k i B1 s σ H E I S st ⟨f,hi⟩;obtain⟨vs,es,g,p,hz,z,j,hsz⟩:=ku I f;rw[<- hsz]at st;obtain⟨f0,f1,f2,f3,f4,f5⟩:=S q ad;have Y:i<es.size:=ac
  obtain⟨x,m,n,v⟩:=vj (i:=i) (e:=es[i]) g (by rw[<- j];simp[Y]);refine nY st z (e:=es[i]) ad λh' U sb=>?_;obtain⟨o,e,c,d⟩:=id U;exact⟨_,rfl,GR e c d am ⟨.ref x.2.1,H,(I.turned (t':=s.toks) (λb o B e=>(sb.2 b B).trans e) f0 f1 f3 f4 f5),n,⟨x,rfl,m,rfl⟩,a7,λb B=>(S b B).1⟩⟩
 done:=by rintro X t hw u k i B1 s σ H E I S st ⟨f,hi⟩;obtain⟨vs,es,g,p,hz,z,j,hsz⟩:=ku I f;rw[<- hsz]at st;obtain⟨f0,f1,f2,f3,f4,f5⟩:=S q ad;exact rM (I.ok.hd k) st z ac λh' eb=>⟨rfl,I.turned (λb o B e=>eb b o B e) f0 f1 f3 f4 f5⟩
 self:=λ_ _ _ _ _ st h=>N9 st h
noncomputable def Ce:A'->M be
 |.dic ks=>.ok (ks.map λp=>.tup (p.1.map .int))|_=>.error .stuck
def uE(fd:b6):ce:=λρ=>(fd ρ).bind Ce
@[simp]def e_keysK{fd:b6}{ρ:ab}:uE fd ρ=(fd ρ).bind Ce:=id rfl
@[simp]def Cy(ks:List (a9×A')):Ce (.dic ks)=.ok (ks.map λp=>.tup (p.1.map .int)):=id rfl
theorem GC{xs:bA}(I:F a=a_ (iW a xs ep))(z:bp K F ks xs):mC K F (ItKK a xs ep) (ks.map λp=>.tup (p.1.map .int)) where
 go:=λi F' H' s1 s2 hi=>⟨s2 _ _ (s1 _ _ I),by rw[z.length];simp_all⟩
 yl:=λi F' H' x H2 d s1 s2 B S=>by
  obtain⟨y,ev,U,b⟩:=S;subst ev b;obtain⟨k,f,h1,Y,c⟩:=z.get U;rw[E_,h1]at B;have e:=by simpa using B.symm
  subst e;exact⟨F',B2.refl s2,y.2.1,_,rfl,s1.tup Y,dw k⟩
 st:=λF' H' s1 s2=>⟨s2 _ _ (s1 _ _ I),by simp[z.length]⟩
def iKeys(td:TE):TI:=λσ H R=>td σ H λx H2=>∃a xs ep,x=.ref a/\H2 a=a_ (iW a xs ep)/\R (ItKK a xs ep) H2
theorem ri_keys{W:bY}{fd:b6}{R:It->Hp->Prop}(h:iD K W (uE fd) σ H R):iKeys (tD K W cm fd) σ H R:=by
 obtain⟨F,ρ,r,s,p⟩:=h;refine aD r s (λe U=>?_) λd S x F1 H1 s1 q1=>?_
 .simp_all[uE]
 .simp[uE,S]at p;cases d with
  |dic ks=>obtain⟨a,xs,e,⟨ep,B⟩,I⟩:=q1;exact⟨a,xs,ep,e,s1.fh _ _ B,p _ F1 _ s1 (GC B I)⟩
  |_=>exact(W.ns p).elim
theorem di_keysK{W:bY}{o:Jj}{fd:b6}(Y:DE K W cm X o fd):DI K W X tg o (uE fd):=by
 refine PI.imp ?_ λ_ _ _=>ri_keys;intro B1 s σ H R I h;refine B' (Y B1 s σ H _ I h) λv s1 U=>?_;obtain⟨y,H1,B,S,a,xs,ep,ex,f,q1⟩:=U;subst ex;cases(show v=s_ a from S);obtain⟨vs,es,g,c,hz,z,i,hsz⟩:=ku B f;refine o8 c z ⟨s1.z,[s1.z],_,_,H1,rfl,B.kept λb o e=>c_ _ e,EM a _ xs ep,⟨_,i_ _ rfl,rfl,a7⟩,λb d=>?_,q1⟩;have e:=by simpa using d
 subst e;exact B.Ew (f_ _) (B.hok.fresh (f_ _))
@[simp]def Hf(ds:be):dictA [.lst ds]=(fj ds).bind λps=>.ok (.dic (GX ps)):=id rfl
section
open PySem.W hiding kindOf
noncomputable def kH:Bool->Ji->Array Ji->Nat->Nat->Nat->KV Ir Nl (Option Nat):=sortPriv% PySem.Builtin.gallop
noncomputable def pP:Array Ji->Array Ji->KV Ir Nl (Array Ji):=sortPriv% PySem.Builtin.mergeLo
noncomputable def pQ:Array Ji->Array Ji->KV Ir Nl (Array Ji):=sortPriv% PySem.Builtin.mergeHi
structure Bd{β:Type}(m:KV Ir Nl β) where
 {α:Type}
 {x:KV Ir Nl α}
 {k:α->KV Ir Nl β}
 e:m=x >>= k
structure Ic{β:Type}(m:KV Ir Nl β) where
 {c:Prop}
 {d:Ri c}
 {t:KV Ir Nl β}
 {f:KV Ir Nl β}
 e:m=@ite _ c d t f
structure Lp{β:Type}(m:KV Ir Nl β) where
 {α:Type}
 {a:Nat}
 {b:Nat}
 {c:α}
 {F:Nat->α->KV Ir Nl (MY α)}
 {k:α->KV Ir Nl β}
 e:m=RN [a:b] c F >>= k
variable{s:j_}{f:Nat->Ji}{key:Nat->Int}
section
variable{M:Rz}{m:KV Ir Nl β}{Q:β->Ir->Prop}
def fX(B:Bd m)(h:Me M A E s B.x (λa I=>Me M A E s (B.k a) Q I) st):Me M A E s m Q st:=by exact B.e▸J8 h
theorem i5(B:Ic m)(h1:B.c->Me M A E s B.t Q st)(I:¬B.c->Me M A E s B.f Q st):Me M A E s m Q st:=by
 rw[B.e]
 lia
def wp_l(B:Lp m)(I:Nat->B.α->Ir->Prop){R:B.α->Ir->Prop}(hi:I B.a B.c st)(Y:∀i c st,B.a<=i->i<B.b->I i c st->Me M A E s (B.F i c) (λr S=>match r with|.done U=>R U S|.yield U=>I (i+1) U S) st)(b:∀c st,I (Sb B.a B.b) c st->R c st)(a:∀c st,R c st->Me M A E s (B.k c) Q st):Me M A E s m Q st:=by exact B.e▸J8 (RB (wpS_forRange I (λi c st h1 e d=>RB (Y i c st h1 e d) λr S h=>by cases r<;>exact h) b hi) a)
theorem zS(B:Lp m)(I:Nat->B.α->Prop){R:B.α->Prop}(hi:I B.a B.c)(b:∀i c,B.a<=i->i<B.b->I i c->∀W:MY B.α->Ir->Prop,(∀U,R U->W (.done U) st)->(∀U,I (i+1) U->W (.yield U) st)->Me M A E s (B.F i c) W st)(a:∀c,I (Sb B.a B.b) c->R c)(Y:∀c,R c->Me M A E s (B.k c) Q st):Me M A E s m Q st:=
 wp_l B (λi c S=>S=st/\I i c) (R:=λc S=>S=st/\R c) ⟨rfl,hi⟩ (λi c S h1 d ⟨e,h⟩=>by simp_all) (λc _ ⟨e,h⟩=>⟨e,a c h⟩) λc _ ⟨e,h⟩=>e▸Y c h
end
def wL(prog:IQ)(w:JX)(A:Kb)(E:Mq)(s:j_)(κ:Qn)(f:Nat->Ji)(key:Nat->Int)(n:Nat):Prop:=
 ∀i j (Q:Option Bool->Ir->Prop) st,i<n->j<n->MF st=κ->Q (a_ (ltK key i j)) st->Me (u_ prog w) A E s (lt' (f i) (f j)) Q st
def InN(n:Nat)(p:bi):Prop:=∀x∈p,x<n
def bj{l:bi}{x:Nat}{Q:Ji->Ir->Prop}(B:l[i]?=a_ x)(h:Q (f x) st):Me (u_ prog w) A E s (RE (l.map f).toArray i) Q st:=by rw[elem'_eq];simp[B];exact z_ h
def at_of(h:i<p.length):p[i]?=a_ (p.getD i 0):=by simp[h]
def InN.at(B:InN n p)(h:i<p.length):p.getD i 0<n:=B _ (Jd (at_of h))
section
variable(l:Bool)(q:Ji)(r:Array Ji)(b m h:Nat)
noncomputable def G0:Bd (kH l q r b m h):=⟨rfl⟩
noncomputable def GaT:Lp ((G0 l q r b m h).k (a_ e_)):=⟨rfl⟩
noncomputable def GaF:Lp ((G0 l q r b m h).k (a_ cm)):=⟨rfl⟩
noncomputable def GtI(x c):Ic ((GaT l q r b m h).F x c):=⟨rfl⟩
noncomputable def GtB(x c):Bd (GtI l q r b m h x c).f:=⟨rfl⟩
noncomputable def GfI(x c):Ic ((GaF l q r b m h).F x c):=⟨rfl⟩
noncomputable def GfB(x c):Bd (GfI l q r b m h x c).f:=⟨rfl⟩
noncomputable def GtL(a o:Nat):Lp ((GaT l q r b m h).k (d_,a,o)):=⟨rfl⟩
noncomputable def GcI(a o x c):Ic ((GtL l q r b m h a o).F x c):=⟨rfl⟩
noncomputable def GcB(a o x c):Bd (GcI l q r b m h a o x c).f:=⟨rfl⟩
end
section
variable{m h x a o:Nat}
def MoB(bd:Nat->Bool)(m:Nat):Prop:=∀i j,i<=j->j<m->bd j=e_->bd i=e_
theorem MoB.fl(M:MoB bd m)(B:i<=j)(I:j<m)(e:bd i=cm):bd j=cm:=by
 have:=M i j B I
 grind
structure Bn(bd:Nat->Bool)(m x a o:Nat):Prop where
 l1:a<=o
 l2:o<=m
 l3:o-a+x<=m
 y1:∀i,i<a->bd i=e_
 y2:∀i,o<=i->i<m->bd i=cm
theorem yc(e:¬a>=o):a<=a+(o-a)/2/\a+(o-a)/2<o:=ac
theorem Bn.up{c:Nat}(M:MoB bd m)(h:Bn bd m x a o)(h1:a<=c)(B:c<o)(I:bd c=e_):Bn bd m (x+1) (c+1) o:=
 ⟨B,h.l2,by have:=h.l3;lia,λi hi=>M i _ (OC hi) (y_ B h.l2) I,h.y2⟩
theorem Bn.dn{c:Nat}(M:MoB bd m)(h:Bn bd m x a o)(h1:a<=c)(B:c<o)(I:bd c=cm):Bn bd m (x+1) a c:=
 ⟨h1,B_ (IY B) h.l2,by have:=h.l3;lia,h.y1,λi h1 B=>M.fl h1 B I⟩
theorem Bn.ends(h:Bn bd m (Sb 0 m) a o):o<=a:=by
 have:=h.l3
 lia
structure GUp(bd:Nat->Bool)(m h a o:Nat)(P:Prop):Prop where
 g1:bd (h+a)=e_
 g2:a<o
 g3:a<m-h
 g4:P
theorem GUp.bn(M:MoB bd m)(U:GUp bd m h a o (o<m-h->bd (h+o)=cm)):Bn bd m 0 (h+a+1) (h+min o (m-h)):=by
 obtain⟨t,e1,e2,e3⟩:=U;have:h+a<m:=ac
 refine⟨ac,ac,ac,λi hi=>M i _ (OC hi) this t,λi h1 B=>?_⟩
 have:o<m-h:=ac
 exact M.fl ac B (e3 this)
structure GDn(bd:Nat->Bool)(m h a o:Nat)(P:Prop):Prop where
 g1:bd (h-a)=cm
 g2:a<o
 g3:a<h+1
 g4:P
theorem GDn.bn(M:MoB bd m)(I:h<m)(U:GDn bd m h a o (o<h+1->bd (h-o)=e_)):Bn bd m 0 (h+1-min o (h+1)) (h-a):=by
 obtain⟨t,e1,e2,e3⟩:=U;refine⟨ac,ac,ac,λi hi=>?_,λi h1 B=>M.fl h1 B t⟩
 have:o<h+1:=ac
 exact M i _ ac ac (e3 this)
theorem Bl(h:x+1<=o):o<2*o+1/\x+1+1<=2*o+1:=ac
theorem in_ok(e:¬o>=m-h):h+o<m/\o<m-h:=ac
end
def ED(L:wL prog w A E s κ f key n){I:Bool}{q:Nat}{base m:Nat}{Q:Option Nat->Ir->Prop}(z:q<n)(C:InN n p)(F:base+m<=p.length)(l:hint<m)(D:MF st=κ)(v:∀i,bd i=if I=e_ then ltK key (p.getD (base+i) 0) q else !ltK key q (p.getD (base+i) 0))(M:MoB bd m)(h:∀k,k<=m->(∀i,i<k->bd i=e_)->(∀i,k<=i->i<m->bd i=cm)->Q (a_ k) st):
  Me (u_ prog w) A E s (kH I (f q) (p.map f).toArray base m hint) Q st:=by
 have S:∀(i:Nat) (R:Option Bool->Ir->Prop),i<m->R (a_ (bd i)) st->Me (u_ prog w) A E s (G0 I (f q) (p.map f).toArray base m i).x R st:=λi R hi j=>by
  have u:=y_ (Mr hi _) F;refine J8 (bj (at_of u) ?_);rw[v]at j;cases I with
  |true=>exact L _ _ _ _ (C.at u) z D j|false=>exact J8 (L _ _ _ _ z (C.at u) D (z_ j))
 have r:∀a o lo hi,Bn bd m 0 lo hi ->
   Me _ A E s (RN [0:m] (d_,lo,hi) (GtL I (f q) (p.map f).toArray base m hint a o).F >>= (GtL I (f q) (p.map f).toArray base m hint a o).k) Q st:=λa o lo hi B=>
  zS ⟨rfl⟩ (λx c=>c.1=d_/\Bn bd m x c.2.1 c.2.2) (R:=λc=>c.1=d_/\Q (a_ c.2.2) st) ⟨rfl,B⟩ (λx c _ y ⟨b,B⟩ W d g=>
    i5 (GcI I (f q) (p.map f).toArray base m hint a o x c) (λe=>z_ (d _ ⟨rfl,h _ B.l2 (λi hi=>B.y1 i (y_ hi e)) B.y2⟩)) λe=>fX (GcB ..) (S _ _ (y_ (yc e).2 B.l2) (by
     cases Y:bd _ with
     |true=>exact z_ (g _ ⟨rfl,B.up M (yc e).1 (yc e).2 Y⟩)|false=>exact z_ (g _ ⟨rfl,B.dn M (yc e).1 (yc e).2 Y⟩)))) (λc ⟨b,B⟩=>⟨b,h _ B.l2 (λi hi=>B.y1 i (y_ hi (Bn.ends B))) B.y2⟩) λ⟨_,lo,hi⟩ ⟨e,G⟩=>by
    cases e;exact z_ G
 refine fX _ (S _ _ l ?_);cases j:bd hint with
 |true=>
  refine zS (GaT ..) (λx c=>c.1=d_/\GUp bd m hint c.2.1 c.2.2 (x+1<=c.2.2)) (R:=λc=>c.1=d_/\GUp bd m hint c.2.1 c.2.2 (c.2.2<m-hint->bd (hint+c.2.2)=cm)) ⟨rfl,j,QI,MR l,f_ _⟩ (λx c _ y ⟨b,U⟩ W d g=>?_) (λc ⟨b,U⟩=>⟨b,U.g1,U.g2,U.g3,λe=>(IA e (OV (B_ (MH m hint) (B_ (RL 0 m) (OB U.g4)))))⟩) λ⟨_,t,o⟩ ⟨e,U⟩=>?_
  .refine i5 (GtI ..) (λe=>z_ (d _ ⟨rfl,U.g1,U.g2,U.g3,λh=>IA e (RG h)⟩)) λe=>fX (GtB ..) (S _ _ (in_ok e).1 ?_);cases Y:bd (hint+c.2.2)with
   |true=>exact z_ (g _ ⟨rfl,Y,(Bl U.g4).1,(in_ok e).2,(Bl U.g4).2⟩)|false=>exact z_ (d _ ⟨rfl,U.g1,U.g2,U.g3,λ_=>Y⟩)
  .cases e;exact r t o _ _ (U.bn M)
 |false=>
  refine zS (GaF ..) (λx c=>c.1=d_/\GDn bd m hint c.2.1 c.2.2 (x+1<=c.2.2)) (R:=λc=>c.1=d_/\GDn bd m hint c.2.1 c.2.2 (c.2.2<hint+1->bd (hint-c.2.2)=e_)) ⟨rfl,j,QI,Nat.succ_pos _,f_ _⟩ (λx c _ y ⟨b,U⟩ W d g=>?_) (λc ⟨b,U⟩=>⟨b,U.g1,U.g2,U.g3,λe=>(IA (y_ e l) (OV (B_ (RL 0 m) (OB U.g4))))⟩) λ⟨_,t,o⟩ ⟨e,U⟩=>?_
  .refine i5 (GfI ..) (λe=>z_ (d _ ⟨rfl,U.g1,U.g2,U.g3,λh=>IA e (RG h)⟩)) λe=>fX (GfB ..) (S _ _ (Kk (MH ..) l) ?_);cases Y:bd (hint-c.2.2)with
   |false=>exact z_ (g _ ⟨rfl,Y,(Bl U.g4).1,RJ e,(Bl U.g4).2⟩)|true=>exact z_ (d _ ⟨rfl,U.g1,U.g2,U.g3,λ_=>Y⟩)
  .cases e;exact r t o _ _ (U.bn M l)
structure Bt{β:Type}(m:KV Ir Nl β) where
 {x:KV Ir Nl Ji}
 {y:KV Ir Nl Ji}
 {k:Ji->Ji->Option Bool->KV Ir Nl β}
 e:m=x >>=λu=>y >>=λv=>lt' u v >>=λr=>k u v r
noncomputable def qx0:Ji:=(.none,.none)
noncomputable def qg0:Ir:=Mp oneType' #[] #[] 0 d_
section
variable(a b:Array Ji)
noncomputable def qL0:Bd (pP a b):=⟨rfl⟩
noncomputable def qL1:Bd ((qL0 a b).k ()):=⟨rfl⟩
noncomputable def qL2(x):Ic ((qL1 a b).k x):=⟨rfl⟩
noncomputable def qL3(x):Ic (qL2 a b x).f:=⟨rfl⟩
noncomputable def qL4(x):Bd (qL3 a b x).f:=⟨rfl⟩
noncomputable def qL5(x g):Lp ((qL4 a b x).k g):=⟨rfl⟩
section
variable(o:Array Ji)(p q r:Nat)
noncomputable def qL6:Lp ((qL5 a b qx0 qg0).F 0 (d_,o,p,q,r)):=⟨rfl⟩
end
variable(o:Array Ji)(p q r s t:Nat)
noncomputable def qL7:Bt ((qL6 a b #[] 0 0 r).F 0 (d_,o,p,q,s,t)):=⟨rfl⟩
noncomputable def qL8:Bd ((qL7 a b o p q r s t).k qx0 qx0 (a_ e_)):=⟨rfl⟩
noncomputable def qL9:Bd ((qL7 a b o p q r s t).k qx0 qx0 (a_ cm)):=⟨rfl⟩
noncomputable def qL8a(y):Ic ((qL8 a b o p q r s t).k y):=⟨rfl⟩
noncomputable def qL8b(y):Ic (qL8a a b o p q r s t y).f:=⟨rfl⟩
noncomputable def qL9a(y):Ic ((qL9 a b o p q r s t).k y):=⟨rfl⟩
noncomputable def qL9b(y):Ic (qL9a a b o p q r s t y).f:=⟨rfl⟩
noncomputable def qLa:Bd ((qL6 a b #[] 0 0 r).k (d_,o,p,q,s,t)):=⟨rfl⟩
noncomputable def qLb:Lp ((qLa a b o p q r s t).k ()):=⟨rfl⟩
noncomputable def qLc:Ic ((qLb a b #[] 0 0 0 0 0).F 0 (d_,o,p,q,r,s,t)):=⟨rfl⟩
noncomputable def qLd:Bd (qLc a b o p q r s t).f:=⟨rfl⟩
noncomputable def qLe:Bd ((qLd a b o p q r s t).k ()):=⟨rfl⟩
noncomputable def qLf(y):Bd ((qLe a b o p q r s t).k y):=⟨rfl⟩
noncomputable def qLg(k):Ic ((qLf a b o p q r s t qx0).k (a_ k)):=⟨rfl⟩
noncomputable def qLg1(k):Ic (qLg a b o p q r s t k).t:=⟨rfl⟩
noncomputable def qLg2(k):Ic (qLg1 a b o p q r s t k).f:=⟨rfl⟩
noncomputable def qLh(k):Bd (qLg a b o p q r s t k).f:=⟨rfl⟩
noncomputable def qLi(k y):Ic ((qLh a b o p q r s t k).k y):=⟨rfl⟩
noncomputable def qLj(k y):Bd (qLi a b o p q r s t k y).f:=⟨rfl⟩
noncomputable def qLk(k y z):Bd ((qLj a b o p q r s t k y).k z):=⟨rfl⟩
noncomputable def qLl(k y l):Ic ((qLk a b o p q r s t k y qx0).k (a_ l)):=⟨rfl⟩
noncomputable def qLm(k y l):Ic (qLl a b o p q r s t k y l).t:=⟨rfl⟩
noncomputable def qLz(k l:Nat):KV Ir Nl (MY (Option (Array Ji)×Array Ji×Nat×Nat×Nat×Nat×Nat)):=
 RE a p >>=λz=>if (p+1+1==a.size)=e_ then JM (.done (a_ (o.push z++b.extract q b.size++a.extract (p+1) a.size),o.push z,p+1,q,r,k,l))
  else if (m_ (k<7)&&m_ (l<7))=e_ then JM (.done (d_,o.push z,p+1,q,r,k,l))else JM (.yield (d_,o.push z,p+1,q,r,k,l))
end
def Srt(key:Nat->Int)(l:bi):Prop:=l.Pairwise λx y=>key x<=key y
def Srt.sub{l r:bi}(h:Srt key l)(B:r.Sublist l):Srt key r:=SR B h
theorem Srt.hd{l:bi}(h:Srt key (l.drop i))(hi:i<l.length):∀y∈l.drop i,key (l.getD i 0)<=key y:=λy B=>by
 rw[Js hi]at h B;simp[Jk,hi,getElem?_pos];rcases x_.mp B with e|e
 .simp_all
 .exact(Kh.mp h).1 y e
structure MI(key:Nat->Int)(all out xs ys:bi):Prop where
 perm:(out++(xs++ys)).Perm all
 so:Srt key out
 sx:Srt key xs
 sy:Srt key ys
 ox:∀x∈out,∀y∈xs,key x<=key y
 oy:∀x∈out,∀y∈ys,key x<=key y
theorem MI.left{S u xs:bi}(h:MI key S out (u++xs) ys)(b:∀a∈u,∀y∈ys,key a<=key y):MI key S (out++u) xs ys:=by
 obtain⟨h1,f,U,d,Y,c⟩:=h;unfold Srt at *;rw[IW]at U;refine⟨a7,IW.mpr ⟨f,U.1,λx I y B=>Y x I y (Jq _ B)⟩,U.2.1,d,λx I y B=>?_,λx I y B=>?_⟩
 .rcases Iw.mp I with e|e
  .exact Y x e y (Im _ B)
  .exact U.2.2 x e y B
 .rcases Iw.mp I with e|e
  .exact c x e y B
  .exact b x e y B
def MI.right{S u xs:bi}(h:MI key S out xs (u++ys))(b:∀a∈u,∀y∈xs,key a<=key y):MI key S (out++u) xs ys:=by
 obtain⟨h1,f,d,U,c,Y⟩:=h;unfold Srt at *;rw[IW]at U;refine⟨?_,IW.mpr ⟨f,U.1,λx I y B=>Y x I y (Jq _ B)⟩,d,U.2.1,λx I y B=>?_,λx I y B=>?_⟩
 .refine List.Perm.trans ?_ h1;rw[IG];refine List.Perm.append_left _ ?_;rw[<- IG,<- IG];exact List.Perm.append_right _ List.perm_append_comm
 .rcases Iw.mp I with e|e
  .exact c x e y B
  .exact b x e y B
 .rcases Iw.mp I with e|e
  .exact Y x e y (Im _ B)
  .exact U.2.2 x e y B
theorem MI.done{B xs:bi}(h:MI key B out xs ys)(U:∀a∈xs,∀y∈ys,key a<=key y):(out++xs++ys).Perm B/\Srt key (out++xs++ys):=by have h1:=MI.left (by rw[J1];exact h) U;have I:=MI.right (by rw[J1];exact h1) (λ_ _ _ S=>IA S JN);exact⟨by have:=I.perm;simp_all,I.so⟩
theorem MI.done2{B xs:bi}(h:MI key B out xs ys)(U:∀a∈ys,∀y∈xs,key a<=key y):(out++ys++xs).Perm B/\Srt key (out++ys++xs):=by have h1:=MI.right (by rw[J1];exact h) U;have I:=MI.left (by rw[J1];exact h1) (λ_ _ _ S=>IA S JN);exact⟨by have:=I.perm;simp_all,I.so⟩
def bM(st B:Ir):Prop:=∃g,B=Mp (MF st) (OI st) (Iq st) g (Of st)
def bM.refl(st:Ir):bM st st:=⟨gallopOf st,rfl⟩
def bM.trans{a b c:Ir}(h:bM a b)(k:bM b c):bM a c:=by obtain⟨g,rfl⟩:=h;obtain⟨g',rfl⟩:=k;exact⟨g',rfl⟩
def bM.kind{a b:Ir}(h:bM a b):MF b=MF a:=by obtain⟨g,rfl⟩:=h;rfl
noncomputable def uZ:Nat->KV Ir Nl Unit:=sortPriv% PySem.Builtin.setMinGallop
def EH{g:Nat}{Q:Unit->Ir->Prop}(h:∀B,bM st B->Q () B):Me (u_ prog w) A E s (uZ g) Q st:=LX (h _ ⟨_,rfl⟩)
def pX(o:bi)(x:Nat):(o.map f).toArray.push (f x)=((o++[x]).map f).toArray:=by simp
def wG(p:bi)(i:Nat):(p.map f).toArray.extract i (p.map f).toArray.size=((p.drop i).map f).toArray:=by simp[J9]
def wH(p:bi)(i j:Nat):(p.map f).toArray.extract i j=(((p.drop i).take (j-i)).map f).toArray:=by simp
def kY(o p:bi):(o.map f).toArray++(p.map f).toArray=((o++p).map f).toArray:=by simp
def zN(f:Nat->Ji)(key:Nat->Int)(B:bi)(r:Array Ji):Prop:=∃o:bi,r=(o.map f).toArray/\o.Perm B/\Srt key o
def JL(f:Nat->Ji)(key:Nat->Int)(pa pb:bi)(r:Array Ji)(ia ib:Nat):Prop:=∃o:bi,r=(o.map f).toArray/\MI key (pa++pb) o (pa.drop ia) (pb.drop ib)
section
variable{r:Array Ji}
def JL.ak(h:JL f key pa pb r ia ib)(B:∀x∈(pa.drop ia).take k,∀y∈pb.drop ib,key x<=key y):JL f key pa pb (r++(pa.map f).toArray.extract ia (ia+k)) (ia+k) ib:=by
 obtain⟨o,rfl,m⟩:=h;refine⟨o++(pa.drop ia).take k,ad,MI.left ?_ B⟩
 rw[<- My,JC];exact m
def JL.bk(h:JL f key pa pb r ia ib)(B:∀x∈(pb.drop ib).take k,∀y∈pa.drop ia,key x<=key y):JL f key pa pb (r++(pb.map f).toArray.extract ib (ib+k)) ia (ib+k):=by
 obtain⟨o,rfl,m⟩:=h;refine⟨o++(pb.drop ib).take k,ad,MI.right ?_ B⟩
 rw[<- My,JC];exact m
theorem drop_at{l:bi}(hi:i<l.length):l.drop i=l.getD i 0::l.drop (i+1):=by simp_all
theorem JL.a1(h:JL f key pa pb r ia ib)(hi:ia<pa.length)(I:∀y∈pb.drop ib,key (pa.getD ia 0)<=key y):JL f key pa pb (r.push (f (pa.getD ia 0))) (ia+1) ib:=by
 obtain⟨o,rfl,m⟩:=h;refine⟨o++[pa.getD ia 0],pX ..,MI.left a7 λx B=>?_⟩
 exact(Ki.mp B)▸I
theorem JL.b1(h:JL f key pa pb r ia ib)(hi:ib<pb.length)(I:∀y∈pa.drop ia,key (pb.getD ib 0)<=key y):JL f key pa pb (r.push (f (pb.getD ib 0))) ia (ib+1):=by
 obtain⟨o,rfl,m⟩:=h;refine⟨o++[pb.getD ib 0],pX ..,MI.right a7 λx B=>?_⟩
 exact(Ki.mp B)▸I
theorem JL.fin(h:JL f key pa pb r ia ib)(e:ia=pa.length\/ib=pb.length):zN f key (pa++pb) (r++(pa.map f).toArray.extract ia (pa.map f).toArray.size++(pb.map f).toArray.extract ib (pb.map f).toArray.size):=by
 obtain⟨o,rfl,m⟩:=h;rw[wG,wG,kY,kY];refine⟨_,rfl,MI.done m λx I y B=>?_⟩
 grind
theorem JL.last(h:JL f key pa pb r ia ib)(S:∀y∈pb,key y<=key (pa.getD (pa.length-1) 0))(e:ia+1=pa.length):zN f key (pa++pb) (r++(pb.map f).toArray.extract ib (pb.map f).toArray.size++(pa.map f).toArray.extract ia (pa.map f).toArray.size):=by
 obtain⟨o,rfl,m⟩:=h;rw[wG,wG,kY,kY];refine⟨_,rfl,MI.done2 m λx I y B=>?_⟩
 grind[drop_at,Ki.mp]
theorem JL.sx(h:JL f key pa pb r ia ib):Srt key (pa.drop ia):=let ⟨_,_,m⟩:=h;m.sx
theorem JL.sy(h:JL f key pa pb r ia ib):Srt key (pb.drop ib):=let ⟨_,_,m⟩:=h;m.sy
structure CL(f:Nat->Ji)(key:Nat->Int)(pa pb:bi)(t:Nat)(r:Array Ji)(ia ib:Nat):Prop where
 j:JL f key pa pb r ia ib
 a:ia+1<pa.length
 b:ib<pb.length
 t:t<=ia+ib
end
theorem Bk(L:wL prog w A E s κ f key n){B:Bool}{q:Nat}{p:bi}{base m:Nat}{Q:Option Nat->Ir->Prop}(l:q<n)(o:InN n p)(v:base+m<=p.length)(u:hint<m)(t:MF st=κ)(d:Srt key ((p.drop base).take m))(h:∀k,k<=m->(∀x∈((p.drop base).take m).take k,(if B=e_ then ltK key x q else !ltK key q x)=e_)->(∀x∈((p.drop base).take m).drop k,(if B=e_ then ltK key x q else !ltK key q x)=cm)->Q (a_ k) st):
  Me (u_ prog w) A E s (kH B (f q) (p.map f).toArray base m hint) Q st:=by
 have S:∀i,i<m->((p.drop base).take m)[i]?=a_ (p.getD (base+i) 0):=λi hi=>by
  have:base+i<p.length:=ac
  simp[hi,this]
 have hz:((p.drop base).take m).length<=m:=List.length_take_le ..;generalize (p.drop base).take m=z at d h S hz;refine ED L l o v u t (λ_=>rfl) (λi j I g e=>?_) λk a h1 y=>h k a (λx U=>?_) (λx U=>?_)
 .obtain⟨c,D⟩:=oe.mp (S i (Kk I g));obtain⟨b,C⟩:=oe.mp (S j g);have r:key z[i]<=key z[j]:=by
   rcases Nat.lt_or_eq_of_le I with Y|rfl
   .exact KL.mp d i j c b Y
   .simp
  grind[ltK]
 .obtain⟨i,hi,rfl⟩:=N0 U;rw[JO]at hi;rw[Rf,(oe.mp (S i ac)).2];exact h1 i ac
 .obtain⟨i,hi,rfl⟩:=N0 U;rw[LB]at hi;rw[List.getElem_drop,(oe.mp (S _ ac)).2];exact y _ (Ky _ _) ac
theorem EF(L:wL prog w A E s κ f key n){B:Bool}{q:Nat}{p:bi}{base:Nat}{Q:Option Nat->Ir->Prop}(I:q<n)(S:InN n p)(c:base<p.length)(Y:MF st=κ)(b:Srt key (p.drop base))(h:∀k,base+k<=p.length->(∀x∈(p.drop base).take k,(if B=e_ then ltK key x q else !ltK key q x)=e_)->(∀x∈p.drop (base+k),(if B=e_ then ltK key x q else !ltK key q x)=cm)->Q (a_ k) st):
  Me (u_ prog w) A E s (kH B (f q) (p.map f).toArray base ((p.map f).toArray.size-base) 0) Q st:=by
 have z:(p.map f).toArray.size=p.length:=by simp
 rw[z];have e:(p.drop base).take (p.length-base)=p.drop base:=J9 ad;refine Bk L I S ac ac Y a7 λk U h1 a=>h k ac ?_ ?_
 .rwa [e]at h1
 .rwa [e,My]at a
def wp_t{M:Rz}{m:KV Ir Nl β}{Q:β->Ir->Prop}(B:Bt m)(h:Me M A E s B.x (λu st=>Me M A E s B.y (λv st=>Me M A E s (lt' u v) (λr st=>Me M A E s (B.k u v r) Q st) st) st) st):Me M A E s m Q st:=by exact B.e▸J8 (RB h λ_ _ h=>J8 (RB h λ_ _ h=>J8 h))
theorem uV{p:bi}(e:(i==(p.map f).toArray.size)=e_):i=p.length:=by simp_all
theorem oZ{p:bi}(e:¬(i==(p.map f).toArray.size)=e_):i≠p.length:=by simp_all
section
variable{r:Array Ji}{t:Nat}
def CL.wb(h:CL f key pa pb t r ia ib)(hw:ltK key (pb.getD ib 0) (pa.getD ia 0)=e_):JL f key pa pb (r.push (f (pb.getD ib 0))) ia (ib+1):=
 h.j.b1 h.b λy B=>Ka (Kv (N6 hw)) (h.j.sx.hd (JD h.a) y B)
def CL.wa(h:CL f key pa pb t r ia ib)(hw:ltK key (pb.getD ib 0) (pa.getD ia 0)=cm):JL f key pa pb (r.push (f (pa.getD ia 0))) (ia+1) ib:=
 h.j.a1 (JD h.a) λy B=>Ka (Oi.mp (of_decide_eq_false hw)) (h.j.sy.hd h.b y B)
def CL.nb(h:CL f key pa pb t r ia ib)(j:JL f key pa pb r' ia (ib+1))(e:ib+1≠pb.length):CL f key pa pb (t+1) r' ia (ib+1):=⟨j,h.a,IJ h.b e,Kx h.t⟩
theorem CL.na(h:CL f key pa pb t r ia ib)(j:JL f key pa pb r' (ia+1) ib)(e:ia+1+1≠pa.length):CL f key pa pb (t+1) r' (ia+1) ib:=⟨j,IJ h.a e,h.b,by have:=h.t;lia⟩
def CL.le(h:CL f key pa pb t r ia ib)(e:t'<=t):CL f key pa pb t' r ia ib:=⟨h.j,h.a,h.b,B_ e h.t⟩
theorem CL.no{u:Nat}(h:CL f key pa pb (u+Sb 0 ((pa.map f).toArray.size+(pb.map f).toArray.size)) r ia ib):False:=by
 obtain⟨_,h1,I,B⟩:=h;simp at B
 lia
def gal_a(h:JL f key pa pb r ia ib)(U:ib<pb.length)(B:∀x∈(pa.drop ia).take k,(if cm=e_ then ltK key x (pb.getD ib 0)else !ltK key (pb.getD ib 0) x)=e_):JL f key pa pb (r++(pa.map f).toArray.extract ia (ia+k)) (ia+k) ib:=
 h.ak λx S y I=>Ka (by simpa[ltK] using B x S) (h.sy.hd U y I)
def gal_b(h:JL f key pa pb r ia ib)(U:ia<pa.length)(B:∀x∈(pb.drop ib).take k,(if e_=e_ then ltK key x (pa.getD ia 0)else !ltK key (pa.getD ia 0) x)=e_):JL f key pa pb (r++(pb.map f).toArray.extract ib (ib+k)) ia (ib+k):=
 h.bk λx S y I=>Ka (Kv (by simpa[ltK] using B x S)) (h.sx.hd U y I)
end
theorem lo_turn(L:wL prog w A E s κ f key n){o:Array Ji}{p q g u v t:Nat}{W:MY (Option (Array Ji)×Array Ji×Nat×Nat×Nat×Nat×Nat)->Ir->Prop}(na:InN n pa)(nb:InN n pb)(K:MF st=κ)(H:∀y∈pb,key y<=key (pa.getD (pa.length-1) 0))(J:CL f key pa pb t o p q)(d:∀r c I,bM st I->zN f key (pa++pb) r->W (.done (a_ r,c)) I)(Q:∀o p q c I,bM st I->CL f key pa pb t o p q->W (.done (d_,o,p,q,c)) I)(P:∀o p q c I,bM st I->CL f key pa pb (t+1) o p q->W (.yield (d_,o,p,q,c)) I):
  Me (u_ prog w) A E s ((qLb (pa.map f).toArray (pb.map f).toArray #[] 0 0 0 0 0).F 0 (d_,o,p,q,g,u,v)) W st:=by
 have N:∀g,Me (u_ prog w) A E s (qLc (pa.map f).toArray (pb.map f).toArray o p q g u v).f W st:=λg=>by
  refine fX (qLd _ _ o p q g u v) (EH λh B=>fX (qLe _ _ o p q g u v) (bj (at_of J.b) (fX (qLf _ _ o p q g u v _) (EF L (nb.at J.b) na (JD J.a) (B.kind.trans K) J.j.sx λk C a i=>?_))));have Y:∀o p,JL f key pa pb o p q->(∀x∈pa.drop p,key (pb.getD q 0)<=key x)->p+1<pa.length->t<=p+q->Me (u_ prog w) A E s (qLg (pa.map f).toArray (pb.map f).toArray o p q g u v k).f W h:=λo p j tt F G=>by
   have b:=JD F;have U:=j.b1 J.b tt;refine fX (qLh _ _ o p q g u v k) (bj (at_of J.b) (i5 (qLi _ _ o p q g u v k _) (λe=>z_ (d _ _ _ B (U.fin (.inr (uV e))))) λe=>fX (qLj _ _ o p q g u v k _) (bj (at_of b) (fX (qLk _ _ o p q g u v k _ _) (EF L (na.at b) nb (IJ J.b (oZ e)) (B.kind.trans K) U.sy λl z a i=>?_)))));have S:∀o q,JL f key pa pb o p q->(∀x∈pb.drop q,key (pa.getD p 0)<=key x)->q<pb.length->t<=p+q->Me (u_ prog w) A E s (qLz (pa.map f).toArray (pb.map f).toArray o p q g k l) W h:=λo q j tt R G=>
    have U:=j.a1 b tt
    J8 (bj (at_of b) (i5 ⟨rfl⟩ (λe=>z_ (d _ _ _ B (U.last H (uV e)))) λe=>
     have O:CL f key pa pb (t+1) _ (p+1) q:=⟨U,IJ F (oZ e),R,by simp_all[Rb]⟩
     i5 ⟨rfl⟩ (λ_=>z_ (Q _ _ _ _ _ B (O.le (MS t)))) λ_=>z_ (P _ _ _ _ _ B O)))
   have t3:∀x∈pb.drop (q+1+l),key (pa.getD p 0)<=key x:=λx m=>by simpa[ltK] using i x m
   have h1:t<=p+(q+1):=Nat.le_succ_of_le G;refine i5 (qLl _ _ o p q g u v k _ l) (λ_=>i5 (qLm _ _ o p q g u v k _ l) (λe=>z_ (d _ _ _ B ((gal_b U b a).fin (.inr (uV e))))) λe=>S _ _ (gal_b U b a) t3 (IJ z (oZ e)) (B_ h1 (Ks (Ky (q+1) l) p))) λD=>S _ _ U ?_ (IJ J.b (oZ e)) h1
   rwa [LY D]at t3
  have t3:∀x∈pa.drop (p+k),key (pb.getD q 0)<=key x:=λx m=>Kv (by simpa[ltK] using i x m);refine i5 (qLg _ _ o p q g u v k) (λ_=>i5 (qLg1 _ _ o p q g u v k) (λe=>z_ (d _ _ _ B ((gal_a J.j J.b a).last H (uV e)))) λe=>i5 (qLg2 _ _ o p q g u v k) (λe=>z_ (d _ _ _ B ((gal_a J.j J.b a).fin (.inl (uV e))))) λT=>Y _ _ (gal_a J.j J.b a) t3 (IJ (IJ C (oZ T)) (oZ e)) (by rw[Rb];exact Nat.le_add_right_of_le J.t)) λD=>Y _ _ J.j ?_ J.a J.t
  rwa [LY D]at t3
 exact i5 (qLc _ _ o p q g u v) (λ_=>N (g-1)) λ_=>N g
def CZ(L:wL prog w A E s κ f key n){Q:Array Ji->Ir->Prop}(na:InN n pa)(nb:InN n pb)(l:MF st=κ)(sa:Srt key pa)(sb:Srt key pb)(z:0<pa.length)(a:0<pb.length)(C:∀y∈pa,key (pb.getD 0 0)<=key y)(j:∀y∈pb,key y<=key (pa.getD (pa.length-1) 0))(h:∀r B,bM st B->zN f key (pa++pb) r->Q r B):Me (u_ prog w) A E s (pP (pa.map f).toArray (pb.map f).toArray) Q st:=by
 have b:JL f key pa pb #[f _] 0 1:=JL.b1 (r:=#[]) ⟨[],rfl,Li _,K2,sa,sb,λ_ h=>IA h JN,λ_ h=>IA h JN⟩ a C;refine fX (qL0 ..) (Oe (KO ⟨rfl,fX (qL1 ..) (bj (at_of a) (i5 _ (λe=>z_ (h _ _ (bM.refl _) (b.fin (.inr (uV e))))) λe1=>i5 _ (λe=>z_ (h _ _ (bM.refl _) (b.last j (uV e)))) λe2=>fX (qL4 ..) (NT ?_)))⟩));refine wp_l (qL5 ..) (λx c B=>bM st B/\c.1=d_/\CL f key pa pb (1+x) c.2.1 c.2.2.1 c.2.2.2.1) (R:=λc B=>bM st B/\∃r,c.1=a_ r/\zN f key (pa++pb) r)
  ⟨bM.refl _,rfl,b,IJ z (oZ e2),IJ a (oZ e1),f_ _⟩ ?step (λc B ⟨_,_,J⟩=>(CL.no J).elim) λ⟨_,c⟩ B ⟨S,r,e,U⟩=>by cases e;exact z_ (h _ _ S U)
 rintro i ⟨_,o,p,q,g⟩ st1 _ _ ⟨S,e,J⟩;refine zS (qL6 (pa.map f).toArray (pb.map f).toArray o p q g) (λy c=>c.1=d_/\CL f key pa pb (1+i+y) c.2.1 c.2.2.1 c.2.2.2.1) (R:=λc=>(∃r,c.1=a_ r/\zN f key (pa++pb) r)\/c.1=d_/\CL f key pa pb (1+(i+1)) c.2.1 c.2.2.1 c.2.2.2.1)
  ⟨rfl,J⟩ ?s1 (λc ⟨e,J⟩=>(CL.no J).elim) ?p1
 case s1=>
  rintro y ⟨_,o,p,q,u,v⟩ _ _ ⟨e,J⟩ W Y k;have d:=JD J.a;refine wp_t (qL7 _ _ o p q g u v) (bj (at_of J.b) (bj (at_of d) (L _ _ _ _ (nb.at J.b) (na.at d) (S.kind.trans l) ?_)));have m:=J.le (Ky _ _);cases hw:ltK key _ _ with
  |true=>exact fX (qL8 _ _ o p q g u v) (bj (at_of J.b) (i5 _ (λe=>z_ (Y _ (.inl ⟨_,rfl,(J.wb hw).fin (.inr (uV e))⟩))) λe=>i5 (qL8b ..) (λ_=>z_ (Y _ (.inr ⟨rfl,m.nb (J.wb hw) (oZ e)⟩))) λ_=>z_ (k _ ⟨rfl,J.nb (J.wb hw) (oZ e)⟩)))|false=>exact fX (qL9 _ _ o p q g u v) (bj (at_of d) (i5 _ (λe=>z_ (Y _ (.inl ⟨_,rfl,(J.wa hw).last j (uV e)⟩))) λe=>i5 (qL9b ..) (λ_=>z_ (Y _ (.inr ⟨rfl,m.na (J.wa hw) (oZ e)⟩))) λ_=>z_ (k _ ⟨rfl,J.na (J.wa hw) (oZ e)⟩)))
 rintro⟨_,o,p,q,u,v⟩ (⟨r,e,U⟩|⟨e,J⟩)<;>cases e
 .exact z_ ⟨S,r,rfl,U⟩
 refine fX (qLa _ _ o p q g u v) (Oe (KO ⟨rfl,?_⟩));refine wp_l (qLb ..) (λy c B=>bM st B/\c.1=d_/\CL f key pa pb (1+(i+1)+y) c.2.1 c.2.2.1 c.2.2.2.1) (R:=λc B=>bM st B/\((∃r,c.1=a_ r/\zN f key (pa++pb) r)\/c.1=d_/\CL f key pa pb (1+(i+1)) c.2.1 c.2.2.1 c.2.2.2.1))
  ⟨S,rfl,J⟩ ?s2 (λc B ⟨_,_,J⟩=>(CL.no J).elim) ?p2
 case p2=>
  rintro⟨_,o,p,q,g,u,v⟩ B ⟨S,⟨r,e,U⟩|⟨e,J⟩⟩<;>cases e
  .exact z_ ⟨S,r,rfl,U⟩
  .exact J8 (LX (z_ ⟨S.trans ⟨_,rfl⟩,rfl,J⟩))
 rintro y ⟨_,o,p,q,g,u,v⟩ t _ _ ⟨I,e,J⟩;exact lo_turn L na nb (I.kind.trans l) j J (λ_ _ _ h U=>⟨I.trans h,.inl ⟨_,rfl,U⟩⟩) (λ_ _ _ _ _ h c=>⟨I.trans h,.inr ⟨rfl,c.le (Ky _ _)⟩⟩) λ_ _ _ _ _ h c=>⟨I.trans h,rfl,c⟩
section
variable(a b:Array Ji)
noncomputable def qH0:Bd (pQ a b):=⟨rfl⟩
noncomputable def qH1:Bd ((qH0 a b).k ()):=⟨rfl⟩
noncomputable def qH2(x):Ic ((qH1 a b).k x):=⟨rfl⟩
noncomputable def qH3(x):Ic (qH2 a b x).f:=⟨rfl⟩
noncomputable def qH4(x):Bd (qH3 a b x).f:=⟨rfl⟩
noncomputable def qH5(x g):Lp ((qH4 a b x).k g):=⟨rfl⟩
section
variable(p q:Nat)(o:Array Ji)(r:Nat)
noncomputable def qH6:Lp ((qH5 a b qx0 qg0).F 0 (d_,p,q,o,r)):=⟨rfl⟩
end
variable(p q:Nat)(o:Array Ji)(r s t:Nat)
noncomputable def qH7:Bt ((qH6 a b 0 0 #[] r).F 0 (d_,p,q,o,s,t)):=⟨rfl⟩
noncomputable def qH8:Bd ((qH7 a b p q o r s t).k qx0 qx0 (a_ e_)):=⟨rfl⟩
noncomputable def qH9:Bd ((qH7 a b p q o r s t).k qx0 qx0 (a_ cm)):=⟨rfl⟩
noncomputable def qH8a(y):Ic ((qH8 a b p q o r s t).k y):=⟨rfl⟩
noncomputable def qH8b(y):Ic (qH8a a b p q o r s t y).f:=⟨rfl⟩
noncomputable def qH9a(y):Ic ((qH9 a b p q o r s t).k y):=⟨rfl⟩
noncomputable def qH9b(y):Ic (qH9a a b p q o r s t y).f:=⟨rfl⟩
noncomputable def qHa:Bd ((qH6 a b 0 0 #[] r).k (d_,p,q,o,s,t)):=⟨rfl⟩
noncomputable def qHb:Lp ((qHa a b p q o r s t).k ()):=⟨rfl⟩
noncomputable def qHc:Ic ((qHb a b 0 0 #[] 0 0 0).F 0 (d_,p,q,o,r,s,t)):=⟨rfl⟩
noncomputable def qHd:Bd (qHc a b p q o r s t).f:=⟨rfl⟩
noncomputable def qHe:Bd ((qHd a b p q o r s t).k ()):=⟨rfl⟩
noncomputable def qHf(y):Bd ((qHe a b p q o r s t).k y):=⟨rfl⟩
noncomputable def qHg(k):Ic ((qHf a b p q o r s t qx0).k (a_ k)):=⟨rfl⟩
noncomputable def qHg1(k):Ic (qHg a b p q o r s t k).t:=⟨rfl⟩
noncomputable def qHz(k l:Nat):KV Ir Nl (MY (Option (Array Ji)×Nat×Nat×Array Ji×Nat×Nat×Nat)):=
 RE a (p-1) >>=λz=>if (p-1==0)=e_ then JM (.done (a_ (a.extract 0 (p-1)++b.extract 0 q++(o.push z).reverse),p-1,q,o.push z,r,k,l))
  else if (m_ (k<7)&&m_ (l<7))=e_ then JM (.done (d_,p-1,q,o.push z,r,k,l))else JM (.yield (d_,p-1,q,o.push z,r,k,l))
def qHy(k:Nat):KV Ir Nl (MY (Option (Array Ji)×Nat×Nat×Array Ji×Nat×Nat×Nat)):=
 RE b (q-1) >>=λz=>if (q-1==1)=e_ then JM (.done (a_ (b.extract 0 (q-1)++a.extract 0 p++(o.push z).reverse),p,q-1,o.push z,r,k,t))
  else RE a (p-1) >>=λy=>kH e_ y b 0 (q-1) (q-1-1) >>=λx=>match x with
   |some l=>if q-1-l>0 then
     (if (l==1)=e_ then JM (.done (a_ (b.extract 0 l++a.extract 0 p++(o.push z++(b.extract l (q-1)).reverse).reverse),p,l,o.push z++(b.extract l (q-1)).reverse,r,k,q-1-l))
     else if (l==0)=e_ then JM (.done (a_ (a.extract 0 p++b.extract 0 l++(o.push z++(b.extract l (q-1)).reverse).reverse),p,l,o.push z++(b.extract l (q-1)).reverse,r,k,q-1-l))
     else qHz a b p l (o.push z++(b.extract l (q-1)).reverse) r k (q-1-l))
    else qHz a b p (q-1) (o.push z) r k (q-1-l)
   |_=>JM (.done (a_ (a.extract 0 p++b.extract 0 (q-1)++(o.push z).reverse),p,q-1,o.push z,r,k,t))
noncomputable def qHh(k):Bd (qHy a b p q o r t k):=⟨rfl⟩
noncomputable def qHi(k z):Ic ((qHh a b p q o r t k).k z):=⟨rfl⟩
noncomputable def qHj(k z):Bd (qHi a b p q o r t k z).f:=⟨rfl⟩
noncomputable def qHk(k z y):Bd ((qHj a b p q o r t k z).k y):=⟨rfl⟩
noncomputable def qHl(k z l):Ic ((qHk a b p q o r t k z qx0).k (a_ l)):=⟨rfl⟩
noncomputable def qHm(k z l):Ic (qHl a b p q o r t k z l).t:=⟨rfl⟩
noncomputable def qHn(k z l):Ic (qHm a b p q o r t k z l).f:=⟨rfl⟩
end
theorem EE(L:wL prog w A E s κ f key n){B:Bool}{q:Nat}{p:bi}{m:Nat}{Q:Option Nat->Ir->Prop}(U:q<n)(Y:InN n p)(d:m<=p.length)(b:hint<m)(a:MF st=κ)(S:Srt key p)(h:∀k,k<=m->(∀x∈p.take k,(if B=e_ then ltK key x q else !ltK key q x)=e_)->(∀x∈(p.take m).drop k,(if B=e_ then ltK key x q else !ltK key q x)=cm)->Q (a_ k) st):
  Me (u_ prog w) A E s (kH B (f q) (p.map f).toArray 0 m hint) Q st:=by
 refine Bk L U Y a7 b a (S.sub ((MN _ _).trans (Ov _ _))) λk I h1 c=>h k I ?_ ?_
 .grind
 .rwa [LV]at c
noncomputable def neg(key:Nat->Int)(x:Nat):Int:= -key x
def zX{l:bi}:Srt (neg key) l↔Srt key l.reverse:=by unfold Srt;rw[List.pairwise_reverse];exact⟨λh=>h.imp λ{a b} h=>Int.le_of_neg_le_neg h,λh=>h.imp λ{a b} h=>LZ h⟩
theorem Srt.lst{l:bi}(h:Srt key l)(S:0<i)(hi:i<=l.length):∀y∈l.take i,key y<=key (l.getD (i-1) 0):=λy B=>by
 obtain⟨j,I,rfl⟩:=N0 B;have h1:i-1<l.length:=ac
 simp[Rf,Jk,h1,getElem?_pos];rcases SQ j _ with c|c
 .exact KL.mp h _ _ _ _ c
 grind
def JH(f:Nat->Ji)(key:Nat->Int)(pa pb:bi)(r:Array Ji)(na nb:Nat):Prop:=∃o:bi,r=(o.map f).toArray/\MI (neg key) (pa++pb) o (pa.take na).reverse (pb.take nb).reverse
section
variable{r:Array Ji}{na nb t:Nat}
def Bc(q:bi):(q.map f).toArray.reverse=(q.reverse.map f).toArray:=by simp
theorem Bp(p:bi)(h:k<=na):(p.take na).reverse=((p.take na).drop k).reverse++(p.take k).reverse:=by
 have e:=JC k (p.take na)
 simp_all[List.take_take]
def zV{p:bi}(I:0<na)(h:na<=p.length):(p.take na).reverse=[p.getD (na-1) 0]++(p.take (na-1)).reverse:=by
 obtain⟨j,rfl⟩:∃j,na=j+1:=⟨na-1,(Nat.succ_pred_eq_of_pos I).symm⟩
 have B:j<p.length:=h;simp[B]
def JH.ak(h:JH f key pa pb r na nb)(U:k<=na)(S:∀x∈(pa.take na).drop k,∀y∈pb.take nb,key y<=key x):JH f key pa pb (r++((pa.map f).toArray.extract k na).reverse) k nb:=by obtain⟨o,rfl,m⟩:=h;rw[Bp pa U]at m;exact⟨o++((pa.take na).drop k).reverse,by rw[wH,Bc,kY,RX],MI.left m λx I y B=>LZ (S x (K1.mp I) y (K1.mp B))⟩
def JH.bk(h:JH f key pa pb r na nb)(U:k<=nb)(S:∀x∈(pb.take nb).drop k,∀y∈pa.take na,key y<=key x):JH f key pa pb (r++((pb.map f).toArray.extract k nb).reverse) na k:=by obtain⟨o,rfl,m⟩:=h;rw[Bp pb U]at m;exact⟨o++((pb.take nb).drop k).reverse,by rw[wH,Bc,kY,RX],MI.right m λx I y B=>LZ (S x (K1.mp I) y (K1.mp B))⟩
def JH.a1(h:JH f key pa pb r na nb)(U:0<na)(hi:na<=pa.length)(S:∀y∈pb.take nb,key y<=key (pa.getD (na-1) 0)):JH f key pa pb (r.push (f (pa.getD (na-1) 0))) (na-1) nb:=by
 obtain⟨o,rfl,m⟩:=h;rw[zV U hi]at m;refine⟨_,pX ..,MI.left m λx I y B=>?_⟩
 exact(Ki.mp I)▸LZ (S y (K1.mp B))
def JH.b1(h:JH f key pa pb r na nb)(U:0<nb)(hi:nb<=pb.length)(S:∀y∈pa.take na,key y<=key (pb.getD (nb-1) 0)):JH f key pa pb (r.push (f (pb.getD (nb-1) 0))) na (nb-1):=by
 obtain⟨o,rfl,m⟩:=h;rw[zV U hi]at m;refine⟨_,pX ..,MI.right m λx I y B=>?_⟩
 exact(Ki.mp I)▸LZ (S y (K1.mp B))
def BX{q u v B:bi}(h:(q++u.reverse++v.reverse).Perm B/\Srt (neg key) (q++u.reverse++v.reverse)):zN f key B ((v.map f).toArray++(u.map f).toArray++(q.map f).toArray.reverse):=by
 have e:(q++u.reverse++v.reverse).reverse=v++u++q.reverse:=by simp
 rw[Bc,kY,kY];exact⟨_,rfl,by exact e▸(Oq _).trans h.1,by exact e▸zX.mp h.2⟩
def wI(p:bi)(i:Nat):(p.map f).toArray.extract 0 i=((p.take i).map f).toArray:=by simp
def JH.fin(h:JH f key pa pb r na nb)(e:na=0\/nb=0):zN f key (pa++pb) ((pa.map f).toArray.extract 0 na++(pb.map f).toArray.extract 0 nb++r.reverse):=by
 obtain⟨o,rfl,m⟩:=h;rw[wI,wI];refine BX (MI.done2 m λx I y B=>?_);rcases e with rfl|rfl
 .simp at B
 .simp at I
def JH.first(h:JH f key pa pb r na nb)(S:∀y∈pa,key (pb.getD 0 0)<=key y)(l:0<pb.length)(e:nb=1):zN f key (pa++pb) ((pb.map f).toArray.extract 0 nb++(pa.map f).toArray.extract 0 na++r.reverse):=by obtain⟨o,rfl,m⟩:=h;rw[wI,wI];refine BX (MI.done m λx I y B=>?_);subst e;rw[zV QI l]at B;exact(show y=pb.getD 0 0 by simpa using B)▸LZ (S x (Lw (K1.mp I)))
structure CH(f:Nat->Ji)(key:Nat->Int)(pa pb:bi)(t:Nat)(r:Array Ji)(na nb:Nat):Prop where
 j:JH f key pa pb r na nb
 a:0<na
 b:1<nb
 za:na<=pa.length
 zb:nb<=pb.length
 t:t+na+nb<=pa.length+pb.length
theorem CH.no{u:Nat}(h:CH f key pa pb (u+Sb 0 ((pa.map f).toArray.size+(pb.map f).toArray.size)) r na nb):False:=by
 obtain⟨_,h1,_,_,_,B⟩:=h;simp at B
 lia
def CH.le(h:CH f key pa pb t r na nb)(e:t'<=t):CH f key pa pb t' r na nb:=⟨h.j,h.a,h.b,h.za,h.zb,B_ (NW (NW e _) _) h.t⟩
def qh{l:Nat}(B:0<i)(h:i<=l):i-1<l:=y_ (Oz B) h
theorem lS{c:Nat}(e:¬(i==c)=e_):i≠c:=by simp_all
theorem CH.na1(h:CH f key pa pb t r na nb)(j:JH f key pa pb r' (na-1) nb)(e:¬(na-1==0)=e_):CH f key pa pb (t+1) r' (na-1) nb:=
 ⟨j,Le (lS e),h.b,B_ (MH ..) h.za,h.zb,by have:=h.t;lia⟩
theorem CH.nb1(h:CH f key pa pb t r na nb)(j:JH f key pa pb r' na (nb-1))(e:¬(nb-1==1)=e_):CH f key pa pb (t+1) r' na (nb-1):=
 ⟨j,h.a,IJ (Nat.le_pred_of_lt h.b) (IV (lS e)),h.za,B_ (MH ..) h.zb,by have:=h.t;have:=h.b;lia⟩
end
def hi_turn(L:wL prog w A E s κ f key n){o:Array Ji}{p q g u v t:Nat}{W:MY (Option (Array Ji)×Nat×Nat×Array Ji×Nat×Nat×Nat)->Ir->Prop}(na:InN n pa)(nb:InN n pb)(R:MF st=κ)(sa:Srt key pa)(sb:Srt key pb)(X:∀y∈pa,key (pb.getD 0 0)<=key y)(J:CH f key pa pb t o p q)(m:∀r c I,bM st I->zN f key (pa++pb) r->W (.done (a_ r,c)) I)(w2:∀p q o c I,bM st I->CH f key pa pb t o p q->W (.done (d_,p,q,o,c)) I)(w3:∀p q o c I,bM st I->CH f key pa pb (t+1) o p q->W (.yield (d_,p,q,o,c)) I):
  Me (u_ prog w) A E s ((qHb (pa.map f).toArray (pb.map f).toArray 0 0 #[] 0 0 0).F 0 (d_,p,q,o,g,u,v)) W st:=by
 have i:=qh (JD J.b) J.zb;have Q:=y_ (JD J.b) J.zb;have T:∀g,Me (u_ prog w) A E s (qHc (pa.map f).toArray (pb.map f).toArray p q o g u v).f W st:=λg=>by
  refine fX (qHd _ _ p q o g u v) (EH λz B=>fX (qHe _ _ p q o g u v) (bj (at_of i) (fX (qHf _ _ p q o g u v _) (EE L (nb.at i) na J.za (Oz J.a) (B.kind.trans R) sa λk U F D=>?_))));have a:∀p o k,JH f key pa pb o p q->(∀x∈pa.take p,key x<=key (pb.getD (q-1) 0))->0<p->p<=pa.length->t+p+q<=pa.length+pb.length->Me (u_ prog w) A E s (qHy (pa.map f).toArray (pb.map f).toArray p q o g v k) W z:=λp o k j tt p0 C H=>by
   have K:=qh p0 C;have b:=j.b1 (JD J.b) J.zb tt;have O:0<q-1:=MR J.b;refine fX (qHh _ _ p q o g v k) (bj (at_of i) (i5 (qHi _ _ p q o g v k _) (λe=>z_ (m _ _ _ B (b.first X Q (Kc e)))) λe=>fX (qHj _ _ p q o g v k _) (bj (at_of K) (fX (qHk _ _ p q o g v k _ _) (EE L (na.at K) nb (IY i) (Oz O) (B.kind.trans R) sb λl S F D=>?_)))));have Y:∀q o c,JH f key pa pb o p q->(∀x∈pb.take q,key x<=key (pa.getD (p-1) 0))->1<q->q<=pb.length->t+p+q<=pa.length+pb.length->Me (u_ prog w) A E s (qHz (pa.map f).toArray (pb.map f).toArray p q o g k c) W z:=λq o c j tt q1 zq H=>
    have b:=j.a1 p0 C tt;have Z:CH f key pa pb t o p q:=⟨j,p0,q1,C,zq,H⟩
    J8 (bj (at_of K) (i5 ⟨rfl⟩ (λe=>z_ (m _ _ _ B (b.fin (.inl (Kc e))))) λe=>i5 ⟨rfl⟩ (λ_=>z_ (w2 _ _ _ _ _ B ((Z.na1 b e).le (MS t)))) λ_=>z_ (w3 _ _ _ _ _ B (Z.na1 b e))))
   have t3:∀x∈pb.take l,key x<=key (pa.getD (p-1) 0):=λx d=>Kv (by simpa[ltK] using F x d);have h:=b.bk S λx d y G=>Ka (sa.lst p0 C y G) (by simpa[ltK] using D x d);have lq:=B_ S (IY i);have P:t+p+(q-1)<=pa.length+pb.length:=B_ (Ks (MH ..) _) H;refine i5 (qHl _ _ p q o g v k _ l) (λ_=>i5 (qHm _ _ p q o g v k _ l) (λe=>z_ (m _ _ _ B (h.first X Q (Kc e)))) λe=>i5 (qHn _ _ p q o g v k _ l) (λe=>z_ (m _ _ _ B (h.fin (.inr (Kc e))))) λe'=>Y _ _ _ h t3 (IJ (Le (lS e')) (IV (lS e))) lq (B_ (Ks S _) P)) λN=>Y _ _ _ b ?_ (IJ O (IV (lS e))) (IY i) P
   rwa [show l=q-1 from Ml S (NB (LY N))]at t3
  have t3:∀x∈pa.take k,key x<=key (pb.getD (q-1) 0):=λx d=>by simpa[ltK] using F x d
  have h:=J.j.ak U λx d y G=>Ka (sb.lst (JD J.b) J.zb y G) (Kv (by simpa[ltK] using D x d));refine i5 (qHg _ _ p q o g u v k) (λ_=>i5 (qHg1 _ _ p q o g u v k) (λe=>z_ (m _ _ _ B (h.fin (.inl (Kc e))))) λe=>a _ _ _ h t3 (Le (lS e)) (B_ U J.za) (B_ (NW (Ks U _) _) J.t)) λN=>a _ _ _ J.j ?_ J.a J.za J.t
  rwa [show k=p from Ml U (NB (LY N))]at t3
 exact i5 (qHc _ _ p q o g u v) (λ_=>T (g-1)) λ_=>T g
theorem D0(L:wL prog w A E s κ f key n){Q:Array Ji->Ir->Prop}(na:InN n pa)(nb:InN n pb)(H:MF st=κ)(sa:Srt key pa)(sb:Srt key pb)(k:0<pa.length)(G:0<pb.length)(C:∀y∈pa,key (pb.getD 0 0)<=key y)(O:∀y∈pb,key y<=key (pa.getD (pa.length-1) 0))(h:∀r B,bM st B->zN f key (pa++pb) r->Q r B):Me (u_ prog w) A E s (pQ (pa.map f).toArray (pb.map f).toArray) Q st:=by
 have b:(pa.map f).toArray.size=pa.length:=by simp
 have j:(pb.map f).toArray.size=pb.length:=by simp
 have l:JH f key pa pb #[f (pa.getD ((pa.map f).toArray.size-1) 0)] ((pa.map f).toArray.size-1) (pb.map f).toArray.size:=by rw[b,j];refine JH.a1 (r:=#[]) ⟨[],rfl,?_⟩ k (f_ _) λy a=>O y (Lw a);rw[M3,M3];exact⟨by rw[O0];exact List.Perm.append (Oq _) (Oq _),K2,zX.mpr a7,zX.mpr a7,λ_ h=>IA h JN,λ_ h=>IA h JN⟩
 have P:¬((pa.map f).toArray.size-1==0)=e_->¬((pb.map f).toArray.size==1)=e_->CH f key pa pb 1 #[f (pa.getD ((pa.map f).toArray.size-1) 0)] ((pa.map f).toArray.size-1) (pb.map f).toArray.size:=λe1 e2=>⟨l,Le (lS e1),IJ (OC a7) (IV (lS e2)),by simp[b],Mu j,by rw[b,j,Nat.add_sub_cancel' k];exact f_ _⟩
 refine fX (qH0 ..) (Oe (KO ⟨rfl,fX (qH1 ..) (bj (x:=pa.getD ((pa.map f).toArray.size-1) 0) (by exact b▸at_of (qh k (f_ _))) (i5 (qH2 ..) (λe=>z_ (h _ _ (bM.refl _) (l.fin (.inl (Kc e))))) λe1=>i5 (qH3 ..) (λe=>z_ (h _ _ (bM.refl _) (l.first C G (Kc e)))) λe2=>fX (qH4 ..) (NT ?_)))⟩));refine wp_l (qH5 ..) (λx c B=>bM st B/\c.1=d_/\CH f key pa pb (1+x) c.2.2.2.1 c.2.1 c.2.2.1) (R:=λc B=>bM st B/\∃r,c.1=a_ r/\zN f key (pa++pb) r)
  ⟨bM.refl _,rfl,P e1 e2⟩ ?step (λc B ⟨_,_,J⟩=>(CH.no J).elim) λ⟨_,c⟩ B ⟨S,r,e,Y⟩=>by cases e;exact z_ (h _ _ S Y)
 rintro i ⟨_,p,q,o,g⟩ st1 _ _ ⟨S,rfl,J⟩;have z:MF st1=κ:=S.kind.trans H;refine zS (qH6 (pa.map f).toArray (pb.map f).toArray p q o g) (λy c=>c.1=d_/\CH f key pa pb (1+i+y) c.2.2.2.1 c.2.1 c.2.2.1) (R:=λc=>(∃r,c.1=a_ r/\zN f key (pa++pb) r)\/c.1=d_/\CH f key pa pb (1+(i+1)) c.2.2.2.1 c.2.1 c.2.2.1)
  ⟨rfl,J⟩ ?s1 (λc ⟨e,J⟩=>(CH.no J).elim) ?p1
 case s1=>
  rintro y ⟨_,p,q,o,u,v⟩ _ _ ⟨e,J⟩ W d F;have t:=qh J.a J.za;have D:=JD J.b;have m:=qh D J.zb;refine wp_t (qH7 _ _ p q o g u v) (bj (at_of m) (bj (at_of t) (L _ _ _ _ (nb.at m) (na.at t) z ?_)));have K:=J.le (t':=1+i) (Ky _ _);cases hw:ltK key (pb.getD (q-1) 0) (pa.getD (p-1) 0)with
  |true=>have U:=J.j.a1 J.a J.za λy a=>Ka (sb.lst D J.zb y a) (Kv (N6 hw));exact fX (qH8 _ _ p q o g u v) (bj (at_of t) (i5 (qH8a ..) (λe=>z_ (d _ (.inl ⟨_,rfl,U.fin (.inl (Kc e))⟩))) λe=>i5 (qH8b ..) (λ_=>z_ (d _ (.inr ⟨rfl,K.na1 U e⟩))) λ_=>z_ (F _ ⟨rfl,J.na1 U e⟩)))|false=>have U:=J.j.b1 D J.zb λy a=>Ka (sa.lst J.a J.za y a) (Oi.mp (of_decide_eq_false hw));exact fX (qH9 _ _ p q o g u v) (bj (at_of m) (i5 (qH9a ..) (λe=>z_ (d _ (.inl ⟨_,rfl,U.first C G (Kc e)⟩))) λe=>i5 (qH9b ..) (λ_=>z_ (d _ (.inr ⟨rfl,K.nb1 U e⟩))) λ_=>z_ (F _ ⟨rfl,J.nb1 U e⟩)))
 rintro⟨_,p,q,o,u,v⟩ (⟨r,e,Y⟩|⟨e,J⟩)<;>cases e
 .exact z_ ⟨S,r,rfl,Y⟩
 refine fX (qHa _ _ p q o g u v) (Oe (KO ⟨rfl,?_⟩));refine wp_l (qHb ..) (λy c B=>bM st B/\c.1=d_/\CH f key pa pb (1+(i+1)+y) c.2.2.2.1 c.2.1 c.2.2.1) (R:=λc B=>bM st B/\((∃r,c.1=a_ r/\zN f key (pa++pb) r)\/c.1=d_/\CH f key pa pb (1+(i+1)) c.2.2.2.1 c.2.1 c.2.2.1))
  ⟨S,rfl,J⟩ ?s2 (λc B ⟨_,_,J⟩=>(CH.no J).elim) ?p2
 case p2=>
  rintro⟨_,p,q,o,g,u,v⟩ B ⟨S,⟨r,e,Y⟩|⟨e,J⟩⟩<;>cases e
  .exact z_ ⟨S,r,rfl,Y⟩
  .exact J8 (LX (z_ ⟨S.trans ⟨_,rfl⟩,rfl,J⟩))
 rintro y ⟨_,p,q,o,g,u,v⟩ N _ _ ⟨I,e,J⟩;exact hi_turn L na nb (I.kind.trans H) sa sb C J (λ_ _ _ h Y=>⟨I.trans h,.inl ⟨_,rfl,Y⟩⟩) (λ_ _ _ _ _ h c=>⟨I.trans h,.inr ⟨rfl,c.le (Ky _ _)⟩⟩) λ_ _ _ _ _ h c=>⟨I.trans h,rfl,c⟩
end
section
open PySem.W hiding kindOf
variable{s:j_}{f:Nat->Ji}{key:Nat->Int}
structure SS(κ:Qn)(f:Nat->Ji)(n:Nat)(st:Ir)(p:bi):Prop where
 kind:MF st=κ
 ok:Of st=d_
 arr:OI st=(p.map f).toArray
 perm:p.Perm (A_ n)
def SS.inN(h:SS κ f n st p):InN n p:=λx B=>IM.mp (h.perm.mem_iff.mp B)
def SS.len(h:SS κ f n st p):p.length=n:=by rw[h.perm.length_eq,J_]
theorem yu{β:Type}:∀(o v u t:List β),v.length=o.length->(o.zipIdx u.length).foldl (λa (p:β×Nat)=>a.setIfInBounds p.2 p.1) (u++(v++t)).toArray=(u++(o++t)).toArray
 |[],[],u,t,_=>rfl|x::o,y::v,u,t,h=>by
  have e:((u++(y::v++t)).toArray.setIfInBounds u.length x)=((u++[x])++(v++t)).toArray:=by rw[Pp];simp
  show Pr _ _ _=_;have:=yu o v (u++[x]) t a7
  simp_all
theorem E5(o v u t:List β)(h:v.length=o.length):o.zipIdx.foldl (λa (p:β×Nat)=>a.setIfInBounds (u.length+p.2) p.1) (u++(v++t)).toArray=(u++(o++t)).toArray:=by
 rw[<- yu o v u t h]
 grind[List.zipIdx_eq_map_add,List.foldl_map]
section
variable(ar:Array Ji)(st:Ir)(sa na sb nb:Nat)
noncomputable def qM(i:Nat):Bd (RD i):=⟨rfl⟩
noncomputable def qMz(B:Nat)(r:Array Ji):KV Ir Nl Bool:=
 (modify λs=>setArr s (r.toList.zipIdx.foldl (λa (p:Ji×Nat)=>a.setIfInBounds (B+p.2) p.1) (OI s))) >>=λ_=>get >>=λs=>JM (Of s).isNone
def qMy:KV Ir Nl Bool:=
 set st >>=λ_=>RE ar sb >>=λy=>kH cm y ar sa na 0 >>=λr=>match r with
  |some k=>if (na-k==0)=e_ then JM e_ else RE ar (sa+k+(na-k)-1) >>=λz=>kH e_ z ar sb nb (nb-1) >>=λr=>match r with
   |some l=>if (l==0)=e_ then JM e_ else if na-k<=l then pP (ar.extract (sa+k) sb) (ar.extract sb (sb+l)) >>=λr=>qMz (sa+k) r else pQ (ar.extract (sa+k) sb) (ar.extract sb (sb+l)) >>=λr=>qMz (sa+k) r
   |_=>JM cm
  |_=>JM cm
noncomputable def qM0:Bd (qMy ar st sa na sb nb):=⟨rfl⟩
noncomputable def qM1:Bd ((qM0 ar st sa na sb nb).k ()):=⟨rfl⟩
noncomputable def qM2(y):Bd ((qM1 ar st sa na sb nb).k y):=⟨rfl⟩
noncomputable def qM3(k):Ic ((qM2 ar st sa na sb nb qx0).k (a_ k)):=⟨rfl⟩
noncomputable def qM4(k):Bd (qM3 ar st sa na sb nb k).f:=⟨rfl⟩
noncomputable def qM5(k z):Bd ((qM4 ar st sa na sb nb k).k z):=⟨rfl⟩
noncomputable def qM6(k l):Ic ((qM5 ar st sa na sb nb k qx0).k (a_ l)):=⟨rfl⟩
noncomputable def qM7(k l):Ic (qM6 ar st sa na sb nb k l).f:=⟨rfl⟩
noncomputable def qM8(k l):Bd (qM7 ar st sa na sb nb k l).t:=⟨rfl⟩
noncomputable def qM9(k l):Bd (qM7 ar st sa na sb nb k l).f:=⟨rfl⟩
def qM_is{i S B U fl I Y}(h1:B[i]?=a_ (sa,na,I))(a:B[i+1]?=a_ (sb,nb,Y)):(qM i).k (Mp S ar B U fl)=qMy ar (Mp S ar ((B.setIfInBounds i (sa,na+nb,I)).eraseIdxIfInBounds (i+1)) U fl) sa na sb nb:=by show(match (B[i]?,B[i+1]?)with|(a_ (_,_,_),a_ (_,_,_))=>_|_=>_)=_;rw[h1,a];rfl
end
section
variable{u a b:List Nat}{l:Nat}
def seg_a:((u++(a++(b++t))).drop u.length).take a.length=a:=by simp
def seg_b:((u++(a++(b++t))).drop (u.length+a.length)).take b.length=b:=by simp
theorem at_b(B:0<b.length):(u++(a++(b++t)))[u.length+a.length]?=a_ (b.getD 0 0):=by simp_all[Kz,JR]
theorem at_a(B:0<a.length)(I:k<=a.length):(u++(a++(b++t)))[u.length+k+(a.length-k)-1]?=a_ (a.getD (a.length-1) 0):=a0
def ex_a(B:k<=a.length):((u++(a++(b++t))).map f).toArray.extract (u.length+k) (u.length+a.length)=((a.drop k).map f).toArray:=by rw[wH,<- My,Pt,List.drop_append_of_le_length B,Nat.add_sub_add_left,List.take_left' (LB ..)]
def ex_b(B:l<=b.length):((u++(a++(b++t))).map f).toArray.extract (u.length+a.length) (u.length+a.length+l)=((b.take l).map f).toArray:=by rw[wH,<- My,Pt,Pt,P_,List.take_append_of_le_length B]
theorem put_ok{o:bi}(B:k<=a.length)(U:o.length=(a.drop k++b.take l).length):(o.map f).toArray.toList.zipIdx.foldl (λx (p:Ji×Nat)=>x.setIfInBounds (u.length+k+p.2) p.1) ((u++(a++(b++t))).map f).toArray=((u++((a.take k++(o++b.drop l))++t)).map f).toArray:=by
 have S:u++(a++(b++t))=(u++a.take k)++((a.drop k++b.take l)++(b.drop l++t)):=by rw[IG,IG,<- IG (b.take l),JC,<- IG (a.take k),JC]
 have I:u.length+k=((u++a.take k).map f).length:=by simp[Nat.min_eq_left B]
 rw[I,S,Lh (l₁:=u++a.take k),Lh (l₁:=a.drop k++b.take l)];refine(E5 _ _ _ _ a0).trans ?_;simp
theorem all_ok{o:bi}(sa:Srt key a)(sb:Srt key b)(d:0<a.length)(c:0<b.length)(U:∀x∈a.take k,key x<=key (b.getD 0 0))(f:∀x∈a.drop k,key (b.getD 0 0)<key x)(t3:∀x∈b.take l,key x<key (a.getD (a.length-1) 0))(t4:∀x∈b.drop l,key (a.getD (a.length-1) 0)<=key x)(S:o.Perm (a.drop k++b.take l))(Y:Srt key o):(a.take k++(o++b.drop l)).Perm (a++b)/\Srt key (a.take k++(o++b.drop l)):=by
 have g:=Srt.hd sb c;refine⟨((Li _).append (S.append_right _)).trans (by rw[IG,JC,<- IG,JC]),IW.mpr ⟨sa.sub (MN _ _),IW.mpr ⟨Y,sb.sub (Ov _ _),λx B y I=>?_⟩,λx B y I=>Ka (U x B) ?_⟩⟩
 .refine Ka ?_ (t4 y I);rcases(λx B=>Iw.mp (S.mem_iff.mp B)) x B with e|e
  .exact(λy I=>sa.lst d (f_ _) y a7) x (NG e)
  .exact Kv (t3 x e)
 grind
theorem first_ok(I:0<l)(B:0<b.length):(b.take l).getD 0 0=b.getD 0 0:=by simp_all
theorem last_ok(B:k<a.length):(a.drop k).getD ((a.drop k).length-1) 0=a.getD (a.length-1) 0:=by
 rw[LB,Jk,List.getElem?_drop]
 congr 2
 lia
end
theorem wp_qMy(L:wL prog w A E s κ f key n){B:Ir}{u a b:bi}{Q:Bool->Ir->Prop}(S:SS κ f n B (u++(a++(b++t))))(sa:Srt key a)(sb:Srt key b)(p:0<a.length)(Y:0<b.length)(h:∀I m,m.Perm (a++b)->Srt key m->SS κ f n I (u++(m++t))->Iq I=Iq B->Q e_ I):Me (u_ prog w) A E s (qMy ((u++(a++(b++t))).map f).toArray B u.length a.length (u.length+a.length) b.length) Q st1:=by
 have d:=S.inN;have bN:b.getD 0 0<n:=d _ (Jd (at_b Y));have aN:a.getD (a.length-1) 0<n:=d _ (Jd (at_a p (f_ _)));have C:Srt key (a++b)->Q e_ B:=λq=>h B (a++b) (Li _) q a7 rfl;refine fX (qM0 ((u++(a++(b++t))).map f).toArray B u.length a.length (u.length+a.length) b.length) (LX (fX (qM1 ((u++(a++(b++t))).map f).toArray B u.length a.length (u.length+a.length) b.length) (bj (at_b Y) (fX (qM2 ((u++(a++(b++t))).map f).toArray B u.length a.length (u.length+a.length) b.length _) (Bk L bN d ad p S.kind a7 λk D j g=>?_)))));rw[seg_a]at j g;have j:∀x∈a.take k,key x<=key (b.getD 0 0):=λx U=>by simpa[ltK] using j x U
 have g:∀x∈a.drop k,key (b.getD 0 0)<key x:=λx U=>by simpa[ltK] using g x U
 refine i5 (qM3 ((u++(a++(b++t))).map f).toArray B u.length a.length (u.length+a.length) b.length k) (λe=>z_ (C (IW.mpr ⟨sa,sb,λx U y c=>Ka (j x (by rw[J9 (NB (Kc e))];exact U)) (Srt.hd (i:=0) sb Y y c)⟩))) λe1=>?_;have v:k<a.length:=Nat.lt_of_sub_pos (Le (lS e1));refine fX (qM4 ((u++(a++(b++t))).map f).toArray B u.length a.length (u.length+a.length) b.length k) (bj (at_a p D) (fX (qM5 ((u++(a++(b++t))).map f).toArray B u.length a.length (u.length+a.length) b.length k _) (Bk L aN d a0 (Nat.sub_one_lt_of_lt Y) S.kind a7 λl R t3 t4=>?_)));rw[seg_b]at t3 t4;have t3:∀x∈b.take l,key x<key (a.getD (a.length-1) 0):=λx U=>by simpa[ltK] using t3 x U
 have t4:∀x∈b.drop l,key (a.getD (a.length-1) 0)<=key x:=λx U=>by simp_all[ltK]
 refine i5 (qM6 ((u++(a++(b++t))).map f).toArray B u.length a.length (u.length+a.length) b.length k l) (λe=>z_ (C (IW.mpr ⟨sa,sb,λx U y c=>Ka (sa.lst p (f_ _) x a7) (t4 y (by rw[show l=0 from Kc e];exact c))⟩))) λe2=>?_;have P:=Le (lS e2);have T:∀r I,bM B I->zN f key (a.drop k++b.take l) r->Me (u_ prog w) A E s (qMz (u.length+k) r) Q I:=λr I ⟨g',e⟩ ⟨o,X,K,W⟩=>by cases e;cases X;have z:=all_ok sa sb p Y j g t3 t4 K W;have Z:Of B=d_:=S.ok;refine J8 (LX (J8 (NT (z_ ?_))));exact Z▸h _ _ z.1 z.2 ⟨S.kind,rfl,by rw[S.arr];exact put_ok D K.length_eq,((z.1.append_right t).append_left u).trans (by rw[IG];exact S.perm)⟩ rfl
 have O:InN n (a.drop k):=λx U=>d x (Im _ (Jq _ (NG U)));have N:InN n (b.take l):=λx U=>d x (Im _ (Im _ (Jq _ (Lw U))));have G:0<(a.drop k).length:=by exact LB▸MR v
 have F:0<(b.take l).length:=by exact JO▸Nat.lt_min.mpr ⟨P,Y⟩
 have f1:∀y∈a.drop k,key ((b.take l).getD 0 0)<=key y:=λy c=>by rw[first_ok P Y];exact Kv (g y c)
 have f2:∀y∈b.take l,key y<=key ((a.drop k).getD ((a.drop k).length-1) 0):=λy c=>by rw[last_ok v];exact Kv (t3 y c)
 have J:Srt key (a.drop k):=sa.sub (Ov _ _);have H:Srt key (b.take l):=sb.sub (MN _ _);refine i5 (qM7 ((u++(a++(b++t))).map f).toArray B u.length a.length (u.length+a.length) b.length k l) (λ_=>fX (qM8 ((u++(a++(b++t))).map f).toArray B u.length a.length (u.length+a.length) b.length k l) ?_) λ_=>fX (qM9 ((u++(a++(b++t))).map f).toArray B u.length a.length (u.length+a.length) b.length k l) ?_
 .show Me _ _ _ _ (pP _ _) _ _;rw[ex_a D,ex_b R];exact CZ L O N S.kind J H G F f1 f2 T
 .show Me _ _ _ _ (pQ _ _) _ _;rw[ex_a D,ex_b R];exact D0 L O N S.kind J H G F f1 f2 T
def D1(L:wL prog w A E s κ f key n){st:Ir}{u a b:bi}{I:Array (Nat×Nat×Nat)}{wa wb:Nat}{Q:Bool->Ir->Prop}(S:SS κ f n st (u++(a++(b++t))))(c:Iq st=I)(h1:I[i]?=a_ (u.length,a.length,wa))(d:I[i+1]?=a_ (u.length+a.length,b.length,wb))(sa:Srt key a)(sb:Srt key b)(Y:0<a.length)(U:0<b.length)(h:∀B m,m.Perm (a++b)->Srt key m->SS κ f n B (u++(m++t))->Iq B=(I.setIfInBounds i (u.length,a.length+b.length,wa)).eraseIdxIfInBounds (i+1)->Q e_ B):
  Me (u_ prog w) A E s (RD i) Q st:=by
 subst c;refine fX (qM i) (NT ?_);rw[show(qM i).k st=_ from qM_is (OI st) _ _ _ _ h1 d,S.arr];exact wp_qMy L ⟨S.kind,S.ok,rfl,S.perm⟩ sa sb Y U h
end
section
open PySem.W hiding kindOf
variable{s:j_}{f:Nat->Ji}{key:Nat->Int}
noncomputable def kG(key:Nat->Int)(p:bi)(i:Nat):Int:=key (p.getD i 0)
def Sg(key:Nat->Int)(p:bi)(lo hi:Nat):Prop:=∀i j,lo<=i->i<=j->j<hi->kG key p i<=kG key p j
def Dg(key:Nat->Int)(p:bi)(lo hi:Nat):Prop:=∀i j,lo<=i->i<=j->j<hi->kG key p j<=kG key p i
def Fx(lo:Nat)(p p':bi):Prop:=∀i,i<lo->p'.getD i 0=p.getD i 0
def Fx.refl(p:bi):Fx lo p p:=λ_ _=>rfl
theorem Fx.trans{lo:Nat}{p q r:bi}(h:Fx lo p q)(k:Fx lo q r):Fx lo p r:=λi hi=>(k i hi).trans (h i hi)
noncomputable def rv(p:bi)(i j:Nat):bi:=(kas_rev p.toArray i j).toList
noncomputable def bb(p:bi)(B d:Nat):bi:=(bubble p.toArray B d).toList
theorem Bx(B:j<=p.length)(k:Nat):(rv p i j).getD k 0=if i<=k/\k<j then p.getD (i+j-1-k) 0 else p.getD k 0:=by unfold rv kas_rev;rw[Jk,KA,(getElem?_mirror_all (xs:=p.toArray) (i:=i) (j:=j) a7 k)];split<;>simp
theorem bb_get{B d:Nat}(S:B<p.length)(I:d<=B)(k:Nat):(bb p B d).getD k 0=if k=B-d then p.getD B 0 else if B-d<k/\k<=B then p.getD (k-1) 0 else p.getD k 0:=by
 have e:=getElem?_bubble (xs:=p.toArray) a7 d I k;unfold bb;rw[Jk,KA,e];split
 .simp
 .split<;>simp
def rv_perm:(rv p i j).Perm p:=Pg.mp (mirror_perm p.toArray i j _)
def bb_perm:(bb p i j).Perm p:=Pg.mp (bubble_perm p.toArray i j)
theorem rv_fx(B:j<=p.length)(hi:lo<=i):Fx lo p (rv p i j):=λk I=>by rw[Bx B,q_ ac]
def pJ{Q:Unit->Ir->Prop}(S:SS κ f n st p)(h:∀B,SS κ f n B (rv p i j)->Iq B=Iq st->Q () B):Me (u_ prog w) A E s (reverseSlice' i j) Q st:=by
 refine LX (h _ ⟨S.kind,S.ok,?_,rv_perm.trans S.perm⟩ rfl);show mirror (OI st) i j _=_;rw[S.arr];have e1:mirror _ i j _=(mirror p.toArray i j ((j-i)/2)).map f:=kas_swaps_map f (λk=>i+k) (λk=>j-1-k) _ p.toArray;have e2:(p.map f).toArray=p.toArray.map f:=by simp
 rw[e2,e1];unfold rv kas_rev;apply MZ.mp;simp
def wpS_movS{l:Nat}{Q:Unit->Ir->Prop}(S:SS κ f n st p)(h:∀B,SS κ f n B (bb p k (k-l))->Iq B=Iq st->Q () B):Me (u_ prog w) A E s (moveDown' k l) Q st:=by
 refine LX (h _ ⟨S.kind,S.ok,?_,bb_perm.trans S.perm⟩ rfl);show bubble (OI st) k _=_;rw[S.arr];have e1:bubble _ k _=(bubble p.toArray k (k-l)).map f:=kas_swaps_map f (λi=>k-i) (λi=>k-i-1) _ p.toArray;have e2:(p.map f).toArray=p.toArray.map f:=by simp
 rw[e2,e1];unfold bb;apply MZ.mp;simp
theorem qc(L:wL prog w A E s κ f key n){Q:Option Bool->Ir->Prop}(S:SS κ f n st p)(hi:i<n)(Y:j<n)(h:Q (a_ (m_ (kG key p i<kG key p j))) st):Me (u_ prog w) A E s (ltAt' i j) Q st:=by
 have U:=S.len;have I:p[i]?=a_ (p.getD i 0):=by simp[show i<p.length by lia]
 have B:p[j]?=a_ (p.getD j 0):=by simp[show j<p.length by lia]
 rw[ltAt'_eq];refine J8 (NT ?_);rw[S.arr];exact J8 (bj I (J8 (bj B (L _ _ _ _ (S.inN _ (Jd I)) (S.inN _ (Jd B)) S.kind h))))
theorem Sg.step(h:Sg key p lo (lo+m))(h1:1<=m)(U:¬kG key p (lo+m)<kG key p (lo+m-1)):Sg key p lo (lo+(m+1)):=λi j hi I Y=>by
 by_cases B:j<lo+m
 .exact h i j hi I B
 .have a:j=lo+m:=ac
  by_cases S:i=lo+m
  .simp_all
  .have:=h i (lo+m-1) hi ac ac
   lia
theorem Dg.step(h:Dg key p lo (lo+m))(h1:1<=m)(U:kG key p (lo+m)<=kG key p (lo+m-1)):Dg key p lo (lo+(m+1)):=λi j hi I Y=>by
 by_cases B:j<lo+m
 .exact h i j hi I B
 .have a:j=lo+m:=ac
  by_cases S:i=lo+m
  .simp_all
  .have:=h i (lo+m-1) hi ac ac
   lia
def Al(key:Nat->Int)(p:bi)(m q:Nat):Prop:=∀i,m-(q+1)<=i->i<m->kG key p i=kG key p (m-1)
theorem Dn{q:Nat}(I:m<=p.length)(B:Al key p m q)(k:Nat):kG key (rv p (m-(q+1)) m) k=kG key p k:=by
 show key _=key _;rw[Bx I];split
 .exact(B _ ac ac).trans (B k ac ac).symm
 .rfl
section
variable(lo nrem m:Nat)
noncomputable def qC0:Lp (countRun' lo nrem):=⟨rfl⟩
noncomputable def qCa(x):Bd ((qC0 lo nrem).F x (d_,m)):=⟨rfl⟩
noncomputable def qC1:Ic ((qC0 lo nrem).k (d_,m)):=⟨rfl⟩
noncomputable def qC2:Ic (qC1 lo nrem m).f:=⟨rfl⟩
noncomputable def qC3:Bd (qC2 lo nrem m).t:=⟨rfl⟩
noncomputable def qC5:Bd ((qC3 lo nrem m).k (a_ cm)):=⟨rfl⟩
noncomputable def qC6:Bd (qC2 lo nrem m).f:=⟨rfl⟩
noncomputable def qC7:Lp ((qC6 lo nrem m).k ()):=⟨rfl⟩
variable(q:Nat)
noncomputable def qC8:Bd ((qC7 lo nrem 0).F 0 (d_,m,q)):=⟨rfl⟩
noncomputable def qC9:Ic ((qC8 lo nrem m q).k (a_ e_)):=⟨rfl⟩
noncomputable def qCb:Bd (qC9 lo nrem m q).t:=⟨rfl⟩
noncomputable def qCc:Bd ((qC8 lo nrem m q).k (a_ cm)):=⟨rfl⟩
noncomputable def qCd:Ic ((qC7 lo nrem 0).k (d_,m,q)):=⟨rfl⟩
noncomputable def qCe:Bd (qCd lo nrem m q).t:=⟨rfl⟩
noncomputable def qCf:Bd (qCd lo nrem m q).f:=⟨rfl⟩
noncomputable def qCg:Lp ((qCf lo nrem m q).k ()):=⟨rfl⟩
end
section
variable{lo x q m:Nat}
structure DIr(key:Nat->Int)(lo:Nat)(p p':bi)(x q:Nat):Prop where
 fx:Fx lo p p'
 dg:Dg key p' lo (lo+x)
 qx:q+1<=x
 al:Al key p' (lo+x) q
theorem al0:Al key p (lo+(x+1)) 0:=λi h1 B=>by grind
def Dg.rva(d:Dg key p lo (lo+x))(a:Al key p (lo+x) q)(B:lo+x<=p.length):Dg key (rv p (lo+x-(q+1)) (lo+x)) lo (lo+x):=λi j h1 S I=>by rw[Dn B a,Dn B a];exact d i j h1 S I
theorem DIr.turn(h:DIr key lo p p' x q)(B:lo+x<=p'.length):DIr key lo p (rv p' (lo+x-(q+1)) (lo+x)) x 0:=
 ⟨h.fx.trans (rv_fx B (by have:=h.qx;lia)),h.dg.rva h.al B,B_ (Kx (IH _)) h.qx,λi h1 I=>by grind⟩
def DIr.lt(h:DIr key lo p p' x q)(c:kG key p' (lo+x)<kG key p' (lo+x-1)):DIr key lo p p' (x+1) 0:=
 ⟨h.fx,h.dg.step (B_ (Kx (IH _)) h.qx) (Kv c),Kx (IH _),al0⟩
theorem DIr.eq(h:DIr key lo p p' x q)(c:kG key p' (lo+x)=kG key p' (lo+x-1)):DIr key lo p p' (x+1) (q+1):=
 ⟨h.fx,h.dg.step (B_ (Kx (IH _)) h.qx) (Int.le_of_eq c),Kx h.qx,λi h1 B=>by
  rw[show lo+(x+1)-1=lo+x by lia];by_cases hi:i=lo+x
  .rw[hi]
  .exact c▸h.al i ac ac⟩
theorem Dg.rise(d:Dg key p lo (lo+x))(B:lo+x<=p.length):Sg key (rv p lo (lo+x)) lo (lo+x):=λi j U S I=>by show key _<=key _;rw[Bx B,Bx B,p_ ac,p_ ac];exact d _ _ ac ac ac
theorem Sg.flat(h:Sg key p lo (lo+m))(h1:1<=m)(c:¬kG key p lo<kG key p (lo+m-1)):Al key p (lo+m) (m-1):=λi I B=>by
 have:=h lo i (f_ _) ac B;have:=h i (lo+m-1) ac ac ac
 lia
theorem one_Sg:Sg key p lo (lo+1):=λi j S I B=>by grind
theorem Al.dg(a:Al key p (lo+m) (m-1))(h1:1<=m):Dg key p lo (lo+m):=λi j S I B=>by rw[a i ac ac,a j ac B];simp
theorem tM{m nrem n:Nat}(h:m<nrem)(B:lo+nrem<=n):lo+m<n/\lo+m-1<n:=ac
end
theorem wp_asc{t:KV Ir Nl β}(L:wL prog w A E s κ f key n){lo nrem a:Nat}{Q:β->Ir->Prop}(S:SS κ f n st p)(Y:lo+nrem<=n)(g:1<=a)(U:a<=nrem)(B:Sg key p lo (lo+a)){k:Option (Option Nat)×Nat->KV Ir Nl β}(e:t=RN [a:nrem] (d_,a) (qC0 lo nrem).F >>= k)(h:∀m,a<=m->m<=nrem->Sg key p lo (lo+m)->(m=nrem\/kG key p (lo+m)<kG key p (lo+m-1))->Me (u_ prog w) A E s (k (d_,m)) Q st):Me (u_ prog w) A E s t Q st:=
 zS ⟨e⟩ (λx c=>c=(d_,x)/\Sg key p lo (lo+x)) (R:=λc=>∃m,c=(d_,m)/\a<=m/\m<=nrem/\Sg key p lo _/\(m=nrem\/kG key p _<kG key p _)) ⟨rfl,B⟩ (λx c h1 I ⟨e,B⟩ W d b=>by
   subst e;refine fX (qCa lo nrem x x) (qc L S (tM I Y).1 (tM I Y).2 ?_);by_cases c:kG key p (lo+x)<kG key p (lo+x-1)
   .rw[Jf c];exact z_ (d _ ⟨x,rfl,h1,IY I,B,.inr c⟩)
   .rw[IS c];exact z_ (b _ ⟨rfl,B.step (B_ g h1) c⟩)) (λc ⟨e,B⟩=>⟨nrem,a7,U,f_ _,a7,.inl rfl⟩) λc ⟨m,e,h1,I,j,i⟩=>e▸h m h1 I j i
theorem zT(L:wL prog w A E s κ f key n){lo nrem:Nat}{Q:Option Nat->Ir->Prop}(S:SS κ f n st p)(b:lo+nrem<=n)(h1:1<=nrem)(h:∀m B p',SS κ f n B p'->Iq B=Iq st->1<=m->m<=nrem->Sg key p' lo (lo+m)->Fx lo p p'->Q (a_ m) B):Me (u_ prog w) A E s (countRun' lo nrem) Q st:=by
 have d:∀m q p3 I,SS κ f n I p3->Iq I=Iq st->Fx lo p p3->Dg key p3 lo (lo+m)->1<=m->m<=nrem->Me (u_ prog w) A E s (qCd lo nrem m q).f Q I:=λm q p3 I F e3 f3 d3 Y k=>
  have U:lo+m<=p3.length:=by exact F.len▸B_ (Ks k _) b
  fX (qCf ..) (pJ F λX W e4=>wp_asc L W b Y k (d3.rise U) (qCg lo nrem m q).e λm5 g1 g2 Z _=>z_ (h m5 _ _ W (e4.trans e3) (B_ Y g1) g2 Z (f3.trans (rv_fx U (f_ _)))))
 have g:∀m p1 st1,SS κ f n st1 p1->Iq st1=Iq st->Fx lo p p1->Dg key p1 lo (lo+(m+1))->m+1<=nrem->Me (u_ prog w) A E s (qC2 lo nrem m).f Q st1:=λm p1 st1 O e1 f1 d1 k=>by
  refine fX (qC6 ..) (Oe (KO ⟨rfl,?_⟩));refine wp_l (qC7 ..) (λx c B=>∃q p',c=(d_,x,q)/\SS κ f n B p'/\Iq B=Iq st/\DIr key lo p p' x q) (R:=λc B=>∃m q p',c=(d_,m,q)/\SS κ f n B p'/\Iq B=Iq st/\DIr key lo p p' m q/\m<=nrem)
   ⟨0,p1,rfl,O,e1,f1,d1,Kx (IH _),al0⟩ ?step (λc B ⟨q,p',e,j,o,D⟩=>?_) ?post
  case step=>
   rintro x _ B _ l ⟨q,p',rfl,j,o,D⟩;have U:lo+x<=p'.length:=by exact j.len▸IY (tM l b).1
   refine fX (qC8 lo nrem x q) (qc L j (tM l b).1 (tM l b).2 ?_);by_cases c:kG key p' (lo+x)<kG key p' (lo+x-1)
   .exact(Jf c)▸i5 (qC9 lo nrem x q) (λ_=>fX (qCb lo nrem x q) (pJ j λr v e2=>z_ ⟨0,_,rfl,v,e2.trans o,(D.turn U).lt (by rw[Dn U D.al,Dn U D.al];exact c)⟩)) λ_=>z_ ⟨0,p',rfl,j,o,D.lt c⟩
   .rw[IS c];refine fX (qCc lo nrem x q) (qc L j (tM l b).2 (tM l b).1 ?_);by_cases N:kG key p' (lo+x-1)<kG key p' (lo+x)
    .exact(Jf N)▸z_ ⟨x,q,p',rfl,j,o,D,IY l⟩
    .rw[IS N];exact z_ ⟨q+1,p',rfl,j,o,D.eq (Int.le_antisymm (Oi.mp N) (Oi.mp c))⟩
  case post=>
   rintro _ r ⟨m,q,p2,rfl,v,e2,D,k⟩;have U:lo+m<=p2.length:=by exact v.len▸B_ (Ks k _) b
   have Y:=B_ (Kx (IH q)) D.qx;exact i5 (qCd lo nrem m q) (λ_=>fX (qCe lo nrem m q) (pJ v λI F e3=>d m q _ I F (e3.trans e2) (D.turn U).fx (D.turn U).dg Y k)) λ_=>d m q p2 r v e2 D.fx D.dg Y k
  .have y:Sb (m+1) nrem=nrem:=RH k;exact⟨nrem,q,p',by exact e▸Kd (λz=>(d_,z,q)) y,j,o,by rwa [show Sb (qC7 lo nrem m).a (qC7 lo nrem m).b=nrem from y]at D,f_ _⟩
 refine wp_asc L S b (f_ 1) h1 one_Sg (qC0 lo nrem).e λm Y G H J=>i5 (qC1 ..) (λe=>z_ (h m st p S rfl Y G H (Fx.refl _))) λC=>?_;have C:¬m=nrem:=λe=>C (by exact e▸beq_self_eq_true nrem);have u:=J.resolve_left C;have t:=IJ G C;have U:lo+m<=p.length:=by exact S.len▸IY (tM t b).1
 refine i5 (qC2 ..) (λP=>fX (qC3 ..) (qc L S (Kk (Ky lo m) (tM t b).1) (tM t b).2 ?_)) λP=>?_
 .by_cases K:kG key p lo<kG key p (lo+m-1)
  .exact(Jf K)▸z_ (h m st p S rfl Y G H (Fx.refl _))
  .rw[IS K];have a:=H.flat Y K;have D:DIr key lo p p m (m-1):=⟨Fx.refl _,a.dg Y,Mu (Nat.sub_add_cancel Y),a⟩
   have T:=(D.turn U).lt (by rw[Dn U D.al,Dn U D.al];exact u);rw[show lo+m-(m-1+1)=lo by lia]at T;exact fX (qC5 ..) (pJ S λst1 O q1=>g m _ st1 O q1 T.fx T.dg t)
 .have y:m=1:=Ml (RK P) Y;subst y;exact g 1 p st S rfl (Fx.refl _) (Dg.step (Al.dg (m:=1) (λi a1 a2=>by grind) (f_ 1)) (f_ 1) (Kv u)) t
end
section
open PySem.W hiding kindOf
variable{s:j_}{f:Nat->Ji}{key:Nat->Int}
section
variable(lo m ok k:Nat)
noncomputable def qB0:Lp (binarySort' lo m ok):=⟨rfl⟩
noncomputable def qB1:Lp ((qB0 lo m ok).F k (d_,())):=⟨rfl⟩
noncomputable def qB2(x c):Ic ((qB1 lo m ok k).F x c):=⟨rfl⟩
noncomputable def qB3(x c):Bd (qB2 lo m ok k x c).f:=⟨rfl⟩
noncomputable def qB4(l r:Nat):Bd ((qB1 lo m ok k).k (d_,l,r)):=⟨rfl⟩
end
section
variable{lo k l x o:Nat}
def bdK(key:Nat->Int)(p:bi)(lo k i:Nat):Bool:= !decide (kG key p (lo+k)<kG key p (lo+i))
theorem bdK_f(h:bdK key p lo k x=cm):kG key p (lo+k)<kG key p (lo+x):=by simp_all[bdK]
theorem bdK_t(h:bdK key p lo k x=e_):kG key p (lo+x)<=kG key p (lo+k):=by simp_all[bdK]
def bdK_mo(h:Sg key p lo (lo+k)):MoB (bdK key p lo k) k:=λi j B I e=>by have:=h _ _ (Ky _ _) (Ks B _) (Mr I _);have:=bdK_t e;simp only[bdK,Rj,decide_eq_false_iff_not];exact Oi.mpr (Ka ‹_› this)
theorem qS(e:¬l>=o):l<=(l+o)/2/\(l+o)/2<o:=ac
theorem bb_kG(B:lo+k<p.length)(I:l<=k)(i:Nat):kG key (bb p (lo+k) (lo+k-(lo+l))) i=if i=lo+l then kG key p (lo+k)else if lo+l<i/\i<=lo+k then kG key p (i-1)else kG key p i:=by
 unfold kG;rw[bb_get B (MH ..),show lo+k-(lo+k-(lo+l))=lo+l by lia];split
 .rfl
 .split<;>rfl
theorem ins_ok(h:Sg key p lo (lo+k))(I:lo+k<p.length)(B:l<=k)(h1:∀i,i<l->bdK key p lo k i=e_)(S:∀i,l<=i->i<k->bdK key p lo k i=cm):Sg key (bb p (lo+k) (lo+k-(lo+l))) lo (lo+(k+1)):=λi j f e d=>by
 rw[bb_kG I B,bb_kG I B];have Y:∀i,lo<=i->i<lo+l->kG key p i<=kG key p (lo+k):=λi a b=>by
  have:=bdK_t (h1 (i-lo) ac)
  simp_all
 have g2:∀i,lo+l<=i->i<lo+k->kG key p (lo+k)<kG key p i:=λi a b=>by
  have:=bdK_f (S (i-lo) ac ac)
  grind
 by_cases U:i=lo+l
 .grind
 .rw[q_ U];by_cases c:j=lo+l
  .grind
  .split<;>split<;>exact h _ _ ac ac ac
theorem ins_fx(B:lo+k<p.length):Fx lo p (bb p (lo+k) (lo+k-(lo+l))):=λi hi=>by rw[bb_get B (MH ..),q_ ac,q_ ac]
end
theorem EG(L:wL prog w A E s κ f key n){lo m ok:Nat}{Q:Bool->Ir->Prop}(S:SS κ f n st p)(y:lo+m<=n)(h1:1<=ok)(Y:ok<=m)(H:Sg key p lo (lo+ok))(h:∀I p',SS κ f n I p'->Iq I=Iq st->Sg key p' lo (lo+m)->Fx lo p p'->Q e_ I):Me (u_ prog w) A E s (binarySort' lo m ok) Q st:=by
 refine wp_l (qB0 ..) (λk c I=>c=(d_,())/\∃p',SS κ f n I p'/\Iq I=Iq st/\Sg key p' lo (lo+k)/\Fx lo p p') (R:=λc I=>c=(d_,())/\∃p',SS κ f n I p'/\Iq I=Iq st/\Sg key p' lo (lo+m)/\Fx lo p p')
  ⟨rfl,p,S,rfl,by show Sg key p lo (lo+Sb ok 1);simp_all,Fx.refl _⟩ ?step (λc I ⟨e,p',e1,e2,e3,e4⟩=>⟨e,p',e1,e2,?_,e4⟩) λc I ⟨e,p',G,e1,e2,e3⟩=>by cases e;exact z_ (h _ _ G e1 e2 e3)
 case step=>
  rintro k _ st1 C d ⟨rfl,p1,j,e1,s1,f1⟩;have g:=y_ (Mr d _) y;have U:lo+k<p1.length:=by exact j.len▸g
  have M:=bdK_mo s1;refine zS (qB1 lo m ok k) (λx c=>c.1=d_/\Bn _ k x c.2.1 c.2.2) (R:=λc=>c.1=d_/\∃x,Bn (bdK key p1 lo k) k x c.2.1 c.2.2/\c.2.2<=c.2.1) ⟨rfl,IH _,f_ _,f_ _,λi hi=>IA hi (Nat.not_lt_zero _),λi a b=>IA b (OV a)⟩ (λx c _ _ ⟨t,B⟩ W v o=>?_) (λc ⟨t,B⟩=>⟨t,_,B,Bn.ends B⟩) λ⟨_,l,r⟩ ⟨e,x,B,z⟩=>?_
  .refine i5 (qB2 ..) (λe=>z_ (v _ ⟨rfl,x,B,e⟩)) λe=>fX (qB3 ..) (qc L j g (y_ (Mr (y_ (qS e).2 B.l2) _) (IY g)) ?_);have D:m_ (kG key p1 (lo+k)<kG key p1 (lo+(c.2.1+c.2.2)/2))= !bdK key p1 lo k ((c.2.1+c.2.2)/2):=by simp[bdK]
   rw[D];cases q:bdK key p1 lo k _ with
   |true=>exact z_ (o _ ⟨rfl,B.up M (qS e).1 (qS e).2 q⟩)|false=>exact z_ (o _ ⟨rfl,B.dn M (qS e).1 (qS e).2 q⟩)
  .cases e;cases Ml B.l1 z;exact fX (qB4 ..) (wpS_movS j λu F e2=>z_ ⟨rfl,_,F,e2.trans e1,ins_ok s1 U B.l2 B.y1 B.y2,f1.trans (ins_fx U)⟩)
 rwa [show Sb (qB0 lo m ok).a (qB0 lo m ok).b=m from RH (by rw[show(qB0 lo m ok).a=ok from Nat.max_eq_left h1];exact Y)]at e3
end
section
open PySem.W hiding kindOf
variable{s:j_}{f:Nat->Ji}{key:Nat->Int}
noncomputable def mkP:Nat->List (bi×Nat)->List (Nat×Nat×Nat)
 |_,[]=>[]|a,(l,w)::r=>(a,l.length,w)::mkP (a+l.length) r
noncomputable def flt(gs:List (bi×Nat)):bi:=(gs.map JI).flatten
def AH(x y:List (bi×Nat)):flt (x++y)=flt x++flt y:=by simp[flt]
theorem jA(g:bi×Nat)(y:List (bi×Nat)):flt (g::y)=g.1++flt y:=by rfl
theorem nZ:∀(x:List (bi×Nat)) (a:Nat) (y:List (bi×Nat)),mkP a (x++y)=mkP a x++mkP (a+(flt x).length) y
 |[],a,y=>by rfl|(l,w)::x,a,y=>by
  show(a,l.length,w)::mkP _ (x++y)=(a,l.length,w)::(mkP _ x++_)
  rw[nZ x,jA,II,Mc]
theorem vE:∀(x:List (bi×Nat)) (a:Nat),(mkP a x).length=x.length
 |[],_=>rfl|(l,w)::x,a=>by simp[mkP,vE x]
structure RI(κ:Qn)(f:Nat->Ji)(key:Nat->Int)(n:Nat)(st:Ir)(gs:List (bi×Nat))(rest:bi):Prop where
 ss:SS κ f n st (flt gs++rest)
 pd:Iq st=(mkP 0 gs).toArray
 ok:∀g∈gs,Srt key g.1/\0<g.1.length
theorem RI.size{st:Ir}{gs:List (bi×Nat)}{rest:bi}(h:RI κ f key n st gs rest):(Iq st).size=gs.length:=by rw[h.pd];simp[vE]
theorem RI.few:∀{gs:List (bi×Nat)},(∀g∈gs,Srt key g.1/\0<g.1.length)->gs.length<=(flt gs).length
 |[],_=>IH _|g::gs,h=>by
  have I:=RI.few λx B=>h x (Je _ B)
  grind[jA,F_]
theorem merge_gs(L:wL prog w A E s κ f key n){B post:List (bi×Nat)}{a b:bi}{wa wb:Nat}{Q:Bool->Ir->Prop}(R:RI κ f key n st (B++(a,wa)::(b,wb)::post) rest)(hi:i=B.length)(h:∀I m,m.length=a.length+b.length->RI κ f key n I (B++(m,wa)::post) rest->Q e_ I):Me (u_ prog w) A E s (RD i) Q st:=by
 subst hi;have Y:=R.ok (a,wa) ad;have U:=R.ok (b,wb) ad;have k:flt (B++(a,wa)::(b,wb)::post)++rest=flt B++(a++(b++(flt post++rest))):=by rw[AH,jA,jA];simp
 have S:=R.ss;rw[k]at S;have c:=R.pd;simp[nZ,mkP]at c;have o:=vE B 0;refine D1 L S c (wa:=wa) (wb:=wb) ?_ ?_ Y.1 U.1 Y.2 U.2 λI m pm d p p'=>h I m (by rw[pm.length_eq,II]) ⟨?_,?_,?_⟩
 .simp_all
 .simp_all
 .simp_all[AH,jA]
 .rw[p',nZ];have l:m.length=a.length+b.length:=by rw[pm.length_eq,II]
  show _=(mkP 0 B++(0+(flt B).length,m.length,wa)::mkP _ post).toArray;simp_all[Jw,Pp,List.set_append_right,Nj,List.eraseIdxIfInBounds_toArray,List.eraseIdx_append_of_length_le,P_,Mc]
 .intro g j;rcases Iw.mp j with e|e
  .exact R.ok g (Jq _ e)
  .rcases x_.mp e with e|e
   .subst e;exact⟨d,by rw[pm.length_eq,II];lia⟩
   .exact R.ok g (Im _ (Je _ (Je _ e)))
theorem split2{l:List α}(h:i+1<l.length):∃B a b post,l=B++a::b::post/\B.length=i:=by
 refine⟨l.take i,l[i],l[i+1],l.drop (i+2),?_,a0⟩
 simp
noncomputable def rePw(B:Nat):Nat×Nat×Nat->Nat×Nat×Nat
 |(s,l,_)=>(s,l,B)
theorem RI.last{S:Nat}(h:RI κ f key n st gs rest):∃I,I.length=gs.length/\flt I=flt gs/\RI κ f key n (R_ st ((Iq st).modify ((Iq st).size-1) (rePw S))) I rest:=by
 by_cases e:gs=[]
 .subst e;refine⟨[],rfl,rfl,⟨h.ss.kind,h.ss.ok,h.ss.arr,h.ss.perm⟩,?_,h.ok⟩
  rw[h.pd];rfl
 .obtain⟨B,b,rfl⟩:∃B b,gs=B++[b]:=⟨gs.dropLast,gs.getLast e,(O3 e).symm⟩
  obtain⟨b,wb⟩:=b;have U:flt (B++[(b,S)])=flt (B++[(b,wb)]):=by simp[flt]
  refine⟨B++[(b,S)],ad,U,⟨h.ss.kind,h.ss.ok,?_,?_⟩,?_,λg a=>?_⟩
  .exact U▸h.ss.arr
  .exact U▸h.ss.perm
  .rw[h.size,h.pd,nZ,nZ];have Y:=vE B 0;apply Array.ext_getElem?;intro i;rw[Array.getElem?_modify];simp[II,Np,Ra,Qq,mkP];by_cases c:B.length=i
   .subst c;rw[p_ rfl,<- Y,Kz (f_ _),Kz (f_ _),Nj];rfl
   grind
  .rcases Iw.mp a with e|e
   .exact h.ok g (Jq _ e)
   .have:=Ki.mp e;subst this;exact h.ok (b,wb) ad
theorem RI.push{st:Ir}{gs:List (bi×Nat)}{B rest:bi}(h:RI κ f key n st gs (B++rest))(U:Srt key B)(Y:0<B.length):RI κ f key n (R_ st ((Iq st).push ((flt gs).length,B.length,0))) (gs++[(B,0)]) rest:=by
 have I:flt (gs++[(B,0)])++rest=flt gs++(B++rest):=by simp[flt]
 refine⟨⟨h.ss.kind,h.ss.ok,?_,?_⟩,?_,λg S=>?_⟩
 .exact I▸h.ss.arr
 .exact I▸h.ss.perm
 .rw[h.pd,nZ];simp[mkP]
 .rcases Iw.mp S with e|e
  .exact h.ok g e
  simp_all
theorem cut_run{B:Ir}(R:RI κ f key n st gs rest)(U:SS κ f n B p')(a:Iq B=Iq st)(h:(flt gs).length+m<=n)(Y:Sg key p' (flt gs).length ((flt gs).length+m))(d:Fx (flt gs).length (flt gs++rest) p'):
  ∃I S,I.length=m/\Srt key I/\RI κ f key n B gs (I++S):=by
 have k:=U.len;refine⟨(p'.drop (flt gs).length).take m,(p'.drop (flt gs).length).drop m,a0,?_,?_⟩
 .refine KL.mpr λi j hi b c=>?_;simp at hi b;have:=Y ((flt gs).length+i) ((flt gs).length+j) ac ac ac
  grind[kG]
 .have e:flt gs++((p'.drop (flt gs).length).take m++(p'.drop (flt gs).length).drop m)=p':=by
   rw[JC];have:p'.take (flt gs).length=flt gs:=by
    apply L5
    .grind
    .intro i h1 g;have:=d i g
     grind
   have e2:=JC (flt gs).length p'
   rwa [this]at e2
  refine⟨by rw[e];exact U,by exact a▸R.pd,R.ok⟩
section
variable(g:Ir)(lo m:Nat)
noncomputable def qR0:Bd sortRuns':=⟨rfl⟩
noncomputable def qR1:Lp (qR0.k g):=⟨rfl⟩
noncomputable def qR2:Ic ((qR1 g).F 0 (d_,lo)):=⟨rfl⟩
noncomputable def qR3:Bd (qR2 g lo).f:=⟨rfl⟩
noncomputable def qR4:Ic ((qR3 g lo).k (a_ m)):=⟨rfl⟩
noncomputable def qR5:Bd (qR4 g lo m).t:=⟨rfl⟩
noncomputable def qR6:Bd ((qR5 g lo m).k ()):=⟨rfl⟩
noncomputable def qR8:Lp ((qR1 g).k (d_,lo)):=⟨rfl⟩
noncomputable def qR9:Bd ((qR8 g lo).F 0 (d_,())):=⟨rfl⟩
noncomputable def qRa(h):Ic ((qR9 g lo).k h):=⟨rfl⟩
noncomputable def qRb(h):Bd (qRa g lo h).f:=⟨rfl⟩
end
theorem RI.le(R:RI κ f key n st gs rest):(flt gs).length<=n:=by
 have:=R.ss.len
 grind
theorem run_up{l x m:Nat}(c:l<n)(h:x<=l\/l=n)(B:1<=m):x+1<=l+m:=ac
theorem Fs{l m:Nat}(c:l<n)(h:m<=n-l):l+m<=n:=ac
theorem two_gs(L:wL prog w A E s κ f key n){Q:Bool->Ir->Prop}(R:RI κ f key n st gs rest)(c:j=i)(hi:i+1<gs.length)(h:∀I B,RI κ f key n I B rest->(flt B).length=(flt gs).length->B.length+1=gs.length->Q e_ I):Me (u_ prog w) A E s (RD j) Q st:=by
 obtain⟨U,⟨a,wa⟩,⟨b,wb⟩,post,rfl,Y⟩:=split2 hi;refine merge_gs L R (c.trans Y.symm) λS e g d=>h S _ d ?_ ?_
 .simp_all[AH,jA,Mc]
 .simp;rfl
theorem sr_jp(L:wL prog w A E s κ f key n){U g:Ir}{p2:bi}{m:Nat}{W:MY (Option Unit×Nat)->Ir->Prop}(R:RI κ f key n st1 gs rest)(C:SS κ f n U p2)(q2:Iq U=Iq st1)(u:1<=m)(t:(flt gs).length+m<=n)(s2:Sg key p2 (flt gs).length ((flt gs).length+m))(f2:Fx (flt gs).length (flt gs++rest) p2)(z:∀Y i I,RI κ f key n Y i I->(flt i).length=(flt gs).length+m->W (.yield (d_,(flt gs).length+m)) Y):Me (u_ prog w) A E s (qR4 g (flt gs).length m).f W U:=by
 obtain⟨b,I,v,q,o⟩:=cut_run R C q2 t s2 f2;have l:∀S B,RI κ f key n S B (b++I)->(flt B).length=(flt gs).length->Me (u_ prog w) A E s ((modify λs=>R_ s ((Iq s).push ((flt gs).length,m,0))) >>=λ_=>JM _) W S:=λS B a d=>by
  refine J8 (LX (z_ (z _ (B++[(b,0)]) I ?_ ?_)))
  .have:=a.push q (by exact v▸u)
   simp_all
  simp_all[flt]
 show Me _ _ _ _ (match (Iq U).back? with|some (s1,r,_)=>_|_=>_) _ _;rcases(Iq U).back? with _|⟨s1,r,D⟩
 .exact l _ gs o rfl
 .refine wp_l ⟨rfl⟩ (λ_ c Y=>c=(d_,())/\∃B,RI κ f key n Y B _/\(flt B).length=(flt gs).length) ⟨rfl,gs,o,rfl⟩ ?step (λ_ _ h=>h) ?post
  case post=>rintro _ S ⟨rfl,B,a,d⟩;obtain⟨e,_,F,k⟩:=a.last;exact J8 (LX (l _ e k a7))
  case step=>
   rintro y _ S _ _ ⟨rfl,B,a,d⟩;refine J8 (NT ?_);show Me _ _ _ _ (match if (Iq S).size>1 then(Iq S)[(Iq S).size-2]? else d_ with|some (_,_,j)=>_|_=>_) _ _;rw[a.size];split
   .refine i5 ⟨rfl⟩ (λ_=>z_ ⟨rfl,B,a,d⟩) λ_=>J8 (two_gs L a rfl ac λp e k x _=>z_ ⟨rfl,_,k,x.trans d⟩)
   .exact z_ ⟨rfl,B,a,d⟩
theorem zR(L:wL prog w A E s κ f key n){Q:Unit->Ir->Prop}(S:SS κ f n st (A_ n))(K:Iq st=#[])(h1:1<=n)(h:∀B p,SS κ f n B p->Srt key p->Q () B):Me (u_ prog w) A E s sortRuns' Q st:=by
 have hz:(OI st).size=n:=by rw[S.arr];simp
 refine fX qR0 (NT ?_);refine wp_l (qR1 st) (λx c B=>∃gs rest,RI κ f key n B gs rest/\c=(d_,(flt gs).length)/\(x<=(flt gs).length\/(flt gs).length=n)) (R:=λc B=>∃gs rest,RI κ f key n B gs rest/\c=(d_,(flt gs).length)/\(flt gs).length=n)
  ⟨[],A_ n,⟨S,K,λ_ h=>IA h JN⟩,rfl,.inl (IH _)⟩ ?step (λc B ⟨gs,rest,R,e,r⟩=>⟨gs,rest,R,e,?_⟩) ?post
 case step=>
  rintro x _ st1 _ r ⟨gs,rest,R,rfl,d⟩;have t:=R.le;refine i5 (qR2 st (flt gs).length) (λc=>z_ ⟨gs,rest,R,rfl,Ml t (hz▸c)⟩) λc=>?_;have k:(flt gs).length<n:=RJ (hz▸c);have v:∀m,1<=m->∀B Y U,RI κ f key n B Y U->(flt Y).length=(flt gs).length+m->∃Y U,RI κ f key n B Y U/\(d_,(flt gs).length+m)=((d_,(flt Y).length):Option Unit×Nat)/\(x+1<=(flt Y).length\/(flt Y).length=n):=λm i B Y U T z=>⟨Y,U,T,by rw[z],.inl (by exact z▸run_up k d i)⟩
  refine fX (qR3 ..) (zT L R.ss (Mu a7) (MR a7) λm G p2 D q2 i j s2 f2=>?_);rw[hz]at j;refine i5 (qR4 st (flt gs).length m) (λC=>fX (qR5 ..) (Oe (KO ⟨rfl,fX (qR6 ..) (EG L D (Fs k (hz▸RW ..)) i (Nat.le_min.mpr ⟨hz▸j,IY C⟩) s2 λb p3 O J H f3=>?_)⟩))) λ_=>sr_jp L R D q2 i (Fs k j) s2 f2 (v m i)
  .have o:=B_ i (Nat.le_min.mpr ⟨hz▸j,IY C⟩);exact sr_jp L R O (J.trans q2) o (Fs k (hz▸RW ..)) H (f2.trans f3) (v _ o)
 case post=>
  rintro _ st1 ⟨gs,rest,R,rfl,d⟩;have N:rest=[]:=LQ.mp (by have:=R.ss.len;simp_all);subst N;refine wp_l (qR8 st (flt gs).length) (λy c B=>c=(d_,())/\∃I,RI κ f key n B I []/\(I.length+y<=n\/I.length<=1)) (R:=λc B=>c=(d_,())/\∃I,RI κ f key n B I []/\I.length<=1) ⟨rfl,gs,R,.inl (d▸RI.few R.ok)⟩ ?step1 (λc B ⟨e,I,a,q⟩=>⟨e,I,a,?_⟩) λc b ⟨e,I,a,u⟩=>?_
  case step1=>
   rintro y _ b _ q ⟨rfl,I,a,u⟩;refine fX (qR9 ..) (NT (i5 (qRa ..) (λc=>z_ ⟨rfl,I,a,a.size▸c⟩) λc=>fX (qRb ..) ?_));have X:¬I.length<=1:=a.size▸c;refine two_gs L a rfl ?_ λF l P _ W=>z_ ⟨rfl,l,P,.inl ?_⟩
   .have e:=a.size
    lia
   grind
  .have:(I.length+Sb 0 (OI st).size<=n\/I.length<=1):=q
   grind
  .cases e;refine z_ (h b (flt I) (by have:=a.ss;simp_all) ?_)
   match I,u,a.ok with
   |[],_,_=>exact K2|[g],_,ok=>simp_all[jA,flt]
 .have t:=R.le;have:Sb 0 (OI st).size<=(flt gs).length\/(flt gs).length=n:=r
  lia
end
section
open PySem.W hiding kindOf
variable{s:j_}{key:Nat->Int}
def Em(key:Nat->Int)(vs out:bv):Prop:=∃ps:bi,ps.Perm (A_ vs.length)/\Srt key ps/\out=ps.map λi=>vs.getD i JB
def ltOk_of(B:∀i j (C:Bool->j_->Prop),i<vs.length->j<vs.length->C (ltK key i j) s->O_ prog w A κ vs i j C s):wL prog w A E s κ (λi=>(vs.getD i JB,vs.getD i JB)) key vs.length:=by intro i j Q st hi S I h;rw[lt'_eq];refine J8 (NT ?_);rw[I];refine J8 (Oe (K3 (Jo (B i j (λb s'=>s'=s/\b=ltK key i j) hi S ⟨rfl,rfl⟩) (λb s' U=>?_) λ_ _ x=>x.elim)));obtain⟨rfl,rfl⟩:=U;exact⟨rfl,z_ h⟩
theorem pwS_{α:Type}{R:α->α->Prop}:∀{l:List α},l.length<2->l.Pairwise R
 |[],_=>.nil
 |[x],_=>List.pairwise_singleton _ _
theorem ye{P:QX->j_->Prop}(e:s.heap.get? a=a_ (Lz "list" vs.toArray n))(hz:vs.length<=n_)(C:2<=vs.length->∀h1:IF,(∀b o,b≠a->s.heap.get? b=a_ o->h1.get? b=a_ o)->Ex prog w A key vs {s with heap:=h1})(h:∀(h':IF) (c:Nat) (out:bv),Em key vs out->(∀b o,b≠a->s.heap.get? b=a_ o->h'.get? b=a_ o)->h'.get? a=a_ (Lz "list" out.toArray c)->P (.done (.ret .none)) {s with heap:=h'}):
  w_ (u_ prog w) A (Builtin.«list.sort» ⟨[.ref a],[]⟩) P E s:=by
 obtain⟨e1,j⟩:∃e1,(s.heap.update a (Lb λ_=>(#[]:Array g_))).get? a=a_ (Lz "list" #[] e1):=⟨_,get?_update_seq e λ_=>#[]⟩
 rw[list_sort_plain];refine b_ (listItems_at e rfl (b_ (QH e rfl (b_ (RC j rfl (b_ (Qb (b_ (Qv (Ju ?_) (IH _))) a7)))) a7 (IH _))));have U:∀b o,b≠a->s.heap.get? b=a_ o->(((s.heap.update a (Lb λ_=>(#[]:Array g_))).push (Lz "tuple" vs.toArray 0)).push (Lz "list" #[] 0)).get? b=a_ o:=λb o l q=>c_ _ (c_ _ ((K8 _ _ (IV l)).trans q))
 have I:(((s.heap.update a (Lb λ_=>(#[]:Array g_))).push (Lz "tuple" vs.toArray 0)).push (Lz "list" #[] 0)).get? a=a_ (Lz "list" #[] e1):=c_ _ (c_ _ j);dsimp only;have k:∀(out:bv),Em key vs out->P (.done (.ret .none)) {s with heap:=(((s.heap.update a (Lb λ_=>(#[]:Array g_))).push (Lz "tuple" vs.toArray 0)).push (Lz "list" #[] 0)).update a (Lb λ_=>out.toArray)}:=λout d=>h _ _ out d (λb o l q=>(K8 _ _ (IV l)).trans (U b o l q)) (get?_update_seq I λ_=>out.toArray)
 have m:(A_ vs.length).map (λi=>vs.getD i JB)=vs:=by
  apply L5
  .simp
  .intro i G D;simp[D]
 by_cases f:vs.toArray.size<2
 .rw[p_ f,p_ f];refine b_ (fm (b_ (fm ?_)));have Y:vs.length<2:=by simpa using f
  have d:(OI (Mp general' (vs.toArray.zip vs.toArray) #[] 7 d_)).map (·.2)=vs.toArray:=by show(vs.toArray.zip vs.toArray).map (·.2)=vs.toArray;apply MZ.mp;simp only[Array.toList_map,Array.toList_zip];exact List.map_snd_zip (f_ _)
  rw[d];refine b_ (RC I rfl (b_ (QH I rfl ?_ (IH _) ac)));have e3:Of (Mp general' (vs.toArray.zip vs.toArray) #[] 7 d_)=d_:=rfl;simp only[e3,bne_self_eq_false,Mz,Pu];refine fm (k vs ⟨A_ vs.length,Li _,?_,m.symm⟩)
  exact pwS_ (by simpa using Y)
 .rw[q_ f,q_ f];have Y:2<=vs.length:=by rw[Jm]at f;lia
  refine b_ (Jo (C Y _ U) (fun κ F y=>?_) λ_ _ x=>x.elim);obtain⟨es,u⟩:=y;subst es;have ea:vs.toArray.zip vs.toArray=((A_ vs.length).map λi=>(vs.getD i JB,vs.getD i JB)).toArray:=by
   apply MZ.mp;apply L5
   .simp
   .grind
  have g:=zR (E:=E) (ltOk_of (E:=E) u) (st:=Mp κ (vs.toArray.zip vs.toArray) #[] 7 d_) (Q:=λ_ B=>Of B=d_/\∃out,Em key vs out/\(OI B).map (·.2)=out.toArray) ⟨rfl,rfl,ea,Li _⟩ rfl ac (λB p S sp=>⟨S.ok,_,⟨p,S.perm,sp,rfl⟩,by rw[S.arr];simp⟩);unfold Me at g;refine b_ (Jo g (λr s' v=>?_) λ_ _ x=>x);obtain⟨⟨⟩,B⟩:=r;obtain⟨rfl,t,out,e,d⟩:=v;have t:Of B=d_:=t;have d:(OI B).map (·.2)=out.toArray:=d;dsimp only;rw[d];have z:out.length=vs.length:=by obtain⟨ps,h1,_,rfl⟩:=e;rw[l_,h1.length_eq,J_]
  refine b_ (RC I rfl (b_ (QH I rfl ?_ (IH _) a0)));simp only[t,bne_self_eq_false,Mz,Pu];exact fm (k _ e)
theorem nM{Q:Mq}(d:s.heap.IsList l vs.toArray)(S:vs.length<=n_)(e:2<=vs.length->∀h1:IF,(∀b o,s.heap.get? b=a_ o->h1.get? b=a_ o)->Ex prog w A.in1.in1 key vs {s with heap:=h1})(h:∀(h':IF) (D:h_) (c:Nat) (out:bv),Em key vs out->s.heap.objs.size<=D->(∀b o,s.heap.get? b=a_ o->h'.get? b=a_ o)->h'.get? D=a_ (Lz "list" out.toArray c)->Q (.ref D) {s with heap:=h'}):
  w_ (u_ prog w) A (Ms (.builtin "sorted") [.ref l]) Q E s:=by
 refine Pl kind_sorted plain_sorted entry_sorted (args_sorted1 _) (b_ (fm (b_ (collect_list d (b_ (Qv ?_ ac)) ac))));have hz:((s.heap.push (Lz "list" #[] 0)).update s.z (Lb (·++vs.toArray))).objs.size=s.z+1:=by rw[Heap.size_update,size_push']
 have Y:(((s.heap.push (Lz "list" #[] 0)).update s.z (Lb (·++vs.toArray))).push (Lz "list" vs.toArray 0)).get? (s.z+1)=a_ (Lz "list" vs.toArray 0):=by exact hz▸i_ _ rfl
 have B:∀b o,s.heap.get? b=a_ o->(((s.heap.push (Lz "list" #[] 0)).update s.z (Lb (·++vs.toArray))).push (Lz "list" vs.toArray 0)).get? b=a_ o:=λb o q=>c_ _ ((K8 _ _ (J3 (r_ q))).trans (c_ _ q))
 rw[hz];have I:∀b o,s.heap.get? b=a_ o->b≠s.z+1:=λb o q=>G_ (Ro (r_ q));exact b_ (Ju (Ip slot_list_sort ⟨_,Y,rfl⟩ entry_list_sort (ye Y S (λf h1 U=>e f h1 λb o q=>U b o (I b o q) (B b o q)) λh' c out a k' g=>⟨_,rfl,(fm ⟨_,rfl,h h' _ c out a (MS _) (λb o q=>k' b o (I b o q) (B b o q)) g⟩)⟩) (args_list_sort _)))
end
section
open PySem.W hiding kindOf
variable{lt:α->α->Bool}
theorem xT(o:Ord lt)(B:List α)(d:α){ps:bi}(h1:ps.Perm (A_ B.length))(c:Srt (rk lt B d) ps):ps.map (λi=>B.getD i d)=cv lt B:=by
 refine mj o ?_ ?_ (gh o B)
 .refine(h1.map _).trans ?_;have:(A_ B.length).map (λi=>B.getD i d)=B:=by
   apply L5
   .simp
   .intro i e Y;simp[Y]
  rw[this];exact(bD B).symm
 .rw[MP];refine SU (λ{a b} U I S=>?_) c;exact(Dq o (IM.mp (h1.mem_iff.mp I)) (IM.mp (h1.mem_iff.mp U)))▸IS ac
variable{W:bY}
theorem xi(o:Ord lt){s:j_}{Q:VK}{B:List α}{d0:α}{S:α->A'}(I:B3 X B1 σ H s)(n:aM F H)(t:SqL X.K F a xs)(r:ay X.K F (B.map S) xs)(z:∀its:bv,B6 xs its->2<=its.length->∀h1:IF,(∀b o,s.heap.get? b=a_ o->h1.get? b=a_ o)->Ex X.prog X.w X.A.in1.in1 (rk lt B d0) its {s with heap:=h1})(p:aH X.K W e_ F H (.ok (.lst ((cv lt B).map S))) Q):w_ (u_ X.prog X.w) X.A (Ms (.builtin "sorted") [.ref a]) (EP X B1 σ Q) X.xe s:=by
 obtain⟨its,f,pl,hz⟩:=I.list (n.lst t);have C:=f.length;have x:=r.length;rw[l_]at x;refine nM (key:=rk lt B d0) pl.isList ac (λm h1 g=>z its f m h1 g) λh' D c out y u g e=>?_;obtain⟨ps,h1,m,rfl⟩:=y;rw[show its.length=B.length by lia]at h1;have U:∀i∈ps,i<xs.length:=λi hi=>by grind
 have l:(ps.map λi=>xs.getD i .non).length<=n_:=by rw[l_,h1.length_eq,J_];lia
 have j:=vals_map f ps U;have h:ay X.K F ((cv lt B).map S) (ps.map λi=>xs.getD i .non):=by
  rw[<- xT o B d0 h1 m,Cb];refine ay.of_get ad λk E v Y g2=>?_;rw[E_]at Y g2;cases ek:ps[k]? with
  |none=>simp_all|some i=>
   rw[ek]at Y g2;simp only[Mb,LJ,Rh]at Y g2;have hi:=U i (Jd ek);obtain⟨w,e1,q⟩:=r.get (i:=i) (d:=S (B[i]'(by omega))) (by simp[show i<B.length by lia]);rw[getD_get (show i<B.length by lia)]at Y
   simp_all
 have A:B3 X B1 σ (upd H D (.lst (ps.map λi=>xs.getD i .non))) {s with heap:=h'}:=I.laid (t':=s.toks) g u (show gQ _ h' D (.lst _)from⟨l,_,c,j,e⟩);exact⟨.ref D,_,A,rfl,p.lst n h (I.hok.fresh u)⟩
def nO(ds:be):M A':=match bZ ds with
 |.ok is=>.ok (.lst ((cv ltZ is).map .int))|.error _=>(gC ds).bind λts=>if (ts.all λt=> !t.isEmpty)=e_ then .ok (.lst ((cv qX ts).map aR))else stk
def fT:cc
 |[.lst ds]=>nO ds|_=>stk
def sH(k: ~~~(X.K=K)):kZ K W e_ X (.builtin "sorted") fT:=by
 subst k;intro B1 s σ H xs us Q I j h;obtain⟨F,d,x,s1,rfl,q,p⟩:=gW (λds=>by match ds with|[d]=>simp|[]=>exact .inr rfl|a::b::c=>exact .inr (by cases a<;>rfl)) h;obtain⟨u,rfl,i⟩:=j.one;cases d with
 |lst ds=>
  obtain⟨a,ys,rfl,t,r⟩:=q;cases i;have p':aH X.K W e_ F H (nO ds) Q:=p;unfold nO at p';cases U:bZ ds with
  |ok is=>rw[U]at p';have f:=GJ U;subst f;refine xi ordZ (d0:=0) I s1 t r (λits Y e h1 g=>?_) p';have e2:=cW r U;subst e2;exact I9 (intsAre_of Y) e|error z=>
   rw[U]at p';have p2:=p';cases S:gC ds with
   |error l=>rw[S]at p2;have:=mH S;subst this;exact aH.stuck p2|ok ts=>
    rw[S]at p2;have f:=mG S;subst f;have p3:aH X.K W e_ F H (if (ts.all λt=> !t.isEmpty)=e_ then .ok _ else stk) Q:=p2;by_cases B:(ts.all λt=> !t.isEmpty)=e_
    .rw[p_ B]at p3;exact xi BR I s1 t r (λits Y e h1 g=>HZ I s1 r B Y e g) p3
    .rw[q_ B]at p3;exact aH.stuck p3
 |_=>exact aH.stuck p
end
section
open PySem SetTable
end
section
open PySem
def TKeys(prog:IQ)(w:JX)(h:IF)(rs:List (a9×h_)):Prop:=∀r∈rs,(tupleKind (Nb prog w)).is h r.1 r.2
end
section
open PySem SetTable
end
section
open PySem.W
variable{s:j_}
def ints_key{k:a9}(h:ItemsAre (Nb prog w) k vs):Ma vs k:=by
 induction h with
 |nil=>exact .nil|cons h1 _ B=>obtain⟨t,rfl⟩:=key_is h1;exact .cons _ _ B
theorem asks_tt(E:TKeys prog w s.heap rs)(c:((rs.map JI).all λt=> !t.isEmpty)=e_)(h2:2<=rs.length):Ex prog w A (rk qX (rs.map JI) []) (rs.map λr=>s_ r.2) s:=by
 have I:∀i,i<rs.length->∃(l:h_) (U:NY) (us:Array g_) (n:Nat),(rs.map λr=>s_ r.2).getD i JB=.ref l/\s.heap.get? l=a_ U/\U.cls=.type "tuple"/\U.data=.seq us n/\Ma us.toList ((rs.map JI).getD i []):=λi hi=>by obtain⟨o,us,n,J,H,G,F⟩:=E rs[i] (Iz hi);exact⟨rs[i].2,o,us,n,by simp[hi],J,H,G,by simpa[hi] using ints_key F⟩
 have S:∀(k:Nat),k<=rs.length->∃fs,KatTups s.heap ((rs.map λr=>s_ r.2).drop (rs.length-k)) fs/\fs.length=k/\∀v∈fs,∃i t,v=L3 i t:=by
  intro k
  induction k with
  |zero=>intro _;exact⟨[],by rw[Oy,Qa ad];exact PX,rfl,λ_ h=>nomatch h⟩
  |succ k y=>
   intro hk;obtain⟨fs,q1,q2,Y⟩:=y ac;have hi:rs.length-(k+1)<rs.length:=ac
   obtain⟨l,U,us,n,e1,e2,e3,e4,e5⟩:=I _ hi;have d:((rs.map JI).getD (rs.length-(k+1)) [])≠[]:=by
    have B:rs.length-(k+1)<(rs.map JI).length:=by rw[l_];exact hi
    rw[getD_get B];have:=Jc.mp c _ (Iz B);simpa using this
   obtain⟨z,L⟩:∃z,(rs.map JI).getD (rs.length-(k+1)) []=z:=⟨_,rfl⟩
   rw[L]at e5 d;generalize b:us.toList=x at e5;obtain⟨f,fr,N,D⟩:∃f fr,x=f::fr/\∃i t,f=L3 i t:=by
    cases e5 with
    |nil=>exact IA rfl d|cons m t r=>exact⟨_,_,rfl,_,_,rfl⟩
   refine⟨f::fs,?_,by simp[q2],λv a=>?_⟩
   .have B:rs.length-(k+1)<(rs.map λr=>s_ r.2).length:=by rw[l_];exact hi
    rw[Js B,show rs.length-(k+1)+1=rs.length-k by lia];rw[getD_get B]at e1;exact e1▸PB e2 e3 e4 (by rw[<- KA,b,N];rfl) q1
   .rcases x_.mp a with e|e
    .exact e▸D
    .exact Y v e
 obtain⟨fs,q1,q2,Y⟩:=S rs.length (f_ _);rw[Nj,LV]at q1;refine kat_kind (s:=s) (T:=.type "int") q1 ac (λv a=>?_) rfl ⟨rfl,λi j C hi g p=>?_⟩
 .obtain⟨i,t,e⟩:=Y v a;exact e▸Pz rfl
 .rw[l_]at hi g;unfold O_;obtain⟨R,X,us,Z,e1,K,_,P,u⟩:=I i hi;obtain⟨Q,W,vs,n2,e2,g2,_,O,q⟩:=I j g;rw[e1,e2];rw[Dq BR a7 a7]at p;refine kat_lt (s:=s) K P g2 O (mx 0 u q ?_);rw[<- Iu,<- Iu,u.length,q.length,vG];exact p
end
section
open PySem
structure IK(prog:IQ)(w:JX)(κ:Type)[KZ κ] where
 is:IF->κ->g_->Prop
 hash:κ->Int
 draws:κ->Nat
 up:Nat
 fuel:Nat
 inj:∀{h:IF} {v:g_} {x y:κ},is h x v->is h y v->x=y
 keeps:∀{h h':IF} {k:κ} {v:g_},is h k v->(∀(a:h_) (o:NY) (us:Array g_) (n:Nat),h.get? a=a_ o->o.data=.seq us n->h'.get? a=a_ o)->is h' k v
 pyHash:∀{A:Kb} {E:Mq} {s:j_} {k:κ} {v:g_} {Q:Int->j_->Prop},A.units+up<IU->is s.heap k v->Q (hash k) {s with toks:=s.toks+draws k}->w_ (u_ prog w) A (Oa v) Q E s
 eqBool:∀{A:Kb} {E:Mq} {s:j_} {x y:κ} {u v:g_} {Q:Bool->j_->Prop},A.units+up<IU->is s.heap x u->is s.heap y v->Q (m_ (x=y)) s->w_ (u_ prog w) A (Mj u v) Q E s
 quiet:∀{A:Kb} {E:Mq} {s:j_} {k:κ} {v:g_} {Q:Bool->j_->Prop} (n:Nat),fuel<=n->is s.heap k v->Q e_ s->w_ (u_ prog w) A (QO n v) Q E s
variable{s:j_}
def TupAt(h:IF)(a:h_)(us:bv):Prop:=∃o n,h.get? a=a_ o/\o.cls=.type "tuple"/\o.data=.seq us.toArray n
def TupAt.ty(h:TupAt s.heap a us):s.TypeIs (.ref a) "tuple":=let ⟨o,_,B,I,_⟩:=h;⟨o,B,I⟩
theorem TupAt.inj(x:TupAt h a us)(y:TupAt h a vs):us=vs:=by
 obtain⟨o,n,U,_,Y⟩:=x;obtain⟨o',S,B,_,I⟩:=y
 simp_all
def TupAt.keep(x:TupAt h a us)(k:∀(a:h_) (o:NY) (us:Array g_) (n:Nat),h.get? a=a_ o->o.data=.seq us n->h'.get? a=a_ o):TupAt h' a us:=
 let ⟨o,n,I,S,B⟩:=x;⟨o,n,k _ _ _ _ I B,S,B⟩
inductive Hs(prog:IQ)(w:JX)(A:Kb)(h:IF):List g_->List Int->Nat->Prop
 |nil:Hs prog w A h [] [] 0
 |cons {v:g_} {vs:List g_} {i:Int} {is:List Int} {d n:Nat} (hv:∀(E:Mq) (s:j_) (Q:Int->j_->Prop),s.heap=h->Q i {s with toks:=s.toks+d}->w_ (u_ prog w) A (Oa v) Q E s) (r:Hs prog w A h vs is n):Hs prog w A h (v::vs) (i::is) (d+n)
theorem Cg{Q:Int->j_->Prop}(l:A.units<IU)(e:TupAt s.heap a us)(hi:Hs prog w A.in1 s.heap us is n)(h:Q (Mi (Ik is)) {s with toks:=s.toks+(n+1)}):
  w_ (u_ prog w) A (Oa (.ref a)) Q E s:=by
 have I:=e.ty;obtain⟨o,m,p,_,t⟩:=e;unfold Oa
 first|unfold pyHashByItsType|skip
 first|refine b_ (wpAny_cRoomFor_or (.inr l) ?_)|skip
 refine b_ (MA I M0.lookup ?_);show w_ _ _ (ite ((a_ (RT "tuple.__hash__")==a_ JB)=e_) _ _) Q E s;rw[q_ ad];refine b_ (MA I M0.lookup ?_);show w_ _ _ (callSpecialIfBoundUnlessNone? (.ref a) "__hash__" _ >>= _) Q E s;refine b_ (wpAny_callSpecialIfBoundUnlessNone?_slot I M0 (Ip M0 I F.entry_tuple_hash ?_ (F.args_tuple_hash_1 _)));show w_ _ _ (N4 (.ref a) >>= _) _ _ s;refine b_ (LW p t ?_);refine b_ ?_;rw[<- QL];refine Mh _ (λrest (b:Array Int) s'=>∃B m k,Hs prog w A.in1 s.heap rest B m/\b.toList++B=is/\k+m=n/\s'={s with toks:=s.toks+k}) _ ?_ ?_ _ _ ⟨is,n,0,hi,rfl,ac,rfl⟩
 .rintro x rest b s' ⟨B,m,k,U,c,q,rfl⟩;cases U with
  |@cons _ _ i S d g j r=>refine b_ (j _ _ _ rfl (fm ⟨S,g,k+d,r,a7,ac,?_⟩));simp[Mc]
 .rintro b s' ⟨B,m,k,U,c,q,rfl⟩;cases U;rw[J1]at c;have Y:k=n:=ac
  subst Y;show w_ _ _ (retInt (Ik b.toList)) _ _ _;rw[c];refine wpAny_ret_mkInt ?_;refine(?_:w_ _ _ (ite ((m_ (-(2:Int)^63<=Ik is)&&m_ (Ik is<2^63))=e_) _ _) Q E _)
  unfold Mi at h;by_cases f:(m_ (-(2:Int)^63<=Ik is)&&m_ (Ik is<2^63))=e_
  .rw[p_ f]at h ⊢;exact fm (by simp_all[Mc])
  .rw[q_ f]at h ⊢;exact b_ (KO (fm (by simpa[Mc] using h)))
inductive Es(prog:IQ)(w:JX)(A:Kb)(h:IF):List g_->List g_->Bool->Prop
 |nil {us vs:List g_} (e:us=[]\/vs=[]):Es prog w A h us vs e_
 |cons {u v:g_} {us vs:List g_} {b c:Bool} (hv:∀(E:Mq) (s:j_) (Q:Bool->j_->Prop),s.heap=h->Q b s->w_ (u_ prog w) A (Mj u v) Q E s) (r:Es prog w A h us vs c):Es prog w A h (u::us) (v::vs) (b&&c)
theorem AI{c:Bool}{P:QX->j_->Prop}(o:TupAt s.heap a us)(m:TupAt s.heap b vs)(t:Es prog w A s.heap us vs c)(h:P (.done (.ret (.bool (c&&us.length==vs.length)))) s):
  w_ (u_ prog w) A (Builtin.«tuple.__eq__» ⟨[.ref a,.ref b],[]⟩) P E s:=by
 have k:=m.ty;obtain⟨G,na,g,_,j⟩:=o;obtain⟨F,nb,f,_,i⟩:=m;show w_ _ _ (isInstance _ _ >>= _) _ _ s;refine b_ (Kl k N2 (b_ (LW g j (b_ (LW f i (b_ ?_))))));refine Mh _ (λrest r s'=>r.1=d_/\s'=s/\∃I B U,rest=List.zip I B/\Es prog w A s.heap I B U/\U=c) _ ?_ ?_ _ _ ⟨rfl,rfl,us,vs,c,ad,t,rfl⟩
 .rintro⟨u,v⟩ rest r s' ⟨H,rfl,I,B,U,hz,S,n⟩;cases S with
  |nil e=>
   rcases e with e|e
   .simp_all
   simp_all
  |@cons C z d Y y x p l=>
   obtain⟨⟨rfl,rfl⟩,rfl⟩:=hz;refine b_ (p _ _ _ rfl ?_);cases y with
   |true=>exact fm ⟨rfl,rfl,d,Y,x,rfl,l,a7⟩|false=>simp only[<- n,ai]at h;exact b_ (fm (fm (fm h)))
 .rintro⟨l,D⟩ s' ⟨rfl,rfl,I,B,U,hz,S,n⟩;have q:c=e_:=by
   cases S with
   |nil e=>lia|cons _ _=>simp_all
  rw[q]at h;exact fm h
theorem eq_tup{c:Bool}{Q:Bool->j_->Prop}(U:A.units<IU)(I:TupAt s.heap a us)(S:TupAt s.heap b vs)(d:Es prog w A.in1 s.heap us vs c)(Y:a=b->(c&&us.length==vs.length)=e_)(h:Q (c&&us.length==vs.length) s):
  w_ (u_ prog w) A (Mj (.ref a) (.ref b)) Q E s:=by
 unfold Mj
 try with_reducible refine Ju ?_
 by_cases B:(s_ a==s_ b)=e_
 .rw[p_ B];rw[Y a7]at h;exact b_ (KO (fm h))
 .exact(q_ B)▸b_ (MJ I.ty S.ty M1 (Ip M1 I.ty F.entry_tuple_eq (AI I S d ⟨_,rfl,(λe=>nomatch e),JW h⟩) (F.args_tuple_eq_2 _ _)) U)
theorem xE{Q:Bool->j_->Prop}(n:Nat)(S:TupAt s.heap a us)(Y:∀v∈us,∀(E:Mq) (Q:Bool->j_->Prop),Q e_ s->w_ (u_ prog w) A (QO n v) Q E s)(h:Q e_ s):w_ (u_ prog w) A (QO (n+1) (.ref a)) Q E s:=by
 have U:=S.ty;obtain⟨o,m,b,_,c⟩:=S;unfold QO;refine b_ (MA U M1.lookup (b_ (Kl U N2 ?_)));refine b_ (Kn b c (b_ ?_));rw[<- QL];refine Mh _ (λrest r s'=>r.1=d_/\s'=s/\∀v∈rest,v∈us) _ ?_ ?_ _ _ ⟨rfl,rfl,λv f=>by simp_all⟩
 .rintro v rest r s' ⟨g,rfl,B⟩;exact b_ (Y v (B v JJ) _ _ (fm ⟨rfl,rfl,λu I=>B u (Je _ I)⟩))
 .rintro⟨e,d⟩ s' ⟨rfl,rfl,_⟩;exact fm h
end
section
open PySem
variable{κ μ:Type}[KZ κ][KZ μ]
inductive q9{α β:Type}(R:α->β->Prop):List α->List β->Prop
 |nil:q9 R [] []
 |cons {x:α} {y:β} {xs:List α} {ys:List β} (h:R x y) (t:q9 R xs ys):q9 R (x::xs) (y::ys)
def q9.imp{R S:α->β->Prop}(f:∀x y,R x y->S x y){xs:List α}{ys:List β}(h:q9 R xs ys):q9 S xs ys:=by
 induction h with
 |nil=>exact .nil|cons h _ B=>exact .cons (f _ _ h) B
theorem q9.mem{R:α->β->Prop}{xs:List α}{ys:List β}(h:q9 R xs ys):∀y∈ys,∃x,R x y:=by
 induction h with
 |nil=>simp|cons h _ B=>grind
noncomputable def zM(prog:IQ)(w:JX):IK prog w Int where
 is:=λ_ k v=>∃t,v=.int k t
 hash:=So
 draws:=λ_=>1
 up:=0
 fuel:=0
 inj:=λ⟨t,e⟩ ⟨u,f⟩=>by lia
 keeps:=λh _=>h
 pyHash:=λ_ ⟨t,e⟩ h=>by subst e;exact(Nb prog w).pyHash (R5 _ _ _ _) h
 eqBool:=λ_ ⟨t,e⟩ ⟨u,f⟩ h=>by subst e f;exact(Nb prog w).eqBool (R5 _ _ _ _) (R5 _ _ _ _) h
 quiet:=λn _ ⟨t,e⟩ h=>by subst e;rw[eqIsQuiet_byValue n rfl];exact fm h
theorem hs_all(I:IK prog w κ){A:Kb}{h:IF}(B:A.units+I.up<IU):∀{ks:List κ} {us:bv},q9 (I.is h) ks us->Hs prog w A h us (ks.map I.hash) ((ks.map I.draws).sum)
 |_,_,.nil=>.nil|_,_,.cons q t=>.cons (λE s Q e S=>I.pyHash B a7 S) (hs_all I B t)
theorem es_all(I:IK prog w κ){A:Kb}{h:IF}(B:A.units+I.up<IU):∀{ks ls:List κ} {us vs:bv},q9 (I.is h) ks us->q9 (I.is h) ls vs->∃c,Es prog w A h us vs c/\(c&&us.length==vs.length)=m_ (ks=ls)
 |_,_,_,_,.nil,.nil=>⟨e_,.nil (.inl rfl),ad⟩|_,_,_,_,.nil,.cons q t=>⟨e_,.nil (.inl rfl),ad⟩|_,_,_,_,.cons q t,.nil=>⟨e_,.nil (.inr rfl),ad⟩|k::ks,l::ls,_,_,.cons q t,.cons U t'=>by
  obtain⟨c,e,Y⟩:=es_all I B t t';refine⟨m_ (k=l)&&c,.cons (λE s Q e S=>I.eqBool B a7 a7 S) e,?_⟩
  grind
theorem Be(I:IK prog w κ){h:IF}:∀{ks ls:List κ} {us:bv},q9 (I.is h) ks us->q9 (I.is h) ls us->ks=ls
 |_,_,_,.nil,.nil=>rfl|_,_,_,.cons q t,.cons B t'=>by rw[I.inj q B,Be I t t']
noncomputable def tupI(I:IK prog w κ):IK prog w (List κ) where
 is:=λh ks v=>∃a us,v=.ref a/\TupAt h a us/\q9 (I.is h) ks us
 hash:=λks=>Mi (Ik (ks.map I.hash))
 draws:=λks=>(ks.map I.draws).sum+1
 up:=I.up+1
 fuel:=I.fuel+1
 inj:=λ⟨a,us,e,t,q⟩ ⟨b,vs,f,t',B⟩=>by rw[e]at f;cases f;have:=t.inj t';subst this;exact Be I q B
 keeps:=λ⟨a,us,e,t,q⟩ k=>⟨a,us,e,t.keep k,q.imp λ_ _ z=>I.keeps z k⟩
 pyHash:=λ{A E s k v Q} d ⟨a,us,e,t,q⟩ h=>by subst e;exact Cg ac t (hs_all I (A:=A.in1) ac q) h
 eqBool:=λ{A E s x y u v Q} d ⟨a,us,e,t,q⟩ ⟨b,vs,f,t',B⟩ h=>by subst e f;obtain⟨c,es,U⟩:=es_all I (A:=A.in1) ac q B;rw[<- U]at h;refine eq_tup ac t t' es (λe=>?_) h;subst e;have:=t.inj t';subst this;rw[U,Be I q B];simp
 quiet:=λ{A E s k v Q} n i ⟨a,us,e,t,q⟩ h=>by
  subst e;obtain⟨m,rfl⟩:∃m,n=m+1:=⟨n-1,ac⟩
  refine xE m t (λv Y E Q g=>?_) h;obtain⟨k',S⟩:=q.mem v Y;exact I.quiet m ac S g
noncomputable def pairI(I:IK prog w κ)(J:IK prog w μ):IK prog w (κ×μ) where
 is:=λh k v=>∃a U S,v=.ref a/\TupAt h a [U,S]/\I.is h k.1 U/\J.is h k.2 S
 hash:=λk=>Mi (Ik [I.hash k.1,J.hash k.2])
 draws:=λk=>I.draws k.1+(J.draws k.2+0)+1
 up:=Sb I.up J.up+1
 fuel:=Sb I.fuel J.fuel+1
 inj:=λ{h v x y} ⟨a,U,S,e,t,q1,q2⟩ ⟨b,c,Y,f,t',p1,p2⟩=>by rw[e]at f;cases f;have:=t.inj t';simp only[Oh,and_true]at this;obtain⟨rfl,rfl⟩:=this;exact Pm (I.inj q1 p1) (J.inj q2 p2)
 keeps:=λ⟨a,U,S,e,t,q1,q2⟩ k=>⟨a,U,S,e,t.keep k,I.keeps q1 k,J.keeps q2 k⟩
 pyHash:=λ{A E s k v Q} i ⟨a,U,S,e,t,q1,q2⟩ h=>by subst e;exact Cg ac t (.cons (λE s' Q e B=>I.pyHash (A:=A.in1) ac a7 B) (.cons (λE s' Q e B=>J.pyHash (A:=A.in1) ac a7 B) .nil)) h
 eqBool:=λ{A E s x y u v Q} i ⟨a,U,S,e,t,q1,q2⟩ ⟨b,c,Y,f,t',p1,p2⟩ h=>by
  subst e f;have g:((m_ (x.1=y.1)&&(m_ (x.2=y.2)&&e_))&&[U,S].length==[c,Y].length)=m_ (x=y):=by obtain⟨p,o⟩:=x;obtain⟨l,j⟩:=y;simp[Prod.mk.injEq]
  rw[<- g]at h;refine eq_tup ac t t' (.cons (λE s' Q e B=>I.eqBool (A:=A.in1) a0 a7 a7 B) (.cons (λE s' Q e B=>J.eqBool (A:=A.in1) a0 a7 a7 B) (.nil (.inl rfl)))) (λe=>?_) h;subst e;have:=t.inj t';simp only[Oh,and_true]at this;obtain⟨rfl,rfl⟩:=this;rw[g,Pm (I.inj q1 p1) (J.inj q2 p2)];simp
 quiet:=λ{A E s k v Q} n q ⟨a,U,S,e,t,q1,q2⟩ h=>by
  subst e;obtain⟨m,rfl⟩:∃m,n=m+1:=⟨n-1,ac⟩
  refine xE m t (λv d E Q B=>?_) h;simp only[x_,JN,or_false]at d;rcases d with e|e
  .subst e;exact I.quiet m ac q1 B
  .subst e;exact J.quiet m ac q2 B
noncomputable def heapI(I:IK prog w κ)(g:I.fuel<=8):Nw prog w κ where
 is:=λh k a=>I.is h k (.ref a)
 hash:=I.hash
 draws:=I.draws
 room:=λA=>A.units+I.up<IU
 inj:=λS B=>I.inj S B
 keeps:=λ{h h' k a d o es ep} x j l c=>I.keeps x λb i us n f m=>by
  rw[c.2 b λe=>?_]
  .exact f
  simp_all
 pyHash:=λU Y h=>I.pyHash U Y h
 eqBool:=λU S B h=>I.eqBool U S B h
 quiet:=λY h=>I.quiet 8 g Y h
noncomputable def labI(prog:IQ)(w:JX):IK prog w LK:=pairI (zM prog w) (tupI (tupI (zM prog w)))
end
noncomputable abbrev DR(P:IQ)(w:JX):Nw P w LK:=heapI (labI P w) (by show Sb 0 (0+1+1)+1<=8;decide)
def lQ.map(s:∀b xs,SqT K F b xs->SqT K F' b xs){k:LK}(h:lQ K F b k):lQ K F' b k:=
 let ⟨r,bs,S,I,l,t3⟩:=h;⟨r,bs,s _ _ S,s _ _ I,l,λj B c e1 e2=>s _ _ (t3 j B c e1 e2)⟩
noncomputable def putL(ks:bz)(k:LK):bz:=if k∈ks then ks else ks++[k]
noncomputable def qy(xs:List (LK×h_))(k:LK)(b:h_):List (LK×h_):=if k∈xs.map (·.1)then xs else xs++[(k,b)]
def u3(xs:List (LK×h_))(k:LK)(b:h_):(qy xs k b).map (·.1)=putL (xs.map (·.1)) k:=by unfold qy putL;split<;>simp
def xJ{xs:List (LK×h_)}{k:LK}{x:LK×h_}(h:x∈qy xs k b):x∈xs\/x=(k,b):=by
 unfold qy at h;split at h
 .exact .inl h
 .simpa using h
def xK(xs:List (LK×h_))(k:LK)(b:h_):(qy xs k b).length<=xs.length+1:=by unfold qy;split<;>simp
noncomputable def enL(x:LK×h_):LK×h_×g_:=(x.1,x.2,.bool e_)
def Cv(xs:List (LK×h_)):(xs.map enL).map (·.1)=xs.map (·.1):=by rw[Cb];rfl
def atL(xs:List (LK×h_))(k:LK):(Qf (xs.map enL) k).isSome=m_ (k∈xs.map (·.1)):=by
 unfold Qf;rw[MG,J2,Rg];simp only[IE,KJ];constructor
 .rintro⟨x,⟨y,B,rfl⟩,e⟩;exact⟨y,B,e⟩
 .rintro⟨y,B,e⟩;exact⟨enL y,⟨y,B,rfl⟩,e⟩
def Fc(xs:List (LK×h_))(k:LK)(b:h_):M_ (xs.map enL) k b (.bool e_)=(qy xs k b).map enL:=by
 unfold M_ qy;rw[atL];by_cases h:k∈xs.map (·.1)
 .rw[Jf h,p_ h,Cb];refine I_ λx _=>?_;show Sn k _ _=enL x;unfold Sn;split<;>rfl
 .rw[IS h,q_ h];simp[enL]
section
variable{s:j_}{xs:List (LK×h_)}{k:LK}
def Bo(I:B3 X B1 σ H s){vs:bm}(h:SqT X.K H b vs):∃us,B6 vs us/\TupAt s.heap b us:=by obtain⟨its,r,⟨o,h1,S,n,B⟩,_⟩:=I.tuple h;exact⟨its,r,o,n,h1,S,B⟩
theorem Cf:∀{B:a9} {us:bv} {h:IF},B6 (B.map V.int) us->q9 ((zM X.prog X.w).is h) B us
 |[],_,_,.nil=>.nil|i::B,_,_,.cons r t=>.cons r (Cf t)
def Fu(I:B3 X B1 σ H s){B:a9}(h:SqT X.K H b (B.map V.int)):(tupI (zM X.prog X.w)).is s.heap B (.ref b):=by obtain⟨us,r,t⟩:=Bo I h;exact⟨b,us,rfl,t,Cf r⟩
theorem BC(I:B3 X B1 σ H s):∀{rows:List a9} {bs:List h_} {us:bv},B6 (bs.map V.ref) us->bs.length=rows.length->(∀(j:Nat) (B:a9) (c:h_),rows[j]?=a_ B->bs[j]?=a_ c->SqT X.K H c (B.map V.int))->q9 ((tupI (zM X.prog X.w)).is s.heap) rows us
 |[],[],_,.nil,_,_=>.nil|[],_::_,_,_,l,_=>by simp at l|_::_,[],_,_,l,_=>by simp at l|B::rows,c::bs,_,.cons r t,l,h=>by cases(show _=s_ c from r);exact .cons (Fu I (h 0 B c rfl rfl)) (BC I t (by simpa using l) λj B c e1 e2=>h (j+1) B c e1 e2)
def o6(I:B3 X B1 σ H s)(h:lQ X.K H b k):(DR X.prog X.w).is s.heap k b:=by obtain⟨r,bs,d,c,l,t3⟩:=h;obtain⟨us,e,a⟩:=Bo I d;obtain⟨vs,S,B⟩:=Bo I c;obtain⟨Y,U,rfl,g,f⟩:=e.two;cases(show U=s_ r from f);exact⟨b,Y,.ref r,rfl,a,g,r,vs,rfl,B,BC I S l t3⟩
def Ih(K:Pn)(H:Hp)(xs:List (LK×h_)):Prop:=∀x∈xs,lQ K H x.2 x.1
def AK{xs:List (LK×h_)}(z:Eo h a xs ep):gQ H h a (zP a xs ep):=by
 have I:=z;obtain⟨h1,k,j,o,es,U,i⟩:=z;refine⟨I,⟨o,U⟩,λ_ _ S e=>?_⟩
 obtain⟨g,g2,f,o',B,d,c,b,Y⟩:=S;exact⟨g,g2,f,o',B,e _ d,c,b,Y⟩
def Hm(I:B3 X B1 σ H s)(e:H a=a_ (zP a xs ep)):Eo s.heap a xs ep:=(show Eo s.heap a xs ep/\_ from I.hok a _ e).1
def Hn(I:B3 X B1 σ H s)(e:H a=a_ (zP a xs ep))(z:Ih X.K H xs):(a==IX)=cm/\xs.length<=n_/\s.heap.DictOfH (DR X.prog X.w) a (xs.map enL):=by
 obtain⟨b,Y,U,o,es,h1,f,d,c⟩:=Hm I e;refine⟨b,Y,o,es,ep,h1,f,d,?_,λq S=>?_,by rw[Cv];exact U⟩
 .rw[c,Cb];rfl
 .obtain⟨x,B,rfl⟩:=IE.mp S;exact o6 I (z x B)
def CC(c:h.DictOfH (DR P w) a (xs.map enL))(S:(a==IX)=cm)(I:xs.length<=n_):∃ep,Eo h a xs ep:=by
 obtain⟨o,es,ep,h1,b,Y,U,_,B⟩:=c;rw[Cv]at B;refine⟨ep,S,I,B,o,es,h1,b,Y,?_⟩
 rw[U,Cb];rfl
def B3.dil{ys:List (LK×h_)}{t':Nat}(I:B3 X B1 σ H s)(e:H a=a_ (zP a xs ep))(B:JY a s.heap h')(z:Eo h' a ys ep'):B3 X B1 σ (upd H a (zP a ys ep')) {s with heap:=h',toks:=t'}:=
 I.write (by exact e▸LO) (.inl rfl) (λc q S w=>(B.2 c S).trans w) (let ⟨_,_,_,o,_,w,_,_,_⟩:=z;⟨o,w⟩) (AK z)
theorem lroom(B:A.units+64<IU):(DR X.prog X.w).room A.in1:=by show A.units+1+3<IU;lia
end
def tNewL:TE:=λ_ H Q=>∀p,H p=d_->Q (.ref p) (upd H p (zP p [] 0))
def sPutT(K:Pn)(td ty tv:TE):TS:=λD σ H=>tv σ H λv H1=>td σ H1 λx H2=>ty σ H2 λy B=>∃a b k xs ep,v=.bl e_/\x=.ref a/\y=.ref b/\B a=a_ (zP a xs ep)/\Ih K B xs/\lQ K B b k/\xs.length<n_/\∀ep',D.nx σ (upd B a (zP a (qy xs k b) ep'))
def rInL(K:Pn)(neg:Bool):R2:=λy x H Q=>∃a b k xs ep,x=.ref a/\y=.ref b/\H a=a_ (zP a xs ep)/\Ih K H xs/\lQ K H b k/\Q (.bl (if neg=e_ then !decide (k∈xs.map (·.1))else m_ (k∈xs.map (·.1)))) H
section
variable{o i:Jj}{ty:TE}
def pe_newL:PE X (.Dict [] [] pos) tNewL:=λB1 s σ H Q I h=>Pw ⟨.ref s.heap.objs.size,_,I.laid (a:=s.heap.objs.size) (o:=zP s.heap.objs.size [] 0) (t':=s.toks) (λ_ _ q=>c_ _ q) (f_ _) (AK (⟨Lu.mpr (IV (G_ I.big)),IH _,Mx,_,#[],i_ _ rfl,⟨rfl,rfl,rfl⟩,rfl,rfl⟩)),rfl,h _ (I.hok.fresh (f_ _))⟩
theorem ps_putT(l:X.A.units+64<IU)(n:PE X o td)(hi:PE X i ty)(j:PE X value tv)(m:J4 value (a_ (.Subscript o i pos')) pos.line X.env=JM cm):PS X (.Assign [.Subscript o i pos'] value pos) (sPutT X.K td ty tv):=by intro B1 s σ H D I h;refine NJ (B' (j B1 s σ H _ I h) λr s1 B=>?_) m;obtain⟨v,H1,E,e,q1⟩:=B;refine B' (n B1 s1 σ H1 _ E q1) λu s2 B=>?_;obtain⟨x,H2,C,d,q2⟩:=B;refine B' (hi B1 s2 σ H2 _ C q2) λg F B=>?_;obtain⟨y,J,Y,c,a,b,k,xs,ep,ev,ex,w,ea,p,t,G,f⟩:=B;subst ev ex w;cases(show u=s_ a from d);cases(show g=s_ b from c);cases(show r=N3 e_ from e);obtain⟨q,hz,A⟩:=Hn Y ea p;refine OO (hsz:=by simp_all) (lroom l) (o6 Y t) A λh' S U=>?_;rw[Fc]at S;obtain⟨ep',z⟩:=CC S q (by have:=xK xs k b;lia);exact⟨σ,_,Y.dil ea U z,f ep'⟩
def op_inL(U:X.A.units+64<IU):OpR X (IP .In) (rInL X.K cm):=by rintro B1 s σ H y x u v Q I B S ⟨a,b,k,xs,ep,rfl,rfl,ea,Y,t,q⟩;cases(show v=s_ a from S);cases(show u=s_ b from B);obtain⟨c,hz,d⟩:=Hn I ea Y;refine wpAny_in_heap (lroom U) (o6 I t) c d ?_;rw[atL];exact⟨.bl _,H,I.tok _,rfl,q⟩
def FZ(U:X.A.units+64<IU):OpR X (IP .NotIn) (rInL X.K e_):=by rintro B1 s σ H y x u v Q I B S ⟨a,b,k,xs,ep,rfl,rfl,ea,Y,t,q⟩;cases(show v=s_ a from S);cases(show u=s_ b from B);obtain⟨c,hz,d⟩:=Hn I ea Y;refine SN (lroom U) (o6 I t) c d ?_;rw[atL];exact⟨.bl _,H,I.tok _,rfl,q⟩
end
def sR:A'->M LK
 |.tup [.int c,.tup rs]=>(gC rs).bind λrows=>.ok (c,rows)|_=>stk
def aE(k:LK):A':=.tup [.int k.1,.tup (k.2.map aR)]
theorem Gw{k:LK}(h:sR d=.ok k):d=aE k:=by
 unfold sR at h;split at h
 .rename_i c rs;cases e:gC rs with
  |error x=>simp_all|ok rows=>rw[e]at h;cases h;rw[mG e];rfl
 .cases h
theorem pR{e:Err}(h:sR d=.error e):e=.stuck:=by
 unfold sR at h;split at h
 .rename_i c rs;cases e1:gC rs with
  |error x=>rw[e1]at h;cases h;exact mH e1|ok rows=>simp_all
 .cases h;rfl
theorem x3{K:Pn}{F:Hp}:∀{rows:List a9} {ys:bm},ay K F (rows.map aR) ys->∃bs:List h_,ys=bs.map V.ref/\bs.length=rows.length/\∀(j:Nat) (B:a9) (c:h_),rows[j]?=a_ B->bs[j]?=a_ c->SqT K F c (B.map V.int)
 |[],_,h=>⟨[],h,rfl,λj B c e=>by simp⟩|B::rows,_,⟨v,vs,e,⟨b,xs,ev,t,z⟩,r⟩=>by
  obtain⟨bs,e1,l,h⟩:=x3 r;have S:=cW z (dG _);subst S;refine⟨b::bs,a7,by simp[l],λj I c q1 q2=>?_⟩
  cases j with
  |zero=>cases q1;cases q2;exact t|succ j=>exact h j I c q1 q2
def vJ{k:LK}(h:sR d=.ok k)(q:bh K F d v):∃b,v=.ref b/\lQ K F b k:=by have:=Gw h;subst this;obtain⟨b,xs,e,t,U,S,e1,q1,c,B,e2,⟨r,ys,rfl,Y,I⟩,e3⟩:=q;cases(show U=V.int k.1 from q1);cases(show B=[]from e3);subst e2 e1;obtain⟨bs,rfl,l,a⟩:=x3 I;exact⟨b,e,r,bs,t,Y,l,a⟩
noncomputable def AL(ρ:ab)(i:Nat):M bz:=match ρ[i]? with
 |some (a_ (.dil ks))=>.ok ks|_=>.error .stuck
def CD{ks:bz}(h:AL ρ i=.ok ks):ρ[i]?=a_ (a_ (.dil ks)):=by
 unfold AL at h;split at h
 .cases h;assumption
 .cases h
def Ho{e:Err}(h:AL ρ i=.error e):e=.stuck:=by
 unfold AL at h;split at h
 .cases h
 .cases h;rfl
noncomputable def isTr:A'->Bool
 |.bl e_=>e_|_=>cm
def tX(i:Nat)(fk fv:b6):b0:=λρ=>(fv ρ).bind λd=>(AL ρ i).bind λks=>(fk ρ).bind λB=>(sR B).bind λk=>if (isTr d&&m_ (ks.length<n_))=e_ then .ok (.nx (ρ.set i (a_ (.dil (putL ks k)))))else .error .stuck
def inLD:A'->cg
 |B,.dil ks=>(sR B).bind λk=>.ok (.bl (m_ (k∈ks)))|_,_=>stk
def vD:A'->cg
 |B,.dil ks=>(sR B).bind λk=>.ok (.bl (!decide (k∈ks)))|_,_=>stk
section
variable{W:bY}{D:Ends}
theorem rs_putT(hi:i∈O)(t:tS K W ro F0 H0 OL O O (tX i fk fv) D σ H):sPutT K (oY i) (tD K W cm fk) (tD K W cm fv) D σ H:=by
 obtain⟨FB,F,ρ,r,p⟩:=t;refine aD r.jQ r.fg (λe f=>p.i7 (r.freeze ad).st (by unfold tX;rw[f];rfl)) λd n v F1 H1 s1 q=>?_;simp only[tX,n,ai]at p;cases S:AL ρ i with
 |error e=>have:=Ho S;subst this;exact p.stuck (by rw[S];rfl)|ok ks=>
  rw[S]at p;have p1:=p;have I:=r.gw s1;obtain⟨y,e2,a,xs,rfl,⟨ep,o⟩,_,_,z⟩:=I.ow i _ (CD S) hi;refine⟨.ref a,e2,(aD I.jQ I.fg (λe f=>p1.i7 (I.freeze ad).st (by rw[f];rfl)) λh m w A H2 s2 q2=>?_)⟩
  rw[m]at p1;have p2:eV K W ro F0 H0 FB OL O D ((sR h).bind λk=>if (isTr d&&m_ _)=e_ then .ok _ else .error .stuck):=p1;cases B:sR h with
  |error e=>have:=pR B;subst this;exact p2.stuck (by rw[B];rfl)|ok k=>
   rw[B]at p2;have p3:eV K W ro F0 H0 FB OL O D (if (isTr d&&m_ (ks.length<n_))=e_ then .ok (.nx (ρ.set i (a_ (.dil (putL ks k)))))else .error .stuck):=p2;by_cases U:(isTr d&&m_ (ks.length<n_))=e_
   .rw[p_ U]at p3;simp at U;have u:d=.bl e_:=by
     have h1:=U.1;unfold isTr at h1;split at h1
     .rfl
     .lia
    subst u;cases(show v=V.bl e_ from q);obtain⟨b,rfl,t⟩:=vJ B q2;have Y:=I.gw s2;have g:=z.mono (I.dT s2);have l:=t.map (I.qR s2);have j:xs.length=ks.length:=by rw[<- z.1,l_]
    refine⟨a,b,k,xs,ep,rfl,rfl,rfl,s2.hh _ _ o,λx c=>(g.2 x c).mono Y.st.fh,l.mono Y.st.fh,a7,λep'=>p3 σ _ _ (Y.wU hi (CD S) rfl e2 λf0 s=>⟨a,_,rfl,⟨ep',aq⟩,f0,s,?_,λx c=>?_⟩)⟩
    .rw[u3,z.1]
    .rcases xJ c with e|e
     .exact g.2 x e
     simp_all
   .rw[q_ U]at p3;exact p3.stuck rfl
end
noncomputable def isDil:A'->Bool
 |.dil _=>e_|_=>cm
def rInL_D{W:bY}{neg:Bool}(i:∀I ks,g I (.dil ks)=(sR I).bind λk=>.ok (.bl (if neg=e_ then !decide (k∈ks)else m_ (k∈ks))))(f:∀a b,isDil b=cm->g a b=stk){x:V}{Q:VK}(h:rD2 K W cm g x y H Q):rInL K neg x y H Q:=by
 obtain⟨F,a,b,s1,U,S,p⟩:=h;cases b with
 |dil ks=>
  rw[i]at p;cases B:sR a with
  |error e=>rw[B]at p;have:=pR B;subst this;exact aH.stuck p|ok k=>
   rw[B]at p;obtain⟨c,rfl,t⟩:=vJ B U;obtain⟨d,xs,rfl,⟨ep,j⟩,z⟩:=S;refine⟨d,c,k,xs,ep,rfl,rfl,s1 _ _ j,λx Y=>(z.2 x Y).mono s1,t.mono s1,?_⟩
   exact z.1▸p _ F H (B2.refl s1) rfl
 |_=>rw[f _ _ rfl]at p;exact aH.stuck p
section
variable{W:bY}{p:Pb}
def de_newL:DE K W e_ X (.Dict [] [] pos) (fC (.dil [])):=pe_newL.imp λσ H Q h=>by obtain⟨F,ρ,r,s,q⟩:=h;exact λa B=>q _ F _ (B2.grow s B) ⟨a,[],rfl,⟨0,aq⟩,s.free B,B,rfl,λx I=>IA I JN⟩
def o_inL(B:X.A.units+64<IU)(I: ~~~(X.K=K)):Op2 K W cm X (IP .In) inLD:=by subst I;exact(op_inL B).imp λx y H Q h=>rInL_D (λ_ _=>rfl) (λa b e=>by cases b<;>first|rfl|cases e) h
def o_notInL(B:X.A.units+64<IU)(I: ~~~(X.K=K)):Op2 K W cm X (IP .NotIn) vD:=by subst I;exact(FZ B).imp λx y H Q h=>rInL_D (λ_ _=>rfl) (λa b e=>by cases b<;>first|rfl|cases e) h
def ds_putT(S:X.A.units+64<IU)(a:DE K W cm X ek fk)(b:DE K W cm X ev fv)(Y:(i∈O)⁻¹)(d: ~~~(X.N[i]?=a_ x))(I:autoParam (Vis X.env.scope x) Jq3)(c:((x==("__debug__":IL))=cm)⁻¹)(B:((x==("__classdict__":IL))=cm)⁻¹)(e: ~~~(X.K=K))(U: ~~~(J4 ev (a_ (.Subscript (.Name x p) ek pos')) pos.line X.env=JM cm)):DS K W ro X OL O O (.Assign [.Subscript (.Name x p) ek pos'] ev pos) (tX i fk fv):=λF0 H0=>by subst e;exact PS.imp (ps_putT S (pv i d I c B) a b U) λ_ _ _=>rs_putT Y
end
section
open PySem
variable{s:j_}
inductive Ls(prog:IQ)(w:JX)(A:Kb)(h:IF):List g_->List g_->Bool->Prop
 |nil {us vs:List g_} (e:us=[]\/vs=[]):Ls prog w A h us vs (m_ (us.length<vs.length))
 |eq {u v:g_} {us vs:List g_} {c:Bool} (hv:∀(E:Mq) (s:j_) (Q:Bool->j_->Prop),s.heap=h->Q e_ s->w_ (u_ prog w) A (Mj u v) Q E s) (r:Ls prog w A h us vs c):Ls prog w A h (u::us) (v::vs) c
 |ne {u v:g_} {us vs:List g_} {c:Bool} (hv:∀(E:Mq) (s:j_) (Q:Bool->j_->Prop),s.heap=h->Q cm s->w_ (u_ prog w) A (Mj u v) Q E s) (hl:∀(E:Mq) (s:j_) (Q:Mq),s.heap=h->Q (.bool c) s->w_ (u_ prog w) A (richCompare .Lt u v) Q E s):Ls prog w A h (u::us) (v::vs) c
theorem qT{c:Bool}{P:QX->j_->Prop}(l:TupAt s.heap a us)(k:TupAt s.heap b vs)(o:Ls prog w A s.heap us vs c)(h:P (.done (.ret (.bool c))) s):
  w_ (u_ prog w) A (Builtin.«tuple.__lt__» ⟨[.ref a,.ref b],[]⟩) P E s:=by
 have i:=k.ty;obtain⟨x,na,d,_,g⟩:=l;obtain⟨t,nb,Y,_,f⟩:=k;show w_ _ _ (isInstance _ _ >>= _) _ _ s;refine b_ (Kl i N2 (b_ (LW d g (b_ (LW Y f (b_ ?_))))));refine Mh _ (λrest r s'=>r.1=d_/\s'=s/\∃I B,rest=List.zip I B/\Ls prog w A s.heap I B c/\I.length+vs.length=us.length+B.length) _ ?_ ?_ _ _ ⟨rfl,rfl,us,vs,ad,o,rfl⟩
 .rintro⟨u,v⟩ rest r s' ⟨y,rfl,I,B,hz,S,n⟩;cases S with
  |nil e=>
   rcases e with e|e
   .simp_all
   simp_all
  |eq U j=>obtain⟨⟨rfl,rfl⟩,rfl⟩:=hz;exact b_ (U _ _ _ rfl (fm ⟨rfl,rfl,_,_,rfl,j,a0⟩))
  |ne U p=>obtain⟨⟨rfl,rfl⟩,rfl⟩:=hz;refine b_ (U _ _ _ rfl (b_ (KO (b_ (p _ _ _ rfl ?_)))));exact b_ (fm (fm (fm h)))
 .rintro⟨j,q⟩ s' ⟨rfl,rfl,I,B,hz,S,n⟩;have m:c=m_ (us.length<vs.length):=by
   cases S with
   |nil e=>lia|eq _ _=>simp_all|ne _ _=>simp_all
  rw[m]at h;exact fm h
def LtI{κ:Type}[KZ κ](I:IK prog w κ)(lt:κ->κ->Bool):Prop:=∀{A:Kb} {E:Mq} {s:j_} {x y:κ} {u v:g_} {Q:Mq},A.units+I.up<IU->I.is s.heap x u->I.is s.heap y v->Q (.bool (lt x y)) s->w_ (u_ prog w) A (richCompare .Lt u v) Q E s
noncomputable def qY{κ:Type}[KZ κ](lt:κ->κ->Bool):List κ->List κ->Bool
 |x::xs,y::ys=>if x=y then qY lt xs ys else lt x y
 |xs,ys=>m_ (xs.length<ys.length)
def int_lt:LtI (zM prog w) λx y=>m_ (x<y):=λ_ ⟨t,e⟩ ⟨u,f⟩ h=>by subst e f;exact QZ h
theorem Gi{κ:Type}[KZ κ](I:IK prog w κ){lt:κ->κ->Bool}(Y:LtI I lt){h:IF}(S:A.units+I.up<IU):∀{ks ls:List κ} {us vs:bv},q9 (I.is h) ks us->q9 (I.is h) ls vs->Ls prog w A h us vs (qY lt ks ls)
 |_,_,_,_,.nil,.nil=>.nil (.inl rfl)|_,_,_,_,.nil,@q9.cons _ _ _ y v ys vs q t=>by
  have e:qY lt [] (y::ys)=m_ (([]:bv).length<(v::vs).length):=by simp[qY]
  exact .nil (.inl rfl)
 |_,_,_,_,@q9.cons _ _ _ x u xs us q t,.nil=>by
  have e:qY lt (x::xs) []=m_ ((u::us).length<([]:bv).length):=by simp[qY]
  exact .nil (.inr rfl)
 |_,_,_,_,@q9.cons _ _ _ x u xs us q t,@q9.cons _ _ _ y v ys vs q2 a=>by
  show Ls prog w A h _ _ (if x=y then qY lt xs ys else lt x y);by_cases e:x=y
  .exact(p_ e)▸.eq (λE s Q B U=>I.eqBool S (by rw[B];exact q) (by rw[B];exact q2) a7) (Gi I Y S t a)
  .exact(q_ e)▸.ne (λE s Q B U=>I.eqBool S (by rw[B];exact q) (by rw[B];exact q2) a7) λE s Q B U=>Y S a7 a7 U
theorem tup_lt{κ:Type}[KZ κ]{I:IK prog w κ}{lt:κ->κ->Bool}(d:LtI I lt):LtI (tupI I) (qY lt):=λ{A E s x y u v Q} U ⟨a,us,e1,B,c⟩ ⟨b,vs,e2,S,Y⟩ h=>by subst e1 e2;have U:A.units+(I.up+1)<IU:=U;exact MJ B.ty S.ty Mv (Ip Mv B.ty QG (qT B S (Gi I d ac c Y) ⟨_,rfl,(λe=>nomatch e),h⟩) (Qr _ _)) ac
end
theorem Ah{κ:Type}[KZ κ]{lt:κ->κ->Bool}(o:Ord lt):Ord (qY lt):=by
 refine⟨λa=>?_,λa b c=>?_,λa b=>?_⟩
 .induction a with
  |nil=>rfl|cons x xs I=>simp[qY,I]
 .induction a generalizing b c with
  |nil=>
   cases b with
   |nil=>simp|cons y ys=>
    intro _ B;cases c with
    |nil=>simp_all[qY]|cons z U=>rfl
  |cons x xs I=>
   intro h1 B;cases b with
   |nil=>simp_all[qY]|cons y ys=>
    cases c with
    |nil=>simp_all[qY]|cons z U=>
     simp[qY]at h1 B ⊢;by_cases e1:x=y
     .grind
     .rw[q_ e1]at h1;by_cases e2:y=z
      .simp_all
      .rw[q_ e2]at B;have S:=o.tr _ _ _ h1 B;by_cases e3:x=z
       .subst e3;rw[o.irr]at S;cases S
       simp_all
 .induction a generalizing b with
  |nil=>simp[qY]|cons x xs I=>
   cases b with
   |nil=>simp[qY]|cons y ys=>
    simp[qY];by_cases e:x=y
    .grind
    .rw[q_ e,q_ (IV e)];intro h1 B;exact IA (o.tot _ _ h1 B) e
abbrev ltR:List a9->List a9->Bool:=qY (qY λx y=>m_ (x<y))
theorem ordR:Ord ltR:=Ah (Ah ⟨λa=>by simp,λa b c h1 B=>by lia,λa b h1 B=>by lia⟩)
def ltL(k l:LK):Bool:=if k.1=l.1 then ltR k.2 l.2 else m_ (k.1<l.1)
theorem ordL:Ord ltL:=by
 refine⟨λa=>?_,λa b c h1 B=>?_,λa b h1 B=>?_⟩
 .unfold ltL;rw[p_ rfl];exact ordR.irr _
 .unfold ltL at h1 B ⊢;by_cases e1:a.1=b.1
  .rw[p_ e1]at h1;by_cases e2:b.1=c.1
   .rw[p_ e2]at B;rw[p_ (e1.trans e2)];exact ordR.tr _ _ _ h1 B
   simp_all
  grind
 .unfold ltL at h1 B;by_cases e:a.1=b.1
  .rw[p_ e]at h1;rw[p_ e.symm]at B;exact Pm e (ordR.tot _ _ h1 B)
  lia
section
open PySem.W
variable{s:j_}
def LKeys(prog:IQ)(w:JX)(h:IF)(rs:List (LK×h_)):Prop:=∀r∈rs,(labI prog w).is h r.1 (.ref r.2)
theorem asks_L{rs:List (LK×h_)}(Q:A.units+8<IU)(z:LKeys prog w s.heap rs)(W:2<=rs.length):Ex prog w A (rk ltL (rs.map JI) (0,[])) (rs.map λr=>s_ r.2) s:=by
 have U:∀i,i<rs.length->∃(l:h_) (S I:g_),(rs.map λr=>s_ r.2).getD i JB=.ref l/\TupAt s.heap l [S,I]/\(zM prog w).is s.heap ((rs.map JI).getD i (0,[])).1 S/\(tupI (tupI (zM prog w))).is s.heap ((rs.map JI).getD i (0,[])).2 I:=λi hi=>by obtain⟨a,S,I,e,t,q1,q2⟩:=z rs[i] (Iz hi);cases e;exact⟨rs[i].2,S,I,by simp[hi],t,by simpa[hi] using q1,by simpa[hi] using q2⟩
 have Y:∀(k:Nat),k<=rs.length->∃fs,KatTups s.heap ((rs.map λr=>s_ r.2).drop (rs.length-k)) fs/\fs.length=k/\∀v∈fs,∃i t,v=L3 i t:=by
  intro k
  induction k with
  |zero=>intro _;exact⟨[],by rw[Oy,Qa ad];exact PX,rfl,λ_ h=>nomatch h⟩
  |succ k y=>
   intro R;obtain⟨fs,q1,q2,c⟩:=y ac;have hi:rs.length-(k+1)<rs.length:=ac
   obtain⟨l,S,I,e1,⟨L,n,e2,e3,e4⟩,⟨t,e5⟩,_⟩:=U _ hi;refine⟨S::fs,?_,by simp[q2],λv d=>?_⟩
   .have b:rs.length-(k+1)<(rs.map λr=>s_ r.2).length:=by rw[l_];exact hi
    rw[Js b];rw[show rs.length-(k+1)+1=rs.length-k by lia];rw[getD_get b]at e1;rw[e1];exact PB e2 e3 e4 rfl q1
   .rcases x_.mp d with e|e
    .rw[e];exact⟨_,_,e5⟩
    .exact c v e
 obtain⟨fs,q1,q2,c⟩:=Y rs.length (f_ _);rw[Nj,LV]at q1;unfold Ex;refine kat_kind (s:=s) (T:=.type "int") q1 ac (λv d=>?_) rfl ⟨rfl,λi j C hi u B=>?_⟩
 .obtain⟨i,t,e⟩:=c v d;rw[e];exact Pz rfl
 .rw[l_]at hi u;unfold O_;obtain⟨H,S,I,e1,⟨O,P,D,_,F⟩,p,m⟩:=U i hi;obtain⟨G,x,q,e2,⟨N,n2,g2,_,E⟩,o,g⟩:=U j u;rw[e1,e2];rw[Dq ordL a7 a7]at B;generalize (rs.map JI).getD i (0,[])=k at p m B;generalize (rs.map JI).getD j (0,[])=l at o g B;refine kat_lt (s:=s) D F g2 E ?_;show KatLex prog w _ _ _ _ [(S,x),(I,q)] 0 s;refine kat_cons ((zM prog w).eqBool (by show A.units+0<IU;lia) p o ?_);unfold ltL at B;by_cases e:k.1=l.1
  .rw[p_ e]at B;rw[Jf e];refine kat_yes (kat_cons ((tupI (tupI (zM prog w))).eqBool (by show A.units+(0+1+1)<IU;lia) m g ?_));by_cases f:k.2=l.2
   .rw[Jf f];rw[f,ordR.irr]at B;exact kat_yes (kat_nil B)
   .rw[IS f];show w_ (u_ prog w) _ (oneLt' cm I q) _ _ _;rw[oneLt'_eq];simp only[Mz,Pu];exact b_ (tup_lt (tup_lt int_lt) (by show A.units+(0+1+1)<IU;lia) m g (JW B))
  .rw[q_ e]at B;rw[IS e];obtain⟨K,f1⟩:=p;obtain⟨J,f2⟩:=o;subst f1 f2;exact oneLt_int B
end
section
open PySem PySem.W
variable{s:j_}
theorem walksR(g:A.handled=d_)(I d:h_)(a:d≠I)(es:Array Jx)(ep:Nat):
  Walks prog w A I [I,d] [I] es.size (λi v=>∃e,es[i]?=a_ e/\v=e.key) (λi h=>h.IsKeyIter I d i es.size ep/\pZ h d es ep) where
 sub:=λb Y=>by simp_all
 frame:=λ_ _ _ st f=>⟨st.1.at λo e=>f I ad o e,st.2.at λo e=>f d ad o e⟩
 item:=λi s Q E hi st U=>by exact nY st.1 st.2 (e:=es[i]) ad λh' S B=>U _ h' s.toks ⟨es[i],ad,rfl⟩ ⟨S,st.2.at λo e=>B.extBut d o a e⟩ λb o Y e=>B.extBut b o (λh=>Y (by simp[h])) e
 done:=λs Q E st U=>rM g st.1 st.2 (f_ _) λh' c=>U h' s.toks λb o Y e=>c b o (λh=>Y (by simp[h])) e
 self:=λ_ _ _ _ st U=>N9 st.1 U
def srcR{d:h_}(lo:(d==IX)=cm):KdlSrc prog w "dict" d d es.size (λi v=>∃e,es[i]?=a_ e/\v=e.key) (λh=>pZ h d es ep) where
 type:=λ_ z=>z.ty
 there:=λ_ ⟨o,h,_⟩=>⟨r_ h,r_ h⟩
 keep:=λ_ _ z I=>z.at λo e=>I d (.inl rfl) o e
 notList:=by decide
 notTuple:=by decide
 hint:=λ_ _ _ _ z B=>kdl_hint_dict z.ty B
 iter:=λA s S z=>⟨_,_,(λ_ _ B=>o8 lo z B),walksR S _ d (let ⟨o,h,_⟩:=z;G_ (r_ h)) es ep,⟨⟨_,i_ _ rfl,rfl,rfl⟩,z.at λo e=>c_ _ e⟩⟩
theorem um{acc:Array g_}(h:Sw (λi v=>∃e,es[i]?=a_ e/\v=e.key) acc es.size):acc.toList=es.toList.map (·.key):=by
 apply Ou;intro i;by_cases hi:i<es.size
 .have S:i<acc.size:=by exact h.1▸hi
  obtain⟨e,I,B⟩:=h.2 i acc[i] ad
  simp_all
 .rw[Nq (by rw[Iu,h.1];lia),Nq a7]
theorem collectR{d:h_}{Q:bv->j_->Prop}(m:A.handled=d_)(lo:(d==IX)=cm)(z:pZ s.heap d es ep)(l:es.size<=n_)(h:∀(h':IF) (tk:Nat),(∀b o,s.heap.get? b=a_ o->h'.get? b=a_ o)->s.heap.objs.size<=h'.objs.size->Q (es.toList.map (·.key)) {s with heap:=h',toks:=tk}):w_ (u_ prog w) A (collect (.ref d)) Q E s:=by
 have g:d<s.z:=by obtain⟨o,k,_⟩:=z;exact r_ k
 refine b_ (wpAny_runValue (LS (QY) ?_));rw[P9 (F.plain_proto_collect) _];refine b_ (IC (fm ⟨OG OT _,LS (RU) ?_⟩));have n:(s.heap.push {cls:=.type "list",data:=.seq ([]:bv).toArray}).get? s.z=a_ {cls:=.type "list",data:=.seq #[]}:=i_ _ rfl;refine Jo (kdl_extend (A:=A) (s:={s with heap:=s.heap.push {cls:=.type "list",data:=.seq ([]:bv).toArray}})
  (R:=λ(q:Q8) (s':j_)=>∃(h':IF) (tk:Nat) (acc:Array g_) (c:Nat),q=.ok (.ret (.ref s.z))/\s'={s with heap:=h',toks:=tk}/\(∀b o,s.heap.get? b=a_ o->h'.get? b=a_ o)/\h'.get? s.z=a_ {cls:=.type "list",dict:=d_,data:=.seq acc c,slots:=#[]}/\acc.toList=es.toList.map (·.key))
  (srcR (ep:=ep) lo) m (z.at λo e=>c_ _ e) s.z (J3 g) (J3 g) (.ref s.z) 0 n
  (λh' tk acc c U B S=>⟨h',tk,acc,c,rfl,rfl,λb o e=>U b o (G_ (r_ e)) (c_ _ e),B,um S⟩) l) (λa s' x=>?_) λe s' x=>?_
 .have i:∀(s':j_),(∃(h':IF) (tk:Nat) (acc:Array g_) (c:Nat),s'={s with heap:=h',toks:=tk}/\(∀b o,s.heap.get? b=a_ o->h'.get? b=a_ o)/\h'.get? s.z=a_ {cls:=.type "list",dict:=d_,data:=.seq acc c,slots:=#[]}/\acc.toList=es.toList.map (·.key))->∃(o:NY) (acc:Array g_) (c:Nat),s'.heap.get? s.z=a_ o/\o.data=.seq acc c/\Q acc.toList s':=λs' ⟨h',tk,acc,c,e,U,B,ea⟩=>by
   subst e;exact⟨_,acc,c,B,rfl,by exact ea▸h h' tk U (IY (r_ B))⟩
  cases a with
  |done f=>obtain⟨h',tk,acc,c,e,r⟩:=x;cases e;obtain⟨⟨v,u,t,p⟩,acc,c,B,rfl,Y⟩:=i s' ⟨h',tk,acc,c,r⟩;show w_ _ A (load s.z >>= _) _ _ _;exact b_ (OQ B (fm Y))
  |again j=>
   refine⟨x.1,LM x.2 λq I y=>?_⟩
   obtain⟨h',tk,acc,c,rfl,r⟩:=y;obtain⟨⟨v,u,t,p⟩,acc,c,B,rfl,Y⟩:=i I ⟨h',tk,acc,c,r⟩;show w_ _ A (load s.z >>= _) _ _ _;exact b_ (OQ B (fm Y))
 simp_all
theorem Bu{d:h_}{key:Nat->Int}{Q:Mq}(g:A.handled=d_)(lo:(d==IX)=cm)(z:pZ s.heap d es ep)(U:es.toList.map (·.key)=vs)(hz:vs.length<=n_)(f:2<=vs.length->∀(h1:IF) (tk:Nat),(∀b o,s.heap.get? b=a_ o->h1.get? b=a_ o)->Ex prog w A.in1.in1 key vs {s with heap:=h1,toks:=tk})(h:∀(h':IF) (D:h_) (c tk:Nat) (out:bv),s.heap.objs.size<=D->(∀b o,s.heap.get? b=a_ o->h'.get? b=a_ o)->h'.get? D=a_ (Lz "list" out.toArray c)->Em key vs out->Q (.ref D) {s with heap:=h',toks:=tk}):
  w_ (u_ prog w) A (Ms (.builtin "sorted") [.ref d]) Q E s:=by
 have hsz:es.size=vs.length:=by rw[<- U,l_,Iu]
 refine Pl kind_sorted plain_sorted entry_sorted (args_sorted1 _) (b_ (fm (b_ (collectR g lo z ac λh1 tk B I=>?_))));rw[U];refine b_ (Qv ?_ hz);have Y:(h1.push _).get? h1.objs.size=a_ (Lz "list" vs.toArray 0):=i_ _ rfl;have S:=λb o q=>G_ (r_ (B b o q));refine b_ (Ju (Ip slot_list_sort ⟨_,Y,rfl⟩ entry_list_sort (ye (key:=key) Y hz (λj i a=>f j i tk λb o q=>a b o (S b o q) (c_ _ (B b o q))) λh' c out e k' k=>⟨_,rfl,(fm ⟨_,rfl,h h' _ c tk out I (λb o q=>k' b o (S b o q) (c_ _ (B b o q))) k e⟩)⟩) (args_list_sort _)))
end
section
variable{W:bY}
theorem vI{k:LK}(h:lQ K F b k):bh K F (aE k) (.ref b):=by
 obtain⟨r,bs,S,I,l,t3⟩:=h;refine⟨b,_,rfl,S,V.int k.1,_,rfl,rfl,.ref r,[],rfl,⟨r,_,rfl,I,(ay.of_get a7 λi d v e1 e2=>?_)⟩,rfl⟩
 rw[E_]at e1 e2;cases f1:k.2[i]? with
 |none=>simp_all|some B=>
  cases f2:bs[i]? with
  |none=>simp_all|some c=>rw[f1]at e1;rw[f2]at e2;simp at e1 e2;subst e1 e2;exact⟨c,_,rfl,t3 i B c f1 f2,dw B⟩
def o7:be->M bz
 |[]=>.ok []|d::ds=>(sR d).bind λk=>(o7 ds).bind λks=>.ok (k::ks)
def zY:cc
 |[.dil ks]=>.ok (.lst ((cv ltL ks).map aE))|[.lst ds]=>(o7 ds).bind λks=>.ok (.lst ((cv ltL ks).map aE))|_=>stk
theorem yj:∀{ds:be} {e:Err},o7 ds=.error e->e=.stuck
 |[],_,h=>by cases h|d::ds,e,h=>by
  unfold o7 at h;cases e1:sR d with
  |error x=>rw[e1]at h;cases h;exact pR e1|ok k=>
   rw[e1]at h;cases e2:o7 ds with
   |error x=>rw[e2]at h;cases h;exact yj e2|ok ks=>simp_all
theorem yi:∀{ds:be} {ks:bz},o7 ds=.ok ks->ds=ks.map aE
 |[],_,h=>by cases h;rfl|d::ds,ks,h=>by
  unfold o7 at h;cases e1:sR d with
  |error x=>simp_all|ok k=>
   rw[e1]at h;cases e2:o7 ds with
   |error x=>simp_all|ok ls=>rw[e2]at h;cases h;rw[yi e2,Gw e1];rfl
theorem l8:∀ts:List a9,gC (ts.map aR)=.ok ts
 |[]=>rfl|t::ts=>by show(bZ _).bind _=_;rw[dG,l8 ts];rfl
def lz(k:LK):sR (aE k)=.ok k:=by show(gC _).bind _=_;rw[l8];rfl
theorem Gv{F:Hp}:∀{ks:bz} {xs:bm},ay K F (ks.map aE) xs->∃rs:List (LK×h_),rs.map JI=ks/\xs=rs.map (λr=>V.ref r.2)/\∀r∈rs,lQ K F r.2 r.1
 |[],_,h=>⟨[],rfl,h,λr I=>nomatch I⟩
 |k::ks,_,⟨v,vs,e,q,r⟩=>by obtain⟨b,e1,t⟩:=vJ (lz k) q;obtain⟨rs,e2,e3,h⟩:=Gv r;exact⟨(k,b)::rs,a7,a7,λx B=>(x_.mp B).elim (λz=>by simp_all) (h x)⟩
def wV{rs:List (α×h_)}(h:B6 (rs.map λr=>V.ref r.2) us):us=rs.map λr=>s_ r.2:=by
 induction rs generalizing us with
 |nil=>cases h;rfl|cons r rs B=>
  cases h with
  |cons q t=>rw[B t];cases(show _=s_ r.2 from q);rfl
def Gn{k:LK}{v:g_}(x:(labI prog w).is h k v)(e:∀b o,h.get? b=a_ o->h'.get? b=a_ o):(labI prog w).is h' k v:=(labI prog w).keeps x λa o us n q _=>e a o q
theorem sort_out{lt:α->α->Bool}(o:Ord lt){d0:α}{I:α->A'}{rs:List (α×h_)}(S:∀r∈rs,bh K F (I r.1) (.ref r.2)){ps:bi}(h1:ps.Perm (A_ rs.length))(U:Srt (rk lt (rs.map JI) d0) ps):
  ay K F ((cv lt (rs.map JI)).map I) (ps.map λi=>(rs.map λr=>V.ref r.2).getD i .non):=by
 rw[<- xT o _ d0 a7 U,Cb];refine ay.of_get ad λk Y v B g2=>?_;rw[E_]at B g2;cases ek:ps[k]? with
 |none=>rw[ek]at B;cases B|some i=>rw[ek]at B g2;simp only[Mb,LJ,Rh]at B g2;have hi:=IM.mp (h1.mem_iff.mp (Jd ek));rw[getD_get (by simpa using hi)]at B;rw[getD_get (by simpa using hi)]at g2;rw[<- B,<- g2,JA,JA];exact S _ (Iz hi)
theorem vals_out{rs:List (α×h_)}{ps:bi}(h1:ps.Perm (A_ rs.length)):B6 (ps.map λi=>(rs.map λr=>V.ref r.2).getD i .non) (ps.map λi=>(rs.map λr=>s_ r.2).getD i JB):=by
 have B:∀i∈ps,i<rs.length:=λi hi=>IM.mp (h1.mem_iff.mp hi);clear h1
 induction ps with
 |nil=>exact .nil|cons i ps I=>refine .cons ?_ (I λj S=>B j (Je _ S));dsimp only;rw[getD_get a7,getD_get a7,JA,JA];rfl
def pL{lt:α->α->Bool}(o:Ord lt){d0:α}{B:α->A'}{s:j_}{Q:VK}{rs:List (α×h_)}{D:h_}{c tk:Nat}{out:bv}(I:B3 X B1 σ H s)(s1:aM F H)(a:∀r∈rs,bh X.K F (B r.1) (.ref r.2))(hz:rs.length<=n_)(p:aH X.K W e_ F H (.ok (.lst ((cv lt (rs.map JI)).map B))) Q)(S:s.heap.objs.size<=D)(U:∀b o,s.heap.get? b=a_ o->h'.get? b=a_ o)(e:h'.get? D=a_ (Lz "list" out.toArray c))(Y:Em (rk lt (rs.map JI) d0) (rs.map λr=>s_ r.2) out):EP X B1 σ Q (.ref D) {s with heap:=h',toks:=tk}:=by obtain⟨ps,h1,d,rfl⟩:=Y;rw[l_]at h1;exact⟨.ref D,_,(I.laid (t':=tk) U S (show gQ _ h' D (.lst _)from⟨by rw[l_,h1.length_eq,J_];exact hz,_,c,vals_out h1,e⟩)),rfl,p.lst s1 (sort_out o a h1 d) (I.hok.fresh S)⟩
theorem HQ(G:X.A.units+64<IU)(w: ~~~(X.calm=e_))(S: ~~~(X.K=K)):kZ K W e_ X (.builtin "sorted") zY:=by
 subst S;intro B1 s σ H xs us Q I m h;obtain⟨F,d,x,s1,rfl,q,p⟩:=gW (λds=>by match ds with|[d]=>simp|[]=>exact .inr rfl|a::b::c=>exact .inr (by cases a<;>rfl)) h;obtain⟨u,rfl,k⟩:=m.one;have U:∀{rs:List _} {h':IF},(∀r∈rs,lQ X.K F r.2 r.1)->(∀b o,s.heap.get? b=a_ o->h'.get? b=a_ o)->LKeys X.prog X.w h' rs:=λ{rs h'} S B r Y=>Gn (o6 I ((S r Y).mono s1)) B;cases d with
 |dil ks=>obtain⟨a,rs,rfl,⟨ep,y⟩,ek,S⟩:=q;cases k;rw[<- ek]at p;obtain⟨v,n,J,o,es,E,g2,C,A⟩:=Hm I (s1 _ _ y);refine Bu (key:=rk ltL _ (0,[])) (I.ok.hd w) v ⟨o,E,g2,C⟩ (by rw[A,Cb];rfl) a7 (λg h1 tk B=>?_) λh' D c tk out j B e i=>pL ordL I s1 (λr Y=>vI (S r Y)) n p j B e i;rw[l_]at g;exact asks_L ac (U S B) g
 |lst ds=>
  obtain⟨a,ys,rfl,t,r⟩:=q;cases k;have p:aH X.K W e_ F H ((o7 ds).bind λks=>.ok _) Q:=p;cases ek:o7 ds with
  |error z=>cases yj ek;rw[ek]at p;exact aH.stuck p|ok ks=>rw[ek]at p;rw[yi ek]at r;obtain⟨rs,rfl,rfl,S⟩:=Gv r;obtain⟨its,l,pl,hz⟩:=I.list (s1.lst t);have f:=wV l;subst f;rw[l_]at hz;refine nM (key:=rk ltL _ (0,[])) pl.isList a7 (λg h1 B=>?_) λh' D c out i j B e=>pL ordL I s1 (λr Y=>vI (S r Y)) hz p j B e i;rw[l_]at g;exact asks_L ac (U S B) g
 |_=>exact aH.stuck p
end
section
open PySem PySem.W
end
section
variable{W:bY}{own:Bool}{f:b6}
theorem ds_drop(h:DE K W own X e f)(B: ~~~(J4 e d_ pos.line X.env=JM cm)):DS K W ro X OL O O (.Expr e pos) (tY O f):=λF0 H0=>PS.imp (nT h B) λD σ H ⟨FB,F,ρ,r,p⟩=>by refine aD r.l9 r.st.fh (λe S=>p.i7 r.st (by simp_all[tY])) λd I v F1 H1 s1 q=>?_;simp[tY,I]at p;exact p σ F1 H1 (r.step s1)
end
mutual
noncomputable def g9:A'->Bool
 |.tup ds=>gV ds|.lst ds=>gV ds|.ins _ _=>cm|.dic _=>cm|.dil _=>cm|_=>e_
noncomputable def gV:be->Bool
 |[]=>e_|d::ds=>g9 d&&gV ds
end
mutual
theorem bh.plain{K:Pn}{F F':Hp}(s:∀a xs,SqT K F a xs->SqT K F' a xs)(t:∀a xs,SqL K F a xs->SqL K F' a xs):∀{d:A'} {v:V},g9 d=e_->bh K F d v->bh K F' d v
 |.non,_,_,h=>h|.bl _,_,_,h=>h|.int _,_,_,h=>h|.tup ds,_,f,⟨a,xs,e,q,r⟩=>⟨a,xs,e,s _ _ q,ay.plain s t (by simpa[g9] using f) r⟩|.lst ds,_,f,⟨a,xs,e,q,r⟩=>⟨a,xs,e,t _ _ q,ay.plain s t (by simpa[g9] using f) r⟩|.ins _ _,_,f,_=>by simp_all[g9]|.dic _,_,f,_=>by simp_all[g9]|.dil _,_,f,_=>by simp_all[g9]
theorem ay.plain{K:Pn}{F F':Hp}(s:∀a xs,SqT K F a xs->SqT K F' a xs)(t:∀a xs,SqL K F a xs->SqL K F' a xs):∀{ds:be} {xs:bm},gV ds=e_->ay K F ds xs->ay K F' ds xs
 |[],_,_,h=>h|d::ds,_,f,⟨v,vs,e,q,r⟩=>by simp only[gV,D_]at f;exact⟨v,vs,e,bh.plain s t f.1 q,ay.plain s t f.2 r⟩
end
def jP(i:Nat)(fk fv:b6):b0:=λρ=>(fv ρ).bind λd=>(ki ρ i).bind λks=>(fk ρ).bind λB=>(fV B).bind λk=>if (g9 d&&m_ (ks.length<n_))=e_ then .ok (.nx (ρ.set i (a_ (.dic (jq ks k d)))))else .error .stuck
@[simp]def e_putDL(i:Nat)(fk fv:b6)(ρ:ab):jP i fk fv ρ=(fv ρ).bind λd=>(ki ρ i).bind λks=>(fk ρ).bind λB=>(fV B).bind λk=>if (g9 d&&m_ (ks.length<n_))=e_ then .ok (.nx (ρ.set i (a_ (.dic (jq ks k d)))))else .error .stuck:=id rfl
section
variable{W:bY}{D:Ends}
theorem Rep.minusL(r:Rep K F0 H0 FB [i] F H σ ρ)(B:ρ[i]?=a_ (a_ (.dic ks)))(s:B2 (plus F H (oF [i] [] σ ρ)) H F1 H1)(b:h_)(xs:bm)(h:SqL K F1 b xs):SqL K (minus F1 (oF [i] [] σ ρ)) b xs:=by
 have key:∀{b:h_} {o:HO},F1 b=a_ o->(∀f,o≠.ext f)->minus F1 (oF [i] [] σ ρ) b=a_ o:=λ{b o} h n=>by
  by_cases I:oF [i] [] σ ρ b
  .obtain⟨j,d,S,_,_,e1,e2⟩:=id I;have:=Ki.mp S;subst this;rw[B]at e1;obtain⟨v,e3,a,ys,rfl,⟨ep,U⟩,_⟩:=r.ow j _ B JJ;rw[e2]at e3;cases e3;have:=s.ff _ _ (by rw[gU I];exact U);rw[h]at this;cases this;exact IA rfl (n _)
  simp_all[j5]
 rcases h with(h|⟨o,h⟩)|h
 .exact .inl (.inl (key h λf z=>nomatch z))
 .exact .inl (.inr ⟨o,key h λf z=>nomatch z⟩)
 .exact .inr h
def rs_putDL(t:tS K W ro F0 H0 OL [i] [i] (jP i fk fv) D σ H):sPut K (oY i) (tD K W cm fk) (tD K W cm fv) D σ H:=by
 obtain⟨FB,F,ρ,r,p⟩:=t;have hi:i∈[i]:=JJ;refine aD r.jQ r.fg (λe c=>p.i7 (r.freeze ad).st (by unfold jP;rw[c];rfl)) λd m v F1 H1 s1 q=>?_;rw[jP,m]at p;cases S:ki ρ i with
 |error e=>have:=rP S;subst this;exact p.stuck (by rw[S];rfl)|ok ks=>
  rw[S]at p;have p1:=p;have I:=r.gw s1;obtain⟨s,e2,a,xs,rfl,⟨ep,n⟩,_,_,z⟩:=I.ow i _ (jE S) hi;refine⟨.ref a,e2,(aD I.jQ I.fg (λe c=>p1.i7 (I.freeze ad).st (by rw[c];rfl)) λh l w u H2 s2 q2=>?_)⟩
  rw[l]at p1;have p2:eV K W ro F0 H0 FB OL [i] D ((fV h).bind λk=>if (g9 d&&m_ _)=e_ then .ok _ else .error .stuck):=p1;cases B:fV h with
  |error e=>have:=dq B;subst this;exact p2.stuck (by rw[B];rfl)|ok k=>
   rw[B]at p2;have p3:eV K W ro F0 H0 FB OL [i] D (if (g9 d&&m_ _)=e_ then .ok _ else .error .stuck):=p2;by_cases U:(g9 d&&m_ (ks.length<n_))=e_
   .rw[p_ U]at p3;simp at U;obtain⟨b,rfl,t⟩:=fF B q2;have Y:=I.gw s2;have j:=bh.plain (r.qR s1) (r.minusL (jE S) s1) U.1 q;have f:=z.mono (I.dT s2);have g:=I.qR s2 b _ t;exact⟨a,b,k,xs,ep,rfl,rfl,s2.hh _ _ n,f.key.mono Y.st.fh,Y.st.fh.tup g,by exact z.length▸U.2,λep'=>p3 σ _ _ (Y.wU hi (jE S) rfl e2 λf0 o=>⟨a,_,rfl,⟨ep',aq⟩,f0,o,f.put g (j.mono (I.dT s2))⟩)⟩
   .rw[q_ U]at p3;exact p3.stuck rfl
end
section
variable{W:bY}{p:Pb}
theorem ni(d:X.A.units+64<IU)(U:DE K W cm X ek fk)(Y:DE K W cm X ev fv)(b: ~~~(X.N[i]?=a_ x))(I:autoParam (Vis X.env.scope x) Jq3)(a:((x==("__debug__":IL))=cm)⁻¹)(B:((x==("__classdict__":IL))=cm)⁻¹)(c: ~~~(X.K=K))(S: ~~~(J4 ev (a_ (.Subscript (.Name x p) ek pos')) pos.line X.env=JM cm)):DS K W ro X OL [i] [i] (.Assign [.Subscript (.Name x p) ek pos'] ev pos) (jP i fk fv):=λF0 H0=>by subst c;exact PS.imp (FK ac (pv i b I a B) U Y S) λ_ _ _=>rs_putDL
end
section
open PySem PySem.W
end
structure B7 where
 f:h_
 c:g_
 A:Kb
 o:List Qk
 s:j_
 H:Hp
 E:XK
section
variable{base:IF}{q:IL}{st:Jl}{g:b0}
def YO(_:∃f fd,Def K mg x st ps f fd)(P:IQ)(w:JX)(base:IF)(k:Nat)(ro:Bool)(m:cc):Prop:=∃f fd,Yd P w K mg base CX0 k x st ps (spF K ro m ps.length) f fd
def YM(_:∃f fd,Mth K C x q st ps f fd)(P:IQ)(w:JX)(mg:Ld)(base:IF)(k:Nat)(ro:Bool)(m:cc):Prop:=∃f fd,Mth K C x q st ps f fd/\jN P w K mg base CX0 k f fd ps (spF K ro m ps.length)
def fY(N:List IL){h:∃f fd,Def K mg x st ps f fd}(I:∀z:B7,N.Nodup->kf k (z.A.deeper (Ni x (aT st) z.s.heap.objs.size z.f z.c))->DSs K D' ro (cxOf CX0 P w K mg base N x (aT st) z.f z.c z.A z.o z.s z.H z.E).nox [] [] [] (d8 st) g)(S:autoParam (jM N ps (aT st)) Jq12):YO h P w base (k+1) ro (bV N.length ps.length g):=
 let ⟨f,fd,D⟩:=h
 ⟨f,fd,D,fn_D D.fn S ro g λc A o s H E B=>I ⟨f,c,A,o,s,H,E⟩ S.nd B⟩
def fM(N:List IL){h:∃f fd,Mth K C x q st ps f fd}(I:∀z:B7,N.Nodup->kf k (z.A.deeper (Ni q (aT st) z.s.heap.objs.size z.f z.c))->DSs K D' ro (cxOf CX0 P w K mg base N q (aT st) z.f z.c z.A z.o z.s z.H z.E).nox [] [] [] (d8 st) g)(S:autoParam (jM N ps (aT st)) Jq12):YM h P w mg base (k+1) ro (bV N.length ps.length g):=
 let ⟨f,fd,D⟩:=h
 ⟨f,fd,D,fn_D D.fn S ro g λc A o s H E B=>I ⟨f,c,A,o,s,H,E⟩ S.nd B⟩
end
section
variable{W:bY}{a b d:Jj}{es:List Jj}{p:Pb}{f:b6}{fr:ab->M (List A')}
def dY{st:Jl}{g:b0}(Y:∃f fd,Yd X.prog X.w X.K X.mg X.base CX0 k x st ps (spF K ro (bV nN n g) n) f fd)(U:kf j X.A)(c:DA K D' X (e::es) fr)(a:(k<=j)⁻¹)(b: ~~~(Gl X x))(S:((x==("__debug__":IL))=cm)⁻¹)(B: ~~~(k_ (e::es) X.env=(cm,Il e X.env)::k_ es X.env))(I: ~~~((Jy pos (k_ es X.env)).any (·.1)=cm)):
  DE K D' ro X (.Call (.Name x p) (e::es) [] pos) (fL (bV nN n g) fr):=let ⟨_,_,Y⟩:=Y;Hx Y.o (U.mono a) Y.d.mg Y.d.fn.kp Y.d.bd c b S B I
def da1(I:DE K W cm X a fa)(B: ~~~(k_ [a] X.env=[(cm,Il a X.env)])):DA K W X [a] (aa fa au):=bL I bq B
theorem da2(S:DE K W cm X a fa)(I:DE K W cm X b fb)(U: ~~~(k_ [a,b] X.env=[(cm,Il a X.env),(cm,Il b X.env)]))(B: ~~~(k_ [b] X.env=[(cm,Il b X.env)])):DA K W X [a,b] (aa fa (aa fb au)):=bL S (da1 I B) a7
def da3{f1 f2:b6}(h1:DE K W cm X e1 f1)(S:DE K W cm X e2 f2)(I:DE K W cm X e3 f3)(s1: ~~~(k_ [e1,e2,e3] X.env=(cm,Il e1 X.env)::k_ [e2,e3] X.env))(s2: ~~~(k_ [e2,e3] X.env=(cm,Il e2 X.env)::k_ [e3] X.env))(B: ~~~(k_ [e3] X.env=(cm,Il e3 X.env)::k_ [] X.env)):DA K W X [e1,e2,e3] (aa f1 (aa f2 (aa f3 au))):=(bL h1 (bL S (bL I bq B) s2) s1)
def da4{f1 f2:b6}(h1:DE K W cm X e1 f1)(Y:DE K W cm X e2 f2)(U:DE K W cm X e3 f3)(S:DE K W cm X e4 f4)(s1: ~~~(k_ [e1,e2,e3,e4] X.env=(cm,Il e1 X.env)::k_ [e2,e3,e4] X.env))(s2: ~~~(k_ [e2,e3,e4] X.env=(cm,Il e2 X.env)::k_ [e3,e4] X.env))(I: ~~~(k_ [e3,e4] X.env=(cm,Il e3 X.env)::k_ [e4] X.env))(B: ~~~(k_ [e4] X.env=(cm,Il e4 X.env)::k_ [] X.env)):DA K W X [e1,e2,e3,e4] (aa f1 (aa f2 (aa f3 (aa f4 au)))):=(bL h1 (bL Y (bL U (bL S bq B) I) s2) s1)
def da5{f1 f2:b6}(h1:DE K W cm X e1 f1)(b:DE K W cm X e2 f2)(a:DE K W cm X e3 f3)(Y:DE K W cm X e4 f4)(U:DE K W cm X e5 f5)(s1: ~~~(k_ [e1,e2,e3,e4,e5] X.env=(cm,Il e1 X.env)::k_ [e2,e3,e4,e5] X.env))(s2: ~~~(k_ [e2,e3,e4,e5] X.env=(cm,Il e2 X.env)::k_ [e3,e4,e5] X.env))(S: ~~~(k_ [e3,e4,e5] X.env=(cm,Il e3 X.env)::k_ [e4,e5] X.env))(I: ~~~(k_ [e4,e5] X.env=(cm,Il e4 X.env)::k_ [e5] X.env))(B: ~~~(k_ [e5] X.env=(cm,Il e5 X.env)::k_ [] X.env)):DA K W X [e1,e2,e3,e4,e5] (aa f1 (aa f2 (aa f3 (aa f4 (aa f5 au))))):=(bL h1 (bL b (bL a (bL Y (bL U bq B) I) S) s2) s1)
def da6{B:Jj}{f1 f2 I:b6}(h1:DE K W cm X e1 f1)(f:DE K W cm X e2 f2)(e:DE K W cm X e3 f3)(d:DE K W cm X e4 f4)(c:DE K W cm X e5 f5)(b:DE K W cm X B I)(s1: ~~~(k_ [e1,e2,e3,e4,e5,B] X.env=(cm,Il e1 X.env)::k_ [e2,e3,e4,e5,B] X.env))(s2: ~~~(k_ [e2,e3,e4,e5,B] X.env=(cm,Il e2 X.env)::k_ [e3,e4,e5,B] X.env))(a: ~~~(k_ [e3,e4,e5,B] X.env=(cm,Il e3 X.env)::k_ [e4,e5,B] X.env))(Y: ~~~(k_ [e4,e5,B] X.env=(cm,Il e4 X.env)::k_ [e5,B] X.env))(U: ~~~(k_ [e5,B] X.env=(cm,Il e5 X.env)::k_ [B] X.env))(S: ~~~(k_ [B] X.env=(cm,Il B X.env)::k_ [] X.env)):DA K W X [e1,e2,e3,e4,e5,B] (aa f1 (aa f2 (aa f3 (aa f4 (aa f5 (aa I au)))))):=(bL h1 (bL f (bL e (bL d (bL c (bL b bq S) U) Y) a) s2) s1)
def bo(Y:X.N.Nodup)(U:DE K W cm X e f)(hi: ~~~(X.N[i]?=a_ x))(B:autoParam (Loc X.env.scope x) Jq3)(I: ~~~(J4 e (a_ (.Name x pos')) pos.line X.env=JM cm))(S:autoParam (X.fn x=e_\/X.env.scope.names.lookup x=a_ .local) Jq3):
  DS K W ro X OL O (aft cm i O) (.Assign [.Name x pos'] e pos) (aI O i f):=AJ Y U hi B I S
def nh(Y:X.N.Nodup)(U:DE K W e_ X e f)(hi: ~~~(X.N[i]?=a_ x))(B:autoParam (Loc X.env.scope x) Jq3)(I: ~~~(J4 e (a_ (.Name x pos')) pos.line X.env=JM cm))(S:autoParam (X.fn x=e_\/X.env.scope.names.lookup x=a_ .local) Jq3):
  DS K W ro X OL O (aft e_ i O) (.Assign [.Name x pos'] e pos) (aI O i f):=AJ Y U hi B I S
end
section
variable{f:h_}{q:IL}{st:Jl}
def dF(I:K.In h)(G:h.Ns JE mg)(a:autoParam (nsIn K JE x=a_ (a_ (.ref f))) Jq2)(l:autoParam (K.lookup f=a_ ⟨oc,od,.func (Py x x (fJ st) (d8 st) (aT st) .none kV doc pm an cdv ct),osl⟩) Jq2)(c:autoParam (Qh K cdv x=e_) Jq2)(k:autoParam (MB K (.ref f)=e_) Jq2)(B:(∀(kV doc pm:g_) (an:Option h_) (cdv ct:g_) (us:bv),us.length=ps.length->O9 (Py x x (fJ st) (d8 st) (aT st) .none kV doc pm an cdv ct) ⟨us,[]⟩=JM (ps.zip us))):∃f fd,Def K mg x st ps f fd:=⟨_,_,def_of I G a l c k B⟩
def mF(a:autoParam (MC K (.ref C) x=a_ (a_ (.ref f))) Jq2)(i:autoParam (isFn K (.ref f)=e_) Jq2)(l:autoParam (K.lookup f=a_ ⟨oc,od,.func (Py x q (fJ st) (d8 st) (aT st) .none kV doc pm an cdv ct),osl⟩) Jq2)(c:autoParam (Qh K cdv q=e_) Jq2)(k:autoParam (MB K (.ref f)=e_) Jq2)(B:(∀(kV doc pm:g_) (an:Option h_) (cdv ct:g_) (us:bv),us.length=ps.length->O9 (Py x q (fJ st) (d8 st) (aT st) .none kV doc pm an cdv ct) ⟨us,[]⟩=JM (ps.zip us))):∃f fd,Mth K C x q st ps f fd:=⟨_,_,(⟨Cn l c k,⟨a,i,k⟩,(Cn l c k).binds B⟩)⟩
def kF(f:K.In h)(G:h.Ns JE mg)(a:autoParam (nsIn K JE x=a_ (a_ (.ref C))) Jq2)(I:autoParam (Qg K C Str.empty=e_) Jq2)(Y:autoParam (QT K C=e_) Jq2)(B:autoParam (SG K C=e_) Jq2)(sa:autoParam (MC K (.ref C) "__setattr__"=a_ (a_ (.builtin "object.__setattr__"))) Jq2)(S:autoParam (Sr K C=e_) Jq2)(U:autoParam (MB K (.ref C)=e_) Jq2)(e:autoParam (MC K (.ref C) "__class__"=a_ (a_ (.builtin "object.__class__"))) Jq2)(d:autoParam (QR K (.builtin "object.__class__") "__get__"=a_ (a_ (.builtin "getset_descriptor.__get__"))) Jq2)(c:autoParam (QQ K (.builtin "object.__class__")=a_ e_) Jq2)(b:autoParam (Rm K C (.type "object")=a_ e_) Jq2):Kls K mg x C:=⟨⟨I,Y,B,sa⟩,mg_of f G a,S,U,e,d,c,b⟩
theorem B0_{α:Type}{P:List α->Prop}(k:P []):∀us,us.length=0->P us:=λus h=>by cases us with
 |nil=>exact k
 |cons=>cases h
theorem BS_{α:Type}{n:Nat}{P:List α->Prop}(k:∀a,∀us,us.length=n->P (a::us)):∀us,us.length=n+1->P us:=λus h=>by cases us with
 |nil=>cases h
 |cons a l=>exact k a l (Nat.succ.inj h)
def lF{y:IL}(S:K.In h)(G:h.Ns JE mg)(a:autoParam (nsIn K JE x=a_ (a_ (.ref f))) Jq2)(l:autoParam (K.lookup f=a_ ⟨oc,od,.func (Py x x (fJ st) (d8 st) (aT st) .none kV doc pm an cdv ct),osl⟩) Jq2)(c:autoParam (Qh K cdv x=e_) Jq2)(k:autoParam (MB K (.ref f)=e_) Jq2)(B:∀(kV doc pm:g_) (an:Option h_) (cdv ct:g_) (v:g_),O9 (Py x x (fJ st) (d8 st) (aT st) .none kV doc pm an cdv ct) ⟨[v],[]⟩=JM [(y,v)]:=by intros;rfl):∃f fd,Def K mg x st [y] f fd/\∀(s:j_) (v:g_),Oo s fd ⟨[v],[]⟩ [(y,v)]:=
 ⟨_,_,def_of S G a l c k λ_ _ _ _ _ _=>BS_ λ_=>B0_ (B ..),λ_ _=>.of_eq (B ..)⟩
theorem Fun.uniq{B:Kw}(a:Fun K x q st f fd)(b:Fun K x q st f B):fd=B:=by
 obtain⟨oc,od,kV,doc,pm,an,cdv,ct,osl,rfl,j,_⟩:=a.ex;obtain⟨d,c,g,S,Y,i,U,h,I,rfl,e,_⟩:=b.ex
 lia
def rS(N:∃f fd,Mth K C x q st ps f fd)(a:autoParam (MC K (.ref C) x=a_ (a_ (.ref f))) Jq2)(s1:autoParam (QR K (.ref C) "__getattribute__"=a_ (a_ (.builtin "type.__getattribute__"))) Jq8)(s2:autoParam (QS K C mc=e_) Jq8)(I:autoParam (QU K (.ref C) mc x=a_ (.val (.ref f))) Jq8)(B:autoParam (MB K (.ref f)=e_) Jq2):∃f fd,Mth K C x q st ps f fd/\Stat K C mc x f:=by obtain⟨S,fd,M⟩:=N;cases(M.mt.1.symm.trans a);exact⟨_,fd,M,s1,s2,I,B⟩
end
theorem fQ.hide(r:fQ K F σ ρ)(i:Nat)(v:Option V):fQ K F (σ.set i v) (ρ.set i d_):=
 ⟨by rw[Ii,Ii,r.len],λj d e=>by
  by_cases B:i=j
  .subst B;by_cases hi:i<ρ.length
   .rw[t_ hi]at e;cases e
   .rw[Nq (by rw[Ii];lia)]at e;cases e
  .rw[o_ B]at e;obtain⟨v,h1,I⟩:=r.sl j d e;exact⟨v,a7,I⟩⟩
def pi_seqD(d:PE X e tl):PI X tg e (iSeq X.K tl):=by
 intro B1 s σ H R I h;refine B' (d B1 s σ H _ I h) λv s1 c=>?_;obtain⟨y,H1,B,a,q1⟩:=c;obtain⟨l,rfl,q⟩:=q1;cases a;rcases q with⟨⟨xs,S⟩,q⟩|⟨⟨xs,S⟩,q⟩
 .obtain⟨its,Y,p,hz⟩:=B.list S;refine L6 p.isList ⟨s1.z,[s1.z],_,_,H1,rfl,B.kept λb o e=>c_ _ e,qf l _,⟨_,i_ _ rfl,rfl,rfl⟩,λb U=>?_,q⟩;have e:=by simpa using U
  subst e;exact B.Ew (f_ _) (B.hok.fresh (f_ _))
 .obtain⟨its,Y,p,hz⟩:=B.tuple S;refine Lm (show s1.heap.IsTuple l its.toArray from p) ⟨s1.z,[s1.z],_,_,H1,rfl,B.kept λb o e=>c_ _ e,tQ l _,⟨_,i_ _ rfl,rfl,rfl⟩,λb U=>?_,q⟩;have e:=by simpa using U
  subst e;exact B.Ew (f_ _) (B.hok.fresh (f_ _))
theorem hU(h:n+64<IU):n+1<IU:=ac
section
open PySem.W
end
section
open PySem PySem.W
end
section
open PySem.W
end
section
open PySem PySem.W
end
section
open PySem.W
end
def ItLL(a:h_)(xs:List (LK×h_))(ep:Nat):It:=
 ⟨λi H=>H a=a_ (zP a xs ep)/\i<xs.length,λi H v H'=>∃x,v=.ref x.2/\xs[i]?=a_ x/\H'=H,λi H=>H a=a_ (zP a xs ep)/\xs.length<=i⟩
def A8{s:j_}{xs:List (LK×h_)}(I:B3 X B1 σ H s)(e:H a=a_ (zP a xs ep)):∃es:Array Jx,(a==IX)=cm/\pZ s.heap a es ep/\es.toList=xs.map rowL/\es.size=xs.length:=by obtain⟨S,c,b,o,es,h1,Y,U,B⟩:=Hm I e;exact⟨es,S,⟨o,h1,Y,U⟩,B,by rw[<- Iu,B,l_]⟩
theorem EL(a q:h_)(xs:List (LK×h_))(ep:Nat):Turn P w K tg (ItLL a xs ep) [q] q (λi h=>h.IsKeyIter q a i xs.length ep) where
 mem:=by simp
 obj:=λi h st b B=>by obtain⟨o,e,c,d⟩:=st;simp_all
 keep:=λi h h' st j=>let ⟨o,e,r⟩:=st;⟨o,j q ad _ e,r⟩
 item:=by rintro X l hw m g i B1 s σ H E I S st ⟨Y,hi⟩;obtain⟨es,k,z,f,hsz⟩:=A8 I Y;rw[<- hsz]at st;obtain⟨f0,f1,f2,f3,f4,f5⟩:=S q ad;refine nY st z (by rw[<- KA,f,E_,Ij hi];rfl) λh' U sb=>?_;obtain⟨o,e,c,d⟩:=id U;exact⟨_,rfl,GR e c d am ⟨.ref xs[i].2,H,(I.turned (t':=s.toks) (λb o B e=>(sb.2 b B).trans e) f0 f1 f3 f4 f5),rfl,⟨xs[i],rfl,Ij hi,rfl⟩,a7,λb B=>(S b B).1⟩⟩
 done:=by rintro X l hw m g i B1 s σ H E I S st ⟨Y,hi⟩;obtain⟨es,k,z,f,hsz⟩:=A8 I Y;rw[<- hsz]at st;obtain⟨f0,f1,f2,f3,f4,f5⟩:=S q ad;exact rM (I.ok.hd g) st z ac λh' eb=>⟨rfl,I.turned (λb o B e=>eb b o B e) f0 f1 f3 f4 f5⟩
 self:=λ_ _ _ _ _ st h=>N9 st h
theorem GB{xs:List (LK×h_)}{ks:bz}(S:F a=a_ (zP a xs ep))(z:Bh K F ks xs):mC K F (ItLL a xs ep) (ks.map aE) where
 go:=λi F' H' s1 s2 hi=>⟨s2 _ _ (s1 _ _ S),by rw[<- z.1]at hi;simp_all⟩
 yl:=λi F' H' x H2 d s1 s2 I U=>by obtain⟨y,ev,B,Y⟩:=U;subst ev Y;rw[<- z.1,Cb,E_,B]at I;cases I;exact⟨F',B2.refl s2,vI ((z.2 y (Jd B)).mono s1)⟩
 st:=λF' H' s1 s2=>⟨s2 _ _ (s1 _ _ S),by rw[<- z.1];simp⟩
def vL:A'->M be
 |.lst ds=>.ok ds|.dil ks=>.ok (ks.map aE)|_=>.error .stuck
def fItL(fa:b6):ce:=λρ=>(fa ρ).bind vL
@[simp]def e_fItL{fd:b6}{ρ:ab}:fItL fd ρ=(fd ρ).bind vL:=id rfl
@[simp]def e_itemsLL(ks:bz):vL (.dil ks)=.ok (ks.map aE):=id rfl
def Ht{W:bY}{o:Jj}{fd:b6}(i:DE K W cm X o fd)(k: ~~~(X.K=K)):DI K W X tg o (fItL fd):=by
 subst k;intro B1 s σ H R I ⟨F,ρ,r,g,p⟩;have p:(match (fd ρ).bind vL with
  |.ok ds=>∀it F1 H1,B2 F H F1 H1->mC X.K F1 it ds->R it H1|.error e=>W.p e F H):=p
 refine B' (i B1 s σ H (λv H1=>∃d F1,fd ρ=.ok d/\B2 F H F1 H1/\bh X.K F1 d v) I (aD r g (λe Y=>by rw[Y]at p;exact p) λd S v F1 H1 s1 q=>⟨d,F1,S,s1,q⟩)) λv s1 h=>?_;obtain⟨y,H1,B,U,d,F1,S,st,q⟩:=h;rw[S]at p;have fp:∀b,b∈[s1.z]->_:=λb j=>by
  have e:=by simpa using j
  subst e;exact B.Ew (f_ _) (B.hok.fresh (f_ _))
 cases d with
 |lst ds=>obtain⟨l,xs,rfl,t,z⟩:=q;cases U;obtain⟨its,m,pl,hz⟩:=B.list (st.fh.lst t);exact L6 pl.isList ⟨s1.z,[s1.z],_,_,H1,rfl,B.kept λb o e=>c_ _ e,qf l _,⟨_,i_ _ rfl,rfl,rfl⟩,fp,p _ F1 H1 st (ym t z)⟩
 |dil ks=>obtain⟨a,xs,rfl,⟨ep,c⟩,z⟩:=q;cases U;obtain⟨es,S,f,Y,hsz⟩:=A8 B (st.fh _ _ c);exact o8 S f ⟨s1.z,[s1.z],_,_,H1,rfl,B.kept λb o e=>c_ _ e,EL a _ xs ep,⟨_,i_ _ rfl,rfl,by rw[<- hsz];rfl⟩,fp,p _ F1 H1 st (GB c z)⟩
 |_=>exact(W.ns p).elim
def jS:be->M bz
 |[]=>.ok []|.tup [B,.bl e_]::ds=>(sR B).bind λk=>(jS ds).bind λr=>.ok (k::r)|_=>stk
def CF:cc
 |[.lst ds]=>(jS ds).bind λks=>.ok (.dil (ks.foldl putL []))|_=>stk
@[simp]def Cz(ds:be):CF [.lst ds]=(jS ds).bind λks=>.ok (.dil (ks.foldl putL [])):=id rfl
theorem u7:∀{ds:be} {e:Err},jS ds=.error e->e=.stuck
 |[],_,h=>by cases h|d::ds,e,h=>by
  unfold jS at h;split at h
  .lia
  .rename_i Y U S;cases I:sR Y with
   |error z=>rw[I]at h;have:=pR I;simp_all|ok k=>
    rw[I]at h;cases B:jS U with
    |error z=>rw[B]at h;cases S;have:=u7 B;simp_all|ok r=>rw[B]at h;cases h
  .cases h;rfl
def Gm:KKeep (DR prog w):=λz e=>Gn z e
def AG(rs:List (LK×h_))(acc:List (LK×h_)):List (LK×h_):=rs.foldl (λa x=>qy a x.1 x.2) acc
theorem uA:∀(rs acc:List (LK×h_)),(rs.map enL).foldl stR (acc.map enL)=(AG rs acc).map enL
 |[],_=>rfl|r::rs,acc=>by show(rs.map enL).foldl stR (M_ _ r.1 r.2 (.bool e_))=_;rw[Fc];exact uA rs _
theorem uB:∀(rs acc:List (LK×h_)),(AG rs acc).map (·.1)=(rs.map (·.1)).foldl putL (acc.map (·.1))
 |[],_=>rfl|r::rs,acc=>by show(AG rs _).map _=(rs.map (·.1)).foldl putL _;rw[uB,u3]
theorem yy{P:LK×h_->Prop}:∀(rs acc:List (LK×h_)),(∀x∈rs,P x)->(∀x∈acc,P x)->∀x∈AG rs acc,P x
 |[],_,_,h=>h|r::rs,acc,h1,I=>yy rs _ (λx B=>h1 x (by simp[B])) λx B=>by
  rcases xJ B with e|e
  .exact I x e
  .subst e;exact h1 _ ad
theorem yz:∀(rs acc:List (LK×h_)),(AG rs acc).length<=acc.length+rs.length
 |[],_=>f_ _|r::rs,acc=>by have h1:=yz rs (qy acc r.1 r.2);have B:=xK acc r.1 r.2;show(AG rs _).length<=_;grind
section
variable{W:bY}
theorem xS{B1:Vp}{σ:St}{F H:Hp}{s:j_}(I:B3 X B1 σ H s)(f:aM F H):∀{ds:be} {ys:bm} {its:bv} {ks:bz},ay X.K F ds ys->B6 ys its->jS ds=.ok ks ->
  ∃rs:List (LK×h_),rs.map (·.1)=ks/\rs.length=its.length/\(∀r∈rs,lQ X.K F r.2 r.1)/\∀(j:Nat) (x:LK×h_×g_),(rs.map enL)[j]?=a_ x->∃T,its[j]?=a_ (.ref T)/\PM s.heap T #[.ref x.2.1,x.2.2]/\(DR X.prog X.w).is s.heap x.1 x.2.1
 |[],_,_,_,h,r,e=>by rw[show _=[]from h]at r;cases r;cases e;exact⟨[],rfl,rfl,λr Y=>(nomatch Y),λj x h=>by simp at h⟩
 |d::ds,_,_,ks,⟨v,vs,ev,q,t⟩,r,e=>by
  subst ev;cases r with
  |cons C rs=>
   rename_i u us;unfold jS at e;split at e
   .simp_all
   .rename_i E P c;cases c;cases i:sR E with
    |error z=>simp_all|ok k=>
     rw[i]at e;cases a:jS ds with
     |error z=>rw[a]at e;cases e|ok D=>
      rw[a]at e;cases e;obtain⟨L,h1,K,J,G⟩:=xS I f t rs a;obtain⟨T,R,O,y,W,m,N,q1,n,l,g,q2,rfl⟩:=q;subst O N g;cases(show u=s_ T from C);cases(show n=V.bl e_ from q2);obtain⟨b,rfl,tb⟩:=vJ i q1;obtain⟨w,A,tp,_⟩:=I.tuple (f.tup y);obtain⟨p,o,rfl,S,B⟩:=A.two;cases(show p=s_ b from S);cases(show o=N3 e_ from B);refine⟨(k,b)::L,by simp[h1],by simp[K],λr Y=>?_,λj x U=>?_⟩
      .rcases x_.mp Y with e|e
       .subst e;exact tb
       .exact J r e
      .cases j with
       |zero=>simp at U;subst U;exact⟨T,rfl,tp,o6 I (tb.mono f)⟩|succ j=>obtain⟨Q,f1,f2⟩:=G j x U;exact⟨Q,by simpa using f1,f2⟩
   .cases e
theorem c_dictLD(O:X.A.units+64<IU)(D: ~~~(X.calm=e_))(G: ~~~(X.K=K)):kZ K W e_ X (.type "dict") CF:=by
 subst G;intro B1 s σ H xs us Q I A h;obtain⟨F,d,x,s1,rfl,q,p⟩:=gW (λds=>by match ds with|[d]=>exact .inl ⟨d,rfl⟩|[]=>exact .inr rfl|a::b::c=>exact .inr (by cases a<;>rfl)) h;obtain⟨u,rfl,y⟩:=A.one;cases d with
 |lst ds=>
  obtain⟨a,ys,rfl,t,r⟩:=q;cases y;have p':aH X.K W e_ F H ((jS ds).bind λks=>.ok _) Q:=p;cases Y:jS ds with
  |error z=>rw[Y]at p';have:=u7 Y;subst this;exact aH.stuck p'|ok ks=>
   rw[Y]at p';obtain⟨its,l,pl,hz⟩:=I.list (s1.lst t);obtain⟨o,n,N,U,B,S⟩:=id pl;obtain⟨oc,od,f,osl⟩:=o;cases(show oc=.type "list" from U);cases(show od=d_ from B);cases(show f=.seq its.toArray n from S);obtain⟨rs,h1,m,L,J⟩:=xS I s1 r l Y;have E:rs.length<=n_:=by rw[m,<- l.length];exact hz
   refine uM (I.ok.hd D) Gm (by show X.A.units+1+1+3<IU;lia) N (rs.map enL) (by simp[m]) (by simpa using E) (λj x g=>by obtain⟨T,f1,f2⟩:=J j x g;exact⟨T,by simpa using f1,f2⟩) λh' w C v=>?_;rw[show []=[].map enL from rfl,uA]at v;have i:(AG rs []).length<=n_:=by
    have:=yz rs [];simp at this
    lia
   obtain⟨ep,z⟩:=CC v (Lu.mpr (IV (G_ I.big))) i;have k:=I.hok.fresh (f_ s.z);refine⟨.ref s.z,_,I.laid (λb o e=>C b o e) (f_ _) (AK z),rfl,p' _ F _ (B2.grow s1 k) ⟨s.z,_,rfl,⟨ep,aq⟩,s1.free k,k,?_,yy rs [] L λx g=>nomatch g⟩⟩
   rw[uB,h1];rfl
 |_=>exact aH.stuck p
end
def wM:A'->cg
 |.dic ks,B=>(fV B).bind λk=>match gZ ks k with
  |some d=>.ok d|none=>stk
 |_,_=>stk
@[simp]def kQ(ks:List (a9×A'))(B:A'):wM (.dic ks) B=(fV B).bind λk=>match gZ ks k with|some d=>.ok d|none=>stk:=id rfl
def rIxK(K:Pn):R2:=λx y H Q=>∃a b k xs ep v,x=.ref a/\y=.ref b/\H a=a_ (iW a xs ep)/\kh K H xs/\SqT K H b (k.map V.int)/\jx xs k=a_ v/\Q v H
theorem ix_K(j:X.A.units+1<IU):IxR X (rIxK X.K):=by
 intro value B B1 s σ H x y v u Q I g f h l;obtain⟨a,b,k,xs,ep,z,rfl,rfl,ea,m,t,e,q⟩:=h;cases(show v=s_ a from g);cases(show u=s_ b from f);obtain⟨vs,i,n,hz,d⟩:=nj I ea m;have U:=mM (k:=k) i;rw[e]at U;obtain⟨w,c,S⟩:=U.some_of;cases Y:Qf vs k with
 |none=>simp_all|some p=>rw[Y]at c;cases c;exact NU d.typeIs slot_dict_getitem.lookup (wpAny_getItem_heap (KP j) (ko I t) d Y ⟨rfl,z,H,I.tok _,S,q⟩) l
theorem sS{W:bY}(f:X.A.units+64<IU)(Y: ~~~(X.K=K)):IxR X (rD2 K W cm wM):=by
 subst Y;refine(ix_K ac).imp λx y H Q h=>?_;obtain⟨F,a,b,s1,S,I,p⟩:=h;cases a with
 |dic ks=>
  have p:aH X.K W cm F H ((fV b).bind λk=>match gZ ks k with|some d=>.ok d|none=>stk) Q:=p;cases B:fV b with
  |error e=>rw[B]at p;have:=dq B;subst this;exact aH.stuck p|ok k=>
   rw[B,ai]at p;obtain⟨a,xs,rfl,⟨ep,U⟩,z⟩:=S;obtain⟨c,rfl,t⟩:=fF B I;rcases z.at with⟨e1,_⟩|⟨d,v,e1,e2,q⟩
   .rw[e1]at p;exact aH.stuck p
   .rw[e1]at p;exact⟨a,c,k,xs,ep,v,rfl,rfl,s1 _ _ U,z.key.mono s1,s1.tup t,e2,p v F H (B2.refl s1) q⟩
 |_=>exact aH.stuck p
section
open PySem.W
variable{s:j_}
def DL{c:Bool}{Q:Bool->j_->Prop}(S:A.units<IU)(B:TupAt s.heap a us)(I:TupAt s.heap b vs)(U:Ls prog w A.in1 s.heap us vs c)(h:Q c s):w_ (u_ prog w) A (keyLt' oneType' (.ref a) (.ref b)) Q E s:=by rw[keyLt'_oneType];refine b_ (wpAny_cRoomFor S (b_ (wpAny_callSpecialIfBound?_slot B.ty Mv (Ip Mv B.ty QG (qT B I U ⟨_,rfl,?_⟩) (Qr _ _)))));exact JW h
theorem uD:∀(vs:bv),(∀v∈vs,∃a us,v=.ref a/\TupAt s.heap a us)->∃fs:List (Option g_),(∀Q:List (Option g_)->j_->Prop,Q fs s->w_ (u_ prog w) A (vs.mapM firstOfTuple') Q E s)/\∀a,vs.head? =a_ (.ref a)->TupAt s.heap a []->fs.head? =a_ d_
 |[],_=>⟨[],λQ h=>by exact fm h,λa e=>by cases e⟩|v::vs,h=>by
  obtain⟨fs,h1,_⟩:=uD vs λv I=>h v (by simp[I]);obtain⟨a,us,rfl,o,n,B,c,Y⟩:=h v ad;refine⟨us[0]?::fs,λQ f=>?_,λb e t=>?_⟩
  .rw[List.mapM_cons];refine b_ (b_ (QE (show Looks _ s.heap _ o.cls from(Looks.ld B).andThen .now) ?_));rw[c];exact b_ (listItems_at B Y (fm (b_ (h1 _ (fm a7)))))
  .obtain⟨o',d,S,_,U⟩:=t
   simp_all
theorem kind0{Q:Qn->j_->Prop}(I:vs.head? =a_ (.ref a))(e:TupAt s.heap a [])(U:∀v∈vs,∃a us,v=.ref a/\TupAt s.heap a us)(h:Q oneType' s):w_ (u_ prog w) A (keyKind' vs.toArray) Q E s:=by
 obtain⟨fs,h1,B⟩:=uD vs U;have B:=B a I e;rw[keyKind'_eq,Rc];refine b_ (b_ (h1 _ (fm ?_)));obtain⟨f,fs,rfl⟩:∃f fr,fs=f::fr:=by
  cases fs with
  |nil=>cases B|cons f fr=>lia
 cases B;rw[q_ ad,oneTypeOnly'_eq,Rc];have ty:∀v∈vs,Looks (u_ prog w) s.heap (typeOf v) (K7 "tuple"):=λv S=>by obtain⟨b,us,rfl,o,n,d,g,i⟩:=U v S;exact g▸(Looks.ld d).andThen .now
 refine b_ (b_ (b_ (kas_mapM _ (λv S j c=>(ty v S).here c) (fm ?_))));cases vs with
 |nil=>cases I|cons v vs=>
  have Y:((Pq (λ_=>K7 "tuple") (v::vs)).toArray.all λx=>x==K7 "tuple")=e_:=by simp only[List.all_toArray,List.all_map,Jc];intro _ _;rfl
  have I:(Pq (λ_=>K7 "tuple") (v::vs)).toArray[0]?=a_ (K7 "tuple"):=by simp
  rw[I];simp;exact fm (fm h)
abbrev mr:a9->a9->Bool:=qY ltZ
def ordI:Ord mr:=Ah ordZ
def TKs0(prog:IQ)(w:JX)(h:IF)(rs:List (a9×h_)):Prop:=∀r∈rs,(tupI (zM prog w)).is h r.1 (.ref r.2)
theorem asks_T0(m:A.units+8<IU)(h:TKs0 prog w s.heap rs)(U:(rs.map JI).head? =a_ []):Ex prog w A (rk mr (rs.map JI) []) (rs.map λr=>s_ r.2) s:=by
 have B:∀r∈rs,∃us,TupAt s.heap r.2 us/\q9 _ r.1 us:=λr g=>by obtain⟨a,us,e,t,z⟩:=h r g;cases e;exact⟨us,t,z⟩
 cases rs with
 |nil=>cases U|cons f rs=>
  have k:=by simpa using U
  refine kind0 rfl ?_ (λv l=>?_) ⟨rfl,λi j C hi I S=>?_⟩
  .obtain⟨us,t,z⟩:=B f ad;rw[k]at z;cases z;exact t
  .grind
  .rw[l_]at hi I;rw[Dq ordI a7 a7]at S;obtain⟨us,d,b⟩:=B _ (Iz hi);obtain⟨vs,c,Y⟩:=B _ (Iz I);unfold O_;rw[getD_get (by rw[l_];exact hi),getD_get (by rw[l_];exact I),JA,JA];rw[getD_get (by rw[l_];exact hi),getD_get a0,JA,JA]at S;exact DL ac d c (Gi _ int_lt (by show A.units+1+0<IU;lia) b Y) S
end
def tk_keep{k:a9}{v:g_}(x:(tupI (zM prog w)).is h k v)(e:∀b o,h.get? b=a_ o->h'.get? b=a_ o):(tupI (zM prog w)).is h' k v:=(tupI _).keeps x λa o us n q _=>e a o q
theorem wZ{F:Hp}:∀{ts:List a9} {xs:bm},ay K F (ts.map aR) xs->∃rs:List (a9×h_),rs.map JI=ts/\xs=rs.map (λr=>V.ref r.2)/\∀r∈rs,SqT K F r.2 (r.1.map V.int)
 |[],_,h=>⟨[],rfl,h,λr I=>(nomatch I)⟩
 |t::ts,_,⟨v,vs,e,⟨b,ys,ev,q,z⟩,r⟩=>by obtain⟨rs,e2,e3,h⟩:=wZ r;have S:=cW z (dG _);exact⟨(t,b)::rs,a7,a7,λx B=>(x_.mp B).elim (λz=>by simp_all) (h x)⟩
theorem uG{F:Hp}:∀{ks:List (a9×A')} {xs:bA},bp K F ks xs->xs.map (·.1)=ks.map (·.1)
 |[],_,h=>by rw[show _=[]from h];rfl|(k,d)::ks,_,⟨b,v,r,e,t,q,z⟩=>by rw[e,v_,uG z];rfl
theorem mm:∀{xs:bA} {vs:List (a9×h_×g_)},Jg dK xs vs->(vs.map Er).map (·.key)=xs.map λx=>s_ x.2.1
 |_,_,.nil=>rfl|_,_,.cons r t=>by rw[v_,v_,v_,mm t,r.2.1];rfl
section
variable{W:bY}{p0:Pat}
def ps_comp(N':List IL)(ix:List (Option Nat))(f:X.N.Nodup)(hi:DI K W X tg iter fi)(c:∀L cs s H fp,DG K (bf X N' sc L cs s H fp) tg p0)(Y:oX ix (gP K p0))(S:∀L cs s H fp,PTs (bf X N' sc L cs s H fp) ifs (tDT K W ft))(d:∀L cs s H fp,DE K W e_ (bf X N' sc L cs s H fp) elt fe)(b: ~~~(X.N[i]?=a_ x))(I: ~~~(X.env.scope.names.lookup x=a_ .local))(e: ~~~(X.calm=e_))(B: ~~~(J4 (.ListComp elt [⟨tg,iter,ifs,0⟩] sc pos) (a_ (.Name x py)) spos.line X.env=JM e_))(ok: ~~~(bH X.N X.env.scope N' sc ix=e_))(a: ~~~(sc.kind=.function))(U:autoParam (∀x,Ku iter X.env x=JM x) Jq4):
  PS X (.Assign [.Name x py] (.ListComp elt [⟨tg,iter,ifs,0⟩] sc pos) spos) (pK i (iD K W fi) ix (gP K p0) (tDT K W ft) (tD K W e_ fe)):=nS N' ix f b I e hi c Y S d B ok a U
end
def aV:List a9->Bool
 |[]=>e_|k::ks=>ks.all (λx=>qg x != qg k)&&aV ks
def dictC:cc
 |[.dic ks]=>if (!ks.isEmpty&&aV (ks.map (·.1)))=e_ then .ok (.dic ks)else .error .stuck
 |_=>.error .stuck
@[simp]def He(ks:List (a9×A')):dictC [.dic ks]=if (!ks.isEmpty&&aV (ks.map (·.1)))=e_ then .ok (.dic ks)else .error .stuck:=id rfl
section
open PySem
variable{s:j_}
theorem zF:∀{vs:List (a9×h_×g_)},aV (vs.map (·.1))=e_->∀q∈vs,((vs.map Er).filter λe=>e.hash==qg q.1).length<=1
 |[],_,_,h=>nomatch h
 |x::vs,h,q,I=>by
  simp only[v_,aV,D_,Jc,IE,bne_iff_ne]at h;have B:∀c,(∀y∈vs,qg y.1≠c)->((vs.map Er).filter λe=>e.hash==c)=[]:=λc U=>by grind[Nd,Er]
  rw[v_,Rp];by_cases e:qg x.1=qg q.1
  .rw[p_ (by simpa[Er] using e),B _ λy S=>by exact e▸h.1 y.1 ⟨y,S,rfl⟩];simp
  .rw[q_ (by simp_all[Er])];rcases x_.mp I with rfl|I
   .simp_all
   .exact zF h.2 q I
theorem Ef{vs:List (a9×h_×g_)}{Q:Mq}(P:(a==IX)=cm)(L:s.heap.DictOfH (md prog w) a vs)(hz:vs.length<=n_)(p:vs≠[])(l:aV (vs.map (·.1))=e_)(k:∀h',Keep s.heap h'->h'.DictOfH (md prog w) s.heap.objs.size vs->Q (.ref s.heap.objs.size) {s with heap:=h'}):w_ (u_ prog w) A (Ms (.type "dict") [.ref a]) Q E s:=by
 obtain⟨B,g,d,tk,S⟩:=s;refine callType_codes (Q₁:=λu t=>u=.ref B.objs.size/\t=⟨B.push {cls:=.type "dict",data:=.dict #[]},g,d,tk,S⟩) R8 (Q9 _) RV (SE _ ⟨rfl,rfl⟩) ?_;rintro u t ⟨rfl,rfl⟩;have ty:(⟨B.push {cls:=.type "dict",data:=.dict #[]},g,d,tk,S⟩:j_).TypeIs (.ref B.objs.size) "dict":=⟨_,i_ _ rfl,rfl⟩
 obtain⟨o,es,ep,h1,O,C,U,y,N⟩:=L;have I:(B.push {cls:=.type "dict",data:=.dict #[]}).get? a=a_ o:=c_ _ h1;have ta:(⟨B.push {cls:=.type "dict",data:=.dict #[]},g,d,tk,S⟩:j_).TypeIs (.ref a) "dict":=⟨o,I,O.1⟩
 have K:B.objs.size≠a:=(G_ (r_ h1)).symm;have Y:es.size=vs.length:=by rw[<- Iu,U,l_]
 refine⟨ty,RA _ _,(b_ ?_)⟩;refine b_ (KR ty (fm ?_));show w_ _ _ (Builtin.Dict.updateFrom "dict.__init__" B.objs.size (.ref a) [] .none) _ _ _;refine b_ (NH ta (b_ ?_));refine b_ (b_ (Kl ta PJ (b_ (MA ta MW.lookup (fm ?_)))));refine b_ (fm ?_);unfold Builtin.Dict.mergeDict Kq;rw[q_ a7,q_ a7];refine b_ (fm (b_ (IB I C ?_)));have m:(m_ (es.size<=8)&&es.all λe=>(keyPart e.key).isSome)=cm:=by obtain⟨v,vs,rfl⟩:=List.exists_cons_of_ne_nil p;rw[Bool.and_eq_false_iff];refine .inr ?_;rw[<- Array.all_toList,U];rfl
 simp only[m,RY,if_true];refine b_ (IB (i_ _ rfl) rfl ?_);refine b_ (b_ (IB I C ?_));refine b_ (MeetsSeq2.wpAny_forIn_array _ (λrest _ s'=>s'=⟨B.push {cls:=.type "dict",data:=.dict #[]},g,d,tk,S⟩/\∀e∈rest,e∈es.toList) _ ?_ ?_ _ _ ⟨rfl,λ_ h=>h⟩)
 .rintro e rest b s' ⟨rfl,r⟩;have i:=r e ad;rw[U]at i;obtain⟨q,f,rfl⟩:=IE.mp i;obtain⟨H,its,n,G,D,t3⟩:=y q f;have tt:(⟨B.push {cls:=.type "dict",data:=.dict #[]},g,d,tk,S⟩:j_).TypeIs (.ref q.2.1) "tuple":=⟨H,c_ _ G,D⟩
  refine b_ (b_ (MA tt M1.lookup (fm ?_)));have j:(es.filter λx=>x.hash==(Er q).hash).size<=1:=by rw[<- Iu,Array.toList_filter,U];exact zF l q f
  exact(q_ (show ¬(es.filter λx=>x.hash==(entryOfKey (md prog w) q).hash).size>1 from Nat.not_lt.mpr j))▸fm ⟨rfl,λe i=>r e (by simp[i])⟩
 .rintro b s' ⟨rfl,_⟩;refine fm ?_;have J:es.isEmpty=cm:=by
   rw[Ph];intro z;rw[z]at Y;exact p (LQ.mp Y.symm)
  simp only[J,RY,if_true];refine b_ (wpAny_updateDictKeysTo (i_ _ rfl) rfl (fm ?_) ac);refine b_ (show w_ _ _ (Builtin.Dict.addKeywords _ []) _ _ _ from fm (fm ⟨rfl,(k _ (λc o' e=>?_) ⟨_,es,1,KC _ (i_ _ rfl) (QW (Md rfl _)),⟨rfl,rfl,rfl⟩,Md rfl _,U,λq f=>?_,N⟩)⟩))
  .exact(Jh ..).2 c (λz=>by rw[z]at e;exact IA (r_ e) (KY _)) |>.trans (c_ _ e)
  .exact x5 (y q f) λc o' e=>(Jh ..).2 c (λz=>by rw[z]at e;exact IA (r_ e) (KY _)) |>.trans (c_ _ e)
end
section
variable{W:bY}
theorem xB:∀{xs:bA} {vs:List (a9×h_×g_)},Jg dK xs vs->vs.map (·.1)=xs.map (·.1)
 |_,_,.nil=>rfl|x::xs,q::vs,.cons h t=>by rw[v_,v_,xB t,h.1]
theorem bp.keys{F:Hp}:∀{ks:List (a9×A')} {xs:bA},bp K F ks xs->xs.map (·.1)=ks.map (·.1)
 |[],_,h=>by rw[show _=[]from h];rfl|(k,d)::ks,_,⟨b,v,r,e,t,q,z⟩=>by rw[e,v_,v_,bp.keys z]
theorem c_dictC(j: ~~~(X.K=K)):kZ K W e_ X (.type "dict") dictC:=by
 subst j;intro B1 s σ H xs us Q I f h;obtain⟨F,d,x,s1,rfl,q,p⟩:=gW (λds=>by match ds with|[d]=>simp|[]=>exact .inr rfl|a::b::c=>exact .inr (by cases a<;>rfl)) h;obtain⟨u,rfl,Y⟩:=f.one;cases d with
 |dic ks=>
  obtain⟨a,ys,rfl,⟨ep,t⟩,r⟩:=q;cases Y;have p':aH X.K W e_ F H (if (!ks.isEmpty&&aV _)=e_ then .ok _ else .error .stuck) Q:=p;by_cases U:(!ks.isEmpty&&aV (ks.map (·.1)))=e_
  .rw[p_ U]at p';simp at U;obtain⟨vs,S,i,hz,k⟩:=nj I (s1 _ _ t) (r.key.mono s1);have m:=(xB S).trans r.keys;have B:vs≠[]:=λz=>by
    simp_all
   refine Ef i k (by exact(Ke S)▸hz) B a7 λh' g l=>?_;obtain⟨ep',z⟩:=nq l S (Lu.mpr (IV (G_ I.big))) hz;have B:=I.hok.fresh (f_ s.z);exact⟨.ref s.z,_,I.laid (λb o e=>g b o e) (f_ _) (rO z),rfl,p' _ F _ (B2.grow s1 B) ⟨s.z,_,rfl,⟨ep',aq⟩,s1.free B,B,r⟩⟩
  .rw[q_ U]at p';exact aH.stuck p'
 |_=>exact aH.stuck p
end
def qj:List (a9×A')->List (a9×A')->Bool
 |[],[]=>e_|(k,d)::ks,(j,e)::B=>m_ (k=j)&&C' d 40&&C' e 40&&eqD d e&&qj ks B|_,_=>cm
section
open PySem
variable{s:j_}
theorem Df{v:String}{vs us:List (a9×h_×g_)}{Q:Bool->j_->Prop}(C:(md prog w).room A)(X:(a==IX)=cm)(W:(b==IX)=cm)(H:s.heap.DictOfH (md prog w) a vs)(G:s.heap.DictOfH (md prog w) b us)(T:vs.length=us.length)(g:∀(j:Nat) (x y:a9×h_×g_),vs[j]?=a_ x->us[j]?=a_ y->x.1=y.1/\LN A s x.2.2 y.2.2 e_)(h:Q e_ s):
  w_ (u_ prog w) A (OH v a b) Q E s:=by
 obtain⟨N,es,ep,c,a2,Y,u,K,a6⟩:=H;obtain⟨L,fs,Z,r,b2,o,m,J,t⟩:=G;have P:es.size=vs.length:=by rw[<- Iu,u,l_]
 have O:fs.size=us.length:=by rw[<- Iu,m,l_]
 unfold OH Kq;rw[q_ a7,q_ a7];refine b_ (fm (b_ (fm (b_ (IB c Y ?_)))));dsimp only;refine b_ (IB r o ?_);rw[q_ a7];refine b_ (J6 c Y (b_ ?_));rw[RQ];simp only[RO,Oy,Ra,Nat.div_one];refine Mh _ (λrest q s'=>s'=s/\q=(d_,())/\∃i,rest=NF i (es.size-i)/\i<=es.size) _ ?_ ?_ _ _ ⟨rfl,rfl,0,ad,IH _⟩
 .rintro x rest q s' ⟨rfl,rfl,i,R,hi⟩;have B:i<es.size:=by
   rcases SQ i es.size with h|h
   .exact h
   .simp_all
  obtain⟨rfl,I⟩:x=i/\rest=NF (i+1) (es.size-(i+1)):=by
   have e:es.size-i=(es.size-(i+1))+1:=ac
   grind[OJ]
  have d:x<vs.length:=ac
  have hw:x<us.length:=ac
  have F:es[x]'B=Er vs[x]:=by have:=Kd (λl:List Jx=>l[x]?) u;simp only[KA,LC B,E_,Ij d,Mb,LJ]at this;exact this
  have D:fs[x]'(by omega)=Er us[x]:=by have:=Kd (λl:List Jx=>l[x]?) m;simp only[KA,LC (show x<fs.size by lia),E_,Ij hw,Mb,LJ]at this;exact this
  obtain⟨ek,ev⟩:=g x vs[x] us[x] (Ij d) (Ij hw);have only:∀(j:Nat) (p:h_×g_),us[j]?=a_ (vs[x].1,p)->j=x:=λj p f=>by
   obtain⟨U,S⟩:=oe.mp f;have n:=KL.mp t;rcases OA j x with z|z|z
   .exact IA (by rw[JA,JA,S,<- ek]) (n j x (by simpa using U) (by simpa using hw) z)
   .exact z
   .exact IA (by rw[JA,JA,S,<- ek]) (n x j (by simpa using hw) (by simpa using U) z)
  refine b_ (IB c Y ?_);rw[LC B];show w_ _ _ (Ln [(es[x]'B).key,(es[x]'B).val] _ >>= _) _ _ _;rw[F];refine b_ (Ju (b_ (RR (knd:=md prog w) (k:=vs[x].1) C (K _ (Iz d)) r o m J t (λz=>IA (Ij hw) (by rw[show us[x]=(vs[x].1,us[x].2) by rw[ek]];exact z x us[x].2)) λj p f=>?_)))
  .have:=only j p f;subst this;refine b_ (IB r o ?_);rw[LC (show j<fs.size by lia)];refine Ju ?_;rw[D];refine ev prog w _ _ ?_;show w_ _ _ (if (!true)=e_ then _ else _) _ _ _;rw[q_ am];refine b_ (J6 c Y ?_);rw[q_ ad];exact fm ⟨rfl,rfl,j+1,I,B⟩
 .rintro q s' ⟨rfl,rfl,_⟩;exact fm h
end
theorem Fp{B1:Vp}{σ:St}{F H:Hp}{s:j_}{A:Kb}(I:B3 X B1 σ H s)(c:aM F H)(b:A.units+40<IU):∀{ks U:List (a9×A')} {xs ys:bA} {vs us:List (a9×h_×g_)},qj ks U=e_->bp X.K F ks xs->bp X.K F U ys->Jg dK xs vs->Jg dK ys us ->
  vs.length=us.length/\∀(j:Nat) (x y:a9×h_×g_),vs[j]?=a_ x->us[j]?=a_ y->x.1=y.1/\LN A s x.2.2 y.2.2 e_
 |[],[],_,_,_,_,_,h1,Y,S,B=>by rw[show _=[]from h1]at S;rw[show _=[]from Y]at B;cases S;cases B;simp|[],_::_,_,_,_,_,h,_,_,_,_=>by simp_all[qj]|_::_,[],_,_,_,_,h,_,_,_,_=>by simp_all[qj]|(k,d)::ks,(j,e)::U,_,_,_,_,h,⟨w,r,S,e1,u,q1,i⟩,⟨v,q,B,e2,t,q2,g⟩,p1,p2=>by
  subst e1 e2;cases p1 with
  |cons f p1=>
  cases p2 with
  |cons g2 p2=>
  simp[qj,D_,KJ]at h;obtain⟨⟨⟨⟨h1,Y⟩,p⟩,o⟩,n⟩:=h;obtain⟨l,rest⟩:=Fp I c b n i g p1 p2;refine⟨by simp[l],λm x y ex a=>?_⟩
  cases m with
  |zero=>simp at ex a;subst ex a;have:=Ha I c d e Y p q1 q2 f.2.2 g2.2.2 b;rw[o]at this;exact⟨f.1.symm.trans (h1.trans g2.1),this⟩|succ m=>exact rest m x y (by simpa using ex) (by simpa using a)
noncomputable abbrev SK:=a9×Int
abbrev nL:=SK×h_×h_
def skHash(k:SK):Int:=Mi (Ik [qg k.1,So k.2])
def rowS(x:nL):Jx:=⟨skHash x.1,.ref x.2.1,.ref x.2.2⟩
inductive Bf(h:IF)(a:h_)(xs:List nL)(ep:Nat):Prop
 |mk (m:(a==IX)=cm) (z:xs.length<=n_) (n:(xs.map (·.1)).Nodup) (o:NY) (es:Array Jx) (g:h.get? a=a_ o) (x:o.ExactDict) (d:o.data=.dict es ep) (e:es.toList=xs.map rowS)
noncomputable def oC(a:h_)(xs:List nL)(ep:Nat):HO:=.ext λh=>Bf h a xs ep
inductive Ig(K:Pn)(F:Hp)(b:h_)(k:SK):Prop
 |mk (r:h_) (p:SqT K F b [V.ref r,V.int k.2]) (q:SqT K F r (k.1.map V.int))
noncomputable abbrev Bv(P:IQ)(w:JX):Nw P w SK:=heapI (pairI (tupI (zM P w)) (zM P w)) (by show Sb (0+1) 0+1<=8;decide)
def Ig.map(s:∀b xs,SqT K F b xs->SqT K F' b xs){k:SK}(h:Ig K F b k):Ig K F' b k:=
 let ⟨r,I,B⟩:=h;⟨r,s _ _ I,s _ _ B⟩
noncomputable def putS(ks:List (SK×a9))(k:SK)(v:a9):List (SK×a9):=if k∈ks.map (·.1)then ks.map (λx=>if x.1=k then(x.1,v)else x)else ks++[(k,v)]
noncomputable def Dw(xs:List nL)(k:SK)(b c:h_):List nL:=if k∈xs.map (·.1)then xs.map (λx=>if x.1=k then(x.1,x.2.1,c)else x)else xs++[(k,b,c)]
def FF(xs:List nL)(k:SK)(b c:h_):(Dw xs k b c).length<=xs.length+1:=by unfold Dw;split<;>simp
noncomputable def enS(x:nL):SK×h_×g_:=(x.1,x.2.1,.ref x.2.2)
def Cu(xs:List nL):(xs.map enS).map (·.1)=xs.map (·.1):=by rw[Cb];rfl
def atS(xs:List nL)(k:SK):(Qf (xs.map enS) k).isSome=m_ (k∈xs.map (·.1)):=by
 unfold Qf;rw[MG,J2,Rg];simp only[IE,KJ];constructor
 .rintro⟨x,⟨y,B,rfl⟩,e⟩;exact⟨y,B,e⟩
 .rintro⟨y,B,e⟩;exact⟨enS y,⟨y,B,rfl⟩,e⟩
def storedS(xs:List nL)(k:SK)(b c:h_):M_ (xs.map enS) k b (.ref c)=(Dw xs k b c).map enS:=by
 unfold M_ Dw;rw[atS];by_cases h:k∈xs.map (·.1)
 .rw[Jf h,p_ h,Cb,Cb];refine I_ λx _=>?_;show Sn k _ _=enS (if x.1=k then(x.1,x.2.1,c)else x);unfold Sn;split<;>rename_i e
  .rw[p_ (show x.1=k from e)];rfl
  .rw[q_ (show ¬x.1=k from e)]
 .rw[IS h,q_ h];simp[enS]
section
variable{s:j_}{xs:List nL}{k:SK}
def Fl(I:B3 X B1 σ H s)(h:Ig X.K H b k):(Bv X.prog X.w).is s.heap k b:=by obtain⟨r,a,Y⟩:=h;obtain⟨us,c,U⟩:=Bo I a;obtain⟨S,B,rfl,e,d⟩:=c.two;cases(show S=s_ r from e);exact⟨b,.ref r,B,rfl,U,Fu I Y,d⟩
def SksAt(K:Pn)(H:Hp)(xs:List nL):Prop:=∀x∈xs,Ig K H x.2.1 x.1
def EZ{xs:List nL}(z:Bf h a xs ep):gQ H h a (oC a xs ep):=by
 have I:=z;obtain⟨h1,k,j,o,es,U,i⟩:=z;refine⟨I,⟨o,U⟩,λ_ _ S e=>?_⟩
 obtain⟨g,g2,f,o',B,d,c,b,Y⟩:=S;exact⟨g,g2,f,o',B,e _ d,c,b,Y⟩
def EY(I:B3 X B1 σ H s)(e:H a=a_ (oC a xs ep)):Bf s.heap a xs ep:=(show Bf s.heap a xs ep/\_ from I.hok a _ e).1
def stp_at(I:B3 X B1 σ H s)(e:H a=a_ (oC a xs ep))(z:SksAt X.K H xs):(a==IX)=cm/\xs.length<=n_/\s.heap.DictOfH (Bv X.prog X.w) a (xs.map enS):=by
 obtain⟨b,Y,U,o,es,h1,f,d,c⟩:=EY I e;refine⟨b,Y,o,es,ep,h1,f,d,?_,λq S=>?_,by rw[Cu];exact U⟩
 .rw[c,Cb];rfl
 .obtain⟨x,B,rfl⟩:=IE.mp S;exact Fl I (z x B)
def stpOk_of(c:h.DictOfH (Bv P w) a (xs.map enS))(S:(a==IX)=cm)(I:xs.length<=n_):∃ep,Bf h a xs ep:=by
 obtain⟨o,es,ep,h1,b,Y,U,_,B⟩:=c;rw[Cu]at B;refine⟨ep,S,I,B,o,es,h1,b,Y,?_⟩
 rw[U,Cb];rfl
def B3.stp{ys:List nL}{t':Nat}(I:B3 X B1 σ H s)(e:H a=a_ (oC a xs ep))(B:JY a s.heap h')(z:Bf h' a ys ep'):B3 X B1 σ (upd H a (oC a ys ep')) {s with heap:=h',toks:=t'}:=
 I.write (by exact e▸LO) (.inl rfl) (λc q S w=>(B.2 c S).trans w) (let ⟨_,_,_,o,_,w,_,_,_⟩:=z;⟨o,w⟩) (EZ z)
end
theorem sroom(B:A.units+64<IU):(Bv P w).room A.in1:=by show A.units+1+2<IU;lia
def tNewS:TE:=λ_ H Q=>∀p,H p=d_->Q (.ref p) (upd H p (oC p [] 0))
def sPutS(K:Pn)(td ty tv:TE):TS:=λD σ H=>tv σ H λv H1=>td σ H1 λx H2=>ty σ H2 λy B=>∃a b c k xs ep,v=.ref c/\x=.ref a/\y=.ref b/\B a=a_ (oC a xs ep)/\SksAt K B xs/\Ig K B b k/\xs.length<n_/\∀ep',D.nx σ (upd B a (oC a (Dw xs k b c) ep'))
section
variable{o i:Jj}{ty:TE}
def Fb(h:IF)(B:IX<h.objs.size):Bf (h.push {cls:=.type "dict",data:=.dict #[]}) h.objs.size [] 0:=
 ⟨Lu.mpr (IV (G_ B)),IH _,Mx,_,#[],i_ _ rfl,⟨rfl,rfl,rfl⟩,rfl,rfl⟩
def pe_newS:PE X (.Dict [] [] pos) tNewS:=λB1 s σ H Q I h=>Pw ⟨.ref s.heap.objs.size,_,I.laid (λ_ _ q=>c_ _ q) (f_ _) (EZ (Fb s.heap I.big)),rfl,h _ (I.hok.fresh (f_ _))⟩
theorem ps_putS(m:X.A.units+64<IU)(p:PE X o td)(hi:PE X i ty)(l:PE X value tv)(n:J4 value (a_ (.Subscript o i pos')) pos.line X.env=JM cm):PS X (.Assign [.Subscript o i pos'] value pos) (sPutS X.K td ty tv):=by intro B1 s σ H D I h;refine NJ (B' (l B1 s σ H _ I h) λr s1 B=>?_) n;obtain⟨v,H1,F,f,q1⟩:=B;refine B' (p B1 s1 σ H1 _ F q1) λu s2 B=>?_;obtain⟨x,H2,E,e,q2⟩:=B;refine B' (hi B1 s2 σ H2 _ E q2) λj G B=>?_;obtain⟨y,K,Y,d,a,b,c,k,xs,ep,ev,ex,A,ea,q,t,J,g⟩:=B;subst ev ex A;cases(show u=s_ a from e);cases(show j=s_ b from d);cases(show r=s_ c from f);obtain⟨w,hz,C⟩:=stp_at Y ea q;refine OO (hsz:=by simp_all) (sroom m) (Fl Y t) C λh' S U=>?_;rw[storedS]at S;obtain⟨ep',z⟩:=stpOk_of S w (by have:=FF xs k b c;lia);exact⟨σ,_,Y.stp ea U z,g ep'⟩
end
def tViewS(td:TE):TE:=λσ H Q=>td σ H λx H1=>∃a xs ep,x=.ref a/\H1 a=a_ (oC a xs ep)/\∀p,H1 p=d_->Q (.ref p) (upd H1 p (VwO "dict_items" p a))
theorem srows_at{xs:List nL}{e:Jx}(h:(xs.map rowS)[i]?=a_ e):∃x,xs[i]?=a_ x/\e.key=.ref x.2.1/\e.val=.ref x.2.2:=by
 rw[E_]at h;cases B:xs[i]? with
 |none=>simp_all|some x=>rw[B]at h;cases h;exact⟨x,rfl,rfl,rfl⟩
section
variable{s:j_}{xs:List nL}{o:Jj}
def uW(I:B3 X B1 σ H s)(e:H a=a_ (oC a xs ep)):∃es:Array Jx,(a==IX)=cm/\xs.length<=n_/\pZ s.heap a es ep/\es.toList=xs.map rowS/\es.size=xs.length:=by obtain⟨U,S,c,u,es,h1,b,Y,B⟩:=EY I e;exact⟨es,U,S,⟨u,h1,b,Y⟩,B,by rw[<- Iu,B,l_]⟩
def stp_ty(I:B3 X B1 σ H s)(e:H a=a_ (oC a xs ep)):s.TypeIs (.ref a) "dict"/\(∀b,s_ a=.ref b->∃B,s.heap.get? b=a_ B/\B.dict=d_):=by obtain⟨_,_,_,o,_,h1,S,_⟩:=EY I e;exact⟨⟨o,h1,S.1⟩,λc q=>by cases q;exact⟨o,h1,S.2.1⟩⟩
def pe_itmsS(c:PE X o td)(f: ~~~(Jv o "items" X.env (Il o X.env)=Il o X.env))(d: ~~~((apos.endLine==cpos.line)=e_)):PE X (.Call (.Attribute o "items" apos) [] [] cpos) (tViewS td):=by
 intro B1 s σ H Q I h;refine Nr f d (B' (c B1 s σ H _ I h) λv s1 b=>?_);obtain⟨x,H1,B,Y,a,xs,ep,ex,ea,q1⟩:=b;subst ex;cases(show v=s_ a from Y);obtain⟨S,U⟩:=stp_ty B ea;obtain⟨es,e,_,z,_⟩:=uW B ea;exact⟨"dict","dict.items",KW,LL,Pj,S,U,Kr rfl (NM (NO LL S Pe (OX _) (uc a es ep e)
  ⟨z,.ref s1.z,_,B.laid (λ_ _ q=>c_ _ q) (f_ _) (EI ⟨_,i_ _ rfl,rfl,rfl⟩),rfl,q1 _ (B.hok.fresh (f_ _))⟩))⟩
end
noncomputable def ItS(a:h_)(xs:List nL)(ep:Nat):It:=
 ⟨λi H=>H a=a_ (oC a xs ep)/\i<xs.length,λi H v H'=>∃T x,H T=d_/\v=.ref T/\xs[i]?=a_ x/\H'=upd H T (.tup [.ref x.2.1,.ref x.2.2]),λi H=>H a=a_ (oC a xs ep)/\xs.length<=i⟩
theorem D4(a q:h_)(xs:List nL)(ep:Nat):Turn P w K (.Tuple elts k pos) (ItS a xs ep) [q] q (λi h=>∃ok ov,NR h q a i xs.length ep ok ov) where
 mem:=by simp
 obj:=λi h st b Y=>by grind
 keep:=λi h h' st m=>let ⟨ok,ov,e⟩:=st;⟨ok,ov,m q ad _ e⟩
 item:=by
  intro X y hw A l i B1 s σ H E I U st d;obtain⟨ok,ov,B⟩:=st;obtain⟨g,hi⟩:=d;obtain⟨es,u,hz,z,j,hsz⟩:=uW I g;rw[<- hsz]at B;have f0:=(U q ad).1;have c:i<es.size:=ac
  obtain⟨x,n,t,p⟩:=srows_at (i:=i) (e:=es[i]) (by rw[<- j];simp[c]);refine ua B z (e:=es[i]) ad λh' out v r keep=>⟨_,rfl,P5 out λC f S=>?_⟩
  have D:B3 X B1 σ (upd H s.z (.tup [.ref x.2.1,.ref x.2.2])) {s with heap:=C,toks:=s.toks}:=I.qe U (λb o Y e=>(S.2 b a7).trans (keep b o a7 e)) (f_ _) ⟨ad,[es[i].key,es[i].val],.cons t (.cons p .nil),⟨_,(S.2 _ (J3 (r_ B))).trans v,rfl,0,rfl⟩⟩;refine⟨.ref s.z,_,D,rfl,⟨_,x,I.hok.fresh (f_ _),rfl,n,rfl⟩,⟨_,_,by exact hsz▸f⟩,λb Y=>?_⟩
  grind[av]
 done:=by intro X y hw A l i B1 s σ H E I U st d;obtain⟨ok,ov,B⟩:=st;obtain⟨g,hi⟩:=d;obtain⟨es,u,hz,z,j,hsz⟩:=uW I g;rw[<- hsz]at B;obtain⟨f0,f1,f2,f3,f4,f5⟩:=U q ad;exact yI (I.ok.hd l) B z ac λh' eb=>⟨rfl,I.turned (λb o Y e=>eb b o Y e) f0 f1 f3 f4 f5⟩
 self:=λ_ _ _ _ _ ⟨ok,ov,e⟩ h=>QB e h
noncomputable def dH{α:Type}(f:α->A'->M α):be->α->M α
 |[],a=>.ok a|d::ds,a=>(f a d).bind λa'=>dH f ds a'
structure IterS(K:Pn)(P:Hp->Hp->Prop)(J:It)(ds:be):Prop where
 go:∀(i:Nat) (F H:Hp),P F H->i<ds.length->J.go i H
 yl:∀(i:Nat) (F H:Hp) (x:V) (H':Hp) (d:A'),P F H->ds[i]?=a_ d->J.yld i H x H'->∃F',B2 F H F' H'/\bh K F' d x
 st:∀(F H:Hp),P F H->J.stop ds.length H
def mC.toS{J:It}(it:mC K F1 J ds):IterS K (λF H=>aM F1 F/\aM F H) J ds:=
 ⟨λi F H z h=>it.go i F H z.1 z.2 h,λi F H x H' d z h y=>it.yl i F H x H' d z.1 z.2 h y,λF H z=>it.st F H z.1 z.2⟩
def iter_cel{ys:bm}:IterS K (λF H=>H c=a_ (.lst ys)/\ay K F ds ys/\aM F H) (Itl K c) ds where
 go:=λi F H z hi=>⟨ys,ys[i]'(by exact z.2.1.length▸hi),SqL.of z.1,ad⟩
 yl:=λi F H x H' d z I B=>by obtain⟨rfl,B⟩:=B;obtain⟨v,e1,q⟩:=z.2.1.get I;have e2:=B ys (SqL.of z.1);rw[e1]at e2;cases e2;exact⟨F,B2.refl z.2.2,q⟩
 st:=λF H z=>⟨ys,SqL.of z.1,by rw[z.2.1.length];simp⟩
theorem n6{g:TG}{tb:TS}{D:Ends}{f:α->A'->M α}{S:α->Hp->St->Hp->Prop}{J:It}{P:Hp->Hp->Prop}{b:α}{c:St}(it:IterS K P J ds)(o:∀{a F σ H},S a F σ H->P F H)(w:S b F0 c H0)(u:∀e,dH f ds b=.error e->wp e)(t:∀a F σ H,dH f ds b=.ok a->S a F σ H->D.nx σ H)(body:∀a d F σ H,S a F σ H->(∀e,f a d=.error e->wp e)->∀x F' H',B2 F H F' H'->bh K F' d x->g x σ H' λI H2=>tb {D with nx:=λB j=>∃a' Y,f a d=.ok a'/\S a' Y B j,ct:=λB j=>∃a' Y,f a d=.ok a'/\S a' Y B j,bk:=D.nx} I H2):
  ∃W:Nat->Nat->St->Hp->Prop,(∃m,W 0 m c H0)/\∀i m σ H,W i m σ H ->
 (J.stop i H/\D.nx σ H)\/(J.go i H/\∃N:St->Hp->Prop,(∀U H',N U H'->∃k,k<m/\W (i+1) k U H')/\∀x H',J.yld i H x H'->g x σ H' λI H2=>tb {D with nx:=N,ct:=N,bk:=D.nx} I H2):=by
 refine⟨λi m σ H=>m+i=ds.length/\∃a F,S a F σ H/\dH f (ds.drop i) a=dH f ds b,⟨ds.length,rfl,b,F0,w,by rfl⟩,λi m σ H r=>?_⟩
 obtain⟨C,a,F,s,e⟩:=r;have p:=o s;by_cases hi:i<ds.length
 .rw[Js hi]at e;have l:(f a ds[i]).bind (λa'=>dH f _ a')=dH f ds b:=e;refine .inr ⟨it.go i F H p hi,λB j=>∃a' Y,f a ds[i]=.ok a'/\S a' Y B j,λU H' ⟨a',Y,h1,v⟩=>⟨m-1,ac,ac,a',Y,v,by rw[<- l,h1];rfl⟩,λx H' y=>?_⟩;obtain⟨F',n,q⟩:=it.yl i F H x H' ds[i] p ad y;exact body a ds[i] F σ H s (λz h=>u z (by rw[<- l,h];rfl)) x F' H' n q
 .rw[List.drop_eq_nil_of_le ac]at e;have A:i=ds.length:=ac
  subst A;exact .inl ⟨it.st F H p,t a F σ H e.symm s⟩
inductive Cel(K:Pn)(F H:Hp)(c:h_)(L:List A'):Prop
 |mk (ys:List V) (h:H c=a_ (.lst ys)) (d:ay K F L ys) (f:F c=d_)
theorem Cel.step(z:Cel K F H c L)(s:B2 F H F' H'):Cel K F' H' c L:=by
 obtain⟨ys,h,d,f⟩:=z;refine⟨ys,s.hh _ _ h,d.mono s.ff,?_⟩
 cases e:F' c with
 |none=>rfl|some o=>
  rcases s.nw c o e with z|z
  .simp_all
  simp_all
def celC(iL:Nat)(ft:cd)(iB:Nat)(ρ:ab)(L:be):M be:=(ft (ρ.set iL (a_ (.lst L)))).bind λb=>if b=e_ then(match ρ[iB]? with
 |some (a_ d)=>if L.length<n_ then .ok (L++[d])else stk
 |_=>stk)else .ok L
def kq(iS iB iL:Nat)(fb:b6)(ft:cd)(a:ab×be)(d:A'):M (ab×be):=(fb (a.1.set iS (a_ d))).bind λb=>(celC iL ft iB ((a.1.set iS (a_ d)).set iB (a_ b)) a.2).bind λL=>.ok ((a.1.set iS (a_ d)).set iB (a_ b),L)
theorem Cel.lay(z:Cel K F H c L)(Y:J c=d_)(s:B2 F1 J F H)(r:fQ K F σ ρ)(h:σ[i]?=a_ (a_ (.ref c))):∃F',B2 F1 J F' H/\fQ K F' σ (ρ.set i (a_ (.lst L))):=by
 obtain⟨ys,e,d,f⟩:=z;have B:aM F (upd F c (.lst ys)):=aM.upd f;have U:=(r.mono B).set (i:=i) (d:=.lst L) ⟨c,ys,rfl,SqL.of aq,d.mono B⟩;refine⟨upd F c _,⟨s.ff.trans B,s.hh,λb o q=>?_,λb o q=>?_⟩,?_⟩
 .by_cases I:b=c
  .simp_all[aq]
  .rw[av I]at q;exact s.fh b o q
 .by_cases I:b=c
  .simp_all
  .rw[av I]at q;exact s.nw b o q
 .have:σ.set i (a_ (.ref c))=σ:=by
   refine Ou λj=>?_;by_cases S:i=j
   .subst S;rw[t_ (oe.mp h).1,h]
   .simp_all
  simp_all
theorem Cel.put(z:Cel K F H c L)(B:J c=d_)(s:B2 F1 J F H)(q:bh K F d v):∃ys,H c=a_ (.lst ys)/\ys.length=L.length/\B2 F1 J F (upd H c (.lst (ys++[v])))/\Cel K F (upd H c (.lst (ys++[v]))) c (L++[d]):=by
 obtain⟨ys,e,w,f⟩:=z;refine⟨ys,e,w.length,⟨s.ff,λb o h=>?_,λb o h=>?_,s.nw⟩,⟨_,aq,w.append (ay.cons q ay.nil),f⟩⟩
 .rw[av (λz=>by simp_all)];exact s.hh b o h
 .rw[av (λz=>by simp_all)];exact s.fh b o h
theorem rs_strip{W:bY}{D:Ends}{ks:bi}(p:∀e,wp e->∀F H,B2 F1 J F H->W.p e F H)(hS:iS∉ks)(hB:iB∉ks)(hL:iL∈ks)(lB:iB<σ.length)(T:J c=d_)(s:B2 F1 J F H)(r:fQ K F σ ρ)(cl:Cel K F H c L)(hv:σ[iL]?=a_ (a_ (.ref c)))(A:∀e,((fi ρ).bind λds=>dH (kq iS iB iL fb ft) ds (ρ,L))=.error e->wp e)(R:∀a,((fi ρ).bind λds=>dH (kq iS iB iL fb ft) ds (ρ,L))=.ok a->∀F' B H',B2 F1 J F' H'->fQ K F' B a.1->Cel K F' H' c a.2->(∀j∈ks,B[j]?=σ[j]?)->B.length=σ.length->D.nx B H'):
  D8 (iD K W fi) (gm iS) (tR (zW (tD K W cm fb) (gm iB)) (tIfS (tDT K W ft) (tApp K iL (oY iB)) D7)) D σ H:=by
 refine⟨F,ρ,r,s.fh,?_⟩
 cases Q:fi ρ with
 |error e=>exact p e (A e (by rw[Q];rfl)) F H s|ok ds=>
 rw[Q]at A R;intro I F2 H2 s2 it;refine n6 (S:=λa F' B H'=>aM F2 F'/\B2 F1 J F' H'/\fQ K F' B a.1/\Cel K F' H' c a.2/\(∀j∈ks,B[j]?=σ[j]?)/\B.length=σ.length) it.toS (λz=>⟨z.1,z.2.1.fh⟩) ⟨aM.refl _,s.trans s2,r.mono s2.ff,cl.step s2,λ_ _=>rfl,rfl⟩ A (λa F' B H' e z=>R a e F' B H' z.2.1 z.2.2.1 z.2.2.2.1 z.2.2.2.2.1 z.2.2.2.2.2) ?_;rintro⟨Y,f⟩ d F3 l H3 ⟨f3,s3,r3,c3,k3,P⟩ y x F4 H4 k q4;have r4:=(r3.mono k.ff).set q4 iS;have o:=s3.trans k;refine aD r4 k.fh (λe h=>p e (y e (by unfold kq;rw[h];rfl)) _ _ o) λb hb v F5 H5 i N=>?_;have r5:=(r4.mono i.ff).set N iB;have n:=o.trans i;have c5:=(c3.step k).step i;have q:∀j∈ks,((l.set iS (a_ x)).set iB (a_ v))[j]?=σ[j]?:=λj w=>by rw[o_ (λz=>hB (by exact z▸w)),o_ (λz=>hS (by exact z▸w))];exact k3 j w
 have O:((l.set iS (a_ x)).set iB (a_ v)).length=σ.length:=by rw[Ii,Ii,P]
 have C:=(q iL hL).trans hv;obtain⟨F6,E,r6⟩:=c5.lay T n r5 C;have U:kq iS iB iL fb ft (Y,f) d=(celC iL ft iB ((Y.set iS (a_ d)).set iB (a_ b)) f).bind λL=>.ok ((Y.set iS (a_ d)).set iB (a_ b),L):=by unfold kq;rw[hb];rfl
 refine gT r6 E.fh (λe h=>p e (y e (by rw[U];unfold celC;rw[h];rfl)) _ _ E) λt ht F7 H7 s7=>?_;have m:=B2.same i.fh s7.hh;have g:=n.trans m;have Z:=c5.step m;have G:=r5;have X:celC iL ft iB ((Y.set iS (a_ d)).set iB (a_ b)) f=if t=e_ then(match ((Y.set iS (a_ d)).set iB (a_ b))[iB]? with|some (a_ d)=>if f.length<n_ then .ok (f++[d])else stk|_=>stk)else .ok f:=by unfold celC;rw[ht];rfl
 cases t with
 |false=>rw[X]at U;exact⟨_,F5,U,f3.trans (k.ff.trans i.ff),g,G,Z,q,O⟩|true=>
  rw[X,(t_ (by rw[Ii,r3.len,P];exact lB))]at U;obtain⟨ys,h1,h2,h3,h4⟩:=Z.put T g N;have U:kq iS iB iL fb ft (Y,f) d=((if f.length<n_ then .ok (f++[b])else stk)).bind λL=>.ok ((Y.set iS _).set iB _,L):=U;by_cases u:f.length<n_
  .rw[p_ u]at U;refine⟨.ref c,C,⟨rfl,_,_,rfl,SqL.of h1⟩,v,a7,c,ys,v,rfl,rfl,h1,by exact h2▸u,?_⟩
   exact⟨_,F5,U,f3.trans (k.ff.trans i.ff),h3,G,h4,q,O⟩
  .rw[q_ u]at U;exact(W.ns (p _ (y _ U) _ _ g)).elim
def labC(iLab iS iB iL:Nat)(fi:ce)(fb:b6)(ft:cd)(a:ab×be)(d:A'):M (ab×be):=(fi (a.1.set iLab (a_ d))).bind λds=>dH (kq iS iB iL fb ft) ds (a.1.set iLab (a_ d),a.2)
theorem rs_labs{W:bY}{La:be}{D:Ends}{ks:bi}(n:∀e,wp e->∀F H,B2 F1 J F H->W.p e F H)(Y:iLab∉ks)(N:iS∉ks)(R:iB∉ks)(o:iL∈ks)(lB:iB<σ.length)(P:J c=d_)(s:B2 F1 J F H)(r:fQ K F σ ρ)(cl:Cel K F H c L)(A:σ[iL]?=a_ (a_ (.ref c)))(C:σ[iF]?=a_ (a_ (.ref a)))(l:∀e,fa ρ=.error e->wp e)(T:∀d,fa ρ=.ok d->∃g xs ep f ys,fV d=.ok g/\J a=a_ (iW a xs ep)/\kh K J xs/\jx xs g=a_ (.ref f)/\J f=a_ (.lst ys)/\ay K F1 La ys)(Q:∀e,dH (labC iLab iS iB iL fi fb ft) La (ρ,L)=.error e->wp e)(O:∀a,dH (labC iLab iS iB iL fi fb ft) La (ρ,L)=.ok a->∀F' B H',B2 F1 J F' H'->fQ K F' B a.1->Cel K F' H' c a.2->(∀j∈ks,B[j]?=σ[j]?)->B.length=σ.length->D.nx B H'):
  D8 (iSeq K (tOp (rIxK K) (oY iF) (tD K W cm fa))) (gm iLab) (D8 (iD K W fi) (gm iS) (tR (zW (tD K W cm fb) (gm iB)) (tIfS (tDT K W ft) (tApp K iL (oY iB)) D7))) D σ H:=by
 refine⟨.ref a,C,aD r s.fh (λe h=>n e (l e h) _ _ s) λd G y F2 H2 s2 q2=>?_⟩
 obtain⟨g,xs,ep,f,ys,h1,h2,h3,Z,p,X⟩:=T d G;obtain⟨b,rfl,t⟩:=fF h1 q2;have I:=s.trans s2;refine⟨a,b,g,xs,ep,.ref f,rfl,rfl,I.hh _ _ h2,h3.mono I.hh,s2.fh.tup t,Z,f,rfl,.inl ⟨⟨ys,SqL.of (I.hh _ _ p)⟩,(n6 (S:=λz F' B H'=>B2 F1 J F' H'/\fQ K F' B z.1/\Cel K F' H' c z.2/\(∀j∈ks,B[j]?=σ[j]?)/\B.length=σ.length) (iter_cel) (λz=>⟨z.1.hh _ _ p,X.mono z.1.ff,z.1.fh⟩) ⟨I,r.mono s2.ff,cl.step s2,λ_ _=>rfl,rfl⟩ Q (λz F' B H' e y=>O z e F' B H' y.1 y.2.1 y.2.2.1 y.2.2.2.1 y.2.2.2.2) ?_)⟩⟩
 rintro⟨q,L1⟩ d1 F3 i H3 ⟨u,r3,c3,w,l3⟩ E x F4 H4 k v;have m:∀j∈ks,(i.set iLab (a_ x))[j]?=σ[j]?:=λj U=>by rw[o_ (λz=>Y (by exact z▸U))];exact w j U
 exact rs_strip n N R o a7 P (u.trans k) ((r3.mono k.ff).set v iLab) (c3.step k) ((m iL o).trans A) (λe h=>E e h) λz hz F' B H' s' r' c' k' l'=>⟨z,F',hz,s',r',c',λj U=>(k' j U).trans (m j U),a7⟩
inductive FdR(K:Pn)(F G H:Hp)(a:h_)(e:List Int×A')(x:cU):Prop
 |mk (k:x.1=e.1) (t:SqT K F x.2.1 (x.1.map V.int)) (c:h_) (L:List A') (e1:e.2=.lst L) (e2:x.2.2=.ref c) (z:Cel K F H c L) (g:G c=d_) (n:c≠a)
inductive Fd(K:Pn)(F G H:Hp)(a:h_)(E:List (List Int×A')):Prop
 |mk (xs:List cU) (ep:Nat) (top:H a=a_ (iW a xs ep)) (fa:F a=d_) (ga:G a=d_) (rows:Jg (FdR K F G H a) E xs) (nd:(xs.map (·.2.2)).Nodup) (nk:(xs.map (·.1)).Nodup)
def Cel.at(z:Cel K F H c L)(e:H' c=H c):Cel K F H' c L:=by obtain⟨ys,h,d,f⟩:=z;exact⟨ys,e.trans h,d,f⟩
theorem vY:∀{E:List (a9×A')} {xs:bA},Jg (FdR K F G H a) E xs->kh K F xs
 |_,_,.nil,x,B=>by grind|_,_,.cons h t,x,B=>by
  cases B with
  |head=>exact h.2|tail _ B=>exact vY t x B
theorem GZ{k:a9}:∀{E:List (a9×A')} {xs:bA},Jg (FdR K F G H a) E xs ->
  (gZ E k=d_/\jx xs k=d_)\/∃L c,gZ E k=a_ (.lst L)/\jx xs k=a_ (.ref c)/\Cel K F H c L/\G c=d_/\c≠a
 |_,_,.nil=>.inl ⟨rfl,rfl⟩|e::E,x::xs,.cons h t=>by
  obtain⟨h1,I,c,L,e1,e2,z,g,n⟩:=h;by_cases B:x.1=k
  .refine .inr ⟨L,c,?_,?_,z,g,n⟩
   .unfold gZ;rw[JK,show m_ _=e_ from Jf (h1▸B)];exact Kd a_ e1
   .unfold jx;rw[JK,show m_ _=e_ from Jf B];exact Kd a_ e2
  .have q1:gZ (e::E) k=gZ E k:=by unfold gZ;rw[JK,show m_ _=cm from IS (h1▸B)]
   have q2:jx (x::xs) k=jx xs k:=by unfold jx;rw[JK,show m_ _=cm from IS B]
   rw[q1,q2];exact GZ t
theorem vS{k:a9}:∀{xs:bA},jx xs k=a_ v->∃x∈xs,x.1=k/\x.2.2=v:=by
 intro xs h;unfold jx at h;cases e:xs.find? (λp=>m_ (p.1=k))with
 |none=>simp_all|some x=>rw[e]at h;cases h;exact⟨x,List.mem_of_find?_eq_some e,by simpa using List.find?_some e,rfl⟩
def GS{k:a9}{xs:bA}(h:jx xs k=d_):∀x∈xs,x.1≠k:=by intro x B e;unfold jx at h;rw[Option.map_eq_none_iff,N8]at h;exact h x B (by simpa using e)
theorem pO{α β:Type}{f:α->β}:∀{xs:List α},(xs.map f).Nodup->∀{x y:α},x∈xs->y∈xs->f x=f y->x=y
 |[],_,_,_,h,_,_=>by grind|z::xs,n,x,y,B,I,e=>by
  rw[v_,JZ]at n;cases B with
  |head=>grind|tail _ B=>
   cases I with
   |head=>exact IA (IE.mpr ⟨x,B,e⟩) n.1|tail _ I=>exact pO n.2 B I e
theorem fd_map{k:a9}{c:h_}{L:be}(Y:aM F F')(I:Cel K F' H' c L)(i:G c=d_)(b:c≠a)(B:∀U m,U≠c->U≠a->Cel K F H U m->Cel K F' H' U m):∀{E:List (a9×A')} {xs:bA},Jg (FdR K F G H a) E xs ->
  (∀x∈xs,x.1≠k->x.2.2≠.ref c)->Jg (FdR K F' G H' a) (E.map λp=>if p.1=k then(p.1,.lst L)else p) (xs.map λx=>if x.1=k then(x.1,x.2.1,.ref c)else x)
 |_,_,.nil,_=>.nil|e::E,x::xs,.cons h t,d=>by
  refine .cons ?_ (fd_map Y I i b B t λy o=>d y (Je _ o));obtain⟨h1,f,j,l,e1,e2,z,g,n⟩:=h;show FdR K F' G H' a (if e.1=k then(e.1,.lst L)else e) (if x.1=k then(x.1,x.2.1,.ref c)else x);by_cases S:x.1=k
  .rw[p_ S,p_ (by exact h1▸S)];exact⟨h1,Y.tup f,c,L,rfl,rfl,I,i,b⟩
  .rw[q_ S,q_ (by exact h1▸S)];refine⟨h1,Y.tup f,j,l,e1,e2,B j l (λq=>?_) n z,g,n⟩
   subst q;exact d x (JJ ..) S e2
theorem Cr(S:aM F F')(B:∀I b,I≠a->Cel K F H I b->Cel K F' H' I b):∀{E:List (a9×A')} {xs:bA},Jg (FdR K F G H a) E xs->Jg (FdR K F' G H' a) E xs
 |_,_,.nil=>.nil|e::E,x::xs,.cons h t=>by obtain⟨h1,c,U,Y,e1,e2,z,g,n⟩:=h;exact .cons ⟨h1,S.tup c,U,Y,e1,e2,B U Y n z,g,n⟩ (Cr S B t)
theorem qI{α β:Type}{R:α->β->Prop}{x:α}{y:β}(r:R x y):∀{xs:List α} {ys:List β},Jg R xs ys->Jg R (xs++[x]) (ys++[y])
 |_,_,.nil=>.cons r .nil|_,_,.cons h t=>.cons h (qI r t)
theorem Fd.step{E:List (a9×A')}(z:Fd K F G H a E)(s:B2 F H F' H'):Fd K F' G H' a E:=by
 obtain⟨xs,ep,B,fa,U,rows,S,I⟩:=z;refine⟨xs,ep,s.hh _ _ B,?_,U,Cr s.ff (λc L n q=>q.step s) rows,S,I⟩
 cases e:F' a with
 |none=>rfl|some o=>
  rcases s.nw a o e with q|q
  .simp_all
  simp_all
noncomputable def lstO:Option A'->be
 |some (.lst L)=>L|_=>[]
def Ff(fk:b6)(k:a9)(E:List (a9×A'))(w:ab×be):M (ab×List (a9×A')):=(fk w.1).bind λB=>(fV B).bind λk2=>if k2=k/\E.length<n_ then .ok (w.1,jq E k (.lst w.2))else stk
def stepK(iL iLab iS iB:Nat)(fk fa:b6)(fi:ce)(fb:b6)(ft:cd)(ρ:ab)(E:List (a9×A'))(k:a9):M (ab×List (a9×A')):=(fa ρ).bind λI=>(fV I).bind λB=>if B=k then stk else match gZ E B with
 |some (.lst La)=>(dH (labC iLab iS iB iL fi fb ft) La (ρ,lstO (gZ E k))).bind (Ff fk k E)|_=>stk
def sT(iL iLab iS iB:Nat)(fk fa:b6)(fi:ce)(fb:b6)(ft:cd)(ρ:ab)(E:List (a9×A')):M (ab×List (a9×A')):=(fk ρ).bind λB=>(fV B).bind λk=>stepK iL iLab iS iB fk fa fi fb ft (ρ.set iL d_) E k
def hide1(H:Hp)(c:h_):∃J:Hp,J c=d_/\(∀b,b≠c->J b=H b):=⟨λb=>if b=c then d_ else H b,p_ rfl,λb h=>q_ h⟩
theorem focus(z:Cel K F H c L)(g:G c=d_)(s:B2 F0 G F H):∃J:Hp,J c=d_/\(∀b,b≠c->J b=H b)/\B2 F0 G F J/\B2 F J F H:=by
 obtain⟨J,S,B⟩:=hide1 H c;obtain⟨ys,h,d,f⟩:=z;have I:∀{A:Hp} {b:h_} {o:HO},A c=d_->A b=a_ o->b≠c:=λh1 U q=>by simp_all
 refine⟨J,S,B,⟨s.ff,λb o e=>(B b (I g e)).trans (s.hh b o e),λb o e=>(B b (I f e)).trans (s.fh b o e),s.nw⟩,aM.refl _,λb o e=>(B b (I S e)).symm.trans e,s.fh,λ_ _ e=>.inl e⟩
section
variable{E:List (List Int×A')}
theorem Fd.put{k:a9}{I:be}{xs:bA}(fa:F' a=d_)(y:G a=d_)(rows:Jg (FdR K F G H a) E xs)(g:(xs.map (·.2.2)).Nodup)(f:(xs.map (·.1)).Nodup)(A:aM F F')(d:Cel K F' H' c I)(w:G c=d_)(o:c≠a)(t:SqT K F' b (k.map V.int))(Y:∀S I,S≠c->S≠a->Cel K F H S I->Cel K F' H' S I)(D:(gZ E k=d_/\jx xs k=d_/\H c=d_)\/∃L,gZ E k=a_ (.lst L)/\jx xs k=a_ (.ref c))(U:H' a=a_ (iW a (zL xs k b (.ref c)) ep)):Fd K F' G H' a (jq E k (.lst I)):=by
 rcases D with⟨e1,e2,e3⟩|⟨L,e1,e2⟩
 .simp[zL,e2]at U;have i:∀S I,Cel K F H S I->S≠c:=λS I z q=>by
   obtain⟨ys,h,_⟩:=z;simp_all
  have cells:∀{E:List (a9×A')} {xs:bA},Jg (FdR K F G H a) E xs->∀x∈xs,x.2.2≠.ref c:=by
   intro E xs r
   induction r with
   |nil=>simp|cons h t C=>
    intro x B q;cases B with
    |head=>obtain⟨_,_,N,O,_,e2,z,_⟩:=h;grind
    |tail _ B=>exact C x B q
  simp only[jq,e1,ai];refine⟨_,ep,U,fa,y,qI ⟨rfl,t,c,I,rfl,rfl,d,w,o⟩ (Cr A (λS I n z=>Y S I (i _ _ z) n z) rows),?_,?_⟩
  .rw[Lh,KU];refine⟨g,ad,λv j u l q=>?_⟩
   obtain⟨x,B,e⟩:=IE.mp j;have:u=V.ref c:=by simpa using l
   exact cells rows x B (e.trans (q.trans this))
  .rw[Lh,KU];refine⟨f,ad,λv j u l q=>?_⟩
   obtain⟨x,B,e⟩:=IE.mp j;have:u=k:=by simpa using l
   exact GS e2 x B (e.trans (q.trans this))
 .simp[zL,e2]at U;obtain⟨J,p,s,m⟩:=vS e2;have q1:∀x∈xs,x.1=k->x.2.2=.ref c:=λx B e=>by rw[pO f B p (e.trans s.symm)];exact m
  have q2:∀x∈xs,x.1≠k->x.2.2≠.ref c:=λx B e q=>e (by rw[pO g B p (q.trans m.symm)];exact s);rw[jq,e1];refine⟨_,ep,U,fa,y,fd_map A d w o Y rows q2,?_,?_⟩
  .rw[Cb,show xs.map ((λx:cU=>x.2.2)∘λx=>if x.1=k then(x.1,x.2.1,.ref c)else x)=xs.map (·.2.2)from I_ λx B=>?_]
   .exact g
   .show(if x.1=k then(x.1,x.2.1,V.ref c)else x).2.2=x.2.2;split
    .rename_i e;exact(q1 x B e).symm
    .rfl
  .rw[Cb,show xs.map ((λx:cU=>x.1)∘λx=>if x.1=k then(x.1,x.2.1,.ref c)else x)=xs.map (·.1)from I_ λx B=>?_]
   .exact f
   .show(if x.1=k then(x.1,x.2.1,V.ref c)else x).1=x.1;split<;>rfl
end
section
variable{W:bY}{E:List (List Int×A')}{D:Ends}{ks:List Nat}
def ER(K:Pn)(W:bY)(iF iL iLab iS iB:Nat)(fk fa:b6)(fi:ce)(fb:b6)(ft:cd):TS:=
 tR (zW (tGet2 K (oY iF) (tD K W cm fk) (tLst tNil)) (gm iL)) (tR (D8 (iSeq K (tOp (rIxK K) (oY iF) (tD K W cm fa))) (gm iLab) (D8 (iD K W fi) (gm iS) (tR (zW (tD K W cm fb) (gm iB)) (tIfS (tDT K W ft) (tApp K iL (oY iB)) D7)))) (sPut K (oY iF) (tD K W cm fk) (oY iL)))
theorem rs_step(hW:∀e,wp e->∀F H,B2 F0 G F H->W.p e F H)(hF:iF∈ks)(hL:iL∉ks)(hLab:iLab∉iL::ks)(hS:iS∉iL::ks)(hB:iB∉iL::ks)(lB:iB<σ.length)(lL:iL<σ.length)(s:B2 F0 G F H)(r:fQ K F σ ρ)(fd:Fd K F G H a E)(hf:σ[iF]?=a_ (a_ (.ref a)))(hE:∀e,sT iL iLab iS iB fk fa fi fb ft ρ E=.error e->wp e)(hN:∀z,sT iL iLab iS iB fk fa fi fb ft ρ E=.ok z->∀F' i H',B2 F0 G F' H'->fQ K F' i z.1->Fd K F' G H' a z.2->(∀j∈ks,i[j]?=σ[j]?)->i.length=σ.length->D.nx i H'):
  ER K W iF iL iLab iS iB fk fa fi fb ft D σ H:=by
 obtain⟨xs,ep,l,fda,ga,rows,nd,nk⟩:=fd;refine⟨.ref a,hf,a,xs,ep,rfl,l,aD r s.fh (λe h=>hW e (hE e (by unfold sT;rw[h];rfl)) _ _ s) λdk hdk y C H2 s2 q2=>⟨IH _,λp Z=>?_⟩⟩
 have B:∀{F H},B2 F0 G F H->sT iL iLab iS iB fk fa fi fb ft ρ E=.error .stuck->False:=λs h=>W.ns (hW _ (hE _ h) _ _ s);have R:=s.trans s2;have I:sT iL iLab iS iB fk fa fi fb ft ρ E=(fV dk).bind λk=>stepK iL iLab iS iB fk fa fi fb ft (ρ.set iL d_) E k:=by unfold sT;rw[hdk];rfl
 cases hk:fV dk with
 |error e=>rw[hk]at I;have:=dq hk;subst this;exact(B R I).elim|ok k=>
 rw[hk,ai]at I;obtain⟨b,rfl,t⟩:=fF hk q2;have sg:B2 C H2 C (upd H2 p (.lst [])):=B2.grow s2.fh Z;have Y:=R.trans sg;have m:=s2.trans sg;refine⟨b,k,rfl,m.hh _ _ l,(vY rows).mono (m.ff.trans m.fh),(sg.fh).tup t,?_⟩
 have p2:C p=d_:=s2.fh.free Z;have pG:G p=d_:=R.hh.free Z;have pa:p≠a:=λq=>by rw[q,s2.hh _ _ l]at Z;cases Z
 have aF2:C a=d_:=by
  cases e:C a with
  |none=>rfl|some o=>
   rcases s2.nw a o e with q|q
   .simp_all
   simp_all
 have cell:∃c,(jx xs k).getD (.ref p)=.ref c/\Cel K C (upd H2 p (.lst [])) c (lstO (gZ E k))/\G c=d_/\c≠a/\((gZ E k=d_/\jx xs k=d_/\H c=d_)\/∃L,gZ E k=a_ (.lst L)/\jx xs k=a_ (.ref c)):=by
  rcases GZ (k:=k) rows with⟨e1,e2⟩|⟨L,c,e1,e2,z,g,n⟩
  .rw[e1,e2];exact⟨p,rfl,⟨[],aq,rfl,p2⟩,pG,pa,.inl ⟨rfl,rfl,s2.hh.free Z⟩⟩
  .rw[e1,e2];exact⟨c,rfl,(z.step m),g,n,.inr ⟨L,rfl,rfl⟩⟩
 obtain⟨c,ec,zc,gc,nc,f⟩:=cell;rw[ec];obtain⟨J,j1,j2,j3,j4⟩:=focus zc gc Y
 have Ja:J a=a_ (iW a xs ep):=(j2 a (IV nc)).trans (m.hh _ _ l);have O:∀T L',T≠c->Cel K F H T L'->Cel K C J T L':=λT L' n z=>(z.step m).at (j2 T n)
 have rr:fQ K C (σ.set iL (a_ (.ref c))) (ρ.set iL d_):=(r.mono s2.ff).hide iL (a_ _);have hv:(σ.set iL (a_ (.ref c)))[iL]?=a_ (a_ (.ref c)):=t_ lL;have S:∀j∈ks,(σ.set iL (a_ (.ref c)))[j]?=σ[j]?:=λj hj=>o_ λq=>hL (by exact q▸hj);have hW2:∀e,wp e->∀F H,B2 C J F H->W.p e F H:=λe h F H s=>hW e h F H (j3.trans s);have e1:stepK iL iLab iS iB fk fa fi fb ft (ρ.set iL d_) E k=(fa (ρ.set iL d_)).bind λda=>(fV da).bind λX=>if X=k then stk else match gZ E X with|some (.lst La)=>(dH (labC iLab iS iB iL fi fb ft) La (ρ.set iL d_,lstO (gZ E k))).bind (Ff fk k E)|_=>stk:=rfl
 rw[e1]at I;cases A:fa (ρ.set iL d_)with
 |error e=>
  rw[A]at I;refine⟨.ref a,(S iF hF).trans hf,aD rr Y.fh (λe' h=>?_) λd h=>?_⟩
  .rw[A]at h;cases h;exact hW e (hE e I) _ _ Y
  simp_all
 |ok da=>
 rw[A,ai]at I;cases u:fV da with
 |error e=>rw[u]at I;have:=dq u;subst this;exact(B Y I).elim|ok X=>
 rw[u,ai]at I;by_cases hne:X=k
 .rw[p_ hne]at I;exact(B Y I).elim
 rw[q_ hne]at I;rcases GZ (k:=X) rows with⟨g1,g2⟩|⟨La,ca,g1,g2,zca,gca,nca⟩
 .rw[g1]at I;exact(B Y I).elim
 rw[g1]at I;have I:sT iL iLab iS iB fk fa fi fb ft ρ E=(dH (labC iLab iS iB iL fi fb ft) La (ρ.set iL d_,lstO (gZ E k))).bind (Ff fk k E):=I;have cne:ca≠c:=λq=>by
  subst q;rcases f with⟨_,_,h3⟩|⟨L,_,h3⟩
  .obtain⟨ys,h,_⟩:=zca;simp_all
  .obtain⟨x1,m1,k1,v1⟩:=vS g2;obtain⟨x2,m2,k2,v2⟩:=vS h3;have:=pO nd m1 m2 (v1.trans v2.symm);simp_all
 obtain⟨ys,y1,y2,y3⟩:=O ca La cne zca;refine rs_labs (a:=a) (La:=La) hW2 hLab hS hB (JJ ..) a7 j1 j4 rr zc hv ((S iF hF).trans hf) (λe h=>by simp_all) (λd h=>?_) (λe h=>hE e (by rw[I,h];rfl)) λw hw F5 P H5 Q r5 c5 k5 l5=>?_
 .rw[A]at h;cases h;exact⟨X,xs,ep,ca,ys,u,Ja,λx hx=>(j3.fh).tup (m.ff.tup (vY rows x hx)),g2,y1,y2⟩
 rw[hw,ai]at I;have s05:=j3.trans Q;have e2:Ff fk k E w=(fk w.1).bind λdk=>(fV dk).bind λk2=>if k2=k/\E.length<n_ then .ok (w.1,jq E k (.lst w.2))else stk:=rfl
 rw[e2]at I;have v5:P[iL]?=a_ (a_ (.ref c)):=(k5 iL (JJ ..)).trans hv;have f5:P[iF]?=a_ (a_ (.ref a)):=(k5 iF (Je _ hF)).trans ((S iF hF).trans hf);refine⟨.ref c,v5,.ref a,f5,aD r5 Q.fh (λe h=>hW e (hE e (by rw[I,h];rfl)) _ _ s05) λdk2 hdk2 y F6 H6 N q6=>?_⟩
 rw[hdk2,ai]at I;have U:=s05.trans N;cases v:fV dk2 with
 |error e=>rw[v]at I;have:=dq v;subst this;exact(B U I).elim|ok k2=>
 rw[v,ai]at I;by_cases hc:k2=k/\E.length<n_
 .rw[p_ hc]at I;obtain⟨rfl,hlen⟩:=hc;obtain⟨b2,rfl,t2⟩:=fF v q6;have top6:H6 a=a_ (iW a xs ep):=N.hh _ _ (Q.hh _ _ Ja);have F6a:F6 a=d_:=by
   cases e:F6 a with
   |none=>rfl|some o=>
    rcases(Q.trans N).nw a o e with q|q
    .simp_all
    simp_all
  refine⟨a,b2,k2,xs,ep,rfl,rfl,top6,λx hx=>U.fh.tup ((Q.trans N).ff.tup (m.ff.tup (vY rows x hx))),U.fh.tup t2,by exact(Ke rows)▸hlen,λep'=>?_⟩
  have s07:B2 F0 G F6 (upd H6 a (iW a (zL xs k2 b2 (.ref c)) ep')):=⟨U.ff,λd o h=>by rw[av (λq=>by simp_all)];exact U.hh d o h,λd o h=>by rw[av (λq=>by simp_all)];exact U.fh d o h,U.nw⟩
  exact hN _ I F6 P _ s07 (r5.mono N.ff) (Fd.put F6a ga rows nd nk (m.ff.trans (Q.trans N).ff) ((c5.step N).at (av nc)) gc nc t2 (λT L' n1 n2 z=>(((O T L' n1 z).step (Q.trans N)).at (av n2))) f aq) (λj hj=>(k5 j (Je _ hj)).trans (S j hj)) a7
 .rw[q_ hc]at I;exact(B U I).elim
end
def GL(td:TE):TI:=λσ H R=>tViewS td σ H λx H2=>∃p a xs ep,x=.ref p/\H2 p=a_ (VwO "dict_items" p a)/\H2 a=a_ (oC a xs ep)/\R (ItS a xs ep) H2
def pi_itmsS{o:Jj}(d:PE X o td)(U: ~~~(Jv o "items" X.env (Il o X.env)=Il o X.env))(c: ~~~((apos.endLine==cpos.line)=e_)):PI X (.Tuple elts k q) (.Call (.Attribute o "items" apos) [] [] cpos) (GL td):=by
 intro B1 s σ H R I h;refine B' (pe_itmsS d U c B1 s σ H _ I h) λv s1 S=>?_;obtain⟨y,H1,B,Y,p,a,xs,ep,ex,S,f,q1⟩:=S;subst ex;cases(show v=s_ p from Y);obtain⟨es,i,hz,z,g,hsz⟩:=uW B f;refine uj ((show(∃o,s1.heap.get? p=a_ o/\o.cls=.type "dict_items"/\o.data=.fields #[.ref a])/\_ from B.hok p _ S).1) z ⟨s1.z,[s1.z],_,_,H1,rfl,B.kept λb o e=>c_ _ e,D4 a _ xs ep,⟨_,_,by rw[<- hsz];exact i_ _ rfl⟩,λb U=>?_,q1⟩;have e:=by simpa using U
 subst e;exact B.Ew (f_ _) (B.hok.fresh (f_ _))
inductive SdR(K:Pn)(F:Hp)(e:SK×List Int)(x:nL):Prop
 |mk (k:x.1=e.1) (t:Ig K F x.2.1 e.1) (v:SqT K F x.2.2 (e.2.map V.int))
inductive Sd(K:Pn)(F G H:Hp)(a:h_)(T:List (SK×List Int)):Prop
 |mk (xs:List nL) (ep:Nat) (top:H a=a_ (oC a xs ep)) (fa:F a=d_) (ga:G a=d_) (rows:Jg (SdR K F) T xs)
theorem zZ{K:Pn}{F F':Hp}(s:aM F F'):∀{T:List (SK×a9)} {xs:List nL},Jg (SdR K F) T xs->Jg (SdR K F') T xs
 |_,_,.nil=>.nil|_,_,.cons ⟨h1,I,B⟩ t=>.cons ⟨h1,I.map λ_ _=>s.tup,s.tup B⟩ (zZ s t)
theorem sd_at{K:Pn}{F:Hp}:∀{T:List (SK×a9)} {xs:List nL} {i:Nat} {x:nL},Jg (SdR K F) T xs->xs[i]?=a_ x->∃e,T[i]?=a_ e/\SdR K F e x
 |_,_,_,_,.nil,h=>by simp at h|e::_,x::_,0,_,.cons h _,q=>by simp at q;subst q;exact⟨e,rfl,h⟩|_::_,_::_,i+1,_,.cons _ t,q=>by simp only[Km]at q ⊢;exact sd_at t q
noncomputable def itD(e:SK×a9):A':=.tup [.tup [.tup (e.1.1.map .int),.int e.1.2],.tup (e.2.map .int)]
def DV{xs:List nL}{T:List (SK×a9)}:IterS K (λF H=>H a=a_ (oC a xs ep)/\Jg (SdR K F) T xs/\aM F H) (ItS a xs ep) (T.map itD) where
 go:=λi F H z hi=>⟨z.1,by rw[<- Ke z.2.1];simpa using hi⟩
 yl:=λi F H x H' d z B Y=>by
  obtain⟨I,y,c,ev,b,g⟩:=Y;subst ev g;obtain⟨e,h1,h,⟨r,U,S⟩,f⟩:=sd_at z.2.1 b;rw[E_,h1]at B;have e:=by simpa using B.symm
  subst e;have sl:B2 F H (upd F I (.tup [.ref y.2.1,.ref y.2.2])) _:=B2.lay z.2.2 c;exact⟨_,sl,I,_,rfl,SqT.of aq,.ref y.2.1,[.ref y.2.2],rfl,⟨y.2.1,_,rfl,sl.ff.tup U,.ref r,[.int _],rfl,⟨r,_,rfl,sl.ff.tup S,dw _⟩,.int _,[],rfl,rfl,rfl⟩,.ref y.2.2,[],rfl,⟨y.2.2,_,rfl,sl.ff.tup f,dw _⟩,rfl⟩
 st:=λF H z=>⟨z.1,by rw[l_,Ke z.2.1];exact f_ _⟩
section
variable{W:bY}{E:List (List Int×A')}{T:List (SK×List Int)}{D:Ends}{ks:List Nat}
theorem H9{G':Hp}(h:∀c L,Cel K F H c L->G c=d_->G' c=d_):∀{E:List (a9×A')} {xs:bA},Jg (FdR K F G H a) E xs->Jg (FdR K F G' H a) E xs
 |_,_,.nil=>.nil|_,_,.cons ⟨h1,B,c,L,e1,e2,z,g,n⟩ t=>.cons ⟨h1,B,c,L,e1,e2,z,h c L z g,n⟩ (H9 h t)
def B2.wide(h:aM G G')(s:B2 F0 G' F H):B2 F0 G F H:=⟨s.ff,h.trans s.hh,s.fh,λb o e=>(s.nw b o e).imp_right h.free⟩
def B2.base(s:B2 F0 G F H)(t:B2 F G F' H'):B2 F0 G F' H':=⟨s.ff.trans t.ff,t.hh,t.fh,λb o e=>(t.nw b o e).elim (λz=>s.nw b o z) .inr⟩
def vN(iSt iAh iL iLab iS iB:Nat)(fk fa:b6)(fi:ce)(fb:b6)(ft:cd)(z:ab×List (a9×A')):A'->M (ab×List (a9×A'))
 |.tup [I,B]=>sT iL iLab iS iB fk fa fi fb ft ((z.1.set iSt (a_ I)).set iAh (a_ B)) z.2|_=>stk
theorem rs_items(hW:∀e,wp e->∀F H,B2 F0 G F H->W.p e F H)(hF:iF∈ks)(h1:iSt∉ks)(h2:iAh∉ks)(hL:iL∉ks)(m:iLab∉iL::ks)(hS:iS∉iL::ks)(hB:iB∉iL::ks)(lB:iB<σ.length)(lL:iL<σ.length)(s:B2 F0 G F H)(r:fQ K F σ ρ)(fd:Fd K F G H a E)(sd:Sd K F G H aS T)(na:a≠aS)(hf:σ[iF]?=a_ (a_ (.ref a)))(hT:σ[iT]?=a_ (a_ (.ref aS)))(hE:∀e,dH (vN iSt iAh iL iLab iS iB fk fa fi fb ft) (T.map itD) (ρ,E)=.error e->wp e)(hN:∀z,dH (vN iSt iAh iL iLab iS iB fk fa fi fb ft) (T.map itD) (ρ,E)=.ok z->∀F' B H',B2 F0 G F' H'->fQ K F' B z.1->Fd K F' G H' a z.2->(∀j∈ks,B[j]?=σ[j]?)->B.length=σ.length->D.nx B H'):
  D8 (GL (oY iT)) (gP K (.tp [iSt,iAh])) (ER K W iF iL iLab iS iB fk fa fi fb ft) D σ H:=by
 obtain⟨xs,ep,U,fSa,ga,rows⟩:=sd;have k:aM G (upd G aS (oC aS xs ep)):=aM.upd ga;have s1:B2 F0 (upd G aS (oC aS xs ep)) F H:=⟨s.ff,λb o e=>by
  by_cases R:b=aS
  .simp_all[aq]
  .rw[av R]at e;exact s.hh b o e,s.fh,λb o e=>by
  by_cases R:b=aS
  .simp_all
  .rw[av R];exact s.nw b o e⟩
 have cn:∀c L,Cel K F H c L->G c=d_->(upd G aS (oC aS xs ep)) c=d_:=λc L z g=>by obtain⟨ys,h,_⟩:=z;rw[av (λq=>by rw[q,U]at h;cases h)];exact g
 have X:Fd K F (upd G aS (oC aS xs ep)) H a E:=by obtain⟨v,Y,P,O,t3,t4,N,J⟩:=fd;exact⟨v,Y,P,O,by rw[av na];exact t3,H9 cn t4,N,J⟩
 refine⟨.ref aS,hT,aS,xs,ep,rfl,U,λp hp=>⟨p,aS,xs,ep,rfl,aq,by rw[av (aL U hp)];exact U,?_⟩⟩
 have sp:B2 F H F (upd H p (VwO "dict_items" p aS)):=B2.grow s.fh hp;refine n6 (S:=λz F' B H'=>B2 F0 (upd G aS (oC aS xs ep)) F' H'/\Jg (SdR K F') T xs/\fQ K F' B z.1/\Fd K F' (upd G aS (oC aS xs ep)) H' a z.2/\(∀j∈ks,B[j]?=σ[j]?)/\B.length=σ.length) (DV)
  (λz=>⟨z.1.hh _ _ aq,z.2.1,z.1.fh⟩) ⟨s1.trans sp,rows,r,X.step sp,λ_ _=>rfl,rfl⟩ hE (λz F' B H' e y=>hN z e F' B H' (y.1.wide k) y.2.2.1 ?_ y.2.2.2.2.1 y.2.2.2.2.2) ?_
 .obtain⟨v,Y,P,O,t3,t4,N,J⟩:=y.2.2.2.1;exact⟨v,Y,P,O,k.free t3,H9 (λc L z g=>k.free g) t4,N,J⟩
 rintro⟨u,E1⟩ d F3 i H3 ⟨s3,w3,r3,f3,k3,l3⟩ he x F4 H4 l q4;have I:=s3.trans l;have n:vN iSt iAh iL iLab iS iB fk fa fi fb ft (u,E1) d=.error .stuck->False:=λh=>W.ns (hW _ (he _ h) _ _ (I.wide k));cases d with
 |tup ds=>
  rcases ds with _|⟨d1,_|⟨d2,_|⟨d3,ds⟩⟩⟩
  .exact(n rfl).elim
  .exact(n rfl).elim
  .obtain⟨ax,ys,rfl,t,C,ys1,rfl,p1,A,w,rfl,p2,e3⟩:=q4;cases(show w=[]from e3);have r4:=((r3.mono l.ff).set p1 iSt).set p2 iAh;have Z:∀j∈ks,((i.set iSt (a_ C)).set iAh (a_ A))[j]?=σ[j]?:=λj f=>by
    rw[o_ (λz=>h2 (by exact z▸f)),o_ (λz=>h1 (by exact z▸f))];exact k3 j f
   have Q:((i.set iSt (a_ C)).set iAh (a_ A)).length=σ.length:=by rw[Ii,Ii,l3]
   refine⟨ax,_,rfl,l.fh.tup t,rfl,C,_,rfl,A,_,rfl,rfl,(rs_step (F0:=F4) (λe h F H s=>hW e h F H ((I.base s).wide k)) hF hL m hS hB (by rw[Q];exact lB) (by rw[Q];exact lL) ⟨aM.refl _,I.hh,I.fh,λ_ _ z=>.inl z⟩ r4 (f3.step l) ((Z iF hF).trans hf) (λe h=>he e h) λz hz F' B H' s' r' f' k' l'=>?_)⟩
   exact⟨z,F',hz,I.base s',zZ (l.ff.trans s'.ff) w3,r',f',λj f=>(k' j f).trans (Z j f),by rw[l',Q]⟩
  .exact(n rfl).elim
 |_=>exact(n rfl).elim
end
def skD:A'->M SK
 |.tup [.tup rs,.int f]=>(bZ rs).bind λk=>.ok (k,f)|_=>stk
theorem skD_err{e:Err}(h:skD d=.error e):e=.stuck:=by
 unfold skD at h;split at h
 .rename_i rs f;cases e1:bZ rs with
  |error x=>rw[e1]at h;cases h;exact gk e1|ok k=>simp_all
 .cases h;rfl
theorem skD_at{k:SK}(h:skD d=.ok k)(q:bh K F d v):∃b,v=.ref b/\Ig K F b k:=by
 unfold skD at h;split at h
 .rename_i rs f;cases e1:bZ rs with
  |error x=>simp_all|ok c=>rw[e1]at h;cases h;obtain⟨b,xs,rfl,t,a,S,rfl,⟨r,ys,rfl,Y,I⟩,U,B,rfl,q2,e3⟩:=q;cases(show B=[]from e3);cases(show U=V.int f from q2);have:=cW I e1;subst this;exact⟨b,rfl,r,t,Y⟩
 .cases h
def ordC(iO:Nat)(fv fk:b6)(z:ab×List (SK×a9))(d:A'):M (ab×List (SK×a9)):=(fv (z.1.set iO (a_ d))).bind λB=>(fV B).bind λv=>(fk (z.1.set iO (a_ d))).bind λI=>(skD I).bind λk=>if z.2.length<n_ then .ok (z.1.set iO (a_ d),putS z.2 k v)else stk
theorem Fn{K:Pn}{F:Hp}:∀{T:List (SK×a9)} {xs:List nL},Jg (SdR K F) T xs->xs.map (·.1)=T.map (·.1)
 |_,_,.nil=>rfl|_,_,.cons ⟨h,_,_⟩ t=>by rw[v_,v_,Fn t,h]
theorem sd_map{K:Pn}{F:Hp}{k:SK}{v:a9}{c:h_}(t:SqT K F c (v.map V.int)):∀{T:List (SK×a9)} {xs:List nL},Jg (SdR K F) T xs->Jg (SdR K F) (T.map λx=>if x.1=k then(x.1,v)else x) (xs.map λx=>if x.1=k then(x.1,x.2.1,c)else x)
 |_,_,.nil=>.nil|e::_,x::_,.cons ⟨h1,I,S⟩ r=>by
  refine .cons ?_ (sd_map t r);show SdR K F (if e.1=k then(e.1,v)else e) (if x.1=k then(x.1,x.2.1,c)else x);by_cases B:x.1=k
  .rw[p_ B,p_ (h1▸B)];exact⟨h1,I,t⟩
  .rw[q_ B,q_ (h1▸B)];exact⟨h1,I,S⟩
def Ig.mono{k:SK}(z:Ig K F b k)(s:aM F F'):Ig K F' b k:=z.map λ_ _=>s.tup
theorem sd_sks{K:Pn}{F:Hp}:∀{T:List (SK×a9)} {xs:List nL},Jg (SdR K F) T xs->SksAt K F xs
 |_,_,.nil,x,B=>by cases B|_,_,.cons ⟨h1,I,_⟩ t,x,B=>by
  cases B with
  |head=>exact h1▸I|tail _ B=>exact sd_sks t x B
section
variable{W:bY}{E:List (List Int×A')}{T:List (SK×List Int)}{D:Ends}{ks:List Nat}
theorem Sd.step(z:Sd K F G H aS T)(s:B2 F H F' H'):Sd K F' G H' aS T:=by
 obtain⟨xs,ep,B,fa,I,rows⟩:=z;refine⟨xs,ep,s.hh _ _ B,?_,I,zZ s.ff rows⟩
 cases e:F' aS with
 |none=>rfl|some o=>
  rcases s.nw aS o e with q|q
  .simp_all
  simp_all
def Fd.beside{xs ys:List nL}(z:Fd K F G H a E)(e:H aS=a_ (oC aS xs ep))(na:a≠aS):Fd K F G (upd H aS (oC aS ys ep')) a E:=by
 obtain⟨I,B,b,Y,t3,t4,U,S⟩:=z;refine⟨I,B,by rw[av na];exact b,Y,t3,Cr (aM.refl _) (λc L n q=>q.at (av λw=>?_)) t4,U,S⟩
 obtain⟨ys,h,_⟩:=q;rw[w,e]at h;cases h
theorem rs_ords(J:∀e,wp e->∀F H,B2 F0 G F H->W.p e F H)(hO:iO∉ks)(Z:iT∈ks)(s:B2 F0 G F H)(r:fQ K F σ ρ)(fd:Fd K F G H a E)(sd:Sd K F G H aS T)(na:a≠aS)(hT:σ[iT]?=a_ (a_ (.ref aS)))(hE:∀e,((fo ρ).bind λN=>dH (ordC iO fv fq) N (ρ,T))=.error e->wp e)(hN:∀z,((fo ρ).bind λN=>dH (ordC iO fv fq) N (ρ,T))=.ok z->∀F' B H',B2 F0 G F' H'->fQ K F' B z.1->Fd K F' G H' a E->Sd K F' G H' aS z.2->(∀j∈ks,B[j]?=σ[j]?)->B.length=σ.length->D.nx B H'):
  D8 (iD K W fo) (gm iO) (sPutS K (oY iT) (tD K W cm fq) (tD K W cm fv)) D σ H:=by
 refine⟨F,ρ,r,s.fh,?_⟩
 cases hf:fo ρ with
 |error e=>exact J e (hE e (by rw[hf];rfl)) F H s|ok ds=>
 rw[hf]at hE hN;intro I F2 H2 s2 it;refine n6 (S:=λz F' B H'=>aM F2 F'/\B2 F0 G F' H'/\fQ K F' B z.1/\Fd K F' G H' a E/\Sd K F' G H' aS z.2/\(∀j∈ks,B[j]?=σ[j]?)/\B.length=σ.length) it.toS (λz=>⟨z.1,z.2.1.fh⟩) ⟨aM.refl _,s.trans s2,r.mono s2.ff,fd.step s2,sd.step s2,λ_ _=>rfl,rfl⟩ hE (λz F' B H' e y=>hN z e F' B H' y.2.1 y.2.2.1 y.2.2.2.1 y.2.2.2.2.1 y.2.2.2.2.2.1 y.2.2.2.2.2.2) ?_;rintro⟨l,C⟩ d F3 L H3 ⟨b3,s3,r3,f3,d3,k3,l3⟩ Q x F4 H4 p q4;have r4:=(r3.mono p.ff).set q4 iO;have A:=s3.trans p;have k4:∀j∈ks,(L.set iO (a_ x))[j]?=σ[j]?:=λj hj=>by rw[o_ (λz=>hO (by exact z▸hj))];exact k3 j hj
 have U:ordC iO fv fq (l,C) d=(fv _).bind λdv=>(fV dv).bind λv=>(fq _).bind λdk=>(skD dk).bind λk=>if C.length<n_ then .ok (l.set iO _,putS C k v)else stk:=rfl
 refine aD r4 p.fh (λe h=>J e (Q e (by rw[U,h];rfl)) _ _ A) λdv R y F5 H5 m q5=>?_;rw[R,ai]at U;have n:=A.trans m;have O:∀{F H},B2 F0 G F H->ordC iO fv fq (l,C) d=.error .stuck->False:=λs h=>W.ns (J _ (Q _ h) _ _ s);cases f:fV dv with
 |error e=>rw[f]at U;have:=dq f;subst this;exact(O n U).elim|ok v=>
 rw[f,ai]at U;obtain⟨c,rfl,tc⟩:=fF f q5;refine⟨.ref aS,(k4 iT Z).trans hT,aD (r4.mono m.ff) m.fh (λe h=>J e (Q e (by rw[U,h];rfl)) _ _ n) λdk X w F6 H6 i q6=>?_⟩
 rw[X,ai]at U;have Y:=n.trans i;cases g:skD dk with
 |error e=>rw[g]at U;have:=skD_err g;subst this;exact(O Y U).elim|ok k=>
 rw[g,ai]at U;obtain⟨b,rfl,tb⟩:=skD_at g q6;by_cases P:C.length<n_
 .rw[p_ P]at U;have f6:=(f3.step (p.trans m)).step i;obtain⟨xs,ep,u,fa,ga,rows⟩:=(d3.step (p.trans m)).step i;refine⟨aS,b,c,k,xs,ep,rfl,rfl,rfl,u,λx hx=>((sd_sks rows x hx).mono i.fh),tb.mono i.fh,by exact(Ke rows)▸P,λep'=>(⟨_,F6,U,b3.trans ((p.trans (m.trans i)).ff),⟨Y.ff,λd o h=>?_,λd o h=>?_,Y.nw⟩,(r4.mono m.ff).mono i.ff,f6.beside u na,⟨_,ep',aq,fa,ga,(by
    have t:=(i.ff.tup tc)
    unfold putS Dw;rw[Fn rows];split
    .exact sd_map t rows
    .exact qI ⟨rfl,tb,t⟩ rows)⟩,k4,a7⟩)⟩
  .rw[av (λq=>by simp_all)];exact Y.hh d o h
  .rw[av (λq=>by simp_all)];exact Y.fh d o h
 .rw[q_ P]at U;exact(O Y U).elim
end
section
variable{W:bY}{E:List (List Int×A')}{D:Ends}{fr:ab->M (List A')}{ks:List Nat}
def qi(iT iO iZ iSt iAh iL iLab iS iB:Nat)(fo:ce)(fv fq fk fa:b6)(fi:ce)(fb:b6)(ft:cd)(z:ab×List (a9×A'))(d:A'):M (ab×List (a9×A')):=
 ((fo ((z.1.set iZ (a_ d)).set iT d_)).bind λB=>dH (ordC iO fv fq) B ((z.1.set iZ (a_ d)).set iT d_,[])).bind λw=>dH (vN iSt iAh iL iLab iS iB fk fa fi fb ft) (w.2.map itD) (w.1,z.2)
def ES(K:Pn)(W:bY)(iF iT iO iSt iAh iL iLab iS iB:Nat)(fo:ce)(fv fq fk fa:b6)(fi:ce)(fb:b6)(ft:cd):TS:=
 tR (zW tNewS (gm iT)) (tR (D8 (iD K W fo) (gm iO) (sPutS K (oY iT) (tD K W cm fq) (tD K W cm fv))) (D8 (GL (oY iT)) (gP K (.tp [iSt,iAh])) (ER K W iF iL iLab iS iB fk fa fi fb ft)))
theorem rs_size(hW:∀e,wp e->∀F H,B2 F0 G F H->W.p e F H)(lT:iT<σ.length)(lB:iB<σ.length)(lL:iL<σ.length)(g:[iF,iT,iO,iZ,iSt,iAh,iL,iLab,iS,iB].Nodup)(s:B2 F0 G F H)(r:fQ K F σ ρ)(fd:Fd K F G H a E)(hf:σ[iF]?=a_ (a_ (.ref a)))(hE:∀e,((fr ρ).bind λm=>dH (qi iT iO iZ iSt iAh iL iLab iS iB fo fv fq fk fa fi fb ft) m (ρ,E))=.error e->wp e)(hN:∀z,((fr ρ).bind λm=>dH (qi iT iO iZ iSt iAh iL iLab iS iB fo fv fq fk fa fi fb ft) m (ρ,E))=.ok z->∀F' B H',B2 F0 G F' H'->fQ K F' B z.1->Fd K F' G H' a z.2->B[iF]?=a_ (a_ (.ref a))->D.nx B H'):
  D8 (iD K W fr) (gm iZ) (ES K W iF iT iO iSt iAh iL iLab iS iB fo fv fq fk fa fi fb ft) D σ H:=by
 simp at g;obtain⟨⟨L,O,J,v,C,P,A,N,Q⟩,⟨n,nTZ,nTs,nTa,nTL,nTl,nTS,nTB⟩,⟨nOZ,nOs,nOa,nOL,nOl,nOS,nOB⟩,⟨nZs,nZa,nZL,nZl,nZS,nZB⟩,⟨nsa,nsL,nsl,nsS,nsB⟩,⟨naL,nal,naS,naB⟩,⟨o,t,u⟩,_,_⟩:=g;refine⟨F,ρ,r,s.fh,?_⟩
 cases i:fr ρ with
 |error e=>exact hW e (hE e (by rw[i];rfl)) F H s|ok ds=>
 rw[i]at hE hN;intro I F2 H2 s2 it;refine n6 (S:=λz F' B H'=>aM F2 F'/\B2 F0 G F' H'/\fQ K F' B z.1/\Fd K F' G H' a z.2/\B[iF]?=a_ (a_ (.ref a))/\B.length=σ.length) it.toS (λz=>⟨z.1,z.2.1.fh⟩) ⟨aM.refl _,s.trans s2,r.mono s2.ff,fd.step s2,hf,rfl⟩ hE (λz F' B H' e y=>hN z e F' B H' y.2.1 y.2.2.1 y.2.2.2.1 y.2.2.2.2.1) ?_;rintro⟨f,E1⟩ d F3 U H3 ⟨b3,s3,r3,f3,v3,l3⟩ he x c k b q4;intro p Z;have sg:B2 c k c (upd k p (oC p [] 0)):=B2.grow b.fh Z;have Y:=s3.trans (b.trans sg);have r5:fQ K c ((U.set iZ (a_ x)).set iT (a_ (.ref p))) ((f.set iZ (a_ d)).set iT d_):=((r3.mono b.ff).set q4 iZ).hide iT (a_ _);have f5:=f3.step (b.trans sg);have T:((U.set iZ (a_ x)).set iT (a_ (.ref p))).length=σ.length:=by rw[Ii,Ii,l3]
 have v5:((U.set iZ (a_ x)).set iT (a_ (.ref p)))[iF]?=a_ (a_ (.ref a)):=by rw[o_ (IV L),o_ (IV J)];exact v3
 have t5:((U.set iZ (a_ x)).set iT (a_ (.ref p)))[iT]?=a_ (a_ (.ref p)):=t_ a7;have na:a≠p:=λq=>by obtain⟨zs,ep1,t1,_⟩:=f3;have:=b.hh _ _ t1;simp_all
 have sd:Sd K c G (upd k p (oC p [] 0)) p []:=⟨[],0,aq,b.fh.free Z,(s3.trans b).hh.free Z,.nil⟩
 have j:=λe h F H s=>hW e h F H (Y.base s);have l:B2 c G c (upd k p (oC p [] 0)):=⟨aM.refl _,Y.hh,Y.fh,λ_ _ z=>.inl z⟩
 refine rs_ords (ks:=[iF,iT]) j (by simp[IV O,IV n]) ad l r5 f5 sd na t5 (λe h=>he e (by unfold qi;rw[h];rfl)) λw hw F6 σ6 H6 s6 r6 f6 d6 X R=>?_;have e0:qi iT iO iZ iSt iAh iL iLab iS iB fo fv fq fk fa fi fb ft (f,E1) d=dH (vN iSt iAh iL iLab iS iB fk fa fi fb ft) (w.2.map itD) (w.1,E1):=by unfold qi;rw[hw];rfl
 exact rs_items (ks:=[iF]) j ad (by simp[IV v]) (by simp[IV C]) (by simp[IV P]) (by simp[IV A,IV o]) (by simp[IV N,IV t]) (by simp[IV Q,IV u]) (by rw[R,T];exact lB) (by rw[R,T];exact lL) s6 r6 f6 d6 na ((X iF ad).trans v5) ((X iT ad).trans t5) (λe h=>he e (e0.trans h)) λz hz F7 σ7 H7 s7 r7 f7 k7 l7=>⟨z,F7,e0.trans hz,b3.trans (b.ff.trans s7.ff),Y.base s7,r7,f7,(k7 iF ad).trans ((X iF ad).trans v5),by rw[l7,R,T]⟩
theorem Fd.freeze(z:Fd K F G H a E)(s:aM F H):∃F',aM F F'/\aM F' H/\(∀b o,F' b=a_ o->F b=a_ o\/G b=d_)/\bh K F' (.dic E) (.ref a):=by
 classical
 obtain⟨xs,ep,f,fa,l,rows,_,_⟩:=z;refine⟨λb=>if b=a\/(G b=d_/\F b=d_)then H b else F b,λb o e=>?_,λb o e=>?_,λb o e=>?_,a,xs,rfl,⟨ep,?_⟩,?_⟩
 .lia
 .have B:(if b=a\/(G b=d_/\F b=d_)then H b else F b)=a_ o:=e;split at B
  .exact B
  .exact s b o B
 .lia
 .lia
 .have I:aM F (λb=>if b=a\/(G b=d_/\F b=d_)then H b else F b):=λb o e=>by
   lia
  have key:∀{E:List _} {xs:bA},Jg (FdR K F G H a) E xs->bp K (λb=>if b=a\/(G b=d_/\F b=d_)then H b else F b) E xs:=by
   intro E xs r
   induction r with
   |nil=>rfl|@cons e x E xs h t i=>
    obtain⟨h1,j,c,L,e1,e2,⟨ys,Y,U,S⟩,g,n⟩:=h;obtain⟨k,d⟩:=e;obtain⟨k',b,v⟩:=x;cases(show k'=k from h1);cases(show d=_ from e1);cases(show v=_ from e2);refine⟨b,.ref c,xs,rfl,I.tup j,⟨c,ys,rfl,SqL.of ?_,U.mono I⟩,i⟩
    rw[p_ (.inr ⟨g,S⟩)];exact Y
  exact key rows
end
section
variable{W:bY}{D:Ends}{fr:ab->M (List A')}{fu:b6}
def A7(iF iT iO iZ iSt iAh iL iLab iS iB:Nat)(fu f0:b6)(fr fo:ce)(fv fq fk fa:b6)(fi:ce)(fb:b6)(ft:cd)(ρ:ab):M B4:=
 (fu ρ).bind λI=>(fV I).bind λk=>(f0 ρ).bind λd=>((fr (ρ.set iF d_)).bind λB=>dH (qi iT iO iZ iSt iAh iL iLab iS iB fo fv fq fk fa fi fb ft) B (ρ.set iF d_,[(k,.lst [d])])).bind λz=>.ok (.rt (.dic z.2))
theorem rs_allD(Q:iF<σ.length)(lT:iT<σ.length)(lB:iB<σ.length)(lL:iL<σ.length)(m:[iF,iT,iO,iZ,iSt,iAh,iL,iLab,iS,iB].Nodup)(t:tS K W cm F0 H0 OL [] O' (A7 iF iT iO iZ iSt iAh iL iLab iS iB fu f0 fr fo fv fq fk fa fi fb ft) D σ H):
  tR (zW (EU K (tD K W cm fu) (tLst (EW (tD K W cm f0) tNil))) (gm iF)) (tR (D8 (iD K W fr) (gm iZ) (ES K W iF iT iO iSt iAh iL iLab iS iB fo fv fq fk fa fi fb ft)) (tRet (oY iF))) D σ H:=by
 obtain⟨FB,F,ρ,r,q⟩:=t;have l:=r.repE;have s:=r.st;have f:∀e,A7 iF iT iO iZ iSt iAh iL iLab iS iB fu f0 fr fo fv fq fk fa fi fb ft ρ=.error e->W.p e F0 H0:=λe h=>by rw[h]at q;exact q
 have i:∀e,W.p e F0 H0->∀F H,B2 F0 H0 F H->W.p e F H:=λe h F H s=>W.mono h s;have B:A7 iF iT iO iZ iSt iAh iL iLab iS iB fu f0 fr fo fv fq fk fa fi fb ft ρ=(fu ρ).bind λC=>(fV C).bind λk=>(f0 ρ).bind λd=>((fr (ρ.set iF d_)).bind λP=>dH (qi iT iO iZ iSt iAh iL iLab iS iB fo fv fq fk fa fi fb ft) P (ρ.set iF d_,[(k,.lst [d])])).bind λz=>.ok (.rt (.dic z.2)):=rfl;intro p u;have a:B2 F H F (upd H p (iW p [] 0)):=B2.grow s.fh u;have s1:=s.trans a;refine aD l a.fh (λe h=>i e (f e (by rw[B,h];rfl)) _ _ s1) λC y x F1 H1 U q1=>?_;rw[y,ai]at B;have s2:=s1.trans U;cases g:fV C with
 |error e=>rw[g]at B;have:=dq g;subst this;exact(W.ns (i _ (f _ B) _ _ s2)).elim|ok k=>
 rw[g,ai]at B;obtain⟨b,rfl,tb⟩:=fF g q1;refine aD (l.mono (a.trans U).ff) U.fh (λe h=>i e (f e (by rw[B,h];rfl)) _ _ s2) λd R v j H2 I q2=>⟨ad,λc A=>?_⟩
 rw[R,ai]at B;have Y:=s2.trans I;have n:=I.hh _ _ (U.hh _ _ aq);have S:c≠p:=λw=>by simp_all
 have E:j p=d_:=by
  cases e:j p with
  |none=>rfl|some o=>
   rcases(U.trans I).nw p o e with z|z
   .rw[s.fh.free u]at z;cases z
   simp_all[aq]
 have G:=Y.fh.free A;have Gc:=Y.hh.free A;have Gp:=s.hh.free u;refine⟨b,k,.ref c,rfl,by rw[av (IV S)];exact n,(aM.upd A).tup (I.fh.tup (I.ff.tup tb)),λep=>?_⟩
 have O:B2 F0 H0 j (upd (upd H2 c (.lst [v])) p (iW p [(k,b,.ref c)] ep)):=⟨Y.ff,λw o h=>by
  rw[av (λz=>by simp_all),av (λz=>by simp_all)];exact Y.hh w o h,λw o h=>by
  rw[av (λz=>by simp_all),av (λz=>by simp_all)];exact Y.fh w o h,Y.nw⟩
 have fd:Fd K j H0 (upd (upd H2 c (.lst [v])) p (iW p [(k,b,.ref c)] ep)) p [(k,.lst [d])]:=
  ⟨_,ep,aq,E,Gp,.cons ⟨rfl,I.ff.tup tb,c,[d],rfl,rfl,⟨[v],by rw[av S,aq],ay.cons q2 ay.nil,G⟩,Gc,S⟩ .nil,ad,ad⟩
 refine rs_size (wp:=λe=>W.p e F0 H0) i a7 a7 a7 m O (((l.mono (a.trans (U.trans I)).ff)).hide iF (a_ (.ref p))) fd (t_ Q) (λe h=>f e (by rw[B,h];rfl)) λz hz F' L H' s' r' f' N=>?_;obtain⟨J,Z,g2,X,T⟩:=f'.freeze s'.fh;simp only[B,hz]at q;exact⟨.ref p,N,q (.ref p) J H' ⟨s'.ff.trans Z,s'.hh,g2,λw o h=>(X w o h).elim (λz=>s'.nw w o z) .inr⟩ T⟩
end
theorem ds_allD{W:bY}{fr:ce}{fu:b6}(p:PSs X sts (tR (zW (EU K (tD K W cm fu) (tLst (EW (tD K W cm f0) tNil))) (gm iF)) (tR (D8 (iD K W fr) (gm iZ) (ES K W iF iT iO iSt iAh iL iLab iS iB fo fv fq fk fa fi fb ft)) (tRet (oY iF)))))(Y: ~~~((X.N[iF]?).isSome=e_))(S: ~~~((X.N[iT]?).isSome=e_))(a: ~~~((X.N[iB]?).isSome=e_))(U: ~~~((X.N[iL]?).isSome=e_))(B:([iF,iT,iO,iZ,iSt,iAh,iL,iLab,iS,iB].Nodup)⁻¹):
  DSs K W cm X OL [] O' sts (A7 iF iT iO iZ iSt iAh iL iLab iS iB fu f0 fr fo fv fq fk fa fi fb ft):=λF0 H0 B1 s σ H D I z=>
 p B1 s σ H D I (rs_allD (by rw[I.len];simp_all) (by rw[I.len];simp_all) (by rw[I.len];simp_all) (by rw[I.len];simp_all) B z)
theorem hU1(h:n+64<IU):n<IU:=ac
theorem pe_get2a{o f:Jj}{ty:TE}(b:X.A.units+64<IU)(I:PE X o td)(Y:PE X e ty)(U:PE X f tx)(a: ~~~(Jv o "get" X.env (Il o X.env)=Il o X.env))(hw: ~~~(((Jy cpos (k_ [e,f] X.env)).all (λx=> !x.1)&&(LR cpos (KG [] X.env)).all (λx=>x.1.isSome)&&m_ (([e,f]:List Jj).length+([]:List LA).length+(if ([]:List LA).isEmpty then 0 else 1)<30))=e_))(S: ~~~((apos.endLine==cpos.line)=e_))(B: ~~~(Jy cpos (k_ [e,f] X.env)=[(cm,Il e X.env),(cm,Il f X.env)])):PE X (.Call (.Attribute o "get" apos) [e,f] [] cpos) (tGet2 X.K td ty tx):=
 FW ac I Y U ⟨a,hw,S,B⟩
section
variable{K:Type}[KZ K]{knd:Nw prog w K}{s:j_}{d:h_}{k:K}{xs:List (K×h_×g_)}{p:h_×g_}
theorem yE{α β:Type}(f:α->β):∀(l:List α) (i:Nat),(l.eraseIdx i).map f=(l.map f).eraseIdx i
 |[],_=>rfl|_::_,0=>rfl|x::l,i+1=>Kd _ (yE f l i)
theorem takeOutH{Q:Option Jx->j_->Prop}(i:knd.room A)(B:knd.is s.heap k a)(m:s.heap.DictOfH knd d xs)(b:xs[j]?=a_ (k,p))(hsz:xs.length<=n_)(h:∀h',h'.DictOfH knd d (xs.eraseIdx j)->JY d s.heap h'->Q (a_ (entryOfKey knd (k,p))) {s with heap:=h',toks:=s.toks+knd.draws k}):
  w_ (u_ prog w) A (OY d (.ref a)) Q E s:=by
 obtain⟨o,es,ep,S,n,I,g,Y,f⟩:=m;unfold OY
 try with_reducible refine Ju ?_
 refine b_ (knd.pyHash i B (b_ (RR i B S I g Y f (λc=>IA b (c j p)) λq p' U=>?_)));have e1:=idxH_unique f b U;subst e1;rw[b]at U;refine b_ (IB S I ?_);rw[PySem.entry_at g j,b];refine b_ (wpAny_updateDictKeys (hz:=by have e:=size_of_entries g;lia) S I (fm (h _ ⟨_,_,ep+1,KC _ S (QW (Md I _)),
   n.mapDictKeys _,Md I _,(by simp_all[yE]),λx l=>knd.keeps (Y x (List.mem_of_mem_eraseIdx l)) S I (Jh ..),List.Nodup.sublist ((List.eraseIdx_sublist ..).map _) f⟩ (Jh ..))))
theorem popH:Sv prog w (Builtin.«dict.pop» ⟨[.ref d,.ref a],[]⟩) (λA R s=>knd.room A.in1/\∃k xs j p,knd.is s.heap k a/\s.heap.DictOfH knd d xs/\xs.length<=n_/\xs[j]?=a_ (k,p) /\
   ∀h',h'.DictOfH knd d (xs.eraseIdx j)->JY d s.heap h'->R (.ok (.ret p.2)) {s with heap:=h',toks:=s.toks+knd.draws k}):=
 .of_wp λA R s ⟨c,k,xs,j,p,B,Y,hsz,b,h⟩=>by
  have S:=Y;obtain⟨o,es,ep,g,r,m,l,i,q⟩:=S;refine b_ (b_ (KR Y.typeIs ?_));refine fm ?_;have f:(keyPart (s_ a)).isSome=cm:=rfl;refine b_ (IB g m (b_ (fm ?_)));have n:es.isEmpty=cm:=by
   rw[Ph];intro z;have e:=size_of_entries l;rw[z]at e;have:=(oe.mp b).1;simp at e
   lia
  simp[n,];exact b_ (takeOutH c B Y b hsz λh' U I=>(b_ (N_ (fm ⟨p.2,rfl,h h' U I⟩))))
end
noncomputable def Hu(xs:bA)(k:a9):bA:=xs.eraseP λx=>m_ (x.1=k)
noncomputable def AN(ks:List (a9×A'))(k:a9):List (a9×A'):=ks.eraseP λx=>m_ (x.1=k)
theorem BB{k:a9}{v:V}:∀{xs:bA} {vs:List (a9×h_×g_)},Jg dK xs vs->jx xs k=a_ v->∃j p,vs[j]?=a_ (k,p)/\B5 v p.2/\Jg dK (Hu xs k) (vs.eraseIdx j)
 |_,_,.nil,h=>by cases h|x::xs,q::vs,.cons h t,g=>by
  obtain⟨h1,I,B⟩:=h;by_cases e:x.1=k
  .refine⟨0,q.2,by rw[<- e,h1];rfl,(by simpa[jx,e] using g)▸B,?_⟩
   simp_all[Hu]
  .obtain⟨j,p,Y,U,S⟩:=BB t (by simpa only[jx,JK,e,decide_false] using g);refine⟨j+1,p,by simpa using Y,U,?_⟩
   have:Hu (x::xs) k=x::Hu xs k:=by unfold Hu;simp[e]
   exact this▸.cons ⟨h1,I,B⟩ S
theorem bp.del{K:Pn}{F:Hp}{k:a9}:∀{ks:List (a9×A')} {xs:bA},bp K F ks xs->bp K F (AN ks k) (Hu xs k)
 |[],_,h=>by rw[show _=[]from h];rfl|(k',d)::ks,_,⟨b,v,r,e,t,q,z⟩=>by
  subst e;by_cases e:k'=k
  .simp_all[AN,Hu]
  .have:bp K F ((k',d)::AN ks k) _:=⟨b,v,_,rfl,t,q,bp.del z⟩
   simpa[AN,Hu,e] using this
def Av(xs:bA)(k:a9):(Hu xs k).length<=xs.length:=ON (QK ..)
def tPopK(K:Pn)(td ty:TE):TE:=λσ H Q=>td σ H λx H1=>∃a xs ep,x=.ref a/\H1 a=a_ (iW a xs ep)/\ty σ H1 λy H2=>∃b k v,y=.ref b/\H2 a=a_ (iW a xs ep)/\kh K H2 xs/\SqT K H2 b (k.map V.int)/\jx xs k=a_ v/\∀ep',Q v (upd H2 a (iW a (Hu xs k) ep'))
section
variable{o:Jj}{ty:TE}
theorem pe_popK(r:X.A.units+1<IU)(A:PE X o td)(F:PE X e ty)(J: ~~~(Jv o "pop" X.env (Il o X.env)=Il o X.env))(hw: ~~~(((Jy cpos (k_ [e] X.env)).all (λx=> !x.1)&&(LR cpos (KG [] X.env)).all (λx=>x.1.isSome)&&m_ (([e]:List Jj).length+([]:List LA).length+(if ([]:List LA).isEmpty then 0 else 1)<30))=e_))(C: ~~~((apos.endLine==cpos.line)=e_))(w: ~~~(Jy cpos (k_ [e] X.env)=[(cm,Il e X.env)])):PE X (.Call (.Attribute o "pop" apos) [e] [] cpos) (tPopK X.K td ty):=by
 intro B1 s σ H Q I h;refine Sk J hw C KW PK PySem.F.type_dict_pop (B' (A B1 s σ H _ I h) λu s1 U=>?_);obtain⟨x,H1,g,n,a,xs,ep,ex,ea,q1⟩:=U;subst ex;cases(show u=s_ a from n);obtain⟨l,i⟩:=CG g ea;refine⟨l,i,?_⟩
 rw[w];refine Kr rfl (Nz (Mt (B' (F B1 s1 σ H1 _ g q1) λq s2 U=>?_)));obtain⟨y,H2,c,m,b,k,v,N,B,D,t,E,q2⟩:=U;refine Od ?_;subst N;cases(show q=s_ b from m);obtain⟨vs,d,G,hz,f⟩:=nj c B D;obtain⟨j,p,L,g2,K⟩:=BB d E;exact NO PK f.typeIs PySem.F.entry_dict_pop (PySem.F.args_dict_pop_2 _ _) (popH) ⟨KP r,k,vs,j,p,ko c t,f,by exact(Ke d)▸hz,L,λh' Y S=>by obtain⟨ep',z⟩:=nq Y K G (by have:=Av xs k;lia);exact⟨v,_,c.dic B S z,g2,q2 ep'⟩⟩
end
def Dm(i:Nat)(fk:b6):b0:=λρ=>(ki ρ i).bind λks=>(fk ρ).bind λB=>(fV B).bind λk=>if (gZ ks k).isSome=e_ then .ok (.nx (ρ.set i (a_ (.dic (AN ks k)))))else .error .stuck
section
variable{W:bY}{D:Ends}
def rs_popD(hi:i∈O)(t:tS K W ro F0 H0 OL O O (Dm i fk) D σ H):tDrop (tPopK K (oY i) (tD K W cm fk)) D σ H:=by
 obtain⟨FB,F,ρ,r,p⟩:=t;have l:Dm i fk ρ=(ki ρ i).bind λks=>(fk ρ).bind λS=>(fV S).bind λk=>if (gZ ks k).isSome=e_ then .ok _ else .error .stuck:=rfl
 rw[l]at p;cases I:ki ρ i with
 |error e=>have:=rP I;subst this;exact p.stuck (by rw[I];rfl)|ok ks=>
  rw[I]at p;obtain⟨m,e2,a,xs,rfl,⟨ep,f⟩,_,_,z⟩:=r.ow i _ (jE I) hi;refine⟨.ref a,e2,a,xs,ep,rfl,f,(aD r.jQ r.fg (λe h=>p.i7 (r.freeze ad).st (by rw[h];rfl)) λS g w n H2 s2 q2=>?_)⟩
  rw[g]at p;have p:eV K W ro F0 H0 FB OL O D ((fV S).bind λk=>if (gZ ks k).isSome=e_ then .ok _ else .error .stuck):=p;cases B:fV S with
  |error e=>have:=dq B;subst this;exact p.stuck (by rw[B];rfl)|ok k=>
   rw[B]at p;have p:eV K W ro F0 H0 FB OL O D (if (gZ ks k).isSome=e_ then .ok _ else .error .stuck):=p;by_cases c:(gZ ks k).isSome=e_
   .rw[p_ c]at p;obtain⟨b,rfl,t⟩:=fF B q2;have U:=r.gw s2;have d:=z.mono (r.dT s2);have Y:=KS.mp (by exact z.isSome▸c);obtain⟨v,Y⟩:=Y;exact⟨b,k,v,rfl,s2.hh _ _ f,d.key.mono U.st.fh,U.st.fh.tup (r.qR s2 b _ t),Y,λep'=>p σ _ _ (U.wU hi (jE I) rfl e2 λf0 j=>⟨a,_,rfl,⟨ep',aq⟩,f0,j,d.del⟩)⟩
   .rw[q_ c]at p;exact p.stuck rfl
variable{p:Pb}
theorem ds_popD(g:X.A.units+64<IU)(b:DE K W cm X ek fk)(Y:(i∈O)⁻¹)(e: ~~~(X.N[i]?=a_ x))(S:autoParam (Vis X.env.scope x) Jq3)(c:((x==("__debug__":IL))=cm)⁻¹)(I:((x==("__classdict__":IL))=cm)⁻¹)(f: ~~~(X.K=K))(d: ~~~(Jv (.Name x p) "pop" X.env (Il (.Name x p) X.env)=Il (.Name x p) X.env))(hw: ~~~(((Jy q (k_ [ek] X.env)).all (λx=> !x.1)&&(LR q (KG [] X.env)).all (λx=>x.1.isSome)&&m_ (([ek]:List Jj).length+([]:List LA).length+(if ([]:List LA).isEmpty then 0 else 1)<30))=e_))(a: ~~~((apos.endLine==q.line)=e_))(U: ~~~(Jy q (k_ [ek] X.env)=[(cm,Il ek X.env)]))(B: ~~~(J4 (.Call (.Attribute (.Name x p) "pop" apos) [ek] [] q) d_ pos.line X.env=JM cm)):
  DS K W ro X OL O O (.Expr (.Call (.Attribute (.Name x p) "pop" apos) [ek] [] q) pos) (Dm i fk):=λF0 H0=>by
 subst f;exact PS.imp (nT (pe_popK ac (pv i e S c I) b d hw a U) B) λ_ _ _=>rs_popD Y
end
inductive Rws(K:Pn)(F G H:Hp)(a:h_)(rs:List A'):Prop
 |mk (ys:List V) (h:H a=a_ (.lst ys)) (f:F a=d_) (g:G a=d_) (o:wQ K F G H rs ys) (u:∀k:Nat,ys[k]?≠a_ (.ref a))
section
variable{rs:List A'}
theorem Rws.step(z:Rws K F G H a rs)(s:B2 F H F' H'):Rws K F' G H' a rs:=by obtain⟨ys,h,f,g,o,u⟩:=z;exact⟨ys,s.hh _ _ h,s.stays f h,g,o.step s,u⟩
theorem Rws.env(z:Rws K F G H a rs)(s:B2 F0 G F H)(r:fQ K F σ (ρ.set i d_))(v:σ[i]?=a_ (a_ (.ref a))):∃F',B2 F0 G F' H/\fQ K F' σ (ρ.set i (a_ (.lst rs))):=by
 obtain⟨ys,h,f,g,o,u⟩:=z;have B:∀c,(c=a\/∃m:Nat,ys[m]?=a_ _)->F c=d_/\G c=d_:=λc w=>by
  rcases w with z|⟨m,z⟩
  .simp_all
  .obtain⟨_,_,_,_,b,Y,_⟩:=o.at z;exact⟨b,Y⟩
 have S:aM F (plus F H λc=>c=a\/∃m:Nat,ys[m]?=a_ _):=λc w e=>by rw[dh (λq=>by rw[(B c q).1]at e;lia)];exact e
 refine⟨plus F H λc=>c=a\/∃m:Nat,ys[m]?=a_ _,⟨s.ff.trans S,s.hh,λc w e=>?_,λc w e=>?_⟩,?_⟩
 .by_cases I:c=a\/∃m:Nat,ys[m]?=a_ (.ref c)
  .rw[gU I]at e;exact e
  .rw[dh I]at e;exact s.fh c w e
 .by_cases I:c=a\/∃m:Nat,ys[m]?=a_ (.ref c)
  .exact .inr (B c I).2
  .rw[dh I]at e;exact s.nw c w e
 .have q:bh K (plus F H λc=>c=a\/∃m:Nat,ys[m]?=a_ _) (.lst rs) _:=⟨a,ys,rfl,SqL.of (by rw[gU (.inl rfl)];exact h),ay.of_get o.len λm d w e1 e2=>by
   obtain⟨c,k,fs,U,rfl,n,y,x,l⟩:=o.get m d e1;rw[U]at e2;cases e2;exact⟨c,k,rfl,SqL.of (by rw[gU (.inr ⟨m,U⟩)];exact n),l.mono S⟩⟩
  have t:=(r.mono S).set (i:=i) q;have:σ.set i (a_ (.ref a))=σ:=by
   refine Ou λj=>?_;by_cases p:i=j
   .subst p;rw[t_ (oe.mp v).1,v]
   .simp_all
  simp_all
theorem Rws.row(z:Rws K F G H a rs)(s:B2 F0 G F H){es:be}(U:rs[j]?=a_ (.lst es)):∃ys b xs,H a=a_ (.lst ys)/\ys.length=rs.length/\ys[j]?=a_ (.ref b)/\H b=a_ (.lst xs)/\xs.length=es.length /\
  ∀(k:Nat) (x:A') (v:V),bh K F x v->B2 F0 G F (upd H b (.lst (xs.set k v)))/\Rws K F G (upd H b (.lst (xs.set k v))) a (rs.set j (.lst (es.set k x))):=by
 obtain⟨ys,h,f,g,o,u⟩:=z;obtain⟨b,xs,C,B,g2,A,y,t,Y⟩:=o.get j _ U;cases g2;refine⟨ys,b,xs,h,o.len,B,A,Y.length,λk x v q=>⟨⟨s.ff,λc w e=>?_,λc w e=>?_,s.nw⟩,ys,by rw[av (λw=>u j (by exact w▸B))];exact h,f,g,⟨by rw[Ii];exact o.len,λm d e=>?_,o.ap⟩,u⟩⟩
 .rw[av (λw=>by simp_all)];exact s.hh c _ e
 .rw[av (λw=>by simp_all)];exact s.fh c _ e
 .by_cases I:j=m
  .subst I;rw[t_ ((oe.mp U).1)]at e;cases e;exact⟨b,xs.set k v,es.set k x,B,rfl,aq,y,t,ay.set q k Y⟩
  .rw[o_ I]at e;obtain⟨c,i,fs,S,k2,r,p,n,l⟩:=o.get m d e;exact⟨c,i,fs,S,k2,by rw[av (λw=>I (o.ap j m b B (by exact w▸S)))];exact r,p,n,l⟩
end
def lbW(iL:Nat)(r4:b6)(rs:be)(a b:Int)(x:A')(ρ:ab):M B4:=(asI x).bind λx=>(rowAt rs a).bind λI=>(jO rs I b (.int x)).bind λB=>(r4 (ρ.set iL (a_ (.lst B)))).bind λd=>.ok (.rt d)
def lb2(iL:Nat)(t3:cd)(r3:b6)(t4:cd)(fx r4 r5:b6)(rs:be)(a b:Int)(ρ:ab):M B4:=(t3 (ρ.set iL (a_ (.lst rs)))).bind λc=>if c=e_ then(r3 (ρ.set iL (a_ (.lst rs)))).bind λd=>.ok (.rt d)else(t4 (ρ.set iL (a_ (.lst rs)))).bind λc=>if c=e_ then(fx (ρ.set iL (a_ (.lst rs)))).bind λx=>lbW iL r4 rs a b x ρ else(r5 (ρ.set iL (a_ (.lst rs)))).bind λd=>.ok (.rt d)
def lb1(iL i1 i2:Nat)(f1 f2:b6)(t3:cd)(r3:b6)(t4:cd)(fx r4 r5:b6)(rs:be)(ρ:ab):M B4:=(f1 (ρ.set iL (a_ (.lst rs)))).bind λa=>(asI a).bind λa=>(f2 ((ρ.set i1 (a_ (.int a))).set iL (a_ (.lst rs)))).bind λb=>(asI b).bind λb=>lb2 iL t3 r3 t4 fx r4 r5 rs a b ((ρ.set i1 (a_ (.int a))).set i2 (a_ (.int b)))
def sLb(iL i1 i2:Nat)(fc f1 f2:b6)(t3:cd)(r3:b6)(t4:cd)(fx r4 r5:b6):b0:=λρ=>(fc ρ).bind λd=>(Gh d).bind λrs=>lb1 iL i1 i2 f1 f2 t3 r3 t4 fx r4 r5 rs ρ
section
variable{D:Ends}{i1 i2:Nat}{p:Pat}{f1 f2:b6}{t3:cd}{r3:b6}{t4:cd}{r4 r5:b6}
def tLb(K:Pn)(iL i1 i2:Nat)(fi:ce)(ix:List (Option Nat))(p:Pat)(ft:cd)(fe f1 f2:b6)(t3:cd)(r3:b6)(t4:cd)(fx r4 r5:b6):TS:=
 tR (pK iL (iD K D' fi) ix (gP K p) (tDT K D' ft) (tD K D' e_ fe)) (tR (zW (tD K D' cm f1) (gm i1)) (tR (zW (tD K D' cm f2) (gm i2)) (tR (tIfS (tDT K D' t3) (tRet (tD K D' cm r3)) D7) (tR (tIfS (tDT K D' t4) (tR (zW (tD K D' cm fx) (gSub (tOp (rIx K) (oY iL) (oY i1)) (oY i2) rSetL)) (tRet (tD K D' cm r4))) D7) (tRet (tD K D' cm r5))))))
theorem rs_lb(hL:∀ρ d,fe ρ=.ok d->∃es,d=.lst es)(n1:i1≠iL)(n2:i2≠iL)(n12:i2≠i1)(l:iL<σ.length)(l1:i1<σ.length)(l2:i2<σ.length)(t:tS K D' cm F0 H0 OL [] O' (sLb iL i1 i2 (bB fi ix p ft fe) f1 f2 t3 r3 t4 fx r4 r5) D σ H):tLb K iL i1 i2 fi ix p ft fe f1 f2 t3 r3 t4 fx r4 r5 D σ H:=by
 obtain⟨FB,F,ρ,r,q⟩:=t;have rE:=r.repE;have O:=r.st;have q:∀e,sLb iL i1 i2 (bB fi ix p ft fe) f1 f2 t3 r3 t4 fx r4 r5 ρ=e->eV K D' cm F0 H0 FB OL O' D e:=λe h=>by simp_all
 have U:∀e,sLb iL i1 i2 (bB fi ix p ft fe) f1 f2 t3 r3 t4 fx r4 r5 ρ=.error e->False:=λe h=>q _ h;have B:sLb iL i1 i2 (bB fi ix p ft fe) f1 f2 t3 r3 t4 fx r4 r5 ρ=(bB fi ix p ft fe ρ).bind λd=>(Gh d).bind λrs=>lb1 iL i1 i2 f1 f2 t3 r3 t4 fx r4 r5 rs ρ:=rfl;generalize sLb iL i1 i2 (bB fi ix p ft fe) f1 f2 t3 r3 t4 fx r4 r5 ρ=X at B q U;refine BG rE O.fh hL (λe h=>U e (by rw[B,h];rfl)) λrs hrs ys Y H2 s2 ow a ha=>?_;rw[hrs]at B;have B:X=(f1 (ρ.set iL (a_ (.lst rs)))).bind λa=>(asI a).bind λa=>(f2 ((ρ.set i1 (a_ (.int a))).set iL (a_ (.lst rs)))).bind λb=>(asI b).bind λb=>lb2 iL t3 r3 t4 fx r4 r5 rs a b ((ρ.set i1 (a_ (.int a))).set i2 (a_ (.int b))):=B;have sg:B2 Y H2 Y (upd H2 a (.lst ys)):=B2.grow s2.fh ha;have o:=O.trans (s2.trans sg);have z2:Rws K Y H0 (upd H2 a (.lst ys)) a rs:=⟨ys,aq,s2.fh.free ha,(O.trans s2).hh.free ha,(ow.back O.hh).step sg,λk L=>by obtain⟨_,_,_,w,_⟩:=ow.at L;simp_all⟩
 have r2:fQ K Y (σ.set iL (a_ (.ref a))) (ρ.set iL d_):=(rE.mono s2.ff).hide iL (a_ (.ref a));have v2:(σ.set iL (a_ (.ref a)))[iL]?=a_ (a_ (.ref a)):=t_ l;obtain⟨F3,s3,r3'⟩:=z2.env o r2 v2;refine aD r3' s3.fh (λe h=>U e (by rw[B,h];rfl)) λda hda va F4 H4 s4 qa=>?_;rw[hda,ai]at B;cases da with
 |int I=>
  cases(show va=V.int I from qa);have B:X=(f2 ((ρ.set i1 (a_ (.int I))).set iL (a_ (.lst rs)))).bind λb=>(asI b).bind λb=>lb2 iL t3 r3 t4 fx r4 r5 rs I b ((ρ.set i1 (a_ (.int I))).set i2 (a_ (.int b))):=B;have E:B2 Y (upd H2 a (.lst ys)) Y H4:=B2.same o.fh s4.hh;have z4:=z2.step E;have n:=o.trans E;have J:fQ K Y ((σ.set iL (a_ (.ref a))).set i1 (a_ (.int I))) ((ρ.set i1 (a_ (.int I))).set iL d_):=by rw[Se _ _ n1];exact r2.set (d:=.int I) (v:=.int I) rfl i1
  have v4:((σ.set iL (a_ (.ref a))).set i1 (a_ (.int I)))[iL]?=a_ (a_ (.ref a)):=by rw[o_ n1];exact v2
  obtain⟨F5,s5,r5'⟩:=z4.env n J v4;refine aD r5' s5.fh (λe h=>U e (by rw[B,h];rfl)) λdb hdb vb F6 H6 s6 qb=>?_;rw[hdb,ai]at B;cases db with
  |int S=>
   cases(show vb=V.int S from qb);have B:X=lb2 iL t3 r3 t4 fx r4 r5 rs I S ((ρ.set i1 (a_ (.int I))).set i2 (a_ (.int S))):=B;have C:B2 Y H4 Y H6:=B2.same n.fh s6.hh;have z6:=z4.step C;have m:=n.trans C;have G:fQ K Y (((σ.set iL (a_ (.ref a))).set i1 (a_ (.int I))).set i2 (a_ (.int S))) (((ρ.set i1 (a_ (.int I))).set i2 (a_ (.int S))).set iL d_):=by rw[Se _ _ n2];exact J.set (d:=.int S) (v:=.int S) rfl i2
   have u:(((σ.set iL (a_ (.ref a))).set i1 (a_ (.int I))).set i2 (a_ (.int S)))[iL]?=a_ (a_ (.ref a)):=by rw[o_ n2];exact v4
   have w1:(((σ.set iL (a_ (.ref a))).set i1 (a_ (.int I))).set i2 (a_ (.int S)))[i1]?=a_ (a_ (.int I)):=by rw[o_ n12,t_ a7]
   have w2:(((σ.set iL (a_ (.ref a))).set i1 (a_ (.int I))).set i2 (a_ (.int S)))[i2]?=a_ (a_ (.int S)):=by rw[t_ a7]
   generalize (ρ.set i1 (a_ (.int I))).set i2 (a_ (.int S))=f at G B;obtain⟨F7,s7,r7⟩:=z6.env m G u;have B:X=(t3 (f.set iL (a_ (.lst rs)))).bind λc=>if c=e_ then(r3 (f.set iL (a_ (.lst rs)))).bind λd=>.ok (.rt d)else(t4 (f.set iL (a_ (.lst rs)))).bind λc=>if c=e_ then(fx (f.set iL (a_ (.lst rs)))).bind λx=>lbW iL r4 rs I S x f else(r5 (f.set iL (a_ (.lst rs)))).bind λd=>.ok (.rt d):=B
   refine gT r7 s7.fh (λe h=>U e (by rw[B,h];rfl)) λc hc F8 H8 s8=>?_;rw[hc,ai]at B;have A:B2 Y H6 Y H8:=B2.same m.fh s8.hh;have z8:=z6.step A;have i:=m.trans A;obtain⟨F9,s9,r9⟩:=z8.env i G u;cases c with
   |true=>rw[p_ rfl]at B;refine aD r9 s9.fh (λe h=>U e (by rw[B,h];rfl)) λd N v FA R sA qA=>?_;rw[N,ai]at B;exact(show ∀v F' H',B2 F0 H0 F' H'->bh K F' d v->D.rt v H' from q _ B) v FA R (s9.trans sA) qA|false=>
    rw[q_ ad]at B;refine gT r9 s9.fh (λe h=>U e (by rw[B,h];rfl)) λc hc FA R sA=>?_;rw[hc,ai]at B;have z:B2 Y H8 Y R:=B2.same i.fh sA.hh;have zA:=z8.step z;have g:=i.trans z;obtain⟨FB',Z,rB⟩:=zA.env g G u;cases c with
    |false=>rw[q_ ad]at B;refine aD rB Z.fh (λe h=>U e (by rw[B,h];rfl)) λd N v FC HC W qC=>?_;rw[N,ai]at B;exact(show ∀v F' H',B2 F0 H0 F' H'->bh K F' d v->D.rt v H' from q _ B) v FC HC (Z.trans W) qC|true=>
     rw[p_ rfl]at B;refine aD rB Z.fh (λe h=>U e (by rw[B,h];rfl)) λdx hdx vx FC HC W qx=>?_;rw[hdx,ai]at B;have y:B2 Y R Y HC:=B2.same g.fh W.hh;have zC:=zA.step y;have s0C:=g.trans y;cases dx with
     |int s=>
      cases(show vx=V.int s from qx);have B:X=(rowAt rs I).bind λje=>(jO rs je S (.int s)).bind λrs'=>(r4 (f.set iL (a_ (.lst rs')))).bind λd=>.ok (.rt d):=B;cases Q:ixN rs.length I with
      |none=>exact(U .stuck (by rw[B];unfold rowAt;rw[Q];rfl)).elim|some j=>
      cases P:rs[j]? with
      |none=>
       have e1:rowAt rs I=.error .stuck:=by simp[rowAt,Q,P]
       exact(U _ (by rw[B,e1];rfl)).elim
      |some dr=>
      cases dr with
      |lst es=>
       have e1:rowAt rs I=.ok (j,es):=by simp[rowAt,Q,P]
       rw[e1,ai]at B;obtain⟨T,b,xs,g1,g2,g3,g4,g5,g6⟩:=zC.row s0C P;cases L:ixN es.length S with
       |none=>exact(U .stuck (by rw[B];unfold jO;rw[show((j,es):Nat×be).2=es from rfl,L];rfl)).elim|some k=>
        have e2:jO rs (j,es) S (.int s)=.ok (rs.set j (.lst (es.set k (.int s)))):=by unfold jO;rw[show((j,es):Nat×be).2=es from rfl,L]
        rw[e2,ai]at B;refine⟨.ref a,u,.int I,w1,.inl ⟨a,T,I,.ref b,rfl,rfl,SqL.of g1,?_,?_⟩⟩
        .simp_all[atI]
        refine⟨.int S,w2,b,xs,S,k,rfl,rfl,g4,by exact g5▸L,?_⟩
        obtain⟨sD,zD⟩:=g6 k (.int s) (.int s) rfl;obtain⟨FE,sE,rE'⟩:=zD.env sD G u;refine aD rE' sE.fh (λe h=>U e (by rw[B,h];rfl)) λd N v FG HG sG qG=>?_;rw[N,ai]at B;exact(show ∀v F' H',B2 F0 H0 F' H'->bh K F' d v->D.rt v H' from q _ B) v FG HG (sE.trans sG) qG
      |_=>
       have e1:rowAt rs I=.error .stuck:=by simp[rowAt,Q,P]
       exact(U _ (by rw[B,e1];rfl)).elim
     |_=>exact(U _ B).elim
  |_=>exact(U _ B).elim
 |_=>exact(U _ B).elim
theorem ds_lb(U:∀ρ d,fe ρ=.ok d->∃es,d=.lst es)(p':PSs X sts (tLb K iL i1 i2 fi ix p ft fe f1 f2 t3 r3 t4 fx r4 r5))(S:(i1≠iL)⁻¹)(n2:(i2≠iL)⁻¹)(B:(i2≠i1)⁻¹)(l: ~~~((X.N[iL]?).isSome=e_))(a: ~~~((X.N[i1]?).isSome=e_))(Y: ~~~((X.N[i2]?).isSome=e_)):DSs K D' cm X OL [] O' sts (sLb iL i1 i2 (bB fi ix p ft fe) f1 f2 t3 r3 t4 fx r4 r5):=λF0 H0 B1 s σ H D I z=>p' B1 s σ H D I (rs_lb U S n2 B (by rw[I.len];simp_all) (by rw[I.len];simp_all) (by rw[I.len];simp_all) z)
end
theorem yg:∀a b:a9,qX a b=mr a b
 |[],[]=>rfl|[],b::bs=>by rfl|a::as,[]=>by rfl|a::as,b::bs=>by unfold qX qY;rw[yg as bs];rfl
noncomputable def okT(ts:List a9):Bool:=m_ (ts.head? =a_ [])||ts.all λt=> !t.isEmpty
def dc:cc
 |[.dic ks]=>if okT (ks.map (·.1))=e_ then .ok (.lst ((cv mr (ks.map (·.1))).map aR))else stk
 |[.lst ds]=>(gC ds).bind λts=>if okT ts=e_ then .ok (.lst ((cv mr ts).map aR))else stk
 |_=>stk
@[simp]def cZ(ks:List (a9×A')):dc [.dic ks]=if okT (ks.map (·.1))=e_ then .ok (.lst ((cv mr (ks.map (·.1))).map aR))else stk:=id rfl
@[simp]def fH(ds:be):dc [.lst ds]=(gC ds).bind λts=>if okT ts=e_ then .ok (.lst ((cv mr ts).map aR))else stk:=id rfl
section
open PySem.W
variable{s:j_}
def DY{ks:a9}(z:q9 ((zM prog w).is h) ks us):ItemsAre (Nb prog w) ks us:=by
 induction z with
 |nil=>exact .nil|cons q _ B=>obtain⟨t,rfl⟩:=q;exact .cons (by simp[Nb,Ss]) B
def asks_T(S:A.units+8<IU)(I:TKs0 prog w s.heap rs)(B:okT (rs.map JI)=e_)(d:2<=rs.length):Ex prog w A (rk mr (rs.map JI) []) (rs.map λr=>s_ r.2) s:=by
 unfold okT at B;rw[Nk,KJ]at B;rcases B with B|B
 .exact asks_T0 S I B
 .have e:=by funext a b;exact(yg a b).symm
  rw[e];refine asks_tt (λr U=>?_) B d;obtain⟨a,us,e,⟨o,n,h1,c,Y⟩,z⟩:=I r U;cases e;exact⟨o,us.toArray,n,h1,c,Y,by simpa using DY z⟩
end
section
variable{W:bY}
theorem jg(N:X.A.units+64<IU)(G: ~~~(X.calm=e_))(k: ~~~(X.K=K)):kZ K W e_ X (.builtin "sorted") dc:=by
 subst k;intro B1 s σ H xs us Q I w h;obtain⟨F,d,x,s1,rfl,q,p⟩:=gW (λds=>by match ds with|[d]=>simp|[]=>exact .inr rfl|a::b::c=>exact .inr (by cases a<;>rfl)) h;obtain⟨u,rfl,m⟩:=w.one;have n:∀{rs:List (a9×h_)},(∀r∈rs,SqT X.K F r.2 (r.1.map V.int))->∀r∈rs,bh X.K F (aR r.1) (.ref r.2):=λh r Y=>⟨r.2,_,rfl,h r Y,dw r.1⟩
 have U:∀{rs:List (a9×h_)} {h':IF},(∀r∈rs,SqT X.K F r.2 (r.1.map V.int))->(∀b o,s.heap.get? b=a_ o->h'.get? b=a_ o)->TKs0 X.prog X.w h' rs:=λ{rs h'} k B r Y=>tk_keep (Fu I (s1.tup (k r Y))) B;cases d with
 |dic ks=>
  obtain⟨a,rs,rfl,⟨ep,J⟩,z⟩:=q;cases m;have p:aH X.K W e_ F H (if okT (ks.map (·.1))=e_ then .ok (.lst ((cv mr (ks.map (·.1))).map aR))else stk) Q:=p;by_cases S:okT (ks.map (·.1))=e_
  .rw[p_ S]at p;obtain⟨vs,es,i,E,hz,v,C,hsz⟩:=ku I (s1 _ _ J);have A:(rs.map λx=>(x.1,x.2.1)).map JI=ks.map (·.1):=by rw[Cb,<- uG z];rfl
   have g:∀r∈rs.map λx=>(x.1,x.2.1),SqT X.K F r.2 (r.1.map V.int):=λr Y=>by obtain⟨x,y,rfl⟩:=IE.mp Y;exact z.key x y
   rw[<- A]at p S;refine Bu (key:=rk mr ((rs.map λx=>(x.1,x.2.1)).map JI) []) (vs:=(rs.map λx=>(x.1,x.2.1)).map λr=>s_ r.2) (I.ok.hd G) E v (by rw[C,mm i,Cb];rfl) a7 (λL h1 tk B=>?_) λh' D c tk out l B e j=>pL ordI I s1 (n g) a7 p l B e j;exact asks_T (s:={s with heap:=h1,toks:=tk}) ac (U g B) S a7
  .rw[q_ S]at p;exact aH.stuck p
 |lst ds=>
  obtain⟨a,ys,rfl,t,r⟩:=q;cases m;have p:aH X.K W e_ F H ((gC ds).bind λts=>if okT ts=e_ then .ok (.lst ((cv mr ts).map aR))else stk) Q:=p;cases ek:gC ds with
  |error z=>cases mH ek;rw[ek]at p;exact aH.stuck p|ok ts=>
   rw[ek,ai]at p;rw[mG ek]at r;by_cases S:okT ts=e_
   .rw[p_ S]at p;obtain⟨rs,rfl,rfl,g⟩:=wZ r;obtain⟨its,i,pl,hz⟩:=I.list (s1.lst t);have f:=wV i;subst f;rw[l_]at hz;exact nM (key:=rk mr (rs.map JI) []) pl.isList a7 (λL h1 B=>(asks_T (s:={s with heap:=h1}) ac (U g B) S a7)) λh' D c out j l B e=>pL (tk:=s.toks) ordI I s1 (n g) hz p l B e j
   .rw[q_ S]at p;exact aH.stuck p
 |_=>exact aH.stuck p
end
def neKD:A'->cg
 |.dic ks,.dic B=>if qj ks B=e_ then .ok (.bl cm)else .error .stuck
 |_,_=>.error .stuck
@[simp]def e_neKD(ks B:List (a9×A')):neKD (.dic ks) (.dic B)=if qj ks B=e_ then .ok (.bl cm)else .error .stuck:=id rfl
section
open PySem
variable{s:j_}
theorem ne_dicD{vs us:List (a9×h_×g_)}{Q:Mq}(Y:(md prog w).room A.in1)(e:(a==IX)=cm)(d:(b==IX)=cm)(S:s.heap.DictOfH (md prog w) a vs)(I:s.heap.DictOfH (md prog w) b us)(c:vs.length=us.length)(B:∀(j:Nat) (x y:a9×h_×g_),vs[j]?=a_ x->us[j]?=a_ y->x.1=y.1/\LN A.in1 s x.2.2 y.2.2 e_)(U:A.units<IU)(h:Q (.bool cm) s):
  w_ (u_ prog w) A (IP .NotEq (.ref a) (.ref b)) Q E s:=by
 refine MJ (op:=.NotEq) S.typeIs I.typeIs P0 (Ip P0 S.typeIs PySem.F.entry_dict_ne (b_ ?_) (PySem.F.args_dict_ne_2 _ _)) U;refine fm (b_ (Kl I.typeIs PJ ?_));refine b_ (fm (b_ (fm (b_ (Df Y e d S I c B ?_)))));refine fm ⟨_,rfl,?_,?_⟩
 .simp
 simp_all
end
section
variable{W:bY}{own:Bool}
theorem o_neK(z:X.A.units+64<IU)(m: ~~~(X.K=K)):Op2 K W own X (IP .NotEq) neKD:=by
 subst m;rintro B1 s σ H x y v u Q I g f ⟨F,a,b,s1,i,h,p⟩;cases a with
 |dic ks=>
  cases b with
  |dic e=>
   obtain⟨w,xs,rfl,⟨q,h1⟩,d⟩:=i;obtain⟨t,ys,rfl,⟨o,n⟩,c⟩:=h;cases g;cases f;have p':aH X.K W own F H (if qj ks e=e_ then .ok _ else .error .stuck) Q:=p;by_cases U:qj ks e=e_
   .rw[p_ U]at p';obtain⟨vs,j,k,_,r⟩:=nj I (s1 _ _ h1) (d.key.mono s1);obtain⟨us,q1,S,_,Y⟩:=nj I (s1 _ _ n) (c.key.mono s1);obtain⟨l,B⟩:=Fp (A:=X.A.in1) I s1 ac U d c j q1;exact ne_dicD (KP ac) k S r Y l B ac ⟨.bl cm,H,I,rfl,(p' _ F H (B2.refl s1) (by cases own<;>rfl))⟩
   .rw[q_ U]at p';exact aH.stuck p'
  |_=>exact aH.stuck p
 |_=>exact aH.stuck p
def C5:cc
 |[.dic ks]=>.ok (.lst (ks.map λp=>aR p.1))|_=>stk
@[simp]def Cw(ks:List (a9×A')):C5 [.dic ks]=.ok (.lst (ks.map λp=>aR p.1)):=id rfl
theorem wW:∀xs:bA,B6 (xs.map λx=>V.ref x.2.1) (xs.map λx=>s_ x.2.1)
 |[]=>.nil|_::xs=>.cons rfl (wW xs)
theorem uF{F:Hp}:∀{ks:List (a9×A')} {xs:bA},bp K F ks xs->ay K F (ks.map λp=>aR p.1) (xs.map λx=>V.ref x.2.1)
 |[],_,h=>by rw[show _=[]from h];exact ay.nil|(k,d)::ks,_,⟨b,v,r,e,t,q,z⟩=>by subst e;exact ay.cons ⟨b,_,rfl,t,dw k⟩ (uF z)
theorem c_listK(m: ~~~(X.calm=e_))(o: ~~~(X.K=K)):kZ K W e_ X (.type "list") C5:=by
 subst o;intro B1 s σ H xs us Q I i h;obtain⟨F,d,x,s1,rfl,q,p⟩:=gW (λds=>by match ds with|[d]=>simp|[]=>exact .inr rfl|a::b::c=>exact .inr (by cases a<;>rfl)) h;obtain⟨u,rfl,g⟩:=i.one;cases d with
 |dic ks=>
  obtain⟨a,rs,rfl,⟨ep,n⟩,z⟩:=q;cases g;obtain⟨vs,es,U,l,hz,f,Y,hsz⟩:=ku I (s1 _ _ n);have k:es.size=rs.length:=by rw[<- Iu,Y,l_,Ke U]
  refine PySem.W.kdl_call (srcR l) (I.ok.hd m) f (by exact k▸hz) λh' tk acc c j e B=>?_;have ea:acc.toList=rs.map λx=>s_ x.2.1:=by rw[um B,Y,mm U]
  have S:acc=(rs.map λx=>s_ x.2.1).toArray:=by rw[<- ea]
  rw[S]at e;refine⟨.ref s.z,_,I.laid j (f_ _) (show gQ _ h' _ (.lst (rs.map λx=>V.ref x.2.1))from⟨a7,_,c,wW rs,e⟩),rfl,aH.lst p s1 (uF z) (I.hok.fresh (f_ _))⟩
 |_=>exact aH.stuck p
end
end Lake
namespace Tactic
open PySem Lake PyProof.Rows
variable{mg:Ld}{n m i k j q sh N:Nat}{w:JX}{CP c6:h_}{bK:Kw}{d:A'}{t u c:Int}{rows L:List (List Int)}{O:List Nat}{ρ ρ':ab}{R:M B4}{a:b0}{b r:List Int}{it:ab->M (List A')}{ds:List A'}{α β:Type}{v:V}{l x:LK}{ks ls:List LK}{T:List (SK×List Int)}{fk:b6}
def gL:b0:=sIf (fB (f2 ltD (ae 1) (fL lx (aa (ae 0) au)))) (cu (f2 ixD (ae 0) (ae 1))) bJ
def jI:b0:=sIf (fB (f2 eqM (ae 0) (fL bu au))) (cu (a8 0)) bJ
def jz:b0:=aO gL (aO jI (cu (f2 eY (f2 pz (f2 ixD (ae 0) (f2 ig (ae 1) (fL lx (aa (ae 0) au)))) (a8 69621)) (f2 pz (f2 pz (ae 1) (ae 1)) (a8 48271)))))
def b7:cc:=bV 2 2 jz
def fP:b0:=aO (aI [3,5] 7 (fL b7 (aa (ae 0) (aa (f2 eY (f2 eY (ae 1) (f2 pz (ae 2) (ae 4))) (ae 6)) au)))) (kr [3,5] 5 (f2 ixD (fL bu (aa (a8 0) (aa (f2 ig (f2 dI (ae 7) (a8 4)) (a8 10)) (aa (f2 ig (f2 dI (ae 7) (a8 4)) (a8 10)) (aa (f2 ig (f2 dI (ae 7) (a8 4)) (f2 ixD (fL bu (aa (a8 40) (aa (f2 eY (f2 powD (a8 10) (a8 6)) (a8 1)) au))) (f2 ig (f2 dI (ae 7) (a8 4)) (a8 2)))) au))))) (f2 ig (ae 7) (a8 4))))
def ji:b0:=aO (aI [3] 5 (fL bu au)) (aO (jk [3,5] (lE oH (aa (ae 2) au)) (.nm 6) fP) (kr [3] 3 (ae 5)))
def kL:b0:=aO (aI [] 3 (fL bu au)) (aO (jk [3] (lE oH (aa (ae 2) au)) (.nm 4) ji) (cu (ae 3)))
def cV:cc:=bV 8 3 kL
def jH:b0:=sIf (fB (f2 eqM (f2 ig (f2 dI (fL b7 (aa (ae 0) (aa (a8 0) au))) (a8 3)) (a8 3)) (a8 1))) (cu (fL bu (aa (ae 2) (aa (fL cV (aa (ae 0) (aa (f2 eY (a8 3) (f2 pz (ae 1) (ae 1))) (aa (ae 1) au)))) au)))) bJ
def mz:b0:=aO (aI [] 1 (f2 eY (a8 1) (f2 ig (fL b7 (aa (ae 0) (aa (a8 0) au))) (a8 3)))) (aO (aI [] 2 (fL cV (aa (ae 0) (aa (a8 3) (aa (ae 1) au))))) (aO jH (cu (fL bu (aa (ae 2) au)))))
def gY:cc:=bV 3 1 mz
def uw:b0:=aO (aI [] 2 (f2 ig (f2 dI (fL b7 (aa (ae 0) (aa (a8 1) au))) (a8 96)) (a8 4))) (aO (aI [] 3 (f2 ixD (f2 ixD (fL bu (aa (fL bu (aa (a8 8) (aa (a8 8) (aa (a8 6) (aa (a8 5) au))))) (aa (fL bu (aa (a8 6) (aa (a8 4) (aa (a8 3) (aa (a8 3) au))))) au))) (f2 Ep (fL lx (aa (ae 1) au)) (a8 1))) (ae 2))) (cu (fL bT (aa (ae 2) (aa (f2 ig (f2 dI (fL b7 (aa (ae 0) (aa (a8 0) au))) (a8 9)) (f2 eY (ae 3) (a8 1))) au)))))
def ll:cc:=bV 4 2 uw
def kX:b0:=aO (aI [3] 5 (f2 eY (f2 dI (fL b7 (aa (ae 0) (aa (a8 2) au))) (f2 eY (f2 pz (ae 4) (ae 4)) (a8 1))) (f2 pz (f2 pz (a8 17) (ae 4)) (f2 ig (f2 dI (ae 1) (a8 32)) (a8 3))))) (aO (aI [3] 6 (f2 ig (ae 5) (a8 50))) (kr [3] 3 (fL bT (aa (ae 6) (aa (f2 eY (f2 eY (ae 6) (a8 1)) (f2 ig (f2 dI (ae 5) (a8 50)) (a8 9))) au)))))
def mY:b0:=aO (aI [] 1 (fL b7 (aa (ae 0) (aa (a8 1) au)))) (aO (aI [] 2 (f2 ixD (fL bu (aa (f2 ig (ae 1) (a8 4)) (aa (f2 ig (ae 1) (a8 4)) (aa (a8 20) au)))) (f2 dI (f2 ig (f2 dI (ae 1) (a8 4)) (a8 8)) (a8 3)))) (aO (aI [] 3 (fL bu au)) (aO (jk [3] (lE oH (aa (ae 2) au)) (.nm 4) kX) (cu (ae 3)))))
def gH:cc:=bV 7 1 mY
def ke:b0:=aO (aI [4] 6 (fL b7 (aa (ae 0) (aa (f2 eY (ae 1) (f2 pz (a8 3) (ae 5))) au)))) (aO (aI [4] 7 (fL b7 (aa (ae 0) (aa (f2 eY (f2 eY (ae 1) (f2 pz (a8 3) (ae 5))) (a8 1)) au)))) (aO (aI [4] 8 (fL b7 (aa (ae 0) (aa (f2 eY (f2 eY (ae 1) (f2 pz (a8 3) (ae 5))) (a8 2)) au)))) (aO (aI [4] 9 (f2 ig (f2 dI (ae 6) (a8 3)) (f2 ixD (fL bu (aa (a8 20) (aa (a8 20) (aa (a8 60) (aa (f2 pz (a8 9) (f2 powD (a8 10) (a8 8))) au))))) (f2 ig (f2 dI (ae 6) (a8 3)) (a8 4))))) (aO (aI [4] 10 (f2 eY (ae 9) (f2 ig (f2 dI (ae 7) (a8 5)) (f2 ixD (fL bu (aa (a8 5) (aa (a8 30) (aa (a8 80) (aa (f2 powD (a8 10) (a8 6)) (aa (f2 powD (a8 10) (a8 7)) au)))))) (f2 ig (ae 7) (a8 5)))))) (aO (aI [4] 11 (f2 ixD (fL bu (aa (f2 ig (f2 dI (ae 8) (a8 2)) (a8 40)) (aa (f2 ig (f2 dI (ae 8) (a8 2)) (f2 eY (f2 powD (a8 10) (a8 9)) (a8 1))) au))) (f2 ig (ae 8) (a8 2)))) (aO (aI [4] 12 (f2 ixD (fL bu (aa (f2 ig (f2 dI (ae 8) (a8 80)) (a8 5)) (aa (f2 ig (f2 dI (ae 8) (a8 80)) (a8 5)) (aa (f2 ig (f2 dI (ae 8) (a8 80)) (f2 eY (f2 powD (a8 10) (a8 9)) (a8 1))) au)))) (f2 ig (f2 dI (ae 8) (a8 8)) (a8 3)))) (kr [4] 4 (fL bT (aa (f2 ig (ae 6) (ae 2)) (aa (ae 9) (aa (ae 10) (aa (ae 11) (aa (ae 12) au)))))))))))))
def lZ:b0:=aO (aI [] 4 (fL bu au)) (aO (jk [4] (lE oH (aa (ae 3) au)) (.nm 5) ke) (cu (ae 4)))
def fU:cc:=bV 13 4 lZ
def sO:b0:=aO (aI [4] 6 (bB (lE oH (aa (ae 0) au)) [d_,a_ 5] (.nm 0) (fB (f2 qO (ae 0) (ae 1))) (ae 0))) (sExt [4] 4 (bB (fIt (ae 6)) [d_,a_ 1,a_ 3,a_ 5] (.nm 0) (fB (iz leD leD (f1 As (ae 1)) (f2 Ep (ae 0) (ae 2)) (ae 1))) (f2 eY (ae 3) (fL bu (aa (ae 0) au)))))
def sN:b0:=aO (aI [] 4 (fL bu au)) (aO (jk [4] (fIt (ae 2)) (.nm 5) sO) (aI [] 2 (ae 4)))
def vV:b0:=aO (aI [] 2 (fL bu (aa (fL bu au) au))) (aO (jk [] (lE oH (aa (ae 0) au)) (.nm 3) sN) (cu (ae 2)))
def gG:cc:=bV 7 2 vV
def oQ:b0:=cu (fL bT (aa (a8 0) (aa (fL eW (aa (bB (fIt (ae 0)) [d_,a_ 0] (.nm 0) jZ (fL eW (aa (f2 repD (fL bu (aa (f1 As (a8 1)) au)) (fL lx (aa (f2 ixD (ae 1) (a8 0)) au))) au))) au)) au)))
def gb:cc:=bV 1 1 oQ
def jF:b0:=sIf (fB (f2 eqM (ae 2) (fL bu au))) (cu (ae 1)) bJ
def gD:cd:=wN (fC (.bl e_))
def dC:b0:=aO (aI [] 2 (bB (fIt (ae 0)) [d_,d_,a_ 1] (.tp [0,1]) (fB (iz leD ltD (ae 0) (ae 2) (ae 1))) (ae 1))) (aO jF (aI [] 1 (fL maxD (aa (ae 2) au))))
def rq(CR CP:h_)(n:Nat):b0:=mE gD dC n
def jv(CR CP:h_)(n:Nat):cc:=bV 3 2 (rq CR CP n)
def iR:b0:=sIf (fB (f2 eqM (f2 ixD (ae 1) (a8 1)) (f2 ixD (ae 2) (a8 1)))) (cu (f2 ixD (f2 ixD (f2 ixD (ae 0) (a8 0)) (f2 ixD (ae 1) (a8 0))) (f2 ixD (ae 2) (a8 0)))) bJ
def kM:b0:=aO iR (cu (f2 ixD (f2 ixD (f2 ixD (ae 0) (a8 1)) (f2 ixD (ae 1) (a8 0))) (f2 ixD (ae 2) (a8 0))))
def gd:cc:=bV 3 3 kM
def hZ:b0:=sIf (fB (f2 neM (f2 ixD (f2 ixD (f2 ixD (ae 3) (a8 1)) (ae 12)) (ae 13)) (f1 As (a8 1)))) (aI [] 11 (fL maxD (aa (ae 11) (aa (f2 eY (f2 ixD (f2 ixD (f2 ixD (ae 3) (a8 1)) (ae 12)) (ae 13)) (fL gd (aa (ae 0) (aa (fL bT (aa (ae 13) (aa (ae 12) au))) (aa (fL bT (aa (ae 6) (aa (ae 5) au))) au))))) au)))) bJ
def d9:b0:=hZ
def eU:b0:=jk [] (lE oH (aa (fL lx (aa (f2 ixD (ae 0) (a8 0)) au)) au)) (.nm 13) d9
def sI:b0:=sIf (fB (f2 gtD (ae 11) (ae 8))) (cu (fC .non)) bJ
def mZ(CR CP:h_)(n:Nat):b0:=aO (xy [] (.tp [6,7,8,9,10]) (f2 ixD (ae 1) (ae 4))) (aO (aI [] 11 (ae 7)) (aO (jk [] (lE oH (aa (fL lx (aa (ae 0) au)) au)) (.nm 12) eU) (aO (aI [] 11 (fL (jv CR CP n) (aa (ae 2) (aa (ae 11) au)))) (aO sI (aO (vh 14 (bB (fIt (f2 ixD (ae 3) (a8 1))) [d_] (.nm 0) jZ (fL gI (aa (ae 0) au))) (ae 11) (ae 5) (ae 6)) (cu (fL bT (aa (f2 eY (f2 ixD (ae 3) (a8 0)) (f2 pz (ae 10) (fL maxD (aa (a8 0) (aa (f2 Ep (ae 11) (ae 9)) au))))) (aa (fL eW (aa (bB (fIt (ae 14)) [d_] (.nm 0) jZ (fL eW (aa (ae 0) au))) au)) au)))))))))
def cG(CR CP:h_)(n:Nat):cc:=bV 15 6 (mZ CR CP n)
def iC:b6:=fL bT au
def iA:b6:=fL gb (aa (ae 0) au)
def ip:ce:=lE BE (aa (a8 1) (aa (f2 eY (fL lx (aa (ae 1) au)) (a8 1)) au))
def e8:ce:=fIt (ae 4)
def cB:b6:=fL bT (aa (fL eW (aa (fL fT (aa (fSl dU (ae 8) nU (mn (ae 6))) au)) au)) (aa (f2 ixD (ae 8) (f2 Ep (ae 6) (a8 1))) au))
def cA:b6:=fL eW (aa (fL fT (aa (fSl dU (ae 8) nU (mn (f2 Ep (ae 6) (a8 1)))) au)) au)
def c9:b6:=f2 ixD (ae 9) (a8 0)
def c8:b6:=ae 10
def bx:ce:=lE oH (aa (fL lx (aa (ae 0) au)) au)
def aY(CR CP:h_)(n:Nat):b6:=fL (cG CR CP n) (aa (ae 0) (aa (ae 1) (aa (ae 2) (aa (ae 12) (aa (f2 ixD (ae 9) (a8 1)) (aa (ae 13) au))))))
def aP:cd:=fAnd (fB (f2 xZ (ae 14) (fC .non))) (fB (f2 qO (ae 14) (ae 11)))
def ux(CR CP:h_)(n:Nat):b0:=aO (aI [] 4 (fL gG (aa (fL lx (aa (ae 1) au)) (aa (ae 3) au)))) (A7 5 7 8 6 9 10 11 12 13 14 iC iA ip e8 cA cB c9 c8 bx (aY CR CP n) aP)
def j9(CR CP:h_)(n:Nat):cc:=bV 15 4 (ux CR CP n)
def mX:b0:=cu (bB (fIt (ae 0)) [d_] (.nm 0) jZ (fL gI (aa (ae 0) au)))
def gF:cc:=bV 1 1 mX
def uN:b0:=sIf (fOr (fNot (wN (f1 pS (ae 0)))) (wN (f1 jc (ae 0)))) (cu (fC (.bl cm))) bJ
def Cm:b0:=aO uN (cu (iz leD leD (a8 0) (ae 0) (a8 1000000)))
def lj:cc:=bV 1 1 Cm
def oN:b0:=cu (E8 (f1 mU (ae 0)) (E8 (f2 eqM (fL lx (aa (ae 0) au)) (ae 1)) (fL allD (aa (bB (fIt (ae 0)) [d_] (.nm 0) jZ (fL lj (aa (ae 0) au))) au))))
def dW:cc:=bV 2 2 oN
def kc:b0:=sIf (fNot (fB (iz leD leD (a8 1) (ae 1) (a8 6)))) sStk bJ
def k9:b0:=sIf (fNot (wN (fL allD (aa (bB (fIt (ae 0)) [d_,a_ 1] (.nm 0) jZ (fL dW (aa (ae 0) (aa (ae 1) au)))) au)))) sStk bJ
def lY:b0:=aO (aI [] 1 (fL lx (aa (ae 0) au))) (aO kc (aO k9 (cu (fL gF (aa (ae 0) au)))))
def aF:cc:=bV 2 1 lY
def iP(CR CP:h_)(n:Nat):b0:=sIf (fB (f2 eqM (fL lx (aa (ae 0) au)) (a8 2))) (cu (fL (newP CP aF) (aa (f2 ixD (ae 0) (a8 0)) (aa (f2 ixD (ae 0) (a8 1)) au)))) bJ
def kK(CR CP:h_)(n:Nat):b0:=aO (iP CR CP n) (cu (fL (newR CR aF) (aa (f2 ixD (ae 0) (a8 0)) au)))
def dX(CR CP:h_)(n:Nat):cc:=bV 1 1 (kK CR CP n)
def dz:b0:=sIf (fB (f2 gtD (f2 ixD (ae 0) (a8 0)) (f2 ixD (ae 1) (a8 0)))) (cu (fC (.bl cm))) bJ
def jh:b0:=sIf (fB (f2 neM (bB (lE oH (aa (fL lx (aa (ae 2) au)) au)) [d_,a_ 2,a_ 3] (.nm 0) (fB (f2 gtD (f2 ixD (ae 1) (ae 0)) (f2 ixD (ae 2) (ae 0)))) (ae 0)) (fL bu au))) (cu (fC (.bl cm))) bJ
def fO:b0:=jh
def eI:b0:=aO dz (aO (jk [] (yC (f2 ixD (ae 0) (a8 1)) (f2 ixD (ae 1) (a8 1))) (.tp [2,3]) fO) (cu (fC (.bl e_))))
def aU:cc:=bV 4 2 eI
def iQ:b0:=sIf (fB (f2 eqM (bB (fIt (ae 0)) [d_,a_ 2] (.nm 0) (fAnd (fB (f2 neM (ae 0) (ae 1))) (wN (fL aU (aa (ae 0) (aa (ae 1) au))))) (ae 0)) (fL bu au))) (kr [1] 1 (ae 2)) bJ
def cQ:b0:=iQ
def oP:b0:=aO (aI [] 1 (fL bu au)) (aO (jk [1] (fIt (ae 0)) (.nm 2) cQ) (cu (fL zY (aa (ae 1) au))))
def il:cc:=bV 3 1 oP
def dQ:b6:=f2 ig (ae 2) (fL lx (aa (ae 3) au))
def cJ:b6:=f2 ig (f2 dI (ae 2) (a8 2)) (fL lx (aa (f2 ixD (ae 3) (ae 4)) au))
def cD:cd:=fB (f2 eqM (ae 1) (a8 3))
def dP:b6:=fL bT (aa (f2 eY (f2 ixD (ae 0) (a8 0)) (a8 1)) (aa (f2 ixD (ae 0) (a8 1)) au))
def cC:cd:=fB (f2 eqM (ae 1) (a8 4))
def cI:b6:=f2 Ep (f2 ixD (f2 ixD (ae 3) (ae 4)) (ae 5)) (fL intD (aa (f2 gtD (f2 ixD (f2 ixD (ae 3) (ae 4)) (ae 5)) (a8 0)) au))
def cH:b6:=fL bT (aa (f2 ixD (ae 0) (a8 0)) (aa (fL eW (aa (bB (fIt (ae 3)) [d_] (.nm 0) jZ (fL eW (aa (ae 0) au))) au)) au))
def dO:b6:=fL bT (aa (f2 eY (f2 ixD (ae 0) (a8 0)) (a8 7)) (aa (f2 ixD (ae 0) (a8 1)) au))
def fG:b0:=sLb 3 4 5 (bB (fIt (f2 ixD (ae 0) (a8 1))) [d_] (.nm 0) jZ (fL gI (aa (ae 0) au))) dQ cJ cD dP cC cI cH dO
def bO:cc:=bV 6 3 fG
def iE:b0:=sIf (fB (f2 eqM (ae 1) (a8 1))) (cu (f1 revD (ae 0))) bJ
def nI:b0:=sIf (fOr (fB (f2 eqM (ae 0) (fL bu au))) (fB (f2 eqM (ae 1) (a8 9)))) (cu (fL bu au)) bJ
def nH:b0:=sIf (fB (f2 eqM (ae 1) (a8 2))) (cu (f2 eY (fSl dU (ae 0) nU (mn (ae 3))) (fSl dU (ae 0) (mn (f2 eY (ae 3) (a8 1))) nU))) bJ
def nG:b0:=sIf (fOr (fB (f2 eqM (ae 1) (a8 3))) (fB (f2 eqM (ae 1) (a8 4)))) (cu (f2 eY (f2 eY (fSl dU (ae 0) nU (mn (ae 3))) (fL bu (aa (fL bO (aa (f2 ixD (ae 0) (ae 3)) (aa (ae 1) (aa (f2 dI (ae 2) (a8 7)) au)))) au))) (fSl dU (ae 0) (mn (f2 eY (ae 3) (a8 1))) nU))) bJ
def nF:b0:=sIf (fB (f2 eqM (ae 1) (a8 5))) (cu (f2 eY (ae 0) (fL bu (aa (f2 ixD (ae 0) (ae 3)) au)))) bJ
def nE:b0:=sIf (fB (f2 eqM (ae 1) (a8 6))) (cu (f2 eY (ae 0) (fL bu (aa (fL bO (aa (f2 ixD (ae 0) (ae 3)) (aa (ae 1) (aa (ae 2) au)))) au)))) bJ
def gz:b0:=aO iE (aO nI (aO (aI [] 3 (f2 ig (f2 dI (ae 2) (a8 12)) (fL lx (aa (ae 0) au)))) (aO nH (aO nG (aO nF (aO nE (cu (ae 0))))))))
def bX:cc:=bV 4 3 gz
def gN:b0:=sIf (fB (f2 eqM (ae 6) (a8 7))) (Dm 7 (ae 4)) bJ
def eQ:b0:=sIf (fAnd (fB (f2 eqM (ae 6) (a8 8))) (fB (f2 neM (ae 8) (fL bu au)))) (jP 7 (f2 ixD (ae 8) (f1 As (a8 1))) (fL gI (aa (f2 wM (ae 0) (fL bT au)) au))) bJ
def gM:b0:=sIf (fB (f2 eqM (ae 6) (a8 10))) (aO (jP 7 (ae 4) (f2 wM (ae 0) (ae 5))) (aO (jP 7 (ae 5) (f2 wM (ae 0) (ae 4))) bJ)) bJ
def rC:b0:=aO (aI [] 3 (fL dc (aa (ae 0) au))) (aO (aI [] 4 (f2 ixD (ae 3) (f2 ig (f2 ig (f2 pz (ae 1) (a8 48271)) (a8 65537)) (fL lx (aa (ae 3) au))))) (aO (aI [] 5 (f2 ixD (ae 3) (f2 ig (f2 ig (f2 pz (ae 1) (a8 69621)) (a8 65521)) (fL lx (aa (ae 3) au))))) (aO (aI [] 6 (f2 ig (ae 1) (a8 12))) (aO (aI [] 7 (fL dictC (aa (ae 0) au))) (aO (jP 7 (ae 4) (fL bX (aa (f2 wM (ae 0) (ae 4)) (aa (ae 6) (aa (ae 1) au))))) (aO gN (aO (aI [7] 8 (bB (lE oH (aa (ae 2) au)) [d_,a_ 0] (.nm 0) (fB (f2 qP (fL bT (aa (ae 0) au)) (ae 1))) (fL bT (aa (ae 0) au)))) (aO eQ (aO gM (cu (ae 7)))))))))))
def fE:cc:=bV 9 3 rC
def tJ(R:cc):b0:=sIf (fB (f2 eqM (ae 1) (a8 0))) (cu (fL bu (aa (fL bT au) au))) bJ
def tL(R:cc):b0:=kr [2] 2 (f2 eY (fL bT (aa (ae 4) au)) (ae 5))
def tK(R:cc):b0:=jk [2] (fIt (fL R (aa (fSl dU (ae 0) (mn (f2 eY (ae 3) (a8 1))) nU) (aa (f2 Ep (ae 1) (a8 1)) au)))) (.nm 5) (tL R)
def oO(R:cc):b0:=aO (tJ R) (aO (aI [] 2 (fL bu au)) (aO (jk [2] (fEnum (ae 0)) (.tp [3,4]) (tK R)) (cu (ae 2))))
def e9:Nat->b0
 |0=>λ_=>stk|d+1=>oO (bV 6 2 (e9 d))
def kA:cc:=bV 6 2 (e9 6)
def rp:b0:=aO (aI [] 3 (fTR (lE oH (aa (fL maxD (aa (a8 0) (aa (f2 Ep (ae 2) (ae 1)) au))) au)))) (aO (aI [] 4 (fLR (lE BE (aa (fL lx (aa (ae 3) au)) (aa (fL minD (aa (ae 0) (aa (f2 eY (ae 2) (ae 1)) au))) au))))) (cu (bB (fIt (fL kA (aa (ae 4) (aa (f2 Ep (ae 2) (fL lx (aa (ae 3) au))) au)))) [d_,a_ 3] (.nm 0) jZ (f2 eY (ae 1) (ae 0)))))
def gX:cc:=bV 5 3 rp
def jX:b0:=cu (bB (rG (ae 0)) [d_,d_,a_ 0] (.tp [0,1]) jZ (fL bT (aa (f2 eY (fSl dU (ae 2) nU (mn (ae 0))) (fSl dU (ae 2) (mn (f2 eY (ae 0) (a8 1))) nU)) (aa (ae 1) au))))
def cM:cc:=bV 1 1 jX
def sM:b0:=Fq 4 (ae 5) (fL sumD (aa (bB (fIt (fL cM (aa (ae 5) au))) [d_,d_,a_ 2] (.tp [0,1]) jZ (yD (ae 2) (ae 0) (a8 0))) au))
def sJ:b0:=aO (aI [] 4 (fC (.dic []))) (aO (jk [4] (fIt (fL gX (aa (ae 0) (aa (ae 1) (aa (ae 3) au))))) (.nm 5) sM) (aI [] 2 (ae 4)))
def vU:b0:=aO (aI [] 2 (f2 mkD1 (fL bT au) (a8 1))) (aO (jk [] (lE BE (aa (a8 1) (aa (f2 eY (ae 0) (a8 1)) au))) (.nm 3) sJ) (cu (f1 sumVD (ae 2))))
def dj:cc:=bV 6 2 vU
def hG:b0:=cu (a8 1)
def br:cc:=bV 1 1 hG
def iu:b0:=cu (a8 2)
def bC:cc:=bV 1 1 iu
def fW(CR CP:h_)(n:Nat):b0:=aI [] 3 (f2 pz (ae 3) (gn CR CP "many_strips" (br) bC (ae 0) au))
def oK(CR CP:h_)(n:Nat):b0:=aO (aI [] 3 (fL dj (aa (ae 1) (aa (ae 2) au)))) (aO (jk [] (lE oH (aa (ae 1) au)) (.nm 4) (fW CR CP n)) (cu (ae 3)))
def ij(CR CP:h_)(n:Nat):cc:=bV 5 3 (oK CR CP n)
def hX(CR CP:h_)(n:Nat):b0:=sIf (fB (f2 gtD (fL (ij CR CP n) (aa (ae 0) (aa (fL lx (aa (ae 1) au)) (aa (ae 2) au)))) (a8 5000))) sStk bJ
def jd(CR CP:h_)(n:Nat):b0:=hX CR CP n
def di(CR CP:h_)(n:Nat):cc:=bV 3 3 (jd CR CP n)
def nK:b0:=sExt [2] 2 (fL gX (aa (ae 0) (aa (ae 1) (aa (ae 3) au))))
def pA:b0:=aO (aI [] 2 (fL bu au)) (aO (jk [2] (lE oH (aa (f2 eY (ae 0) (a8 1)) au)) (.nm 3) nK) (cu (ae 2)))
def dN:cc:=bV 4 2 pA
def dE:b0:=sIf (fAnd (wN (ae 1)) (fB (f2 leD (ae 2) (f2 ixD (f2 ixD (ae 1) (f1 As (a8 1))) (a8 1))))) (Dl 1 (f1 As (a8 1)) (fL bT (aa (f2 ixD (f2 ixD (ae 1) (f1 As (a8 1))) (a8 0)) (aa (fL maxD (aa (ae 3) (aa (f2 ixD (f2 ixD (ae 1) (f1 As (a8 1))) (a8 1)) au))) au)))) (kr [1] 1 (fL bT (aa (ae 2) (aa (ae 3) au))))
def cw:b0:=dE
def ir:b0:=aO (aI [] 1 (fL bu au)) (aO (jk [1] (fIt (fL fT (aa (ae 0) au))) (.tp [2,3]) cw) (cu (ae 1)))
def cR:cc:=bV 4 1 ir
def nC:b0:=sIf (fB (iz leD ltD (ae 2) (ae 1) (ae 3))) (cu (ae 3)) bJ
def jJ:b0:=nC
def my:b0:=aO (jk [] (fIt (fL cR (aa (ae 0) au))) (.tp [2,3]) jJ) (cu (ae 1))
def fD:cc:=bV 4 2 my
def oM:b0:=aO (vh 3 (bB (fIt (ae 0)) [d_] (.nm 0) jZ (fL gI (aa (ae 0) au))) (ae 2) (f2 ixD (ae 1) (a8 1)) (f2 ixD (ae 1) (a8 0))) (cu (fL eW (aa (bB (fIt (ae 3)) [d_] (.nm 0) jZ (fL eW (aa (ae 0) au))) au)))
def ik:cc:=bV 4 3 oM
def rn:b0:=aO (aI [] 2 (f2 ixD (ae 0) (a8 3))) (aO (aI [] 3 (f2 ixD (ae 0) (a8 4))) (cu (f2 pz (ae 3) (fL maxD (aa (a8 0) (aa (f2 Ep (ae 1) (ae 2)) au))))))
def jt:cc:=bV 4 2 rn
def n5(CR CP:h_)(n:Nat):b0:=cu (f2 ixD (f2 ixD (f1 (zy [CR,CP] "gaps") (ae 0)) (f2 ixD (ae 1) (a8 0))) (f2 ixD (ae 2) (a8 0)))
def eD(CR CP:h_)(n:Nat):cc:=bV 3 3 (n5 CR CP n)
def kN(CR CP:h_)(n:Nat):b0:=aO (aI [] 3 (fIte (fB (f2 eqM (f2 ixD (ae 1) (a8 1)) (f2 ixD (ae 2) (a8 1)))) (f1 (zy [CR,CP] "gaps") (ae 0)) (f1 (zy [CP] "beside") (ae 0)))) (cu (f2 ixD (f2 ixD (ae 3) (f2 ixD (ae 1) (a8 0))) (f2 ixD (ae 2) (a8 0))))
def dZ(CR CP:h_)(n:Nat):cc:=bV 4 3 (kN CR CP n)
def eN(CR CP:h_)(n:Nat):b0:=sIf (fB (f2 neM (ae 7) (f1 As (a8 1)))) (kr [3] 3 (f2 eY (ae 7) (gn CR CP "apart" (eD CR CP n) (dZ CR CP n) (ae 0) (aa (fL bT (aa (ae 6) (aa (ae 4) au))) (aa (ae 2) au))))) bJ
def cf(CR CP:h_)(n:Nat):b0:=eN CR CP n
def cS(CR CP:h_)(n:Nat):b0:=jk [3] (rG (ae 5)) (.tp [6,7]) (cf CR CP n)
def jY(CR CP:h_)(n:Nat):b0:=aO (aI [] 3 (fL bu au)) (aO (jk [3] (rG (ae 1)) (.tp [4,5]) (cS CR CP n)) (cu (ae 3)))
def dM(CR CP:h_)(n:Nat):cc:=bV 8 3 (jY CR CP n)
def pI:b0:=sIf (fB (f2 gtD (ae 8) (f2 ixD (ae 6) (a8 2)))) (cu (fC .non)) bJ
def lX(CR CP:h_)(n:Nat):b0:=aO (aI [] 6 (f2 ixD (ae 1) (ae 4))) (aO (aI [] 7 (fL bT (aa (f2 ixD (ae 6) (a8 0)) (aa (ae 5) au)))) (aO (aI [] 8 (fL fD (aa (ae 2) (aa (fL maxD (aa (f2 eY (fL bu (aa (f2 ixD (ae 6) (a8 1)) au)) (fL (dM CR CP n) (aa (ae 0) (aa (f2 ixD (ae 3) (a8 1)) (aa (ae 7) au))))) au)) au)))) (aO pI (cu (fL bT (aa (f2 eY (f2 ixD (ae 3) (a8 0)) (fL jt (aa (ae 6) (aa (ae 8) au)))) (aa (fL ik (aa (f2 ixD (ae 3) (a8 1)) (aa (ae 7) (aa (ae 8) au)))) au)))))))
def cO(CR CP:h_)(n:Nat):cc:=bV 9 6 (lX CR CP n)
def fN:b0:=sIf (fB (f2 xZ (ae 10) (fC .non))) (tX 5 (ae 10) (fC (.bl e_))) bJ
def cz(CR CP:h_)(n:Nat):b0:=aO (aI [5] 10 (fL (cO CR CP n) (aa (ae 0) (aa (ae 1) (aa (ae 2) (aa (ae 8) (aa (ae 7) (aa (ae 9) au)))))))) (fN)
def dB(CR CP:h_)(n:Nat):b0:=jk [5] (lE oH (aa (gn CR CP "many_strips" (br) bC (ae 0) au) au)) (.nm 9) (cz CR CP n)
def dA(CR CP:h_)(n:Nat):b0:=jk [5] (fIt (yD (ae 3) (ae 6) (fL bu au))) (.nm 8) (dB CR CP n)
def kI(CR CP:h_)(n:Nat):b0:=aO (aI [] 5 (fC (.dil []))) (aO (jk [5] (fIt (fL cM (aa (ae 4) au))) (.tp [6,7]) (dA CR CP n)) (cu (ae 5)))
def eC(CR CP:h_)(n:Nat):cc:=bV 11 5 (kI CR CP n)
def eP:b0:=sIf (fB (f2 gtD (f2 ixD (ae 0) (a8 0)) (f2 ixD (ae 1) (a8 0)))) (cu (fC (.bl cm))) bJ
def kT:b0:=sIf (fB (f2 gtD (ae 4) (ae 5))) (cu (fC (.bl cm))) bJ
def i3:b0:=kT
def kW:b0:=jk [] (yC (ae 2) (ae 3)) (.tp [4,5]) i3
def gJ:b0:=aO eP (aO (jk [] (yC (f2 ixD (ae 0) (a8 1)) (f2 ixD (ae 1) (a8 1))) (.tp [2,3]) kW) (cu (fC (.bl e_))))
def cF:cc:=bV 6 2 gJ
def gA:b0:=sIf (wN (fL cF (aa (ae 2) (aa (ae 1) au)))) (cu (fC (.bl e_))) bJ
def bF:b0:=gA
def iI:b0:=aO (jk [] (fItL (ae 0)) (.nm 2) bF) (cu (fC (.bl cm)))
def cP:cc:=bV 3 2 iI
def eJ(CR CP:h_)(n:Nat):b0:=cu (fL lx (aa (f1 (zy [CR,CP] "gaps") (ae 0)) au))
def b8(CR CP:h_)(n:Nat):cc:=bV 1 1 (eJ CR CP n)
def jy(CR CP:h_)(n:Nat):b0:=aO (aI [] 1 (fL eW (aa (bB (lE oH (aa (gn CR CP "many_kinds" (b8 CR CP n) (b8 CR CP n) (ae 0) au) au)) [d_] (.nm 0) jZ (f1 As (a8 1))) au))) (cu (fL bT (aa (a8 0) (aa (fL eW (aa (bB (lE oH (aa (gn CR CP "many_strips" (br) bC (ae 0) au) au)) [d_,a_ 1] (.nm 0) jZ (ae 1)) au)) au))))
def ju(CR CP:h_)(n:Nat):cc:=bV 2 1 (jy CR CP n)
def oA(CR CP:h_)(n:Nat):b0:=sIf (fB (f2 eqM (ae 4) (fL bT au))) (cu (f2 eqM (f2 wM (ae 3) (ae 4)) (fL bu (aa (fL (ju CR CP n) (aa (ae 0) au)) au)))) bJ
def oz:b0:=sIf (fNot (wN (fL allD (aa (bB (fItL (ae 6)) [d_,a_ 5] (.nm 0) jZ (f2 inLD (ae 0) (ae 1))) au)))) (cu (fC (.bl cm))) bJ
def kJ(CR CP:h_)(n:Nat):b0:=aO (oA CR CP n) (aO (aI [] 5 (fL (eC CR CP n) (aa (ae 0) (aa (ae 1) (aa (ae 2) (aa (ae 3) (aa (ae 4) au))))))) (aO (aI [] 6 (fL CF (aa (bB (fIt (f2 wM (ae 3) (ae 4))) [d_] (.nm 0) jZ (fL bT (aa (ae 0) (aa (fC (.bl e_)) au)))) au))) (aO oz (cu (fL allD (aa (bB (fItL (ae 5)) [d_,a_ 6] (.nm 0) (fB (f2 vD (ae 0) (ae 1))) (fL cP (aa (ae 1) (aa (ae 0) au)))) au))))))
def cy(CR CP:h_)(n:Nat):cc:=bV 7 5 (kJ CR CP n)
def zh:b0:=sIf (fB (f2 neM (fL dc (aa (ae 4) au)) (fL dc (aa (ae 5) au)))) (cu (fC (.bl cm))) bJ
def ur(CR CP:h_)(n:Nat):b0:=aO (tY [] (fL (di CR CP n) (aa (ae 0) (aa (ae 1) (aa (ae 3) au))))) (aO (aI [] 5 (fL dN (aa (fL lx (aa (ae 1) au)) (aa (ae 3) au)))) (aO zh (cu (fL allD (aa (bB (fIt (ae 5)) [d_,a_ 0,a_ 1,a_ 2,a_ 4] (.nm 0) jZ (fL (cy CR CP n) (aa (ae 1) (aa (ae 2) (aa (ae 3) (aa (ae 4) (aa (ae 0) au))))))) au)))))
def j7(CR CP:h_)(n:Nat):cc:=bV 6 5 (ur CR CP n)
def jG:b0:=sIf (fB (f2 xZ (ae 10) (fC .non))) (kr [5] 5 (ae 10)) bJ
def eR(CR CP:h_)(n:Nat):b0:=aO (aI [5] 10 (fL (cG CR CP n) (aa (ae 0) (aa (ae 1) (aa (ae 2) (aa (ae 8) (aa (ae 6) (aa (ae 9) au)))))))) (jG)
def gO(CR CP:h_)(n:Nat):b0:=jk [5] (lE oH (aa (fL lx (aa (ae 0) au)) au)) (.nm 9) (eR CR CP n)
def jK(CR CP:h_)(n:Nat):b0:=aO (aI [5] 7 (fL eW (aa (bB (fIt (ae 4)) [d_,a_ 6] (.nm 0) (fB (f2 neM (ae 0) (ae 1))) (ae 0)) au))) (jk [5] (fIt (yD (ae 3) (ae 7) (fL bu au))) (.nm 8) (gO CR CP n))
def rA(CR CP:h_)(n:Nat):b0:=aO (aI [] 5 (fL bu au)) (aO (jk [5] (fIt (ae 4)) (.nm 6) (jK CR CP n)) (cu (ae 5)))
def jw(CR CP:h_)(n:Nat):cc:=bV 11 5 (rA CR CP n)
def oT:b0:=sIf (fOr (fB (f2 neM (fL dc (aa (ae 3) au)) (fL dc (aa (ae 4) au)))) (fB (f2 neM (f2 wM (ae 3) (fL bT au)) (fL bu (aa (fL gb (aa (ae 0) au)) au))))) (cu (fC (.bl cm))) bJ
def zm:b0:=sIf (fB (f2 neM (bB (fIt (f2 wM (ae 3) (ae 5))) [d_,a_ 6] (.nm 0) (fB (f2 qO (ae 0) (ae 1))) (ae 0)) (fL bu au))) (cu (fC (.bl cm))) bJ
def zi:b0:=sIf (fB (f2 eqM (bB (fIt (f2 wM (ae 3) (ae 5))) [d_,a_ 7] (.nm 0) (wN (fL aU (aa (ae 0) (aa (ae 1) au)))) (ae 0)) (fL bu au))) (cu (fC (.bl cm))) bJ
def oW:b0:=zi
def kU(CR CP:h_)(n:Nat):b0:=sIf (fB (f2 neM (ae 5) (fL bT au))) (aO (aI [] 6 (fL (jw CR CP n) (aa (ae 0) (aa (ae 1) (aa (ae 2) (aa (ae 3) (aa (ae 5) au))))))) (aO zm (jk [] (fIt (ae 6)) (.nm 7) oW))) bJ
def oV(CR CP:h_)(n:Nat):b0:=kU CR CP n
def og(CR CP:h_)(n:Nat):b0:=aO oT (aO (jk [] (fIt (ae 4)) (.nm 5) (oV CR CP n)) (cu (fC (.bl e_))))
def j8(CR CP:h_)(n:Nat):cc:=bV 8 5 (og CR CP n)
def wD:b0:=jP 7 (ae 8) (fL il (aa (f2 wM (ae 6) (ae 8)) au))
def c_law_2:b0:=sIf (fOr (fNot (wN (f1 jc (ae 13)))) (fB (f2 neM (ae 13) (ae 14)))) (cu (fC (.bl cm))) bJ
def c_law_3:b0:=sIf (fB (f2 neKD (ae 12) (ae 11))) (cu (fC (.bl cm))) bJ
def wC(CR CP:h_)(n:Nat):b0:=aO (aI [] 12 (fL dictA (aa (bB (oi (ae 11)) [d_,d_] (.tp [0,1]) jZ (fL bT (aa (ae 0) (aa (fL gI (aa (ae 1) au)) au)))) au))) (aO (aI [] 13 (fL (j7 CR CP n) (aa (ae 9) (aa (fL gI (aa (ae 5) au)) (aa (fL gI (aa (ae 4) au)) (aa (ae 2) (aa (ae 12) au))))))) (aO (aI [] 14 (fL (j8 CR CP n) (aa (ae 1) (aa (ae 5) (aa (ae 4) (aa (ae 11) (aa (fL C5 (aa (ae 6) au)) au))))))) (aO c_law_2 (c_law_3))))
def g_law(CR CP:h_)(n:Nat):b0:=aO (aI [] 1 (fL gY (aa (ae 0) au))) (aO (xy [] (.tp [2,3]) (fL ll (aa (ae 0) (aa (ae 1) au)))) (aO (aI [] 4 (fL gH (aa (ae 0) au))) (aO (aI [] 5 (fL fU (aa (ae 0) (aa (a8 21) (aa (fL lx (aa (f2 ixD (ae 1) (a8 0)) au)) (aa (ae 3) au)))))) (aO (aI [] 6 (fL (j9 CR CP n) (aa (ae 1) (aa (ae 5) (aa (ae 4) (aa (ae 2) au)))))) (aO (aI [] 7 (fC (.dic []))) (aO (jk [7] (uE (ae 6)) (.nm 8) wD) (aO (aI [] 9 (fL (dX CR CP n) (aa (ae 1) au))) (aO (aI [] 10 (fL b7 (aa (ae 0) (aa (a8 2) au)))) (aO (jk [] (fIt (fL bu (aa (ae 6) (aa (ae 7) (aa (fL fE (aa (ae 6) (aa (ae 10) (aa (ae 3) au)))) (aa (fL fE (aa (ae 7) (aa (f2 dI (ae 10) (a8 12)) (aa (ae 3) au)))) au)))))) (.nm 11) (wC CR CP n)) (cu (fC (.bl e_))))))))))))
def m_law(CR CP:h_)(n:Nat):cc:=bV 15 1 (g_law CR CP n)
noncomputable def top(i:Nat):Jl:=R9.main.body.getD i (.Pass ⟨0,0,0,0⟩)
abbrev A5:Jl:=top 40
abbrev qp:Jl:=top 41
abbrev A4:Jl:=top 42
abbrev Di:Jl:=top 54
abbrev ve:Jl:=top 45
abbrev sW:Jl:=top 44
abbrev vd:Jl:=top 50
abbrev xv:Jl:=top 49
abbrev A2:Jl:=top 47
abbrev xw:Jl:=top 46
abbrev vf:Jl:=top 48
abbrev Dk:Jl:=top 52
abbrev vc:Jl:=top 35
abbrev s_is_gap:Jl:=top 33
abbrev xr:Jl:=top 34
abbrev iG:Jl:=top 36
abbrev xt:Jl:=top 43
abbrev qo:Jl:=top 51
abbrev xu:Jl:=top 53
abbrev nQ:Jl:=top 57
abbrev p9:Jl:=top 58
abbrev A6:Jl:=top 59
abbrev fZ:Jl:=top 17
abbrev qm:Jl:=top 18
abbrev p6:Jl:=top 19
abbrev v7:Jl:=top 20
abbrev mh:Jl:=inClass (top 37) 2
abbrev mL:Jl:=inClass (top 38) 1
abbrev xp:Jl:=top 23
abbrev nP:Jl:=top 24
abbrev p8:Jl:=top 25
abbrev mK:Jl:=top 8
abbrev A0:Jl:=top 9
abbrev xq:Jl:=top 13
abbrev A1:Jl:=top 6
abbrev vg:Jl:=inClass (top 37) 3
abbrev xx:Jl:=inClass (top 38) 2
abbrev p7:Jl:=top 12
abbrev sU:Jl:=top 14
abbrev qk:Jl:=top 26
abbrev v8:Jl:=top 15
abbrev sV:Jl:=top 27
abbrev ic:Jl:=inClass (top 37) 1
abbrev v9:Jl:=top 11
abbrev ql:Jl:=top 28
abbrev Dh:Jl:=top 29
abbrev A3:Jl:=top 55
abbrev Dj:Jl:=top 56
abbrev s_law:Jl:=top 60
abbrev s_nR:Jl:=inClass (top 37) 0
abbrev s_nP:Jl:=inClass (top 38) 0
structure Zs(K:Pn)(mg:Ld)(CR CP:h_):Prop where
 kR:Kls K mg "Rules" CR
 kP:Kls K mg "Pair" CP
 jB:∀C∈[CR,CP],Cls K C/\kg K C "gaps"
 uC:∀C∈[CP],Cls K C/\kg K C "beside"
 EA:mg "all"=d_
 z_bool:mg "bool"=d_
 Ez:mg "dict"=d_
 jm:mg "enumerate"=d_
 z_int:mg "int"=d_
 i8:mg "isinstance"=d_
 eZ:mg "len"=d_
 kl:mg "list"=d_
 zQ:mg "max"=d_
 z_min:mg "min"=d_
 cj:mg "range"=d_
 gB:mg "sorted"=d_
 z_sum:mg "sum"=d_
 eA:mg "tuple"=d_
 z_zip:mg "zip"=d_
 tw:∃t,mg "GREATEST_GAP"=a_ (.int 1000000 t)
 yr:∃t,mg "MOST_KINDS"=a_ (.int 6 t)
 yq:∃t,mg "MOST_PLANS"=a_ (.int 5000 t)
 kit:Kit K
 AY:∃f fd,Def K mg "_law_cell" A5 ["_law_script","_law_k"] f fd
 se:∃f fd,Def K mg "_law_gap_rows" qp ["_law_script","_law_start","_law_kinds"] f fd
 AX:∃f fd,Def K mg "_law_gaps" A4 ["_law_script"] f fd
 Eb:∃f fd,Def K mg "_law_few" Di ["_law_script","_law_gaps_here"] f fd
 wy:∃f fd,Def K mg "_law_closed" ve ["_law_script"] f fd
 tH:∃f fd,Def K mg "_law_flights" sW ["_law_script","_law_start","_law_kinds","_law_many"] f fd
 wx:∃f fd,Def K mg "_law_orders" vd ["_law_many","_law_shift"] f fd
 yX:∃f fd,Def K mg "_law_first" xv ["_law_gaps_here"] f fd
 AV:∃f fd,Def K mg "_law_open" A2 ["_law_closed_here","_law_time"] f fd
 yY:∃f fd,Def K mg "_law_apart" xw ["_law_gaps_here","_law_one","_law_other"] f fd
 wz:∃f fd,Def K mg "_law_behind" vf ["_law_gaps_here","_law_flights_here","_law_closed_here","_law_label","_law_flight","_law_strip"] f fd
 Ed:∃f fd,Def K mg "_law_all" Dk ["_law_gaps_here","_law_flights_here","_law_closed_here","_law_shift"] f fd
 wu:∃f fd,Def K mg "copied_rows" vc ["rows"] f fd
 d_is_gap:∃f fd,Def K mg "is_gap" s_is_gap ["number"] f fd
 yU:∃f fd,Def K mg "is_gap_row" xr ["row","kinds"] f fd
 tG:∃f fd,Def K mg "checked_rows" iG ["rows"] f fd
 yV:∃f fd,Def K mg "_law_rules" xt ["_law_gaps_here"] f fd
 rZ:∃f fd,Def K mg "_law_no_worse" qo ["_law_one","_law_other"] f fd
 yW:∃f fd,Def K mg "_law_least" xu ["_law_labels"] f fd
 oo:∃f fd,Def K mg "_law_label_bent" nQ ["_law_label","_law_way","_law_cell_here"] f fd
 pF:∃f fd,Def K mg "_law_list_bent" p9 ["_law_labels","_law_way","_law_cell_here"] f fd
 AZ:∃f fd,Def K mg "_law_bent" A6 ["_law_paper","_law_cell_here","_law_many"] f fd
 e9:∃f fd,Def K mg "choices_of" fZ ["pool","size"] f fd
 rY:∃f fd,Def K mg "beginnings_of" qm ["many","shift","size"] f fd
 pC:∃f fd,Def K mg "smaller_by_one" p6 ["some"] f fd
 wo:∃f fd,Def K mg "many_orders" v7 ["many","shift"] f fd
 yS:∃f fd,Def K mg "many_plans" xp ["rules","many","shift"] f fd
 om:∃f fd,Def K mg "refuse_too_many" nP ["rules","flights","shift"] f fd
 pE:∃f fd,Def K mg "all_beginnings" p8 ["many","shift"] f fd
 nt:∃f fd,Def K mg "joined_stretches" mK ["closed"] f fd
 AS:∃f fd,Def K mg "next_open" A0 ["closed","time"] f fd
 yT:∃f fd,Def K mg "lasts_with" xq ["lasts","spot","time"] f fd
 AU:∃f fd,Def K mg "late_cost" A1 ["flight","time"] f fd
 pD:∃f fd,Def K mg "last_gap_times" p7 ["rules","lasts","spot"] f fd
 tB:∃f fd,Def K mg "label_behind" sU ["rules","flights","closed","label","flight","strip"] f fd
 rW:∃f fd,Def K mg "labels_behind" qk ["rules","flights","closed","paper","some"] f fd
 wq:∃f fd,Def K mg "is_no_worse" v8 ["one","other"] f fd
 tE:∃f fd,Def K mg "has_no_worse" sV ["labels","label"] f fd
 wt:∃f fd,Def K mg "first_label" v9 ["rules"] f fd
 rX:∃f fd,Def K mg "is_right_list" ql ["rules","flights","closed","paper","some"] f fd
 Ea:∃f fd,Def K mg "is_paper" Dh ["rules","flights","closed","shift","paper"] f fd
 AW:∃f fd,Def K mg "_law_made" A3 ["_law_gaps_here","_law_flights_here","_law_closed_here","_law_paper","_law_some"] f fd
 Ec:∃f fd,Def K mg "_law_due" Dj ["_law_gaps_here","_law_flights_here","_law_closed_here","_law_paper","_law_sets"] f fd
 d_law:∃f fd,Def K mg "law" s_law ["_law_script"] f fd/\∀(s:j_) (v:g_),Oo s fd ⟨[v],[]⟩ [("_law_script",v)]
 m_M_R_many_strips:∃f fd,Mth K CR "many_strips" "Rules.many_strips" mh ["self"] f fd
 m_M_P_many_strips:∃f fd,Mth K CP "many_strips" "Pair.many_strips" mL ["self"] f fd
 m_M_R_apart:∃f fd,Mth K CR "apart" "Rules.apart" vg ["self","one","other"] f fd
 m_M_P_apart:∃f fd,Mth K CP "apart" "Pair.apart" xx ["self","one","other"] f fd
 m_M_R_many_kinds:∃f fd,Mth K CR "many_kinds" "Rules.many_kinds" ic ["self"] f fd
 m_M_P_many_kinds:∃f fd,Mth K CP "many_kinds" "Rules.many_kinds" ic ["self"] f fd
 n_R:∃f fd,Mth K CR "__init__" "Rules.__init__" s_nR ["self","gaps"] f fd/\Stat K CR (.type "type") "__init__" f
 n_P:∃f fd,Mth K CP "__init__" "Pair.__init__" s_nP ["self","gaps","beside"] f fd
 ne:CR≠CP
noncomputable abbrev Zq(_:Nat)(_:IQ)(_:JX)(_:IF):=Zs
theorem law_d{K:Pn}{x:IL}{st:Jl}{ps:List IL}{q:Kw->Prop}(h:∃f fd,Def K mg x st ps f fd/\q fd):∃f fd,Def K mg x st ps f fd:=a0
section
variable{P:IQ}{base:IF}{K:Pn}{CR:h_}(Z:Zq n P w base K mg CR CP)
include Z
def bw:YO Z.AY P w base 1 cm (b7):=
 fY ["_law_script","_law_k"] λz I B=>(ah (cp (aJ o_lt (ag 1) (az gu Z.eZ H_ (da1 (ag 0)))) (ao (aA (aB bP (ag 0) (ag 1)))) b9) (ah (cp (aJ (pq B.units) (ag 0) (aj (aX bq))) (ao (aA af)) b9) (ao (aA (aj (aw ck (aw kz (aB bP (ag 0) (aw cT (ag 1) (az gu Z.eZ H_ (da1 (ag 0))))) af) (aw kz (aw kz (ag 1) (ag 1)) af)))))))
def jV:YO Z.se P w base 2 cm (cV):=
 fY ["_law_script","_law_start","_law_kinds","_law_rows","_law_k","_law_row","_law_j","_law_cell_here"] λz B I=>(ah (nh B (aX bq)) (ah (bG (d7 Z.cj (da1 (ag 2))) (gK B) (ah (nh B (aX bq)) (cb (ah (bG (d7 Z.cj (da1 (ag 2))) (gK B) (ah (bo B (dY (bw Z) I (da2 (ag 0) (aj (aw ck (aj (aw ck (ag 1) (aw kz (ag 2) (ag 4)))) (ag 6)))))) (ao (jC (aB bP (aj (aX (da4 af (aw cT (aw cL (ag 7) af) af) (aw cT (aw cL (ag 7) af) af) (aw cT (aw cL (ag 7) af) (aB bP (aj (aX (da2 af (aj (aw ck (aw DC af af) af))))) (aw cT (aw cL (ag 7) af) af)))))) (aw cT (ag 7) af)))))) (cb (ao (jC (ag 5)))))))) (cb (O2:=[]) (ao (aA (ag 3))))))
def xY:YO Z.AX P w base 3 cm (gY):=
 fY ["_law_script","_law_kinds","_law_gaps_here"] λz I B=>(ah (bo I (aj (aw ck af (aw cT (dY (bw Z) B (da2 (ag 0) af)) af)))) (ah (bo I (dY (jV Z) B (da3 (ag 0) af (ag 1)))) (ah (cp (aJ (pq B.units) (aw cT (aw cL (dY (bw Z) B (da2 (ag 0) af)) af) af) af) (ao (aA (aj (aX (da2 (ag 2) (dY (jV Z) B (da3 (ag 0) (aj (aw ck af (aw kz (ag 1) (ag 1)))) (ag 1)))))))) b9) (ao (aA (aj (aX (da1 (ag 2)))))))))
def Aj:YO Z.Eb P w base 2 cm (ll):=
 fY ["_law_script","_law_gaps_here","_law_shift","_law_most"] λz B I=>(ah (bo B (aw cT (aw cL (dY (bw Z) I (da2 (ag 0) af)) af) af)) (ah (bo B (aB bP (aB bP (aj (aX (da2 (aj (aX (da4 af af af af))) (aj (aX (da4 af af af af)))))) (aw tm (az gu Z.eZ H_ (da1 (ag 1))) af)) (ag 2))) (ao (aA (bU (da2 (ag 2) (aw cT (aw cL (dY (bw Z) I (da2 (ag 0) af)) af) (aj (aw ck (ag 3) af)))))))))
def tj:YO Z.wy P w base 2 cm (gH):=
 fY ["_law_script","_law_cell_here","_law_many","_law_closed_here","_law_k","_law_there","_law_start"] λz B I=>(ah (bo B (dY (bw Z) I (da2 (ag 0) af))) (ah (bo B (aB bP (aj (aX (da3 (aw cT (ag 1) af) (aw cT (ag 1) af) af))) (aw cL (aw cT (aw cL (ag 1) af) af) af))) (ah (nh B (aX bq)) (ah (bG (d7 Z.cj (da1 (ag 2))) (gK B) (ah (bo B (aj (aw ck (aw cL (dY (bw Z) I (da2 (ag 0) af)) (aj (aw ck (aw kz (ag 4) (ag 4)) af))) (aw kz (aw kz af (ag 4)) (aw cT (aw cL (ag 1) af) af))))) (ah (bo B (aw cT (ag 5) af)) (ao (jC (bU (da2 (ag 6) (aj (aw ck (aj (aw ck (ag 6) af)) (aw cT (aw cL (ag 5) af) af)))))))))) (cb (O2:=[]) (ao (aA (ag 3))))))))
def qL:YO Z.tH P w base 2 cm (fU):=
 fY ["_law_script","_law_start","_law_kinds","_law_many","_law_flights_here","_law_k","_law_cell_here","_law_wide","_law_worth","_law_first_here","_law_last","_law_due_here","_law_price"] λz B I=>(ah (nh B (aX bq)) (ah (bG (d7 Z.cj (da1 (ag 3))) (gK B) (ah (bo B (dY (bw Z) I (da2 (ag 0) (aj (aw ck (ag 1) (aw kz af (ag 5))))))) (ah (bo B (dY (bw Z) I (da2 (ag 0) (aj (aw ck (aj (aw ck (ag 1) (aw kz af (ag 5)))) af))))) (ah (bo B (dY (bw Z) I (da2 (ag 0) (aj (aw ck (aj (aw ck (ag 1) (aw kz af (ag 5)))) af))))) (ah (bo B (aw cT (aw cL (ag 6) af) (aB bP (aj (aX (da4 af af af (aw kz af (aw DC af af))))) (aw cT (aw cL (ag 6) af) af)))) (ah (bo B (aj (aw ck (ag 9) (aw cT (aw cL (ag 7) af) (aB bP (aj (aX (da5 af af af (aw DC af af) (aw DC af af)))) (aw cT (ag 7) af)))))) (ah (bo B (aB bP (aj (aX (da2 (aw cT (aw cL (ag 8) af) af) (aw cT (aw cL (ag 8) af) (aj (aw ck (aw DC af af) af)))))) (aw cT (ag 8) af))) (ah (bo B (aB bP (aj (aX (da3 (aw cT (aw cL (ag 8) af) af) (aw cT (aw cL (ag 8) af) af) (aw cT (aw cL (ag 8) af) (aj (aw ck (aw DC af af) af)))))) (aw cT (aw cL (ag 8) af) af))) (ao (jC (bU (da5 (aw cT (ag 6) (ag 2)) (ag 9) (ag 10) (ag 11) (ag 12))))))))))))) (cb (O2:=[]) (ao (aA (ag 4))))))
def tf:YO Z.wx P w base 1 cm (gG):=
 fY ["_law_many","_law_shift","_law_orders_here","_law_place","_law_longer","_law_order","_law_left"] λz B I=>(ah (bo B (aj (aX (da1 (aj (aX bq)))))) (ah (bG (d7 Z.cj (da1 (ag 0))) (gK B) (ah (nh B (aX bq)) (ah (bG (bE (ag 2)) (gK B) (ah (we cm ["_law_flight","_law_order"] [d_,a_ 5] B (d7 Z.cj (da1 (ag 0))) (λ_ _ _ _ _=>cN dkK) (aC rfl) (λ_ _ _ _ _=>iH (aJ (Aq I.units) (ag 0) (ag 1))) (λ_ _ _ _ _=>(ag 0))) (ao (ds_ext (bR ["_law_flight","_law_shift","_law_place","_law_order"] [d_,a_ 1,a_ 3,a_ 5] (bE (ag 6)) (λ_ _ _ _ _=>cN dkK) (aC rfl) (λ_ _ _ _ _=>iH (pV o_le o_le (rT qN (ag 1)) (aw tm (ag 0) (ag 2)) (ag 1))) (λ_ _ _ _ _=>(aj (aw ck (ag 3) (aj (aX (da1 (ag 0)))))))))))) (cb (ao (bo B (ag 4))))))) (ao (aA (ag 2)))))
def mP:YO Z.yX P w base 1 cm (gb):=
 fY ["_law_gaps_here"] λz B I=>(ao (aA (bU (da2 af (aK fK Z.eA Io (da1 (aj (bR ["_law_rows","_law_gaps_here"] [d_,a_ 0] (bE (ag 0)) (λ_ _ _ _ _=>cN dkK) (aC rfl) (λ_ _ _ _ _=>cK) (λ_ _ _ _ _=>(aK fK Z.eA Io (da1 (aj (de_rep (aX (da1 (rT qN af))) (az gu Z.eZ H_ (da1 (aB bP (ag 1) af))))))))))))))))
def xW:YO Z.AV P w base 1 cm (jv CR CP n):=
 fY ["_law_closed_here","_law_time","_law_stops"] λz B I=>(ao (ds_while (m6 iM) (ah (we cm ["_law_start","_law_stop","_law_time"] [d_,d_,a_ 1] B (bE (ag 0)) (λ_ _ _ _ _=>lP rfl (gp dkK (gp dkK dR))) (mS am) (λ_ _ _ _ _=>iH (pV o_le o_lt (ag 0) (ag 2) (ag 1))) (λ_ _ _ _ _=>(ag 1))) (ah (cp (aJ (pq I.units) (ag 2) (aj (aX bq))) (ao (aA (ag 1))) b9) (ao (bo B (az (Ba rfl) Z.zQ Og (da1 (ag 2)))))))))
def vA:YO Z.yY P w base 1 cm (gd):=
 fY ["_law_gaps_here","_law_one","_law_other"] λz I B=>(ah (cp (aJ (pq B.units) (aB bP (ag 1) af) (aB bP (ag 2) af)) (ao (aA (aB bP (aB bP (aB bP (ag 0) af) (aB bP (ag 1) af)) (aB bP (ag 2) af)))) b9) (ao (aA (aB bP (aB bP (aB bP (ag 0) af) (aB bP (ag 1) af)) (aB bP (ag 2) af)))))
def lV:YO Z.wz P w base 2 cm (cG CR CP n):=
 fY ["_law_gaps_here","_law_flights_here","_law_closed_here","_law_label","_law_flight","_law_strip","_law_kind","_law_first_here","_law_last","_law_due_here","_law_price","_law_time","_law_side","_law_other","_law_lasts"] λz B I=>(ah (Hj (aB bP (ag 1) (ag 4)) (lP rfl (ba B (ba B (ba B (ba B (ba B dR))))))) (ah (bo B (ag 7)) (ah (bG (d7 Z.cj (da1 (az gu Z.eZ H_ (da1 (ag 0))))) (gK B) (ao (bG (d7 Z.cj (da1 (az gu Z.eZ H_ (da1 (aB bP (ag 0) af))))) (gK B) (ao (cp (aJ (Et I.units) (aB bP (aB bP (aB bP (ag 3) af) (ag 12)) (ag 13)) (rT qN af)) (ao (bo B (az (Ba rfl) Z.zQ Og (da2 (ag 11) (aj (aw ck (aB bP (aB bP (aB bP (ag 3) af) (ag 12)) (ag 13)) (dY (vA Z) I (da3 (ag 0) (bU (da2 (ag 13) (ag 12))) (bU (da2 (ag 6) (ag 5))))))))))) b9))))) (ah (bo B (dY (xW Z) I (da2 (ag 2) (ag 11)))) (ah (cp (aJ o_gt (ag 11) (ag 8)) (ao (aA yQ)) b9) (Hl ["_law_row"] [d_] B (bE (aB bP (ag 3) af)) (λ_ _ _ _ _=>cN dkK) (aC rfl) (λ_ _ _ _ _=>cK) (λ_ _ _ _ _=>(aK oS Z.kl IZ (da1 (ag 0)))) qW (ag 11) (ag 5) (ag 6) (ao (aA (bU (da2 (aj (aw ck (aB bP (ag 3) af) (aw kz (ag 10) (az (Ba rfl) Z.zQ Og (da2 af (aw tm (ag 11) (ag 9))))))) (aK fK Z.eA Io (da1 (aj (bR ["_law_row"] [d_] (bE (ag 14)) (λ_ _ _ _ _=>cN dkK) (aC rfl) (λ_ _ _ _ _=>cK) (λ_ _ _ _ _=>(aK fK Z.eA Io (da1 (ag 0))))))))))))))))))
def Am:YO Z.Ed P w base 3 cm (j9 CR CP n):=
 fY ["_law_gaps_here","_law_flights_here","_law_closed_here","_law_shift","_law_orders_here","_law_found","_law_size","_law_steps","_law_order","_law_step","_law_ahead","_law_labels","_law_label","_law_strip","_law_behind_here"] λz B I=>(ah (bo B (dY (tf Z) I (da2 (az gu Z.eZ H_ (da1 (ag 1))) (ag 3)))) (ds_allD (iT:=7) (iO:=8) (iZ:=6) (iSt:=9) (iAh:=10) (iL:=11) (iLab:=12) (iS:=13) (iB:=14) (bS (qB (i:=5) B rfl (.inl rfl) (BQ (hU1 I.units) (bU bq) (FV (cx (dY (mP Z) I (da1 (ag 0))) eX)))) (bS (u4 L4 rfl (Hr Z.cj (da2 af (aj (aw ck (az gu Z.eZ H_ (da1 (ag 1))) af)))) (jr (i:=6) B rfl (.inl rfl)) (bS (qB (i:=7) B rfl (.inl rfl) pe_newS) (bS (u4 L4 rfl (bE (ag 4)) (jr (i:=8) B rfl (.inl rfl)) (f9 (ps_putS I.units (pv 7) (bU (da2 (aK fK Z.eA Io (da1 (aj (az sH Z.gB LI (da1 (aj (wm x_sl (ag 8) jD (iK (ag 6))))))))) (aB bP (ag 8) (aw tm (ag 6) af)))) (aK fK Z.eA Io (da1 (aj (az sH Z.gB LI (da1 (aj (wm x_sl (ag 8) jD (iK (aw tm (ag 6) af))))))))) rfl))) (f9 (u4 L4 rfl (pi_itmsS (pv 7)) (lP rfl (pM (jr (i:=9) B rfl (.inl rfl)) (pM (jr (i:=10) B rfl (.inl rfl)) FR))) (bS (qB (i:=11) B rfl (.inl rfl) (pe_get2a I.units (pv 5) (aB bP (ag 9) af) (FV eX))) (bS (u4 L4 rfl (pi_seqD (pe_ix (ix_K (hU I.units)) (pv 5) (ag 10) (λ_ _=>rfl))) (jr (i:=12) B rfl (.inl rfl)) (f9 (u4 L4 rfl (d7 Z.cj (da1 (az gu Z.eZ H_ (da1 (ag 0))))) (jr (i:=13) B rfl (.inl rfl)) (bS (qB (i:=14) B rfl (.inl rfl) (dY (lV Z) I (da6 (ag 0) (ag 1) (ag 2) (ag 12) (aB bP (ag 9) af) (ag 13)))) (f9 (FL (PW.pt (CA (aJ G7 (ag 14) yQ) (wd (aJ (Aq I.units) (ag 14) (ag 11))))) (f9 (nT (pe_bm ML M7 Pc yb (pv 11) (cx (pv 14) eX)))) qz)))))) (f9 (FK (hU I.units) (pv 5) (aB bP (ag 9) af) (pv 11) rfl))))))))) (f9 (xO (pv 5)))))))
def t9:YO Z.wu P w base 1 cm (gF):=
 fY ["rows"] λz B I=>(ao (aA (aj (bR ["row"] [d_] (bE (ag 0)) (λ_ _ _ _ _=>cN dkK) (aC rfl) (λ_ _ _ _ _=>cK) (λ_ _ _ _ _=>(aj (aK oS Z.kl IZ (da1 (ag 0)))))))))
def G4:YO Z.d_is_gap P w base 1 cm (lj):=
 fY ["number"] λz B I=>(ah (cp (PW.pt (Hg (yN (m6 (E9 Z.kit Z.i8 Z.z_int (ag 0)))) (yM (m6 (rV Z.kit Z.i8 Z.z_bool (ag 0)))))) (ao (aA iM)) b9) (ao (aA (de_chain o_le o_le af (ag 0) (AQ Z.tw)))))
theorem vv:YO Z.yU P w base 2 cm (dW):=
 fY ["row","kinds"] λz I B=>(ao (aA (de_and (AO Z.kit Z.i8 Z.kl (ag 0)) (de_and (CK (pq B.units) (az gu Z.eZ H_ (da1 (ag 0))) (ag 1)) (de_one (az (HS rfl) Z.EA Qm (da1 (aj (bR ["number"] [d_] (bE (ag 0)) (λ_ _ _ _ _=>cN a0) (aC rfl) (λ_ _ _ _ _=>cK) (λ_ _ _ _ _=>(dY (G4 Z) B (da1 (ag 0)))))))))))))
def kv:YO Z.tG P w base 3 cm (aF):=
 fY ["rows","kinds"] λz I B=>(ah (bo I (az gu Z.eZ H_ (da1 (ag 0)))) (ah (cp (yN (pV o_le o_le af (ag 1) (AQ Z.yr))) (ao Hk) b9) (ah (cp (yN (m6 (az (HS rfl) Z.EA Qm (da1 (aj (bR ["row","kinds"] [d_,a_ 1] (bE (ag 0)) (λ_ _ _ _ _=>cN dkK) (aC rfl) (λ_ _ _ _ _=>cK) (λ_ _ _ _ _=>(dY (vv Z) B (da2 (ag 0) (ag 1)))))))))) (ao Hk) b9) (ao (aA (dY (t9 Z) B (da1 (ag 0))))))))
end
def sc_nR:jM ["self","gaps"] ["self","gaps"] (aT s_nR):=⟨rfl,rfl,rfl,by decide +kernel,rfl,by decide +kernel,by decide +kernel⟩
theorem okn_R{P : IQ}{w : JX}{K : Pn}{mg : IL -> Option g_}{base : IF}{C U f : h_}{Y fd : Kw}(I : Def K mg "checked_rows" iG ["rows"] U Y)(l : jN P w K mg base CX0 3 U Y ["rows"] (spF K cm aF 1))(N : Fun K "__init__" "Rules.__init__" s_nR f fd)(k : Cls K C)(na : kg K C "gaps"): jN P w K mg base CX0 4 f fd ["self", "gaps"] (spI1 K C aF) := by
  refine N.okX sc_nR (λvs H Q E h => ?_) (λcdv A outer s H vs Q E g h => ?_)
  · obtain⟨p,dx,v,F,d,rfl,_⟩ := h
    rfl
  · obtain⟨p,dx,v,F,d,rfl,i,m,s1,b,q⟩ := h
    refine⟨_,f9 (ps_fld (pv 0) (Ag l g (by rfl) I.mg I.fn.kp I.bd .nil xQ (cx (pv 1) eX)) rfl),(⟨v,rfl,F,[d],s1,⟨v,[],rfl,b,rfl⟩,rfl,?_⟩)⟩
    cases S : aF [d]with
    | error e => rw[S]at q; exact q| ok r =>
      rw[S]at q;intro u F' H' st a;have B : F' p = d_ := by
        cases hz : F' p with
        | none => rfl| some o =>
          rcases st.nw p o hz with z | z
          · simp_all
          simp_all
      refine⟨_,rfl,p,C,dx,[],rfl,st.hh _ _ i,k,na,am,(q u F' _ st.ff (λc o e => ?_) B st.nw (λc o e j => by rw[av j]; exact st.hh _ _ e) aq a)⟩
      rw[av (λz => by simp_all)];exact st.fh _ _ e
def sc_nP:jM ["self","gaps","beside"] ["self","gaps","beside"] (aT s_nP):=⟨rfl,rfl,rfl,by decide +kernel,rfl,by decide +kernel,by decide +kernel⟩
theorem okn_P{P:IQ}{K:Pn}{base:IF}{CR:h_}{L f J:h_}{O fd U:Kw}{mc:g_}(t:Def K mg "checked_rows" iG ["rows"] L O)(OK:jN P w K mg base CX0 3 L O ["rows"] (spF K cm aF 1))(S:Stat K CR mc "__init__" J)(bI:Binds K U ["self","gaps"] [])(FI:jN P w K mg base CX0 4 J U ["self","gaps"] (spI1 K CP aF))(mR:mg "Rules"=a_ (.ref CR))(y:mg "len"=d_)(N:Fun K "__init__" "Pair.__init__" s_nP f fd)(x:Cls K CP)(na:kg K CP "gaps")(nb:kg K CP "beside"):jN P w K mg base CX0 5 f fd ["self","gaps","beside"] (spI2 K CP aF):=by
 refine N.okX sc_nP (λvs H Q E h=>?_) (λcdv A outer s H vs Q E G h=>?_)
 .obtain⟨p,dx,v,g,F,d,n,rfl,_⟩:=h;rfl
 .obtain⟨p,dx,v,g,F,d,n,rfl,hp,hF,s1,qd,k,q⟩:=h;cases l:aF [d]with
  |error e=>rw[l]at q;exact Jt q|ok r=>
   rw[l,ai]at q;cases B:aF [n]with
   |error e=>rw[B]at q;exact Jt q|ok j=>
    rw[B,ai]at q;by_cases I:twoL r j=e_
    .rw[p_ I]at q;obtain⟨xs,ys,rfl,rfl,hl⟩:∃xs ys,r=.lst xs/\j=.lst ys/\xs.length=ys.length:=by
      cases r with
      |lst xs=>
       cases j with
       |lst ys=>exact⟨_,_,rfl,rfl,N6 I⟩|_=>cases I
      |_=>cases I
     refine⟨_,bS (nT (pe_cmeth S (by rfl) mR FI G bI .nil xQ (cx (pv 0) (cx (pv 1) eX))))
      (bS (ps_fld (pv 0) (Ag OK (G.mono am) (by rfl) t.mg t.fn.kp t.bd .nil xQ (cx (pv 2) eX)) rfl)
      (f9 (FL (FH op_ne (mN kS (by rfl) y H_ (cx (FX (pv 0) rfl) eX)) (mN kS (by rfl) y H_ (cx (FX (pv 0) rfl) eX)) (G8 _)) FJ qz))),⟨_,rfl,_,rfl,p,dx,v,F,d,rfl,hp,hF,s1,qd,?_⟩⟩
     rw[l];intro u F1 H1 T a2 a3 a4 a5 a6 R;refine⟨g,rfl,F1,[n],a2,⟨g,[],rfl,bh.mono T k,rfl⟩,rfl,?_⟩
     rw[B];intro C a H2 st D;have m:a p=d_:=by
      cases hz:a p with
      |none=>rfl|some o=>
       rcases st.nw p o hz with z|z
       .simp_all
       simp_all
     refine⟨_,rfl,p,CP,dx,_,rfl,st.hh _ _ a6,x,nb,ad,?_⟩
     have i:aM a (upd H2 p (.ins CP dx [("gaps",u),("beside",C)])):=λc o e=>by
      have Y:c≠p:=λz=>by simp_all
      exact(av Y)▸st.fh _ _ e
     obtain⟨g1,xs1,e1,t1,X⟩:=bh.mono st.ff R;obtain⟨g2,Z,e2,t2,W⟩:=id D;refine⟨_,rfl,p,CP,dx,_,_,rfl,aq,x,nb,rfl,g2,_,by rw[e2],.inl (i.lst t2),_,rfl,p,CP,dx,_,_,rfl,aq,x,na,rfl,g1,_,by rw[e1],.inl (i.lst t1),rfl,_,rfl,(iteNS (by rw[X.length,W.length,hl]) ?_)⟩
     refine q u C a _ (T.trans st.ff) i m (λb o e=>?_) (λc o e Y=>by rw[av Y];exact st.hh _ _ (a5 c o e Y)) aq (bh.mono st.ff R) D;rcases st.nw b o e with z|z
     .exact a4 b o z
     .refine .inr ?_;cases hz:H b with
      |none=>rfl|some o'=>grind
    .rw[q_ I]at q;exact Jt q
section
variable{P:IQ}{base:IF}{K:Pn}{CR:h_}(Z:Zq n P w base K mg CR CP)
include Z
def on_P:∃f fd,Mth K CP "__init__" "Pair.__init__" s_nP ["self","gaps","beside"] f fd/\jN P w K mg base CX0 5 f fd ["self","gaps","beside"] (spI2 K CP aF):=
 let ⟨_,_,Y⟩:=kv Z;let ⟨_,_,N,S⟩:=Z.n_R;let ⟨_,_,M⟩:=Z.n_P;⟨_,_,M,okn_P Y.d Y.o S N.bd (okn_R Y.d Y.o N.fn Z.kP.cl (Z.jB CP ad).2) Z.kR.mg Z.eZ M.fn Z.kP.cl (Z.jB CP ad).2 (Z.uC CP ad).2⟩
def on_R:∃f fd,Mth K CR "__init__" "Rules.__init__" s_nR ["self","gaps"] f fd/\jN P w K mg base CX0 4 f fd ["self","gaps"] (spI1 K CR aF):=
 let ⟨_,_,Y⟩:=kv Z;let ⟨_,_,N,_⟩:=Z.n_R;⟨_,_,N,okn_R Y.d Y.o N.fn Z.kR.cl (Z.jB CR ad).2⟩
def vy:YO Z.yV P w base 7 cm (dX CR CP n):=
 fY ["_law_gaps_here"] λz a Y=>let ⟨_,_,U,I⟩:=on_P Z;let ⟨_,_,S,B⟩:=on_R Z;(ah (cp (aJ (pq Y.units) (az gu Z.eZ H_ (da1 (ag 0))) af) (ao (aA (de_newP ⟨Z.kP.mks,U.mt.at_,U.mt.fn,Z.kP.kp⟩ I Y Z.kP.mg U.bd (da2 (aB bP (ag 0) af) (aB bP (ag 0) af))))) b9) (ao (aA (de_newR ⟨Z.kR.mks,S.mt.at_,S.mt.fn,Z.kR.kp⟩ B (Y.mono am) Z.kR.mg S.bd (da1 (aB bP (ag 0) af))))))
def jU:YO Z.rZ P w base 1 cm (aU):=
 fY ["_law_one","_law_other","_law_mine","_law_theirs"] λz B I=>(ah (cp (aJ o_gt (aB bP (ag 0) af) (aB bP (ag 1) af)) (ao (aA iM)) b9) (ah (bG (AM Z.z_zip (aB bP (ag 0) af) (aB bP (ag 1) af)) (lP rfl (ba B (ba B dR))) (ao (cp (aJ (Et I.units) (aj (bR ["_law_k","_law_mine","_law_theirs"] [d_,a_ 2,a_ 3] (d7 Z.cj (da1 (az gu Z.eZ H_ (da1 (ag 2))))) (λ_ _ _ _ _=>cN dkK) (aC rfl) (λ_ _ _ _ _=>iH (aJ o_gt (aB bP (ag 1) (ag 0)) (aB bP (ag 2) (ag 0)))) (λ_ _ _ _ _=>(ag 0)))) (aj (aX bq))) (ao (aA iM)) b9))) (ao (aA iM))))
def vz:YO Z.yW P w base 2 cm (il):=
 fY ["_law_labels","_law_found","_law_label"] λz I B=>(ah (nh I (aX bq)) (ah (bG (bE (ag 0)) (gK I) (ao (cp (aJ (pq B.units) (aj (bR ["_law_other","_law_label"] [d_,a_ 2] (bE (ag 0)) (λ_ _ _ _ _=>cN dkK) (aC rfl) (λ_ _ _ _ _=>iH (PW.pt (CA (aJ (Et B.units) (ag 0) (ag 1)) (wd (m6 (dY (jU Z) B (da2 (ag 0) (ag 1)))))))) (λ_ _ _ _ _=>(ag 0)))) (aj (aX bq))) (ao (jC (ag 2))) b9))) (cb (O2:=[]) (ao (aA (aj (az (HQ B.units) Z.gB LI (da1 (ag 1)))))))))
theorem ie:YO Z.oo P w base 1 cm (bO):=
 fY ["_law_label","_law_way","_law_cell_here","_law_lasts","_law_side","_law_at"] λz B I=>(by refine ds_lb qW (bS ?_ ?_);exact(ps_comp ["_law_row"] [d_] B (bE (aB bP (ag 0) af)) (λ_ _ _ _ _=>cN a0) (aC rfl) (λ_ _ _ _ _=>cK) (λ_ _ _ _ _=>(aK oS Z.kl IZ (da1 (ag 0)))));refine bS ?_ ?_;exact(qB B rfl (.inl rfl) (aw cT (ag 2) (az gu Z.eZ H_ (da1 (ag 3)))));refine bS ?_ ?_;exact(qB B rfl (.inl rfl) (aw cT (aw cL (ag 2) af) (az gu Z.eZ H_ (da1 (aB bP (ag 3) (ag 4))))));refine bS ?_ ?_;exact(FL (aJ (pq I.units) (ag 1) af) (f9 (xO (bU (da2 (aj (aw ck (aB bP (ag 0) af) af)) (aB bP (ag 0) af))))) qz);refine bS ?_ ?_;exact(FL (aJ (pq I.units) (ag 1) af) (bS (BN (aw tm (aB bP (aB bP (ag 3) (ag 4)) (ag 5)) (aK c_int Z.z_int PyProof.Rows.boot_int (da1 (CK o_gt (aB bP (aB bP (ag 3) (ag 4)) (ag 5)) af)))) (FT (pe_ix Gy (pv 3) (pv 4) (λ_ _=>rfl)) (pv 5) set_list)) (f9 (xO (bU (da2 (aB bP (ag 0) af) (aK fK Z.eA Io (da1 (aj (bR ["_law_row"] [d_] (bE (ag 3)) (λ_ _ _ _ _=>cN a0) (aC rfl) (λ_ _ _ _ _=>cK) (λ_ _ _ _ _=>(aK fK Z.eA Io (da1 (ag 0))))))))))))) qz);exact(f9 (xO (bU (da2 (aj (aw ck (aB bP (ag 0) af) af)) (aB bP (ag 0) af))))))
def nX:YO Z.pF P w base 2 cm (bX):=
 fY ["_law_labels","_law_way","_law_cell_here","_law_at"] λz I B=>(ah (cp (aJ (pq B.units) (ag 1) af) (ao (aA (aj (de_rev (ag 0))))) b9) (ah (cp (PW.pt (Hg (aJ (pq B.units) (ag 0) (aj (aX bq))) (yM (aJ (pq B.units) (ag 1) af)))) (ao (aA (aj (aX bq)))) b9) (ah (bo I (aw cT (aw cL (ag 2) af) (az gu Z.eZ H_ (da1 (ag 0))))) (ah (cp (aJ (pq B.units) (ag 1) af) (ao (aA (aj (aw ck (aj (wm x_sl (ag 0) jD (iK (ag 3)))) (aj (wm x_sl (ag 0) (iK (aj (aw ck (ag 3) af))) jD)))))) b9) (ah (cp (PW.pt (Hg (aJ (pq B.units) (ag 1) af) (yM (aJ (pq B.units) (ag 1) af)))) (ao (aA (aj (aw ck (aj (aw ck (aj (wm x_sl (ag 0) jD (iK (ag 3)))) (aj (aX (da1 (dY (ie Z) B (da3 (aB bP (ag 0) (ag 3)) (ag 1) (aw cL (ag 2) af)))))))) (aj (wm x_sl (ag 0) (iK (aj (aw ck (ag 3) af))) jD)))))) b9) (ah (cp (aJ (pq B.units) (ag 1) af) (ao (aA (aj (aw ck (ag 0) (aj (aX (da1 (aB bP (ag 0) (ag 3))))))))) b9) (ah (cp (aJ (pq B.units) (ag 1) af) (ao (aA (aj (aw ck (ag 0) (aj (aX (da1 (dY (ie Z) B (da3 (aB bP (ag 0) (ag 3)) (ag 1) (ag 2)))))))))) b9) (ao (aA (ag 0))))))))))
def oI:YO Z.AZ P w base 3 cm (fE):=
 fY ["_law_paper","_law_cell_here","_law_many","_law_keys","_law_some","_law_other","_law_way","_law_after","_law_strange"] λz I B=>(ah (bo I (aj (az (jg B.units) Z.gB LI (da1 (ag 0))))) (ah (bo I (aB bP (ag 3) (aw cT (aw cT (aw kz (ag 1) af) af) (az gu Z.eZ H_ (da1 (ag 3)))))) (ah (bo I (aB bP (ag 3) (aw cT (aw cT (aw kz (ag 1) af) af) (az gu Z.eZ H_ (da1 (ag 3)))))) (ah (bo I (aw cT (ag 1) af)) (ah (nh I (aK c_dictC Z.Ez oB (da1 (ag 0)))) (ah (ni B.units (ag 4) (dY (nX Z) B (da3 (aB (sS B.units) (ag 0) (ag 4)) (ag 6) (ag 1)))) (ah (cp (aJ (pq B.units) (ag 6) af) (ao (ds_popD B.units (ag 4))) b9) (ah (we cm ["_law_flight","_law_paper"] [d_,a_ 0] I (d7 Z.cj (da1 (ag 2))) (λ_ _ _ _ _=>cN dkK) (aC rfl) (λ_ _ _ _ _=>iH (aJ (o_notInK B.units) (bU (da1 (ag 0))) (ag 1))) (λ_ _ _ _ _=>(bU (da1 (ag 0))))) (ah (cp (PW.pt (CA (aJ (pq B.units) (ag 6) af) (wd (aJ (Et B.units) (ag 8) (aj (aX bq)))))) (ao (ni B.units (aB bP (ag 8) (rT qN af)) (aj (aK oS Z.kl IZ (da1 (aB (sS B.units) (ag 0) (bU bq))))))) b9) (ah (cp (aJ (pq B.units) (ag 6) af) (ah (ni B.units (ag 4) (aB (sS B.units) (ag 0) (ag 5))) (ah (ni B.units (ag 5) (aB (sS B.units) (ag 0) (ag 4))) (cb b9))) (cb (O2:=[]) b9)) (ao (aA (ag 7)))))))))))))
end
def eB:jM ["pool","size","choices","place","one","rest"] ["pool","size"] (aT fZ):=⟨rfl,rfl,rfl,by decide +kernel,rfl,by decide +kernel,by decide +kernel⟩
def sY{P:IQ}{K:Pn}{base:IF}{CR:h_}(Z:Zs K mg CR CP)(B:Def K mg "choices_of" fZ ["pool","size"] c6 bK){d:Nat}{h:b0}(I:jN P w K mg base CX0 d c6 bK ["pool","size"] (spF K cm (bV 6 2 h) 2)):jN P w K mg base CX0 (d+1) c6 bK ["pool","size"] (spF K cm (bV 6 2 (oO (bV 6 2 h))) 2):=
 fn_D (O':=[]) B.fn eB cm _ λcdv A outer s H E S=>
  (ah (cp (aJ (pq S.units) (ag 1) af)
   (ao (aA (aj (aX (bL (bU bq) bq)))))
   b9)
  (ah (AJ eB.nd (aX bq))
  (ah (bG (di_enum Z.jm (ag 0)) (lP rfl (ba eB.nd (ba eB.nd dR)))
   (ao (bG (bE (Hx I S B.mg B.fn.kp B.bd (bL (aj (wm x_sl (ag 0) (iK (aj (aw ck (ag 3) af))) jD)) (bL (aw tm (ag 1) af) bq)))) (gK eB.nd)
   (ao (jC (aj (aw ck (bU (bL (ag 4) bq)) (ag 5))))))))
  (cb (O2:=[]) (ao (aA (ag 2)))))))
theorem lU{P:IQ}{w:JX}{K:Pn}{mg:Ld}{base:IF}{CR CP:h_}(Z:Zs K mg CR CP){c6:h_}{bK:Kw}(B:Def K mg "choices_of" fZ ["pool","size"] c6 bK):∀d:Nat,jN P w K mg base CX0 d c6 bK ["pool","size"] (spF K cm (bV 6 2 (e9 d)) 2)
 |0=>fn_stk|d+1=>sY Z B (lU Z B d)
def vC{P:IQ}{K:Pn}{base:IF}{CR:h_}(Z:Zs K mg CR CP)(B:Def K mg "choices_of" fZ ["pool","size"] c6 bK):jN P w K mg base CX0 6 c6 bK ["pool","size"] (spF K cm kA 2):=lU Z B 6
section
variable{P:IQ}{base:IF}{K:Pn}{CR:h_}(Z:Zq n P w base K mg CR CP)
include Z
def vw:YO Z.e9 P w base 6 cm (kA):=let ⟨_,_,D⟩:=Z.e9;⟨_,_,D,vC Z D⟩
def jT:YO Z.rY P w base 7 e_ (gX):=
 fY ["many","shift","size","sure","free"] λz B I=>(ah (bo B (de_trng1 Z.eA Z.cj (da1 (az (Ba rfl) Z.zQ Og (da2 af (aw tm (ag 2) (ag 1))))))) (ah (bo B (aj (de_lrng2 Z.kl Z.cj (da2 (az gu Z.eZ H_ (da1 (ag 3))) (az (c_min rfl) Z.z_min boot_min (da2 (ag 0) (aj (aw ck (ag 2) (ag 1))))))))) (ao (aA (bR ["some","sure"] [d_,a_ 3] (bE (dY (vw Z) I (da2 (ag 4) (aw tm (ag 2) (az gu Z.eZ H_ (da1 (ag 3))))))) (λ_ _ _ _ _=>cN dkK) (aC rfl) (λ_ _ _ _ _=>cK) (λ_ _ _ _ _=>(aj (aw ck (ag 1) (ag 0)))))))))
def iY:YO Z.pC P w base 1 cm (cM):=
 fY ["some"] λz B I=>(ao (aA (aj (bR ["place","flight","some"] [d_,d_,a_ 0] (wg Z.jm (ag 0)) (λ_ _ _ _ _=>lP rfl (gp dkK (gp dkK dR))) (mS am) (λ_ _ _ _ _=>cK) (λ_ _ _ _ _=>(bU (da2 (aj (aw ck (aj (wm x_sl (ag 2) jD (iK (ag 0)))) (aj (wm x_sl (ag 2) (iK (aj (aw ck (ag 0) af))) jD)))) (ag 1))))))))
def sZ:YO Z.wo P w base 8 cm (dj):=
 fY ["many","shift","counts","size","grown","some"] λz B I=>(ah (bo B (aj (de_disp1 I.units (bU bq) af))) (ah (bG (Hr Z.cj (da2 af (aj (aw ck (ag 0) af)))) (gK B) (ah (nh B Hv) (ah (bG (bE (aj (dY (jT Z) I (da3 (ag 0) (ag 1) (ag 3))))) (gK B) (ao (ds_putD (i:=4) I.units (ag 5) (az (c_sum rfl) Z.z_sum boot_sum (da1 (aj (bR ["smaller","flight","counts"] [d_,d_,a_ 2] (bE (dY (iY Z) I (da1 (ag 5)))) (λ_ _ _ _ _=>lP rfl (gp (i:=0) dkK (gp (i:=1) dkK dR))) (mS am) (λ_ _ _ _ _=>cK) (λ_ _ _ _ _=>(AR I.units (ag 2) (ag 0) af))))))))) (cb (O2:=[]) (ao (bo B (ag 4))))))) (ao (aA (de_sumV rfl Z.z_sum (ag 2))))))
def fw:YM Z.m_M_R_many_strips P w mg base 1 cm (br):=
 fM ["self"] λz B I=>(ao (aA af))
def fy:YM Z.m_M_P_many_strips P w mg base 1 cm (bC):=
 fM ["self"] λz B I=>(ao (aA af))
def vq:YO Z.yS P w base 9 cm (ij CR CP n):=
 fY ["rules","many","shift","plans","flight"] λz S U=>let ⟨_,_,a,I⟩:=fy Z;let ⟨_,_,Y,B⟩:=fw Z;(ah (bo S (dY (sZ Z) U (da2 (ag 1) (ag 2)))) (ah (bG (d7 Z.cj (da1 (ag 1))) (gK S) (ao (bo S (aw kz (ag 3) (nr Z.kR.cl Y.mt B (U.mono am) Y.bd Z.kP.cl a.mt I (U.mono am) a.bd (ag 0)))))) (ao (aA (ag 3)))))
def mO:YO Z.om P w base 10 cm (di CR CP n):=
 fY ["rules","flights","shift"] λz I B=>(ao (cp (aJ o_gt (dY (vq Z) B (da3 (ag 0) (az gu Z.eZ H_ (da1 (ag 1))) (ag 2))) (AQ Z.yq)) (ao Hk) b9))
def nW:YO Z.pE P w base 8 cm (dN):=
 fY ["many","shift","beginnings","size"] λz B I=>(ah (nh B (aX bq)) (ah (bG (d7 Z.cj (da1 (aj (aw ck (ag 0) af)))) (gK B) (ao (ds_ext (dY (jT Z) I (da3 (ag 0) (ag 1) (ag 3)))))) (cb (O2:=[]) (ao (aA (ag 2))))))
def mq:YO Z.nt P w base 1 cm (cR):=
 fY ["closed","joined","start","stop"] λz B I=>(ah (nh B (aX bq)) (ah (bG (bE (aj (az sH Z.gB LI (da1 (ag 0))))) (lP rfl (ba B (ba B dR))) (ao (cp (PW.pt (CA (m6 (ag 1)) (wd (aJ o_le (ag 2) (aB bP (aB bP (ag 1) (rT qN af)) af))))) (ao (ds_setI (bU (da2 (aB bP (aB bP (ag 1) (rT qN af)) af) (az (Ba rfl) Z.zQ Og (da2 (ag 3) (aB bP (aB bP (ag 1) (rT qN af)) af))))) (rT qN af))) (ao (jC (bU (da2 (ag 2) (ag 3)))))))) (cb (O2:=[]) (ao (aA (ag 1))))))
def xU:YO Z.AS P w base 2 cm (fD):=
 fY ["closed","time","start","stop"] λz B I=>(ah (bG (bE (dY (mq Z) I (da1 (ag 0)))) (lP rfl (ba B (ba B dR))) (ao (cp (pV o_le o_lt (ag 2) (ag 1) (ag 3)) (ao (aA (ag 3))) b9))) (ao (aA (ag 1))))
theorem vt:YO Z.yT P w base 1 cm (ik):=
 fY ["lasts","spot","time","rows"] λz B I=>(Hl ["row"] [d_] B (bE (ag 0)) (λ_ _ _ _ _=>cN a0) (aC rfl) (λ_ _ _ _ _=>cK) (λ_ _ _ _ _=>(aK oS Z.kl IZ (da1 (ag 0)))) qW (ag 2) (aB bP (ag 1) af) (aB bP (ag 1) af) (ao (aA (aK fK Z.eA Io (da1 (aj (bR ["row"] [d_] (bE (ag 3)) (λ_ _ _ _ _=>cN a0) (aC rfl) (λ_ _ _ _ _=>cK) (λ_ _ _ _ _=>(aK fK Z.eA Io (da1 (ag 0)))))))))))
def xV:YO Z.AU P w base 1 cm (jt):=
 fY ["flight","time","due","price"] λz B I=>(ah (bo B (aB bP (ag 0) af)) (ah (bo B (aB bP (ag 0) af)) (ao (aA (aw kz (ag 3) (az (Ba rfl) Z.zQ Og (da2 af (aw tm (ag 1) (ag 2)))))))))
def An:YM Z.m_M_R_apart P w mg base 1 cm (eD CR CP n):=
 fM ["self","one","other"] λz B I=>(ao (aA (aB bP (aB bP (yR Z.jB (ag 0)) (aB bP (ag 1) af)) (aB bP (ag 2) af))))
def Ao:YM Z.m_M_P_apart P w mg base 1 cm (dZ CR CP n):=
 fM ["self","one","other","rows"] λz B I=>(ah (bo B (de_ite (aJ (pq I.units) (aB bP (ag 1) af) (aB bP (ag 2) af)) (yR Z.jB (ag 0)) (yR Z.uC (ag 0)))) (ao (aA (aB bP (aB bP (ag 3) (aB bP (ag 1) af)) (aB bP (ag 2) af)))))
def nV:YO Z.pD P w base 2 cm (dM CR CP n):=
 fY ["rules","lasts","spot","times","strip","row","kind","last"] λz S U=>let ⟨_,_,Y,I⟩:=Ao Z;let ⟨_,_,a,B⟩:=An Z;(ah (nh S (aX bq)) (ah (bG (wg Z.jm (ag 1)) (lP rfl (ba S (ba S dR))) (ao (bG (wg Z.jm (ag 5)) (lP rfl (ba S (ba S dR))) (ao (cp (aJ (Et U.units) (ag 7) (rT qN af)) (ao (jC (aj (aw ck (ag 7) (de_meth2 Z.kR.cl a.mt B U a.bd Z.kP.cl Y.mt I U Y.bd (ag 0) (da2 (bU (da2 (ag 6) (ag 4))) (ag 2))))))) b9))))) (cb (O2:=[]) (ao (aA (ag 3))))))
def qJ:YO Z.tB P w base 3 cm (cO CR CP n):=
 fY ["rules","flights","closed","label","flight","strip","told","spot","time"] λz I B=>(ah (bo I (aB bP (ag 1) (ag 4))) (ah (bo I (bU (da2 (aB bP (ag 6) af) (ag 5)))) (ah (bo I (dY (xU Z) B (da2 (ag 2) (az (Ba rfl) Z.zQ Og (da1 (aj (aw ck (aj (aX (da1 (aB bP (ag 6) af)))) (dY (nV Z) B (da3 (ag 0) (aB bP (ag 3) af) (ag 7)))))))))) (ah (cp (aJ o_gt (ag 8) (aB bP (ag 6) af)) (ao (aA yQ)) b9) (ao (aA (bU (da2 (aj (aw ck (aB bP (ag 3) af) (dY (xV Z) B (da2 (ag 6) (ag 8))))) (dY (vt Z) B (da3 (aB bP (ag 3) af) (ag 7) (ag 8)))))))))))
def pf:YO Z.rW P w base 4 cm (eC CR CP n):=
 fY ["rules","flights","closed","paper","some","found","smaller","flight","label","strip","behind"] λz S U=>let ⟨_,_,a,I⟩:=fy Z;let ⟨_,_,Y,B⟩:=fw Z;(ah (nh S de_newL) (ah (bG (bE (dY (iY Z) U (da1 (ag 4)))) (lP rfl (ba S (ba S dR))) (ao (bG (bE (AR U.units (ag 3) (ag 6) (aj (aX bq)))) (gK S) (ao (bG (d7 Z.cj (da1 (nr Z.kR.cl Y.mt B (U.mono am) Y.bd Z.kP.cl a.mt I (U.mono am) a.bd (ag 0)))) (gK S) (ah (bo S (dY (qJ Z) U (da6 (ag 0) (ag 1) (ag 2) (ag 8) (ag 7) (ag 9)))) (ao (cp (aJ G7 (ag 10) yQ) (ao (ds_putT U.units (ag 10) iM)) b9)))))))) (cb (O2:=[]) (ao (aA (ag 5))))))
def t7:YO Z.wq P w base 1 cm (cF):=
 fY ["one","other","row","bounds","last","bound"] λz B I=>(ah (cp (aJ o_gt (aB bP (ag 0) af) (aB bP (ag 1) af)) (ao (aA iM)) b9) (ah (bG (AM Z.z_zip (aB bP (ag 0) af) (aB bP (ag 1) af)) (lP rfl (ba B (ba B dR))) (ao (bG (AM Z.z_zip (ag 2) (ag 3)) (lP rfl (ba B (ba B dR))) (ao (cp (aJ o_gt (ag 4) (ag 5)) (ao (aA iM)) b9))))) (ao (aA iM))))
def qK:YO Z.tE P w base 2 cm (cP):=
 fY ["labels","label","one"] λz B I=>(ah (bG (Ht (ag 0)) (gK B) (ao (cp (m6 (dY (t7 Z) I (da2 (ag 2) (ag 1)))) (ao (aA iM)) b9))) (ao (aA iM)))
def pj:YM Z.m_M_R_many_kinds P w mg base 1 cm (b8 CR CP n):=
 fM ["self"] λz B I=>(ao (aA (az gu Z.eZ H_ (da1 (yR Z.jB (ag 0))))))
def pk:YM Z.m_M_P_many_kinds P w mg base 1 cm (b8 CR CP n):=
 fM ["self"] λz B I=>(ao (aA (az gu Z.eZ H_ (da1 (yR Z.jB (ag 0))))))
def t8:YO Z.wt P w base 2 cm (ju CR CP n):=
 fY ["rules","row"] λz e Y=>let ⟨_,_,a,U⟩:=pk Z;let ⟨_,_,d,I⟩:=fy Z;let ⟨_,_,b,S⟩:=pj Z;let ⟨_,_,c,B⟩:=fw Z;(ah (bo e (aK fK Z.eA Io (da1 (aj (bR ["kind"] [d_] (d7 Z.cj (da1 (nr Z.kR.cl b.mt S Y b.bd Z.kP.cl a.mt U Y a.bd (ag 0)))) (λ_ _ _ _ _=>cN dkK) (aC rfl) (λ_ _ _ _ _=>cK) (λ_ _ _ _ _=>(rT qN af))))))) (ao (aA (bU (da2 af (aK fK Z.eA Io (da1 (aj (bR ["strip","row"] [d_,a_ 1] (d7 Z.cj (da1 (nr Z.kR.cl c.mt B Y c.bd Z.kP.cl d.mt I Y d.bd (ag 0)))) (λ_ _ _ _ _=>cN dkK) (aC rfl) (λ_ _ _ _ _=>cK) (λ_ _ _ _ _=>(ag 1)))))))))))
def ph:YO Z.rX P w base 5 cm (cy CR CP n):=
 fY ["rules","flights","closed","paper","some","behind","told"] λz I B=>(ah (cp (aJ (pq B.units) (ag 4) (bU bq)) (ao (aA (CK (pq B.units) (aB (sS B.units) (ag 3) (ag 4)) (aj (aX (da1 (dY (t8 Z) B (da1 (ag 0))))))))) b9) (ah (bo I (dY (pf Z) B (da5 (ag 0) (ag 1) (ag 2) (ag 3) (ag 4)))) (ah (bo I (aj (aK (c_dictLD B.units) Z.Ez oB (da1 (aj (bR ["label"] [d_] (bE (aB (sS B.units) (ag 3) (ag 4))) (λ_ _ _ _ _=>cN dkK) (aC rfl) (λ_ _ _ _ _=>cK) (λ_ _ _ _ _=>(bU (da2 (ag 0) iM))))))))) (ah (cp (yN (m6 (az (HS rfl) Z.EA Qm (da1 (aj (bR ["label","behind"] [d_,a_ 5] (Ht (ag 6)) (λ_ _ _ _ _=>cN dkK) (aC rfl) (λ_ _ _ _ _=>cK) (λ_ _ _ _ _=>(CK (o_inL B.units) (ag 0) (ag 1))))))))) (ao (aA iM)) b9) (ao (aA (az (HS rfl) Z.EA Qm (da1 (aj (bR ["label","told"] [d_,a_ 6] (Ht (ag 5)) (λ_ _ _ _ _=>cN dkK) (aC rfl) (λ_ _ _ _ _=>iH (aJ (o_notInL B.units) (ag 0) (ag 1))) (λ_ _ _ _ _=>(dY (qK Z) B (da2 (ag 1) (ag 0))))))))))))))
def Ai:YO Z.Ea P w base 11 cm (j7 CR CP n):=
 fY ["rules","flights","closed","shift","paper","beginnings"] λz I B=>(ah (ds_drop (dY (mO Z) B (da3 (ag 0) (ag 1) (ag 3)))) (ah (bo I (dY (nW Z) B (da2 (az gu Z.eZ H_ (da1 (ag 1))) (ag 3)))) (ah (cp (aJ (Et B.units) (aj (az (jg B.units) Z.gB LI (da1 (ag 4)))) (aj (az (jg B.units) Z.gB LI (da1 (ag 5))))) (ao (aA iM)) b9) (ao (aA (az (HS rfl) Z.EA Qm (da1 (aj (bR ["some","rules","flights","closed","paper"] [d_,a_ 0,a_ 1,a_ 2,a_ 4] (bE (ag 5)) (λ_ _ _ _ _=>cN dkK) (aC rfl) (λ_ _ _ _ _=>cK) (λ_ _ _ _ _=>(dY (ph Z) B (da5 (ag 1) (ag 2) (ag 3) (ag 4) (ag 0)))))))))))))
def xX:YO Z.AW P w base 3 cm (jw CR CP n):=
 fY ["_law_gaps_here","_law_flights_here","_law_closed_here","_law_paper","_law_some","_law_made_here","_law_flight","_law_ahead","_law_label","_law_strip","_law_behind_here"] λz B I=>(ah (nh B (aX bq)) (ah (bG (bE (ag 4)) (gK B) (ah (bo B (aK fK Z.eA Io (da1 (aj (bR ["_law_other","_law_flight"] [d_,a_ 6] (bE (ag 4)) (λ_ _ _ _ _=>cN dkK) (aC rfl) (λ_ _ _ _ _=>iH (aJ (Et I.units) (ag 0) (ag 1))) (λ_ _ _ _ _=>(ag 0))))))) (ao (bG (bE (AR I.units (ag 3) (ag 7) (aj (aX bq)))) (gK B) (ao (bG (d7 Z.cj (da1 (az gu Z.eZ H_ (da1 (ag 0))))) (gK B) (ah (bo B (dY (lV Z) I (da6 (ag 0) (ag 1) (ag 2) (ag 8) (ag 6) (ag 9)))) (ao (cp (aJ G7 (ag 10) yQ) (ao (jC (ag 10))) b9))))))))) (cb (O2:=[]) (ao (aA (ag 5))))))
def Ak:YO Z.Ec P w base 4 cm (j8 CR CP n):=
 fY ["_law_gaps_here","_law_flights_here","_law_closed_here","_law_paper","_law_sets","_law_some","_law_made_here","_law_behind_here"] λz I B=>(ah (cp (PW.pt (Hg (aJ (Et B.units) (aj (az (jg B.units) Z.gB LI (da1 (ag 3)))) (aj (az (jg B.units) Z.gB LI (da1 (ag 4))))) (yM (aJ (Et B.units) (aB (sS B.units) (ag 3) (bU bq)) (aj (aX (da1 (dY (mP Z) B (da1 (ag 0)))))))))) (ao (aA iM)) b9) (ah (bG (bE (ag 4)) (gK I) (ao (cp (aJ (Et B.units) (ag 5) (bU bq)) (ah (bo I (dY (xX Z) B (da5 (ag 0) (ag 1) (ag 2) (ag 3) (ag 5)))) (ah (cp (aJ (Et B.units) (aj (bR ["_law_label","_law_made_here"] [d_,a_ 6] (bE (aB (sS B.units) (ag 3) (ag 5))) (λ_ _ _ _ _=>cN dkK) (aC rfl) (λ_ _ _ _ _=>iH (aJ (Aq B.units) (ag 0) (ag 1))) (λ_ _ _ _ _=>(ag 0)))) (aj (aX bq))) (ao (aA iM)) b9) (ao (bG (bE (ag 6)) (gK I) (ao (cp (aJ (pq B.units) (aj (bR ["_law_label","_law_behind_here"] [d_,a_ 7] (bE (aB (sS B.units) (ag 3) (ag 5))) (λ_ _ _ _ _=>cN dkK) (aC rfl) (λ_ _ _ _ _=>iH (m6 (dY (jU Z) B (da2 (ag 0) (ag 1))))) (λ_ _ _ _ _=>(ag 0)))) (aj (aX bq))) (ao (aA iM)) b9)))))) b9))) (ao (aA iM))))
def ok_law:YO (law_d Z.d_law) P w base 12 cm (m_law CR CP n):=
 fY ["_law_script","_law_gaps_here","_law_shift","_law_many","_law_closed_here","_law_flights_here","_law_every","_law_least_here","_law_some","_law_rules_here","_law_cell_here","_law_paper","_law_handed","_law_found","_law_due_here"] λz I B=>(ah (bo I (dY (xY Z) B (da1 (ag 0)))) (ah (Hj (dY (Aj Z) B (da2 (ag 0) (ag 1))) (lP rfl (ba I (ba I dR)))) (ah (bo I (dY (tj Z) B (da1 (ag 0)))) (ah (bo I (dY (qL Z) B (da4 (ag 0) af (az gu Z.eZ H_ (da1 (aB bP (ag 1) af))) (ag 3)))) (ah (bo I (dY (Am Z) B (da4 (ag 1) (ag 5) (ag 4) (ag 2)))) (ah (nh I Hv) (ah (bG (di_keysK (ag 6)) (gK I) (ao (ni B.units (ag 8) (dY (vz Z) B (da1 (aB (sS B.units) (ag 6) (ag 8))))))) (cb (ah (bo I (dY (vy Z) B (da1 (ag 1)))) (ah (bo I (dY (bw Z) B (da2 (ag 0) af))) (ah (bG (bE (aj (aX (da4 (ag 6) (ag 7) (dY (oI Z) B (da3 (ag 6) (ag 10) (ag 3))) (dY (oI Z) B (da3 (ag 7) (aw cL (ag 10) af) (ag 3))))))) (gK I) (ah (bo I (aj (aK (c_dictL rfl B.units) Z.Ez oB (da1 (aj (bR ["_law_some","_law_labels"] [d_,d_] (di_items (ag 11)) (λ_ _ _ _ _=>lP rfl (gp dkK (gp dkK dR))) (mS am) (λ_ _ _ _ _=>cK) (λ_ _ _ _ _=>(bU (da2 (ag 0) (aj (aK oS Z.kl IZ (da1 (ag 1))))))))))))) (ah (bo I (dY (Ai Z) B (da5 (ag 9) (aj (aK oS Z.kl IZ (da1 (ag 5)))) (aj (aK oS Z.kl IZ (da1 (ag 4)))) (ag 2) (ag 12)))) (ah (bo I (dY (Ak Z) B (da5 (ag 1) (ag 5) (ag 4) (ag 11) (aj (aK c_listK Z.kl IZ (da1 (ag 6))))))) (ah (cp (PW.pt (Hg (yN (m6 (rV Z.kit Z.i8 Z.z_bool (ag 13)))) (yM (aJ (Et B.units) (ag 13) (ag 14))))) (ao (aA iM)) b9) (ao (cp (aJ (o_neK B.units) (ag 12) (ag 11)) (ao (aA iM)) b9))))))) (ao (aA iM)))))))))))))
end
noncomputable abbrev iU:=Int×Int
variable{cs as:List iU}{p:iU}
noncomputable def stD(p:iU):A':=.tup [.int p.1,.int p.2]
theorem x4:∀cs:List iU,gC (cs.map stD)=.ok (cs.map λp=>[p.1,p.2])
 |[]=>rfl|p::cs=>by simp[gC,tupD,stD,bZ,x4 cs]
theorem Fj(cs:List iU):∃I:List iU,fT [.lst (cs.map stD)]=.ok (.lst (I.map stD))/\I.Perm cs/\I.Pairwise (λp q=>p.1<=q.1):=by
 cases f:cs with
 |nil=>simp[fT,nO,bZ,cv]|cons p ps=>
  rw[<- f];have hi:∃e,bZ (cs.map stD)=.error e:=⟨.stuck,by simp_all[bZ,stD,asI]⟩
  obtain⟨e,d⟩:=hi;have S:((cs.map λp=>[p.1,p.2]).all λt=> !t.isEmpty)=e_:=by simp
  have es:fT [.lst (cs.map stD)]=.ok (.lst ((cv qX (cs.map λp=>[p.1,p.2])).map aR)):=by simp only[fT,nO,if_true,d,x4,ai,S]
  have Y:=bD (lt:=qX) (cs.map λp=>[p.1,p.2]);have c:=gh BR (cs.map λp=>[p.1,p.2]);generalize cv qX (cs.map λp=>[p.1,p.2])=L at *
  let B:a9->iU:=λl=>(l.getD 0 0,l.getD 1 0)
  have U:∀l∈L,∃p:iU,l=[p.1,p.2]:=λl h=>by have:=Y.mem_iff.mp h;simp only[IE]at this;obtain⟨p,_,e⟩:=this;exact⟨p,e.symm⟩
  refine⟨L.map B,?_,?_,?_⟩
  .rw[es,Cb]
   congr 2
   refine I_ λl h=>?_;obtain⟨p,rfl⟩:=U l h;rfl
  .have:=Y.map B;rw[Cb]at this;have e2:Pq (B∘λp=>[p.1,p.2]) cs=cs:=by
    rw[I_ (g:=id)]
    .simp
    .intro p _;rfl
   rwa [e2]at this
  .rw[MP];refine c.imp_of_mem λ{a b} j i h=>?_;obtain⟨p,rfl⟩:=U a j;obtain⟨q,rfl⟩:=U b i;show p.1<=q.1;simp[qX]at h;lia
@[simp]def getI_c0(a:A')(l:be):jl (a::l) 0=.ok a:=by simp[jl,atI,ixN,p_]
@[simp] theorem getI_c1(a b:A')(l:be):jl (a::b::l) 1=.ok b:=by unfold jl atI ixN;rw[p_ ac,p_ (by simp<;>lia)];rfl
@[simp] theorem getI_c2(a b c:A')(l:be):jl (a::b::c::l) 2=.ok c:=by unfold jl atI ixN;rw[p_ ac,p_ (by simp<;>lia)];rfl
@[simp] theorem getI_c3(a b c d:A')(l:be):jl (a::b::c::d::l) 3=.ok d:=by unfold jl atI ixN;rw[p_ ac,p_ (by simp<;>lia)];rfl
@[simp] theorem getI_c4(a b c d e:A')(l:be):jl (a::b::c::d::e::l) 4=.ok e:=by unfold jl atI ixN;rw[p_ ac,p_ (by simp<;>lia)];rfl
section
variable(CR CP:h_)
noncomputable def g8(r:a9):A':=.lst (r.map .int)
def aZ(rows:List a9):A':=.lst (rows.map g8)
def sQ(k:Nat)(r:a9):Prop:=r.length=k/\∀x∈r,0<=x/\x<=1000000
def lJ(k:Nat)(rows:List a9):Prop:=rows.length=k/\∀r∈rows,sQ k r
def Dr{lo:Int}(h:(aG lo m)[i]?=a_ d):i<m/\d=.int (lo+i):=by unfold aG at h;rw[E_]at h;obtain⟨a,h1,B⟩:=PN.mp h;have hi:=(oe.mp h1).1;rw[J_]at hi;rw[Mm hi]at h1;cases h1;exact⟨hi,B.symm⟩
theorem gR(h:(aG 0 m)[i]?=a_ d):i<m/\d=.int i:=by obtain⟨h1,B⟩:=Dr h;simp_all
def bW(lo:Int)(m:Nat):(aG lo m).length=m:=by simp[aG]
end
section
variable(CR CP:h_)
def GG(n:Nat)(x:Int)(B:0<=x)(h1:x<=1000000):lj [.int x]=.ok (.bl e_):=by simp[lj,Cm,uN,B,h1]
theorem vO(n:Nat)(k:Nat)(r:a9)(Y:k<=6)(h:sQ k r):dW [g8 r,.int k]=.ok (.bl e_):=by
 have S:r.length<=16777216:=by have:=h.1;lia
 have B:k<=16777216:=ac
 have e:aW (.nm 0) jZ (fL lj (aa (ae 0) au)) [d_] (r.map .int)=.ok ((r.map λ_=>e_).map A'.bl):=by
  have:=eK (p:=.nm 0) (fe:=fL lj (aa (ae 0) au)) (ρ0:=[d_]) (λ_=>.bl e_) (r.map .int) (λd U=>by obtain⟨x,I,rfl⟩:=IE.mp U;exact⟨[a_ (.int x)],ad,by simp[GG n x (h.2 x I).1 (h.2 x I).2]⟩)
  rw[this,Cb,Cb];rfl
 simp[dW,oN,g8,e,S,B,h.1,-Cb]
theorem HB(n:Nat)(rows:List a9)(U:rows.length<=1000):gF [aZ rows]=.ok (aZ rows):=by
 have B:rows.length<=16777216:=ac
 have e:aW (.nm 0) jZ (fL gI (aa (ae 0) au)) [d_] (rows.map g8)=.ok (rows.map g8):=by
  have:=eK (p:=.nm 0) (fe:=fL gI (aa (ae 0) au)) (ρ0:=[d_]) id (rows.map g8) (λd I=>by obtain⟨x,S,rfl⟩:=IE.mp I;simp[g8])
  rw[this,List.map_id]
 simp[gF,mX,aZ,e,B]
theorem uL(n:Nat)(k:Nat)(rows:List a9)(h1:1<=k)(U:k<=6)(h:lJ k rows):aF [aZ rows]=.ok (aZ rows):=by
 have B:rows.length<=16777216:=by have:=h.1;lia
 have e:aW (.nm 0) jZ (fL dW (aa (ae 0) (aa (ae 1) au))) [d_,a_ (.int rows.length)] (rows.map g8)=.ok ((rows.map λ_=>e_).map A'.bl):=by
  have:=eK (p:=.nm 0) (fe:=fL dW (aa (ae 0) (aa (ae 1) au))) (ρ0:=[d_,a_ (.int rows.length)]) (λ_=>.bl e_) (rows.map g8) (λd S=>by obtain⟨x,I,rfl⟩:=IE.mp S;exact⟨[a_ (g8 x),a_ (.int rows.length)],ad,by simp[h.1,vO n k x U (h.2 x I)]⟩)
  rw[this,Cb,Cb];rfl
 have a:(1:Int)<=rows.length:=by have:=h.1;lia
 have Y:(rows.length:Int)<=6:=by have:=h.1;lia
 have e3:=HB n rows ac;simp[aZ]at e3;simp[aF,lY,kc,k9,aZ,e,e3,B,a,Y,-Cb]
def aQ(rows:List a9):A'->A'
 |.non=>.ins CR [("gaps",aZ rows)]|o=>.ins CP [("gaps",aZ rows),("beside",o)]
def vT(rows:List a9)(o:A')(I:o=.non\/∃B,o=aZ B):zy [CR,CP] "gaps" (aQ CR CP rows o)=.ok (aZ rows):=by
 have h1:(("gaps"==("gaps":IL))=e_):=by decide +kernel
 rcases I with rfl|⟨B,rfl⟩
 .show(if ([CR,CP].contains CR)=e_ then(match Jr ("gaps":IL) [("gaps",aZ rows)]with|some d=>Jp d|none=>stk)else stk)=_;simp
 .show(if ([CR,CP].contains CP)=e_ then(match Jr ("gaps":IL) [("gaps",aZ rows),("beside",aZ B)]with|some d=>Jp d|none=>stk)else stk)=_;simp
end
structure Fli where
 kind:Int
 first:Int
 last:Int
 due:Int
 price:Int
noncomputable def flD(f:Fli):A':=.tup [.int f.kind,.int f.first,.int f.last,.int f.due,.int f.price]
structure uR(k:Nat)(f:Fli):Prop where
 k0:0<=f.kind
 k1:f.kind<k
 f0:0<=f.first
 f1:f.first<=f.last
 l1:f.last<=1000000000
 d0:0<=f.due
 d1:f.due<=1000000000
 p0:0<=f.price
 p1:f.price<=1000000000
noncomputable def i4(fl:List Fli)(i:Int):Fli:=match fl[i.toNat]? with
 |some f=>f|none=>⟨0,0,0,0,0⟩
theorem getFl{fl:List Fli}{i:Int}(I:0<=i)(h1:i<fl.length):jl (fl.map flD) i=.ok (flD (i4 fl i))/\i4 fl i∈fl:=by
 have B:i.toNat<fl.length:=ac
 have e:i4 fl i=fl[i.toNat]:=by unfold i4;rw[Ij B]
 have:=iq (ds:=fl.map flD) (by simpa using B);grind
def Cov(cs:List iU)(t:Int):Prop:=∃p∈cs,p.1<=t/\t<p.2
def jj(cs:List iU)(t u:Int):Prop:=t<=u/\¬Cov cs u/\∀v,t<=v->v<u->Cov cs v
def jj.uniq{v:Int}(h:jj cs t u)(k:jj cs t v):u=v:=by
 rcases Int.lt_trichotomy u v with e|e|e
 .exact IA (k.2.2 u h.1 e) h.2.1
 .exact e
 .exact IA (h.2.2 v k.1 e) k.2.1
def Hz(t:Int):¬Cov [] t:=λ⟨_,h,_⟩=>by simp at h
def CM:Cov (p::cs) t↔(p.1<=t/\t<p.2)\/Cov cs t:=by
 constructor
 .rintro⟨q,h,B⟩;rcases x_.mp h with e|e
  .subst e;exact .inl B
  .exact .inr ⟨q,e,B⟩
 .rintro(h|⟨q,h,B⟩)
  .exact⟨p,ad,h⟩
  .exact⟨q,by simp[h],B⟩
theorem jf{bs:List iU}:Cov (as++bs) t↔Cov as t\/Cov bs t:=by
 constructor
 .rintro⟨q,h,B⟩;rcases Iw.mp h with e|e
  .exact .inl ⟨q,e,B⟩
  .exact .inr ⟨q,e,B⟩
 .rintro(⟨q,h,B⟩|⟨q,h,B⟩)
  .exact⟨q,by simp[h],B⟩
  .exact⟨q,by simp[h],B⟩
def cov_perm{bs:List iU}(h:as.Perm bs):Cov as t↔Cov bs t:=⟨λ⟨p,m,q⟩=>⟨p,h.mem_iff.mp m,q⟩,λ⟨p,m,q⟩=>⟨p,h.mem_iff.mpr m,q⟩⟩
theorem B8:Cov [p] t↔p.1<=t/\t<p.2:=by rw[CM];simp[Hz]
noncomputable def tAt(ts:a9)(i:Nat):Int:=ts.getD i 0
noncomputable def rwAt(rows:List a9)(i:Int):a9:=rows.getD i.toNat []
def at2(rows:List a9)(i j:Int):Int:=(rwAt rows i).getD j.toNat 0
def apS(rows B:List a9)(a b:iU):Int:=if a.2=b.2 then at2 rows a.1 b.1 else at2 B a.1 b.1
theorem getT{ts:a9}(h:i<ts.length):jl (ts.map .int) (i:Int)=.ok (.int (tAt ts i)):=by simp_all[iq,tAt]
theorem jx(g:lJ k rows){i:Int}(S:0<=i)(h1:i<k):jl (rows.map g8) i=.ok (g8 (rwAt rows i))/\sQ k (rwAt rows i):=by
 have I:=g.1;have B:i.toNat<rows.length:=ac
 have e:rwAt rows i=rows[i.toNat]:=by simp[rwAt,B]
 refine⟨?_,by exact e▸g.2 _ (Iz B)⟩
 have:=iq (ds:=rows.map g8) (by simpa using B);rw[show((i.toNat:Nat))=i by lia]at this;rw[this,e];simp
theorem getA(g:lJ k rows){i j:Int}(S:0<=i)(h1:i<k)(a:0<=j)(Y:j<k):jl ((rwAt rows i).map .int) j=.ok (.int (at2 rows i j))/\0<=at2 rows i j:=by
 have I:=(jx g S h1).2;have U:=I.1;have B:j.toNat<(rwAt rows i).length:=ac
 have e:at2 rows i j=(rwAt rows i)[j.toNat]:=by simp[at2,B]
 refine⟨?_,by exact e▸(I.2 _ (Iz B)).1⟩
 simp_all[getI_int]
def lookA1(d:A'):Jr ("apart":IL) [(("gaps":IL),d)]=d_:=by rfl
def lookA2(d e:A'):Jr ("apart":IL) [(("gaps":IL),d),(("beside":IL),e)]=d_:=by rfl
section
variable(CR CP:h_)
def HU(rows B:List a9):zy [CP] "beside" (aQ CR CP rows (aZ B))=.ok (aZ B):=by
 have h1:(("beside"==("gaps":IL))=cm):=by decide +kernel
 have I:(("beside"==("beside":IL))=e_):=by decide +kernel
 show(if ([CP].contains CP)=e_ then(match Jr ("beside":IL) [("gaps",aZ rows),("beside",aZ B)]with|some d=>Jp d|none=>stk)else stk)=_;rw[p_ ad,J5,h1,J5,I]
end
def cE{f:b6}{g:b0}(d:A')(h:f (erase O ρ)=.ok d)(k:g (ρ.set i (a_ d))=R):aO (aI O i f) g ρ=R:=by unfold aO aI;rw[h];exact k
def mV{t:cd}{g:b0}(h:t ρ=.ok cm)(k:g ρ=R):aO (sIf t a bJ) g ρ=R:=by unfold aO sIf;rw[h];exact k
def vQ{t:cd}{b g:b0}(h:t ρ=.ok e_)(k:aO a g ρ=R):aO (sIf t a b) g ρ=R:=by unfold aO sIf;rw[h];exact k
def if_end{t:cd}(h:t ρ=.ok cm):sIf t a bJ ρ=.ok (.nx ρ):=by unfold sIf;rw[h];rfl
theorem yt{p:Pat}{b g:b0}(h:it (erase O ρ)=.ok ds)(e:ee p b ds ρ=.ok (.nx ρ'))(k:g ρ'=R):aO (jk O it p b) g ρ=R:=by simp_all[aO,e_for,ai]
theorem rD{p:Pat}{b:b0}(h:it (erase O ρ)=.ok ds):jk O it p b ρ=ee p b ds ρ:=by simp_all
def vi{f:b6}{g:b0}(h:f ρ=.ok d):aO (cu f) g ρ=.ok (.rt d):=by unfold aO cu;rw[h];rfl
theorem vW{α:Type}(D:α->A')(p:α->Bool)(S:ab->Prop){pt:Pat}{g:b0}:∀{xs:List α},(∀x∈xs,∀ρ,S ρ->∃ρ',S ρ'/\(dS pt (D x) ρ).bind g=if p x=e_ then .ok (.nx ρ')else .ok (.rt (.bl cm)))->∀{ρ:ab},S ρ->∃ρ',S ρ'/\ee pt g (xs.map D) ρ=if xs.all p=e_ then .ok (.nx ρ')else .ok (.rt (.bl cm))
 |[],_,ρ,s=>⟨ρ,s,by rfl⟩|x::xs,h,ρ,s=>by
  obtain⟨B,s1,e⟩:=h x ad ρ s;obtain⟨ρ',s',I⟩:=vW D p S (xs:=xs) (λy U=>h y (by simp[U])) s1;refine⟨ρ',s',?_⟩
  rw[v_,ee,List.all_cons];cases c:dS pt (D x) ρ with
  |error z=>rw[c]at e;cases d:p x<;>rw[d]at e<;>cases e
  |ok r=>
   rw[c]at e;have e:g r=_:=e;rw[ai,e];cases p x with
   |false=>rfl|true=>exact I
def vP{t:cd}{b:Bool}(h:t ρ=.ok (!b)):sIf t (cu (fC (.bl cm))) bJ ρ=if b=e_ then .ok (.nx ρ)else .ok (.rt (.bl cm)):=by unfold sIf;rw[h];cases b<;>rfl
def GK{t:cd}{g:b0}{b:Bool}(h:t ρ=.ok (!b))(k:g ρ=R):aO (sIf t (cu (fC (.bl cm))) bJ) g ρ=if b=e_ then R else .ok (.rt (.bl cm)):=by
 unfold aO;rw[vP h];cases b
 .rfl
 .exact k
theorem vX{α β:Type}(D:α->A')(F:α->List β)(S:List β->ab->Prop){pt:Pat}{g:b0}:∀{xs:List α} {acc:List β} {ρ:ab},(∀x∈xs,∀acc ρ,acc.length+(F x).length<16777216->S acc ρ->∃ρ',S (acc++F x) ρ'/\(dS pt (D x) ρ).bind g=.ok (.nx ρ'))->acc.length+(xs.flatMap F).length<16777216->S acc ρ->∃ρ',S (acc++xs.flatMap F) ρ'/\ee pt g (xs.map D) ρ=.ok (.nx ρ')
 |[],acc,ρ,_,_,s=>⟨ρ,a7,by rfl⟩|x::xs,acc,ρ,h,k,s=>by
  rw[MQ,II]at k;obtain⟨B,s1,e⟩:=h x ad acc ρ ac s;obtain⟨ρ',s',I⟩:=vX D F S (xs:=xs) (λy U=>h y (by simp[U])) (by rw[II];lia) s1;refine⟨ρ',a7,?_⟩
  rw[v_,ee];cases c:dS pt (D x) ρ with
  |error z=>simp_all|ok r=>rw[c]at e;have e:g r=_:=e;rw[ai,e];exact I
theorem AD(D:α->A')(p:α->α->Bool)(S:ab->Prop){g:b0}(L M:List α)(h:∀x∈L,∀y∈M,∀ρ,S ρ->∃ρ',S ρ'/\g ((ρ.set i (a_ (D x))).set j (a_ (D y)))=if p x y=e_ then .ok (.nx ρ')else .ok (.rt (.bl cm)))(s:S ρ):∃ρ',S ρ'/\ee (.tp [i,j]) g (wR (L.map D) (M.map D)) ρ=if ((L.zip M).all λq=>p q.1 q.2)=e_ then .ok (.nx ρ')else .ok (.rt (.bl cm)):=by
 have hz:∀L M:List α,wR (L.map D) (M.map D)=(L.zip M).map λq=>A'.tup [D q.1,D q.2]:=λL=>by
  induction L with
  |nil=>simp[Sy,wR.eq_def]|cons x L I=>intro M;cases M with
   |nil=>rfl|cons y M=>simp_all[v_,wR,List.zip_cons_cons]
 rw[hz];exact vW (λq:α×α=>A'.tup [D q.1,D q.2]) (λq=>p q.1 q.2) S (λq B ρ s=>by
  obtain⟨ρ',s',e⟩:=h q.1 (Mf B).1 q.2 (Mf B).2 ρ s;refine⟨ρ',s',?_⟩
  simp_all[dS,QP]) s
def un_nx{is:bi}{f:b6}{g:b0}(ds:be)(h:f (erase O ρ)=.ok (.tup ds))(l:ds.length=is.length)(k:g (mJ is ds ρ)=R):aO (xy O (.tp is) f) g ρ=R:=by unfold aO;rw[e_unpB,h,ai,dS,p_ l];exact k
def qq{f:b6}(h:f ρ=.ok d):cu f ρ=.ok (.rt d):=by unfold cu;rw[h];rfl
def dr_nx{f:b6}{g:b0}(h:f (erase O ρ)=.ok d)(k:g ρ=R):aO (tY O f) g ρ=R:=by unfold aO tY;rw[h];exact k
theorem zf{p:Pat}{ft:cd}{fe:b6}{ρ0:ab}(b:Nat->Bool)(f:Nat->A')(m:Nat)(h:∀j,j<m->∃ρ,dS p (.int j) ρ0=.ok ρ/\ft ρ=.ok (b j)/\(b j=e_->fe ρ=.ok (f j))):aW p ft fe ρ0 (aG 0 m)=.ok (((A_ m).filter b).map f):=by
 have key:∀ks:bi,(∀j∈ks,j<m)->aW p ft fe ρ0 (ks.map λj:Nat=>A'.int j)=.ok ((ks.filter b).map f):=by
  intro ks
  induction ks with
  |nil=>intro _;rfl|cons j ks B=>
   intro S;obtain⟨ρ,e1,e2,e3⟩:=h j (S j ad);have B:=B λx U=>S x (by simp[U]);rw[v_,aW,e1,ai,e2,ai];by_cases I:b j=e_
   .rw[p_ I,e3 I,B,P4 I];rfl
   simp_all
 have:=key _ λj Y=>IM.mp Y;rw[<- this]
 congr 1
 exact I_ λj _=>by simp
def uQ(B:List iU):Prop:=B.Pairwise (λp q=>p.2<q.1)/\∀p∈B,p.1<p.2
theorem vK(n:Nat):ixN (n+1) (-1)=a_ n:=by grind[ixN]
@[simp]def getI_last(ds:be)(d:A'):jl (ds++[d]) (-1)=.ok d:=by simp[jl,atI,II,Np,vK]
def jL(I B:List iU):Prop:=uQ I/\(∀t,Cov I t↔Cov B t)/\I.length<=B.length/\∀j∈I,∃d∈B,d.1=j.1
theorem jL.new{I B:List iU}(h:jL I B)(c:p.1<p.2)(S:∀x∈I,x.2<p.1):jL (I++[p]) (B++[p]):=by
 obtain⟨⟨h1,l⟩,k,n,i⟩:=h;refine⟨⟨?_,?_⟩,?_,a7,?_⟩
 .rw[IW];exact⟨h1,ad,λa g b U=>by simp at U;subst U;exact S a g⟩
 .intro x Y;rcases Iw.mp Y with e|e
  .exact l x e
  .simp at e;subst e;exact c
 .intro t;rw[jf,jf,k]
 .intro j f;rcases Iw.mp f with e|e
  .obtain⟨d,m,z⟩:=i j e;exact⟨d,by simp[m],z⟩
  grind
theorem jL.more{I B:List iU}{q:iU}(h:jL (I++[q]) B)(r:p.1<p.2)(h1:q.1<=p.1)(s:p.1<=q.2):jL (I++[(q.1,iV p.2 q.2)]) (B++[p]):=by
 obtain⟨⟨S,o⟩,t,n,Y⟩:=h;have i:p.2<=iV p.2 q.2:=by unfold iV;split<;>lia
 have g:q.2<=iV p.2 q.2:=by unfold iV;split<;>lia
 have f:iV p.2 q.2=p.2\/iV p.2 q.2=q.2:=by unfold iV;split<;>lia
 rw[IW]at S;refine⟨⟨?_,?_⟩,?_,by simp at n ⊢;lia,?_⟩
 .rw[IW];exact⟨S.1,ad,λa l b U=>by simp at U;subst U;exact S.2.2 a l q ad⟩
 .intro x c;rcases Iw.mp c with e|e
  .exact o x (by simp[e])
  .simp at e;subst e;lia
 .grind[jf,B8]
 .intro j k;rcases Iw.mp k with e|e
  .obtain⟨d,m,z⟩:=Y j (by simp[e]);exact⟨d,by simp[m],z⟩
  .simp at e;subst e;obtain⟨d,m,z⟩:=Y q ad;exact⟨d,by simp[m],z⟩
theorem yB{g:b0}{c:Option A'}{t:Int}(r:iU->A')(a:∀p:iU,g [c,a_ (.int t),a_ (.int p.1),a_ (.int p.2)]=if p.1<=t/\t<p.2 then .ok (.rt (r p))else .ok (.nx [c,a_ (.int t),a_ (.int p.1),a_ (.int p.2)])):
  ∀(B:List iU) (S I:Option A'),(∃p∈B,(p.1<=t/\t<p.2)/\ee (.tp [2,3]) g (B.map stD) [c,a_ (.int t),S,I]=.ok (.rt (r p)))\/(¬Cov B t/\∃Y U,ee (.tp [2,3]) g (B.map stD) [c,a_ (.int t),S,I]=.ok (.nx [c,a_ (.int t),Y,U]))
 |[],S,I=>.inr ⟨Hz t,S,I,rfl⟩|p::B,S,I=>by
  have f:dS (.tp [2,3]) (stD p) [c,a_ (.int t),S,I]=.ok [c,a_ (.int t),a_ (.int p.1),a_ (.int p.2)]:=by simp[stD]
  by_cases h:p.1<=t/\t<p.2
  .refine .inl ⟨p,ad,h,?_⟩;rw[v_,ee,f,ai,a,p_ h];rfl
  .have e:ee (.tp [2,3]) g ((p::B).map stD) [c,a_ (.int t),S,I]=ee (.tp [2,3]) g (B.map stD) [c,a_ (.int t),a_ (.int p.1),a_ (.int p.2)]:=by
    rw[v_,ee,f,ai,a,q_ h];rfl
   rcases yB r a B _ _ with⟨q,i,d,b⟩|⟨d,b⟩
   .exact .inl ⟨q,by simp[i],d,by exact e▸b⟩
   .refine .inr ⟨λz=>?_,by exact e▸b⟩;rcases CM.mp z with z|z
    .exact h z
    .exact d z
theorem uQ.tri:∀{B:List iU},uQ B->∀p∈B,∀q∈B,p=q\/p.2<q.1\/q.2<p.1
 |[],_,p,I,_,_=>by simp_all|a::B,⟨h1,Y⟩,p,I,q,U=>by
  rw[Kh]at h1;rcases x_.mp I with e|e<;>rcases x_.mp U with e2|e2
  .exact .inl (e.trans e2.symm)
  .subst e;exact .inr (.inl (h1.1 q e2))
  .subst e2;exact .inr (.inr (h1.1 p e))
  .exact uQ.tri ⟨h1.2,λx S=>Y x (by simp[S])⟩ p e q e2
section
variable(CR CP:h_)
theorem Gx(n:Nat)(cs:List iU)(H:cs.length<64)(C:∀p∈cs,p.1<p.2):∃B:List iU,cR [.lst (cs.map stD)]=.ok (.lst (B.map stD))/\uQ B/\(∀t,Cov B t↔Cov cs t)/\B.length<=cs.length:=by
 obtain⟨b,e,r,hw⟩:=Fj cs;have y:b.length=cs.length:=r.length_eq;have key:=iy (p:=.tp [2,3]) (g:=cw)
  (λk ρ=>∃B l h,ρ=[a_ (.lst (cs.map stD)),a_ (.lst (B.map stD)),l,h]/\jL B (b.take k)) (b.map stD) 0 [a_ (.lst (cs.map stD)),a_ (.lst []),d_,d_] ⟨[],d_,d_,rfl,⟨by simp[uQ],λt=>Iff.rfl,ad,ad⟩⟩ (by
  rintro i d ρ z ⟨B,l,h,rfl,I⟩;rw[E_]at z;obtain⟨p,a,rfl⟩:=PN.mp z;obtain⟨hi,D⟩:=oe.mp a;have o:b.take (0+i+1)=b.take (0+i)++[p]:=by rw[Jw,Po,a];rfl
  have Y:p.1<p.2:=C p (r.mem_iff.mp (Jd a));have U:∀j∈B,j.1<=p.1:=λj u=>by
   obtain⟨d,F,J⟩:=I.2.2.2 j u;obtain⟨m,G,E⟩:=List.mem_take_iff_getElem.mp F;have:=KL.mp hw m i ac hi ac
   lia
  have v:B.length<64:=by
   have:=I.2.2.1;rw[JO]at this
   lia
  refine⟨_,by rfl,?_⟩
  rw[o];rcases List.eq_nil_or_concat B with f|⟨S,q,f⟩
  .subst f;refine⟨_,.inl (by rfl),[p],a_ (.int p.1),a_ (.int p.2),by rfl,by simpa using I.new Y ad⟩
  .rw[List.concat_eq_append]at f;subst f;by_cases w:p.1<=q.2
   .refine⟨_,.inl (by simp[cw,dE,stD,w,lM,yA,vK];rfl),S++[(q.1,iV p.2 q.2)],a_ (.int p.1),a_ (.int p.2),?_,I.more Y (U q ad) w⟩
    simp[stD]
   .have s:∀x∈S++[q],x.2<p.1:=λx A=>by
     rcases Iw.mp A with e|e
     .have h1:=(IW.mp I.1.1).2.2 x e q ad;grind
     simp_all
    simp at v;have c:S.length+1<16777216:=ac
    refine⟨_,.inl (by simp[cw,dE,stD,w,c];rfl),S++[q]++[p],a_ (.int p.1),a_ (.int p.2),by simp[stD],I.new Y s⟩)
 obtain⟨ρ',e2,B,l,h,rfl,I⟩:=key;refine⟨B,?_,I.1,λt=>?_,?_⟩
 .simp[cR,ir,e,e2]
 .rw[I.2.1 t,Jw,l_,M3];exact cov_perm r
 .have:=I.2.2.1;simp_all
theorem G9(n:Nat)(cs:List iU)(t:Int)(b:cs.length<64)(Y:∀p∈cs,p.1<p.2):∃u,fD [.lst (cs.map stD),.int t]=.ok (.int u)/\jj cs t u:=by
 obtain⟨U,e,d,B,_⟩:=Gx n cs b Y;rcases yB (g:=jJ) (c:=a_ (.lst (cs.map stD))) (t:=t) (λp=>.int p.2) (λp=>by by_cases h1:p.1<=t<;>by_cases I:t<p.2<;>simp[jJ,nC,h1]) U d_ d_ with⟨p,S,h,e2⟩|⟨h,i,f,e2⟩
 .refine⟨p.2,by simp[fD,my,e,e2],ac,λz=>?_,λv h1 I=>(B v).mp ⟨p,S,ac,I⟩⟩
  obtain⟨q,a,j⟩:=(B _).mpr z;rcases d.tri p S q a with e|e|e
  .lia
  .lia
  .lia
 .exact⟨t,by simp[fD,my,e,e2],O4 _,λz=>h ((B t).mpr z),λv h1 I=>by lia⟩
end
def late(f:Fli)(t:Int):Int:=f.price*iV 0 (t-f.due)
section
variable(CR CP:h_)
theorem late_ok(n:Nat)(f:Fli)(t:Int)(S:0<=f.price)(h1:f.price<=1000000000):jt [flD f,.int t]=.ok (.int (late f t)):=by
 have I: -18446744073709551616<f.price:=ac
 have B:f.price<18446744073709551616:=ac
 simp[jt,rn,flD,I,B,late]
end
def yG(ns:a9):eqM (.lst (ns.map .int)) (.lst [])=.ok (.bl ns.isEmpty):=by simp[C',eqM,kj,eqD]
structure Gp where
 k:Nat
 rows:List a9
 two:Bool
 r2:List a9
variable{g:Gp}
structure Gp.Good(g:Gp):Prop where
 k1:1<=g.k
 k3:g.k<=3
 rows:lJ g.k g.rows
 r2:lJ g.k g.r2
def Gp.o(g:Gp):A':=if g.two=e_ then aZ g.r2 else .non
noncomputable def Gp.s(g:Gp):Nat:=if g.two=e_ then 2 else 1
def Gp.D(g:Gp):A':=.lst (if g.two=e_ then [aZ g.rows,aZ g.r2]else [aZ g.rows])
noncomputable def tupI(r:a9):A':=.tup (r.map .int)
def gg(L:List a9):A':=.tup (L.map tupI)
def aE(c:Int)(L:List a9):A':=.tup [.int c,gg L]
def lR(s k:Nat)(L:List a9):Prop:=L.length=s/\∀r∈L,r.length=k
noncomputable def qt(B:Nat->Int):Nat->a9->a9
 |_,[]=>[]|j,x::xs=>if x= -1 then qt B (j+1) xs else(x+B j)::qt B (j+1) xs
def tN(B:Nat->Nat->Int):Nat->List a9->a9
 |_,[]=>[]|i,r::L=>qt (B i) 0 r++tN B (i+1) L
theorem vm(B:Nat->Int):∀(j:Nat) (xs:a9),(qt B j xs).length<=xs.length
 |_,[]=>by simp[qt]|j,x::xs=>by have:=vm B (j+1) xs;grind[qt]
theorem xD(B:Nat->Int):∀(j:Nat) (xs:a9) (x:Int),qt B j (xs++[x])=qt B j xs++(if x= -1 then []else [x+B (j+xs.length)])
 |j,[],x=>by rfl|j,y::xs,x=>by have:=xD B (j+1) xs x;rw[Rq,qt,this,qt,show j+1+xs.length=j+(xs.length+1) by lia];by_cases I:y= -1<;>simp[I]
theorem zH(B:Nat->Nat->Int):∀(i:Nat) (L:List a9) (r:a9),tN B i (L++[r])=tN B i L++qt (B (i+L.length)) 0 r
 |i,[],r=>by simp[tN]|i,y::L,r=>by have:=zH B (i+1) L r;rw[Rq,tN,this,tN,F_,show i+1+L.length=i+(L.length+1) by lia,IG]
theorem CQ(B:Nat->Nat->Int)(k:Nat):∀(i:Nat) (L:List a9),(∀r∈L,r.length=k)->(tN B i L).length<=k*L.length
 |i,[],_=>by simp[tN]|i,y::L,h=>by have h1:=CQ B k (i+1) L λr I=>h r (by simp[I]);have S:=vm (B i) 0 y;grind[tN,II,F_,SO]
section
variable(CR CP:h_)
def gmeth(n:Nat)(e:CR≠CP)(U:g.Good){a s b:Int}(c:0<=a)(Y:a<g.k)(p:0<=b)(o:b<g.k)(d:g.two=cm->s=t)(fo f1 f2:b6)(ρ:ab)(q:fo ρ=.ok (aQ CR CP g.rows g.o))(h1:f1 ρ=.ok (.tup [.int a,.int s]))(j:f2 ρ=.ok (.tup [.int b,.int t])):
  gn CR CP "apart" (eD CR CP n) (dZ CR CP n) fo (aa f1 (aa f2 au)) ρ=.ok (.int (apS g.rows g.r2 (a,s) (b,t))):=by
 obtain⟨l,_⟩:=jx U.rows c Y;obtain⟨k,_⟩:=getA U.rows c Y p o;unfold gn;rw[q,ai];cases h:g.two with
 |false=>
  have I:g.o=.non:=by simp[Gp.o,h]
  have S:=d h;have i:isC CR "apart" (aQ CR CP g.rows g.o)=e_:=by rw[I];show((CR==CR)&&(Jr ("apart":IL) [("gaps",aZ g.rows)]).isNone)=e_;rw[lookA1];simp
  have B:=vT CR CP g.rows g.o (.inl I);rw[p_ i];simp[h1,j,eD,n5,B,aZ,l,g8,k,apS,S]
 |true=>
  have I:g.o=aZ g.r2:=by simp[Gp.o,h]
  have i:isC CR "apart" (aQ CR CP g.rows g.o)=cm:=by
   rw[I];show((CP==CR)&&(Jr ("apart":IL) [("gaps",aZ g.rows),("beside",aZ g.r2)]).isNone)=cm;have:(CP==CR)=cm:=by simp;exact λz=>e z.symm
   rw[this];rfl
  have f:isC CP "apart" (aQ CR CP g.rows g.o)=e_:=by rw[I];show((CP==CP)&&(Jr ("apart":IL) [("gaps",aZ g.rows),("beside",aZ g.r2)]).isNone)=e_;rw[lookA2];simp
  have B:=vT CR CP g.rows g.o (.inr ⟨_,I⟩);have m:zy [CP] "beside" (aQ CR CP g.rows g.o)=.ok (aZ g.r2):=by exact I▸HU CR CP g.rows g.r2
  obtain⟨r3,_⟩:=jx U.r2 c Y;obtain⟨r4,_⟩:=getA U.r2 c Y p o;rw[q_ (by rw[i];simp),p_ f];by_cases S:s=t
  .simp[h1,j,dZ,kN,B,m,aZ,l,g8,k,apS,S]
  .simp[h1,j,dZ,kN,B,m,aZ,r3,g8,r4,apS,S]
@[reducible] def evG(CR CP:h_)(g:Gp)(B:Option A')(b t:Int)(ts:a9)(Y U S I:Option A'):ab:=[a_ (aQ CR CP g.rows g.o),B,a_ (.tup [.int b,.int t]),a_ (.lst (ts.map .int)),Y,U,S,I]
theorem Gr(n:Nat)(Y:CR≠CP){g:Gp}(o:g.Good)(b t:Int)(q:0<=b)(p:b<g.k)(B S:Option A')(i:Nat)(U:g.two=cm->(i:Int)=t):∀(I:a9) (j:Nat) (ts:a9) (d c:Option A'),j+I.length<=g.k->ts.length+I.length<=1000 ->
  ∃f e,ee (.tp [6,7]) (cf CR CP n) (iJ j (I.map .int)) (evG CR CP g B b t ts (a_ (.int i)) S d c)=.ok (.nx (evG CR CP g B b t (ts++qt (λj=>apS g.rows g.r2 (j,i) (b,t)) j I) (a_ (.int i)) S f e))
 |[],j,ts,d,c,_,_=>⟨d,c,by simp[iJ,ee,qt]⟩|x::I,j,ts,d,c,v,u=>by
  simp only[F_]at v u;by_cases k:x= -1
  .obtain⟨f,e,h⟩:=Gr n Y o b t q p B S i U I (j+1) ts (a_ (.int j)) (a_ (.int x)) ac ac;refine⟨f,e,?_⟩
   rw[v_,iJ,ee];simp only[qt,p_ k];rw[<- h];simp[cf,eN,k]
  .obtain⟨f,e,h⟩:=Gr n Y o b t q p B S i U I (j+1) (ts++[x+apS g.rows g.r2 (j,i) (b,t)]) (a_ (.int j)) (a_ (.int x)) ac (by simp;lia);refine⟨f,e,?_⟩
   have y:=gmeth CR CP n Y o (a:=j) (s:=i) (b:=b) (t:=t) ac ac q p U (ae 0) (fL bT (aa (ae 6) (aa (ae 4) au))) (ae 2) (erase [3] (evG CR CP g B b t ts (a_ (.int i)) S (a_ (.int j)) (a_ (.int x)))) (by rfl) (by rfl) (by rfl);have l:ts.length<16777216:=ac
   rw[v_,iJ,ee];simp only[qt,q_ k];rw[IG,List.singleton_append]at h;rw[<- h];have w:dS (.tp [6,7]) (.tup [.int j,.int x]) (evG CR CP g B b t ts (a_ (.int i)) S d c)=.ok (evG CR CP g B b t ts (a_ (.int i)) S (a_ (.int j)) (a_ (.int x))):=by simp
   have m:cf CR CP n (evG CR CP g B b t ts (a_ (.int i)) S (a_ (.int j)) (a_ (.int x)))=.ok (.nx (evG CR CP g B b t (ts++[x+apS g.rows g.r2 (j,i) (b,t)]) (a_ (.int i)) S (a_ (.int j)) (a_ (.int x)))):=by
    have r:ae 7 (erase [3] (evG CR CP g B b t ts (a_ (.int i)) S (a_ (.int j)) (a_ (.int x))))=.ok (.int x):=by simp[erase]
    have es:kr [3] 3 (f2 eY (ae 7) (gn CR CP "apart" (eD CR CP n) (dZ CR CP n) (ae 0) (aa (fL bT (aa (ae 6) (aa (ae 4) au))) (aa (ae 2) au)))) (evG CR CP g B b t ts (a_ (.int i)) S (a_ (.int j)) (a_ (.int x)))=.ok (.nx (evG CR CP g B b t (ts++[x+apS g.rows g.r2 (j,i) (b,t)]) (a_ (.int i)) S (a_ (.int j)) (a_ (.int x)))):=by unfold kr f2;rw[y,r];simp[lK,put,l,LH]
    simp[cf,eN,k,-e_appB,es]
   rw[w,ai,m];rfl
end
section
variable(CR CP:h_)
theorem lg_all(n:Nat)(U:CR≠CP){g:Gp}(m:g.Good)(b t:Int)(p:0<=b)(o:b<g.k)(v:0<=t/\t<g.s)(B:Option A'):∀(L:List a9) (i:Nat) (ts:a9) (a Y S I:Option A'),i+L.length<=g.s->(∀r∈L,r.length=g.k)->ts.length+g.k*L.length<=1000 ->
  ∃s q d c,ee (.tp [4,5]) (cS CR CP n) (iJ i (L.map tupI)) (evG CR CP g B b t ts a Y S I)=.ok (.nx (evG CR CP g B b t (ts++tN (λi j=>apS g.rows g.r2 (j,i) (b,t)) i L) s q d c))
 |[],i,ts,a,Y,S,I,_,_,_=>⟨a,Y,S,I,by simp[iJ,ee,tN]⟩|r::L,i,ts,a,Y,S,I,hi,f,l=>by
  have w:=f r ad;simp only[F_]at hi l;rw[SO]at l;have e:g.two=cm->(i:Int)=t:=λh=>by
   have E:g.s=1:=by simp[Gp.s,h]
   lia
  obtain⟨d,c,e1⟩:=Gr CR CP n U m b t p o B (a_ (tupI r)) i e r 0 ts S I ac ac;have k:=vm (λj=>apS g.rows g.r2 (j,i) (b,t)) 0 r;obtain⟨C,A,z,y,D⟩:=lg_all n U m b t p o v B L (i+1) (ts++qt (λj=>apS g.rows g.r2 (j,i) (b,t)) 0 r) (a_ (.int i)) (a_ (tupI r)) d c ac (λx u=>f x (by simp[u])) a0;simp_all[tN,IG,v_,iJ,ee,cS,tupI,ai]
theorem lg_ok(n:Nat)(B:CR≠CP)(I:g.Good)(b t:Int)(c:0<=b)(a:b<g.k)(Y:0<=t/\t<g.s)(S:lR g.s g.k L):dM CR CP n [aQ CR CP g.rows g.o,gg L,.tup [.int b,.int t]]=.ok (.lst ((tN (λi j=>apS g.rows g.r2 (j,i) (b,t)) 0 L).map .int)):=by
 have U:=I.k3;have l:g.s<=2:=by unfold Gp.s;split<;>lia
 have m:=S.1;have o:g.k*L.length<=3*2:=Jz U ac;obtain⟨k,h,f,d,e⟩:=lg_all CR CP n B I b t c a Y (a_ (gg L)) L 0 [] d_ d_ d_ d_ ac S.2 (by simp;lia);simp_all[evG,O0,Sy,gg,dM,jY]
end
noncomputable def mw(L:List a9)(i:Nat):a9:=L.getD i []
theorem lA{s:Nat}(h:lR s k L)(hi:i<s):mw L i∈L/\(mw L i).length=k/\jl (L.map tupI) (i:Int)=.ok (tupI (mw L i))/\L.take (i+1)=L.take i++[mw L i]:=by
 have B:i<L.length:=by exact h.1▸hi
 have e:mw L i=L[i]:=by simp[mw,B]
 have m:mw L i∈L:=by exact e▸Iz B
 refine⟨m,h.2 _ m,?_,?_⟩
 .simp_all[iq]
 simp_all
def D6(h:j<r.length):r.take (j+1)=r.take j++[tAt r j]:=by simp[tAt,h]
theorem n8:∀(xs:a9) (x:Int),xs.foldl iV x=x\/xs.foldl iV x∈xs
 |[],x=>.inl rfl|y::xs,x=>by
  rw[Iy];have B:iV x y=x\/iV x y=y:=by unfold iV;split<;>lia
  rcases n8 xs _ with h|h
  .rcases B with z|z
   .exact .inl (h.trans z)
   simp_all
  simp_all
noncomputable def cnt(cs:List iU)(t:Int):Nat:=cs.countP λp=>m_ (t<p.2)
theorem cnt_mono(h:t<=u):cnt cs u<=cnt cs t:=by exact List.countP_mono_left λp _ B=>by lia
theorem cnt_lt:∀{cs:List iU} {p:iU} {t:Int},p∈cs->t<p.2->cnt cs p.2<cnt cs t
 |[],p,t,I,_=>by simp_all|a::cs,p,t,I,B=>by
  have Y:=cnt_mono (cs:=cs) (t:=t) (u:=p.2) ac;unfold cnt at *;rcases x_.mp I with e|e
  .subst e;simp[B]
   lia
  .have S:=cnt_lt e B;unfold cnt at S;by_cases h1:p.2<a.2
   .have:t<a.2:=ac
    simp[h1,this];lia
   .by_cases U:t<a.2<;>simp[h1,U]<;>lia
noncomputable def D9(cs:List iU)(t:Int):a9:=(cs.filter λp=>m_ (p.1<=t)&&m_ (t<p.2)).map (·.2)
theorem uH(t:Int):∀cs:List iU,aW (.tp [0,1]) (fB (iz leD ltD (ae 0) (ae 2) (ae 1))) (ae 1) [d_,d_,a_ (.int t)] (cs.map stD)=.ok ((D9 cs t).map .int)
 |[]=>rfl|p::cs=>by have B:=uH t cs;rw[v_,aW];unfold D9 at B ⊢;by_cases h1:p.1<=t<;>by_cases I:t<p.2<;>simp[stD,h1,I,B]
def ou(L:List a9)(S:∀r∈L,r.length<=1000):aW (.nm 0) jZ (fL gI (aa (ae 0) au)) [d_] (L.map tupI)=.ok (L.map g8):=by
 have h:=eK (p:=.nm 0) (fe:=fL gI (aa (ae 0) au)) (ρ0:=[d_]) (λd=>match d with|.tup ds=>.lst ds|d=>d) (L.map tupI) (λd B=>by obtain⟨r,I,rfl⟩:=IE.mp B;simp[tupI])
 rw[h,Cb];rfl
def sj(L:List a9)(S:∀r∈L,r.length<=1000):aW (.nm 0) jZ (fL eW (aa (ae 0) au)) [d_] (L.map g8)=.ok (L.map tupI):=by
 have h:=eK (p:=.nm 0) (fe:=fL eW (aa (ae 0) au)) (ρ0:=[d_]) (λd=>match d with|.lst ds=>.tup ds|d=>d) (L.map g8) (λd B=>by obtain⟨r,I,rfl⟩:=IE.mp B;simp[g8])
 rw[h,Cb];rfl
def putL(L:List a9)(i j:Nat)(x:Int):List a9:=L.set i ((mw L i).set j x)
def iX{s:Nat}(h:lR s k L)(hi:i<s)(x:Int):lR s k (putL L i j x):=by
 refine⟨by unfold putL;rw[Ii];exact h.1,λr B=>?_⟩
 rcases LD B with z|z
 .exact h.2 r z
 .rw[z,Ii];exact(lA h hi).2.1
theorem Gz(h:i<n):ixN n (i:Int)=a_ i:=by simp_all[ixN,p_]
theorem jn{s:Nat}(B:lR s k L)(hi:i<s)(U:j<k)(x:Int):rowAt (L.map g8) (i:Int)=.ok (i,(mw L i).map .int)/\jO (L.map g8) (i,(mw L i).map .int) (j:Int) (.int x)=.ok ((putL L i j x).map g8):=by
 have I:i<L.length:=by exact B.1▸hi
 have e:mw L i=L[i]:=by simp[mw,I]
 have S:=(lA B hi).2.1;simp_all[rowAt,l_,Gz,g8,jO,putL]
def EO(g:Gp)(L:List a9)(f:Fli)(s:Nat):Int:=(tN (λi j=>apS g.rows g.r2 (j,i) (f.kind,s)) 0 L).foldl iV f.first
def after(g:Gp)(c:Int)(L:List a9)(f:Fli)(s:Nat)(u:Int):A':=if f.last<u then .non else aE (c+late f u) (putL L s f.kind.toNat u)
def lR.short{s:Nat}(h:lR s k L)(I:k<=1000):∀r∈L,r.length<=1000:=λr B=>by rw[h.2 r B];exact I
section
variable(CR CP:h_)
theorem lasts_ok(n:Nat){s:Nat}(B:lR s k L)(a:s<=10)(b:k<=10)(hi:i<s)(Y:j<k)(x:Int):ik [gg L,.tup [.int j,.int i],.int x]=.ok (gg (putL L i j x)):=by
 have I:=iX (j:=j) B hi x;obtain⟨e1,e2⟩:=jn B hi Y x;have U:L.length<=16777216:=by have:=B.1;lia
 have S:(putL L i j x).length<=16777216:=by have:=I.1;lia
 simp[gg];simp[ik,oM,vh,Dp,qr,vk,Gh,(ou L (B.short ac)),U,e1,e2,(sj (putL L i j x) (I.short ac)),S]
theorem HW(n:Nat)(e:CR≠CP)(t:g.Good)(J:cs.length<=20)(o:∀p∈cs,p.1<p.2){fl:List Fli}(m:∀f∈fl,uR g.k f)(c:Int)(Y:lR g.s g.k L){s:Nat}(Q:q<fl.length)(F:s<g.s)(D:jj cs (EO g L (i4 fl q) s) u):
  cO CR CP n [aQ CR CP g.rows g.o,.lst (fl.map flD),.lst (cs.map stD),aE c L,.int q,.int s]=.ok (after g c L (i4 fl q) s u):=by
 obtain⟨N,G⟩:=getFl (fl:=fl) (i:=q) ac ac;have I:=m _ G;have z:=t.k3;have E:g.s<=2:=by unfold Gp.s;split<;>lia
 have y:=lg_ok CR CP n e t (i4 fl q).kind s I.k0 I.k1 ⟨ac,ac⟩ Y;have r:=CQ (λi j=>apS g.rows g.r2 (j,i) ((i4 fl q).kind,s)) g.k 0 L Y.2;have H:g.k*L.length<=3*2:=Jz z (by have:=Y.1;lia);obtain⟨v,ev,C⟩:=G9 n cs (EO g L (i4 fl q) s) ac o;have b:=C.uniq D;subst b;have O:=late_ok n (i4 fl q) v I.p0 I.p1;obtain⟨U,S⟩:∃U:Nat,(i4 fl q).kind=U:=⟨(i4 fl q).kind.toNat,by have:=I.k0;lia⟩
 have x:=lasts_ok n Y ac ac F (j:=U) (by have:=I.k1;lia) v;rw[<- S]at x;have l:(i4 fl q).kind.toNat=U:=ac
 unfold EO at ev;generalize w:tN (λi j=>apS g.rows g.r2 (j,i) ((i4 fl q).kind,s)) 0 L=A at y r ev;have P:maxD [.lst (.int (i4 fl q).first::A.map .int)]=.ok (.int (A.foldl iV (i4 fl q).first)):=by show(bZ (((i4 fl q).first::A).map .int)).bind maxL=_;rw[dG,ai,maxL]
 have K:1+A.length<=16777216:=ac
 unfold after;have a:∀{d},lX CR CP n [a_ (aQ CR CP g.rows g.o),a_ (.lst (fl.map flD)),a_ (.lst (cs.map stD)),a_ (aE c L),a_ (.int q),a_ (.int s),d_,d_,d_]=.ok (.rt d)->cO CR CP n [aQ CR CP g.rows g.o,.lst (fl.map flD),.lst (cs.map stD),aE c L,.int q,.int s]=.ok d:=λh=>by simp[cO,h]
 have st:=λ{d} (k:_=Jp (B4.rt d))=>a (d:=d) (cE (flD (i4 fl q)) (by simp[N]) <| cE (.tup [.int (i4 fl q).kind,.int s]) (by rfl) <| cE (.int v) (by simp[flD,aE,y,eY,K,P,ev,-e_maxL]) k);by_cases B:(i4 fl q).last<v
 .rw[p_ B];exact st (vQ (by simp[flD,B]) (vi rfl))
 .rw[q_ B,l];exact st (mV (by simp[flD,B]) (qq (by simp[aE,O,x])))
end
def labP(p:Int×List a9):A':=aE p.1 p.2
noncomputable def leR:a9->a9->Bool
 |x::xs,y::ys=>m_ (x<=y)&&leR xs ys|_,_=>e_
def leL:List a9->List a9->Bool
 |r::L,t::M=>leR r t&&leL L M|_,_=>e_
def geR(r:a9):Prop:=∀x∈r,-1<=x
def geL(L:List a9):Prop:=∀r∈L,geR r
def nw(p q:Int×List a9):Bool:=m_ (p.1<=q.1)&&leL p.2 q.2
structure Lab(g:Gp)(p:Int×List a9):Prop where
 good:lR g.s g.k p.2
 ge:geL p.2
theorem Gs:∀a b:a9,leR a b=(a.zip b).all λq=>m_ (q.1<=q.2)
 |[],_=>by rfl|_::_,[]=>by rfl|x::a,y::b=>by simp[leR,Gs a b]
theorem Aw:∀a b:List a9,leL a b=(a.zip b).all λq=>leR q.1 q.2
 |[],_=>by rfl|_::_,[]=>by rfl|x::a,y::b=>by simp[leL,Aw a b]
theorem C8:∀r:a9,leR r r=e_
 |[]=>rfl|x::r=>by simp[leR,C8 r]
theorem C9:∀L:List a9,leL L L=e_
 |[]=>rfl|r::L=>by simp[leL,C8 r,C9 L]
section
variable(CR CP:h_)
def nw_row(n:Nat)(a Y U S:Option A')(r t:a9)(I B:Option A'):∃ρ',(∃d c,ρ'=[a,Y,U,S,d,c])/\ee (.tp [4,5]) i3 (wR (r.map .int) (t.map .int)) [a,Y,U,S,I,B]=if leR r t=e_ then .ok (.nx ρ')else .ok (.rt (.bl cm)):=by
 rw[Gs];exact AD .int (λx y=>m_ (x<=y)) (λρ=>∃I B,ρ=[a,Y,U,S,I,B]) r t (λx _ y _ ρ ⟨I,B,e⟩=>⟨[a,Y,U,S,a_ (.int x),a_ (.int y)],⟨_,_,rfl⟩,by subst e;unfold i3 kT;exact vP (b:=m_ (x<=y)) (by rw[<- decide_not];simp)⟩) ⟨I,B,rfl⟩
def nw_rows(n:Nat)(a Y:Option A')(L M:List a9)(U S I B:Option A'):∃ρ',(∃f d c b,ρ'=[a,Y,f,d,c,b])/\ee (.tp [2,3]) kW (wR (L.map tupI) (M.map tupI)) [a,Y,U,S,I,B]=if leL L M=e_ then .ok (.nx ρ')else .ok (.rt (.bl cm)):=by
 rw[Aw];exact AD tupI leR (λρ=>∃U S I B,ρ=[a,Y,U,S,I,B]) L M (λr _ t _ ρ ⟨U,S,I,B,e⟩=>by subst e;obtain⟨ρ',⟨h,g,hw⟩,i⟩:=nw_row n a Y (a_ (tupI r)) (a_ (tupI t)) r t I B;exact⟨ρ',⟨_,_,h,g,hw⟩,(rD (ρ:=[a,Y,a_ (tupI r),a_ (tupI t),I,B]) (by rfl)).trans i⟩) ⟨U,S,I,B,rfl⟩
theorem nw_ok(n:Nat)(p q:Int×List a9):cF [labP p,labP q]=.ok (.bl (nw p q)):=by
 obtain⟨ρ',-,e⟩:=nw_rows n (a_ (labP p)) (a_ (labP q)) p.2 q.2 d_ d_ d_ d_;simp only[labP,aE,gg]at e ⊢;by_cases h:p.1<=q.1
 .have h':¬q.1<p.1:=ac
  by_cases B:leL p.2 q.2=e_
  .rw[p_ B]at e;simp[cF,gJ,eP,h',e,nw,h,B]
  simp_all[q_,cF,gJ,eP,nw]
 .have h':q.1<p.1:=ac
  simp[cF,gJ,eP,h',nw,h]
end
theorem Gu:∀{a b:a9},a.length=b.length->(leR a b=e_↔∀j,j<a.length->tAt a j<=tAt b j)
 |[],[],_=>by simp[leR]|[],_::_,h=>by simp at h|_::_,[],h=>by simp at h|u::a,v::b,h=>by
  have S:=Gu (a:=a) (b:=b) (by simpa using h);simp only[leR,D_,KJ,S];constructor
  .rintro⟨h1,B⟩ j I;cases j with
   |zero=>simpa[tAt] using h1|succ j=>simpa[tAt] using B j (by simpa using I)
  .intro B;refine⟨by simpa[tAt] using B 0 ad,λj I=>?_⟩
   simpa[tAt] using B (j+1) (by simpa using I)
def lookM1(d:A'):Jr ("many_strips":IL) [(("gaps":IL),d)]=d_:=by rfl
def lookM2(d e:A'):Jr ("many_strips":IL) [(("gaps":IL),d),(("beside":IL),e)]=d_:=by rfl
section
variable(CR CP:h_)
def AA(n:Nat)(I:CR≠CP)(fo:b6)(ρ:ab)(Y:fo ρ=.ok (aQ CR CP g.rows g.o)):gn CR CP "many_strips" (br) bC fo au ρ=.ok (.int g.s):=by
 unfold gn;rw[Y,ai];cases h:g.two with
 |false=>
  have B:g.o=.non:=by simp[Gp.o,h]
  have U:isC CR "many_strips" (aQ CR CP g.rows g.o)=e_:=by rw[B];show((CR==CR)&&(Jr ("many_strips":IL) [("gaps",aZ g.rows)]).isNone)=e_;rw[lookM1];simp
  rw[p_ U];simp[br,hG,Gp.s,h]
 |true=>
  have B:g.o=aZ g.r2:=by simp[Gp.o,h]
  have U:isC CR "many_strips" (aQ CR CP g.rows g.o)=cm:=by
   rw[B];show((CP==CR)&&(Jr ("many_strips":IL) [("gaps",aZ g.rows),("beside",aZ g.r2)]).isNone)=cm;have:(CP==CR)=cm:=by simp;exact λz=>I z.symm
   rw[this];rfl
  have S:isC CP "many_strips" (aQ CR CP g.rows g.o)=e_:=by rw[B];show((CP==CP)&&(Jr ("many_strips":IL) [("gaps",aZ g.rows),("beside",aZ g.r2)]).isNone)=e_;rw[lookM2];simp
  rw[q_ (by rw[U];simp),p_ S];simp[bC,iu,Gp.s,h]
end
def lookK1(d:A'):Jr ("many_kinds":IL) [(("gaps":IL),d)]=d_:=by rfl
def lookK2(d e:A'):Jr ("many_kinds":IL) [(("gaps":IL),d),(("beside":IL),e)]=d_:=by rfl
section
variable(CR CP:h_)
def gkinds(n:Nat)(S:CR≠CP)(a:g.Good)(fo:b6)(ρ:ab)(b:fo ρ=.ok (aQ CR CP g.rows g.o)):gn CR CP "many_kinds" (b8 CR CP n) (b8 CR CP n) fo au ρ=.ok (.int g.k):=by
 have I:=a.rows.1;unfold gn;rw[b,ai];cases h:g.two with
 |false=>
  have B:g.o=.non:=by simp[Gp.o,h]
  have Y:isC CR "many_kinds" (aQ CR CP g.rows g.o)=e_:=by rw[B];show((CR==CR)&&(Jr ("many_kinds":IL) [("gaps",aZ g.rows)]).isNone)=e_;rw[lookK1];simp
  rw[p_ Y];simp[b8,eJ,(vT CR CP g.rows g.o (.inl B)),aZ,I]
 |true=>
  have B:g.o=aZ g.r2:=by simp[Gp.o,h]
  have Y:isC CR "many_kinds" (aQ CR CP g.rows g.o)=cm:=by
   rw[B];show((CP==CR)&&(Jr ("many_kinds":IL) [("gaps",aZ g.rows),("beside",aZ g.r2)]).isNone)=cm;have:(CP==CR)=cm:=by simp;exact λz=>S z.symm
   rw[this];rfl
  have U:isC CP "many_kinds" (aQ CR CP g.rows g.o)=e_:=by rw[B];show((CP==CP)&&(Jr ("many_kinds":IL) [("gaps",aZ g.rows),("beside",aZ g.r2)]).isNone)=e_;rw[lookK2];simp
  rw[p_ U];simp[b8,eJ,(vT CR CP g.rows g.o (.inr ⟨_,B⟩)),aZ,I]
def L0(g:Gp):List a9:=C_ g.s (C_ g.k (-1))
def L0_good(g:Gp):lR g.s g.k (L0 g):=⟨by simp[L0],λr B=>by rw[PQ B];simp⟩
theorem GY(n:Nat)(S:CR≠CP)(Y:g.Good):ju CR CP n [aQ CR CP g.rows g.o]=.ok (aE 0 (L0 g)):=by
 have r:=Y.k3;have k:g.s<=2:=by unfold Gp.s;split<;>lia
 have ek:=gkinds CR CP n S Y (ae 0) [a_ (aQ CR CP g.rows g.o),d_] ad;have es:=AA CR CP n S (g:=g) (ae 0) [a_ (aQ CR CP g.rows g.o),a_ (tupI (C_ g.k (-1)))] ad;have h: -4611686018427387904<=(g.k:Int):=ac
 have k2:(g.k:Int)<4611686018427387904:=ac
 have j: -4611686018427387904<=(g.s:Int):=ac
 have i:(g.s:Int)<4611686018427387904:=ac
 have a:aW (.nm 0) jZ (f1 As (a8 1)) [d_] (aG 0 g.k)=.ok ((C_ g.k (-1)).map A'.int):=by have:=eK (p:=.nm 0) (fe:=f1 As (a8 1)) (ρ0:=[d_]) (λ_=>.int (-1)) (aG 0 g.k) (λd _=>⟨[a_ d],ad,ad⟩);rw[this,O1,bW,N7]
 have o:∀d:A',aW (.nm 0) jZ (ae 1) [d_,a_ d] (aG 0 g.s)=.ok (C_ g.s d):=λd=>by have:=eK (p:=.nm 0) (fe:=ae 1) (ρ0:=[d_,a_ d]) (λ_=>d) (aG 0 g.s) (λe _=>⟨[a_ e,a_ d],ad,ad⟩);rw[this,O1,bW]
 have f:(aG 0 g.k).length<=16777216:=by rw[bW];lia
 have c:(aG 0 g.s).length<=16777216:=by rw[bW];lia
 have q:g.k<=16777216:=ac
 have b:g.s<=16777216:=ac
 have e1:bV 2 1 (jy CR CP n) [aQ CR CP g.rows g.o]=.ok (aE 0 (L0 g)):=by
  have B:=o (tupI (C_ g.k (-1)));simp only[tupI]at B es;have m:gg (L0 g)=.tup (C_ g.s (.tup ((C_ g.k (-1)).map A'.int))):=by simp[gg,L0,tupI]
  rw[aE,m];generalize l:(C_ g.k (-1)).map A'.int=U at a B es ⊢;have I:U.length<=16777216:=by rw[<- l];simp;lia
  simp[jy,ek,h,k2,f,a,I,es,j,i,c,B,b,-N7]
 exact e1
end
def nx(cs:List iU)(t:Int):Int:=open Classical in if h:∃u,jj cs t u then h.choose else 0
def nx_eq(h:jj cs t u):nx cs t=u:=by
 have B:∃u,jj cs t u:=⟨u,h⟩
 unfold nx;exact(dif_pos B)▸B.choose_spec.uniq h
structure V where
 g:Gp
 fl:List Fli
 cs:List iU
structure V.Good(v:V):Prop where
 g:v.g.Good
 fl:∀f∈v.fl,uR v.g.k f
 many:v.fl.length<=40
 cs:v.cs.length<=20
 st:∀p∈v.cs,p.1<p.2
noncomputable def V.f(v:V)(i:Nat):Fli:=i4 v.fl i
theorem V.Good.fAt(B:v.Good)(h:i<v.fl.length):jl (v.fl.map flD) (i:Int)=.ok (flD (v.f i))/\uR v.g.k (v.f i):=by obtain⟨h1,I⟩:=getFl (fl:=v.fl) (i:=i) ac ac;exact⟨h1,B.fl _ I⟩
def V.bt(v:V)(l:LK)(q s:Nat):Int:=nx v.cs (EO v.g l.2 (v.f q) s)
def V.beh(v:V)(l:LK)(q s:Nat):Option LK:=if (v.f q).last<v.bt l q s then d_ else a_ (l.1+late (v.f q) (v.bt l q s),putL l.2 s (v.f q).kind.toNat (v.bt l q s))
def DQ:Option LK->A'
 |none=>.non|some l=>Lake.aE l
def Ax(l:LK):Lake.aE l=aE l.1 l.2:=rfl
section
variable(CR CP:h_)
def nextV(n:Nat)(B:v.Good)(t:Int):fD [.lst (v.cs.map stD),.int t]=.ok (.int (nx v.cs t))/\jj v.cs t (nx v.cs t):=by obtain⟨u,e,h⟩:=G9 n v.cs t (Kk B.cs am) B.st;exact(nx_eq h)▸⟨e,h⟩
end
def V.Good.nxt(B:v.Good)(t:Int):jj v.cs t (nx v.cs t):=(nextV 0 B t).2
section
variable(CR CP:h_)
def behV(n:Nat)(I:CR≠CP)(B:v.Good)(Y:Lab v.g l){s:Nat}(U:q<v.fl.length)(S:s<v.g.s):
  cO CR CP n [aQ CR CP v.g.rows v.g.o,.lst (v.fl.map flD),.lst (v.cs.map stD),Lake.aE l,.int q,.int s]=.ok (DQ (v.beh l q s)):=by
 rw[Ax,(HW CR CP n I B.g B.cs B.st B.fl l.1 Y.good U S (B.nxt (EO v.g l.2 (i4 v.fl q) s)))];unfold after V.beh V.bt V.f;by_cases c:(i4 v.fl q).last<nx v.cs (EO v.g l.2 (i4 v.fl q) s)
 .rw[p_ c,p_ c];rfl
 .rw[q_ c,q_ c];rfl
end
theorem V.Good.bt_ge(B:v.Good)(l:LK)(s:Nat)(I:q<v.fl.length):0<=v.bt l q s:=by
 have h1:=(B.nxt (EO v.g l.2 (v.f q) s)).1;have U:(v.f q).first<=EO v.g l.2 _ s:=(Lake.fold_max _ _).2.1;have S:=(B.fAt I).2.f0;unfold V.bt
 lia
def C0{x y:Int}(h:y∈r.set j x):y∈r\/y=x:=LD h
theorem V.Good.HX(a:v.Good){U:LK}(B:Lab v.g l){s:Nat}(c:q<v.fl.length)(Y:s<v.g.s)(h:v.beh l q s=a_ U):Lab v.g U:=by
 unfold V.beh at h;split at h
 .cases h
 .cases h;refine⟨iX B.good Y _,λr b x I=>?_⟩
  have d:=a.bt_ge l s c;rcases LD b with z|z
  .exact B.ge r z x I
  .rw[z]at I;rcases C0 I with S|S
   .exact B.ge _ (lA B.good Y).1 x S
   .lia
def V.l0(v:V):LK:=(0,L0 v.g)
theorem V.l0_lab(v:V):Lab v.g v.l0:=⟨L0_good v.g,λr I x B=>by rw[PQ I]at B;simp_all⟩
abbrev Pap:=List (a9×bz)
variable{P A Q:Pap}
noncomputable def look(P:Pap)(b:a9):bz:=((P.find? λp=>m_ (p.1=b)).map (·.2)).getD []
def bQ(ls:bz):A':=.lst (ls.map Lake.aE)
def bg(P:Pap):List (a9×A'):=P.map λp=>(p.1,bQ p.2)
theorem vR(b:a9):∀P:Pap,(gZ (bg P) b).getD (.lst [])=bQ (look P b)
 |[]=>rfl|p::P=>by
  unfold gZ look bg at *;rw[v_,JK,JK];by_cases c:p.1=b
  .simp[c]
  .simp only[c];exact(vR b P)
theorem mW(b:a9)(P:Pap):(gZ (bg P) b).isSome=m_ (b∈P.map (·.1)):=by grind[gZ,bg,v_,JK,decide_false]
def look_app(P Q:Pap)(b:a9):look (P++Q) b=if b∈P.map (·.1)then look P b else look Q b:=by
 unfold look;rw[List.find?_append]
 induction P with
 |nil=>simp|cons p P B=>
  rw[JK];by_cases c:p.1=b
  .simp[c]
  .have:¬b=p.1:=λz=>c z.symm;simp only[c,v_,x_,this,false_or];exact B
def ja(h:b∉P.map (·.1)):look P b=[]:=by
 unfold look;rw[N8.mpr]
 .rfl
 .intro x B;simp;exact λz=>h (IE.mpr ⟨x,B,z⟩)
def V.add(v:V)(l:LK)(q:Nat)(ks:bz)(s:Nat):bz:=match v.beh l q s with
 |none=>ks|some B=>Lake.putL ks B
def V.wK(v:V)(q:Nat)(ks:bz)(l:LK):bz:=(A_ v.g.s).foldl (v.add l q) ks
def V.El(v:V)(P:Pap)(ks:bz)(x:a9×Nat):bz:=(look P x.1).foldl (v.wK x.2) ks
noncomputable def smL(b:a9):List (a9×Nat):=(A_ b.length).map λi=>(b.eraseIdx i,(b.getD i 0).toNat)
def V.oU(v:V)(P:Pap)(b:a9):bz:=(smL b).foldl (v.El P) []
theorem BK{k:LK}:x∈Lake.putL ks k↔x∈ks\/x=k:=by
 unfold Lake.putL;split
 .rename_i h;constructor
  .exact .inl
  .rintro(z|z)
   .exact z
   .rw[z];simpa using h
 .simp
theorem V.Ib(v:V){l x:LK}{q:Nat}:∀(B:bi) (ks:bz),x∈B.foldl (v.add l q) ks↔x∈ks\/∃s∈B,v.beh l q s=a_ x
 |[],ks=>by simp|s::B,ks=>by rw[Iy,v.Ib B];grind[V.add,BK]
theorem V.pY(v:V){x:LK}{q:Nat}:∀(ls ks:bz),x∈ls.foldl (v.wK q) ks↔x∈ks\/∃l∈ls,∃s,s<v.g.s/\v.beh l q s=a_ x
 |[],ks=>by simp|l::ls,ks=>by
  rw[Iy,v.pY ls];unfold V.wK;rw[v.Ib];constructor
  .rintro((h|⟨s,h1,B⟩)|⟨I,h1,B⟩)
   .exact .inl h
   .exact .inr ⟨l,ad,s,IM.mp h1,B⟩
   .exact .inr ⟨I,by simp[h1],B⟩
  .rintro(h|⟨I,h1,s,B,S⟩)
   .exact .inl (.inl h)
   .rcases x_.mp h1 with z|z
    .exact .inl (.inr ⟨s,IM.mpr B,by exact z▸S⟩)
    .exact .inr ⟨I,z,s,B,S⟩
theorem V.CT(v:V){P:Pap}{x:LK}:∀(xs:List (a9×Nat)) (ks:bz),x∈xs.foldl (v.El P) ks↔x∈ks\/∃p∈xs,∃l∈look P p.1,∃s,s<v.g.s/\v.beh l p.2 s=a_ x
 |[],ks=>by simp|p::xs,ks=>by
  rw[Iy,v.CT xs];unfold V.El;rw[v.pY];constructor
  .rintro((h|h)|⟨p',h1,B⟩)
   .exact .inl h
   .exact .inr ⟨p,ad,h⟩
   .exact .inr ⟨p',by simp[h1],B⟩
  .rintro(h|⟨p',h1,B⟩)
   .exact .inl (.inl h)
   .rcases x_.mp h1 with z|z
    .exact .inl (.inr (by exact z▸B))
    .exact .inr ⟨p',z,B⟩
def V.pW(v:V):x∈v.oU P b↔∃i,i<b.length/\∃l∈look P (b.eraseIdx i),∃s,s<v.g.s/\v.beh l (b.getD i 0).toNat s=a_ x:=by
 unfold V.oU;rw[v.CT];constructor
 .rintro(h|⟨p,h1,B⟩)
  .cases h
  .obtain⟨i,hi,rfl⟩:=IE.mp h1;exact⟨i,IM.mp hi,B⟩
 .rintro⟨i,hi,h⟩;exact .inr ⟨_,IE.mpr ⟨i,IM.mpr hi,rfl⟩,h⟩
def BM(ks:bz)(k:LK):(Lake.putL ks k).length<=ks.length+1:=by unfold Lake.putL;split<;>simp
theorem V.sP(v:V)(l:LK)(q:Nat):∀(B:bi) (ks:bz),(B.foldl (v.add l q) ks).length<=ks.length+B.length
 |[],ks=>by simp|s::B,ks=>by
  rw[Iy];have h1:=v.sP l q B (v.add l q ks s);have I:(v.add l q ks s).length<=ks.length+1:=by
   unfold V.add;split
   .lia
   .exact BM _ _
  simp
  lia
theorem V.lI(v:V)(q:Nat):∀(ls ks:bz),(ls.foldl (v.wK q) ks).length<=ks.length+v.g.s*ls.length
 |[],ks=>by simp|l::ls,ks=>by
  rw[Iy];have h1:=v.lI q ls (v.wK q ks l);have B:(v.wK q ks l).length<=ks.length+v.g.s:=by have:=v.sP l q (A_ v.g.s) ks;rw[J_]at this;exact this
  rw[F_,OZ]
  lia
theorem V.CU(v:V)(P:Pap)(N:Nat):∀(xs:List (a9×Nat)) (ks:bz),(∀p∈xs,(look P p.1).length<=N)->(xs.foldl (v.El P) ks).length<=ks.length+v.g.s*N*xs.length
 |[],ks,_=>by simp|p::xs,ks,h=>by
  rw[Iy];have h1:=v.CU P N xs (v.El P ks p) λq B=>h q (by simp[B]);have U:(v.El P ks p).length<=ks.length+v.g.s*N:=by
   have S:=v.lI p.2 (look P p.1) ks;have I:=Q0 v.g.s (h p ad);unfold V.El
   lia
  rw[F_,OZ]
  lia
theorem Gp.s2(g:Gp):1<=g.s/\g.s<=2:=by unfold Gp.s;split<;>lia
section
variable(CR CP:h_)
theorem Ci(n:Nat)(B:Option A')(l:LK):∀(ls:bz) (I:Option A'),(ls.any (λx=>nw x l)=e_/\ee (.nm 2) bF (ls.map Lake.aE) [B,a_ (Lake.aE l),I]=.ok (.rt (.bl e_)))\/(ls.any (λx=>nw x l)=cm/\∃Y,ee (.nm 2) bF (ls.map Lake.aE) [B,a_ (Lake.aE l),I]=.ok (.nx [B,a_ (Lake.aE l),Y]))
 |[],I=>.inr ⟨rfl,I,rfl⟩|x::ls,I=>by
  have e:cF [Lake.aE x,Lake.aE l]=.ok _:=nw_ok n x l;rw[v_,ee,yL,ai];simp only[Kg,Kf,List.any_cons];by_cases c:nw x l=e_
  .left;rw[c]at e;refine⟨by simp[c],?_⟩
   have S:bF [B,a_ (Lake.aE l),a_ (Lake.aE x)]=.ok (.rt (.bl e_)):=by simp[bF,gA,e]
   rw[S];rfl
  .have U:=by simpa using c
   rw[U]at e;have S:bF [B,a_ (Lake.aE l),a_ (Lake.aE x)]=.ok (.nx [B,a_ (Lake.aE l),a_ (Lake.aE x)]):=by simp[bF,gA,e]
   rw[S,U];exact Ci n B l ls _
end
theorem lH{α:Type}{p:Pat}{fe:b6}{ρ0:ab}(g f:α->A'):∀(L:List α),(∀x∈L,∃ρ,dS p (g x) ρ0=.ok ρ/\fe ρ=.ok (f x))->aW p jZ fe ρ0 (L.map g)=.ok (L.map f)
 |[],_=>rfl|d::ds,h=>by obtain⟨ρ,e1,e2⟩:=h d ad;rw[v_,aW,e1];simp only[ai,jZ,e2,lH g f ds λx B=>h x (by simp[B])];simp
theorem oj:∀(b:a9) (j:Nat),iJ j (b.map .int)=(A_ b.length).map λi=>A'.tup [.int ((j+i:Nat):Int),.int (b.getD i 0)]
 |[],_=>rfl|x::b,j=>by
  rw[v_,iJ,oj b _,F_,K9,v_,Cb]
  congr 1
  refine I_ λi _=>?_;have:j+1+i=j+(i+1):=ac
  rw[this];rfl
theorem Dd(CR CP:h_)(n:Nat)(b:a9)(d:b.length<=100):cM [aR b]=.ok (.lst ((A_ b.length).map λi=>A'.tup [aR (b.eraseIdx i),.int (b.getD i 0)])):=by
 have U:aW (.tp [0,1]) jZ (fL bT (aa (f2 eY (fSl dU (ae 2) nU (mn (ae 0))) (fSl dU (ae 2) (mn (f2 eY (ae 0) (a8 1))) nU)) (aa (ae 1) au))) [d_,d_,a_ (aR b)] (iJ 0 (b.map .int))=.ok ((A_ b.length).map λi=>A'.tup [aR (b.eraseIdx i),.int (b.getD i 0)]):=by
  rw[oj];refine lH _ _ _ λi hi=>?_;have hi:=IM.mp hi;refine⟨[a_ (.int ((0+i:Nat):Int)),a_ (.int (b.getD i 0)),a_ (aR b)],ad,?_⟩
  have c:cX (b.map A'.int).length 0 d_=0:=rfl;have a:cX (b.map A'.int).length (b.map A'.int).length (a_ ((0+i:Nat):Int))=i:=by
   simp only[cX];rw[q_ ac,l_]
   lia
  have Y:cX (b.map A'.int).length 0 (a_ (((0+i:Nat):Int)+1))=i+1:=by
   simp only[cX];rw[q_ ac,l_]
   lia
  have s1:dU (aR b) d_ (a_ ((0+i:Nat):Int))=.ok (.tup ((b.take i).map .int)):=by unfold aR dU;simp only[];rw[c,a,q_ (by simp;lia)];rw[cut_take _ ac];simp
  have s2:dU (aR b) (a_ (((0+i:Nat):Int)+1)) d_=.ok (.tup ((b.drop (i+1)).map .int)):=by
   unfold aR dU;simp only[];rw[Y,q_ ad];rw[cut_drop _ ac];have:(((0+i:Nat):Int)+1).toNat=i+1:=ac
   rw[this];simp
  have S:((b.take i).map A'.int).length+((b.drop (i+1)).map A'.int).length<=16777216:=by simp;lia
  simp only[e_L,e_cons,e_2,e_slF,e_varS,e_var0,e_pNone,e_pSome,e_c,ai,e_asI,s1,eY,s2,LH,S,if_true,e_nil];simp[bT,aR,List.eraseIdx_eq_take_drop_succ,LH]
 have B:(iJ 0 (b.map A'.int)).length<=16777216:=by rw[oj];simp;lia
 have I:jb (aR b)=.ok (b.map .int):=rfl;simp[cM,jX,I,B,U]
theorem jo(lo:Int)(m:Nat):aG lo (m+1)=.int lo::aG (lo+1) m:=by
 unfold aG;rw[K9,v_,Cb]
 congr 1
 .simp
 .refine I_ λk _=>?_;lia
def jW(b:a9):fV (aR b)=.ok b:=by simp[aR,fV,dG]
def zO(v:V)(P:Pap):Prop:=∀b,∀l∈look P b,Lab v.g l
def pN(l:LK):xZ (Lake.aE l) .non=.ok (.bl e_):=rfl
def notN_non:xZ .non .non=.ok (.bl cm):=rfl
section
variable(CR CP:h_)
@[reducible] def evB(v:V)(P:Pap)(a:Option A')(ks:bz)(Y U S I B:Option A'):ab:=[a_ (aQ CR CP v.g.rows v.g.o),a_ (.lst (v.fl.map flD)),a_ (.lst (v.cs.map stD)),a_ (.dic (bg P)),a,a_ (.dil ks),Y,U,S,I,B]
theorem tU(n:Nat)(U:CR≠CP){v:V}(f:v.Good)(P:Pap)(Y S:Option A'){l:LK}(i:Lab v.g l){q:Nat}(g:q<v.fl.length):∀(r j:Nat) (ks:bz) (a B:Option A'),j+r=v.g.s->ks.length+r<16777216->∃b I,
  ee (.nm 9) (cz CR CP n) (aG (j:Int) r) (evB CR CP v P Y ks S (a_ (.int q)) (a_ (Lake.aE l)) a B)=.ok (.nx (evB CR CP v P Y ((NF j r).foldl (v.add l q) ks) S (a_ (.int q)) (a_ (Lake.aE l)) b I))
 |0,j,ks,a,B,_,_=>⟨a,B,rfl⟩|r+1,j,ks,a,B,h,t=>by
  have e:=behV CR CP n U f i g (s:=j) ac;have p:(v.add l q ks j).length<=ks.length+1:=v.sP l q [j] ks;obtain⟨b,I,d⟩:=tU n U f P Y S i g r (j+1) (v.add l q ks j) _ _ ac ac;refine⟨b,I,?_⟩
  have c:ks.length<16777216:=ac
  have m:cz CR CP n (evB CR CP v P Y ks S (a_ (.int q)) (a_ (Lake.aE l)) (a_ (.int j)) B)=.ok (.nx (evB CR CP v P Y (v.add l q ks j) S (a_ (.int q)) (a_ (Lake.aE l)) (a_ (.int j)) (a_ (DQ (v.beh l q j))))):=by
   unfold V.add;cases k:v.beh l q j with
   |none=>rw[k]at e;simp[DQ]at e ⊢;simp[cz,fN,e]|some o=>rw[k]at e;simp[DQ]at e ⊢;simp[cz,fN,e,pN,tX,AL,(lz o),isTr,c,-Hd]
  rw[jo,ee,yL,ai,OJ];simp at m d ⊢;exact m▸d
theorem uh(n:Nat)(Y:CR≠CP){v:V}(k:v.Good)(P:Pap)(a U:Option A'){q:Nat}(o:q<v.fl.length):∀(ls:bz) (ks:bz) (c I B:Option A'),(∀l∈ls,Lab v.g l)->ks.length+v.g.s*ls.length<16777216->∃f d S,
  ee (.nm 8) (dB CR CP n) (ls.map Lake.aE) (evB CR CP v P a ks U (a_ (.int q)) c I B)=.ok (.nx (evB CR CP v P a (ls.foldl (v.wK q) ks) U (a_ (.int q)) f d S))
 |[],ks,c,I,B,_,_=>⟨c,I,B,rfl⟩|l::ls,ks,c,I,B,h,t=>by
  rw[F_,OZ]at t;obtain⟨s1,s2⟩:=v.g.s2;have s:(v.wK q ks l).length<=ks.length+v.g.s:=by have:=v.sP l q (A_ v.g.s) ks;rw[J_]at this;exact this
  obtain⟨j,b,e⟩:=tU CR CP n Y k P a U (h l ad) o v.g.s 0 ks I B ac ac;obtain⟨f,d,S,x⟩:=uh n Y k P a U o ls (v.wK q ks l) (a_ (Lake.aE l)) j b (λm r=>h m (by simp[r])) ac;refine⟨f,d,S,?_⟩
  have i:=AA CR CP n Y (g:=v.g) (ae 0) [a_ (aQ CR CP v.g.rows v.g.o),a_ (.lst (v.fl.map flD)),a_ (.lst (v.cs.map stD)),a_ (.dic (bg P)),a,d_,U,a_ (.int q),a_ (Lake.aE l),I,B] ad;have p:(-4611686018427387904:Int)<=(v.g.s:Int):=ac
  have k2:(v.g.s:Int)<4611686018427387904:=ac
  have w:((0:Nat):Int)=0:=rfl;have u:NF 0 v.g.s=A_ v.g.s:=by rw[Qt]
  rw[w,u]at e;have y:dB CR CP n (evB CR CP v P a ks U (a_ (.int q)) (a_ (Lake.aE l)) I B)=.ok (.nx (evB CR CP v P a (v.wK q ks l) U (a_ (.int q)) (a_ (Lake.aE l)) j b)):=by unfold V.wK;simp only[evB]at e ⊢;simp[dB,i,p,k2,e]
  simp_all[v_,ee,yL,ai,Iy,evB,Kg,Kf]
def smD(x:a9×Nat):A':=.tup [aR x.1,.int x.2]
theorem tV(n:Nat)(f:CR≠CP){v:V}(o:v.Good)(P:Pap)(p:zO v P)(N:Nat)(U:Option A'):∀(xs:List (a9×Nat)) (ks:bz) (c b S I B:Option A'),(∀x∈xs,x.2<v.fl.length/\(look P x.1).length<=N)->ks.length+v.g.s*N*xs.length<16777216->∃k j i g Y,
  ee (.tp [6,7]) (dA CR CP n) (xs.map smD) (evB CR CP v P U ks c b S I B)=.ok (.nx (evB CR CP v P U (xs.foldl (v.El P) ks) k j i g Y))
 |[],ks,c,b,S,I,B,_,_=>⟨c,b,S,I,B,rfl⟩|x::xs,ks,c,b,S,I,B,h,t=>by
  rw[F_,OZ]at t;obtain⟨h1,z⟩:=h x ad;have A:=Q0 v.g.s z;have s:(v.El P ks x).length<=ks.length+v.g.s*N:=by
   have C:=v.lI x.2 (look P x.1) ks;unfold V.El
   lia
  obtain⟨m,l,d,e⟩:=uh CR CP n f o P U (a_ (aR x.1)) h1 (look P x.1) ks S I B (p x.1) ac;obtain⟨k,j,i,g,Y,q⟩:=tV n f o P p N U xs (v.El P ks x) (a_ (aR x.1)) (a_ (.int x.2)) m l d (λy r=>h y (by simp[r])) ac;refine⟨k,j,i,g,Y,?_⟩
  have u:=vR x.1 P;have w:dA CR CP n (evB CR CP v P U ks (a_ (aR x.1)) (a_ (.int x.2)) S I B)=.ok (.nx (evB CR CP v P U (v.El P ks x) (a_ (aR x.1)) (a_ (.int x.2)) m l d)):=by unfold V.El;simp only[evB]at e ⊢;simp[dA,GH,jW,u,bQ,e]
  rw[v_,ee,Iy];have a:dS (.tp [6,7]) (smD x) (evB CR CP v P U ks c b S I B)=.ok (evB CR CP v P U ks (a_ (aR x.1)) (a_ (.int x.2)) S I B):=rfl;rw[a,ai,w,ai];exact q
theorem smL_smD(h:∀x∈b,0<=x):((A_ b.length).map λi=>A'.tup [aR (b.eraseIdx i),.int (b.getD i 0)])=(smL b).map smD:=by
 unfold smL;rw[Cb];refine I_ λi hi=>?_;have hi:=IM.mp hi;have B:0<=b.getD i 0:=by rw[Jk,Ij hi];exact h _ (Iz hi)
 show _=A'.tup [aR _,.int ((b.getD i 0).toNat)];grind
theorem behs_ok(n:Nat)(I:CR≠CP)(Y:v.Good)(P:Pap)(f:zO v P)(N:Nat)(b:a9)(d:∀x∈b,0<=x/\x<v.fl.length)(c:b.length<=40)(m:∀i,i<b.length->(look P (b.eraseIdx i)).length<=N)(l:v.g.s*N*b.length<16777216):
  eC CR CP n [aQ CR CP v.g.rows v.g.o,.lst (v.fl.map flD),.lst (v.cs.map stD),.dic (bg P),aR b]=.ok (.dil (v.oU P b)):=by
 have S:=Dd CR CP n b ac;rw[smL_smD (λx B=>(d x B).1)]at S;have a:(smL b).length=b.length:=by simp[smL]
 obtain⟨k,j,h,g,U,e⟩:=tV CR CP n I Y P f N (a_ (aR b)) (smL b) [] d_ d_ d_ d_ d_ (λx B=>by obtain⟨i,hi,rfl⟩:=IE.mp B;simp_all) a7
 simp[eC,kI,S,e,V.oU]
end
def Dz(r:a9):gV (r.map .int)=e_:=by
 induction r with
 |nil=>rfl|cons x r B=>simp[gV,g9,B]
theorem Dx(L:List a9):gV (L.map aR)=e_:=by
 induction L with
 |nil=>rfl|cons x r B=>simp_all[gV,g9,aR,Dz]
def Dy(ls:bz):gV (ls.map Lake.aE)=e_:=by
 induction ls with
 |nil=>rfl|cons x r B=>simp[gV,g9,Lake.aE,Dx,B]
def FO(ls:bz):g9 (bQ ls)=e_:=by simp[bQ,g9,Dy]
def ne_tup(b:a9):eqM (aR b) (.tup [])=.ok (.bl b.isEmpty)/\neM (aR b) (.tup [])=.ok (.bl !b.isEmpty):=by simp[aR,C',eqM,kj,eqD,neM]
theorem hV(h:i<b.length):(b.eraseIdx i).length+1=b.length:=a0
theorem getD_in(h:i<b.length):b.getD i 0∈b:=by simp_all
section
variable(CR CP:h_)
theorem u5(n:Nat)(S:CR≠CP){v:V}(I B:Option A'):∀(r:Nat) (j:Int) (c:Int) (Y:Option A'),∃a,
  ee (.nm 4) (fW CR CP n) (aG j r) [a_ (aQ CR CP v.g.rows v.g.o),I,B,a_ (.int c),Y]=.ok (.nx [a_ (aQ CR CP v.g.rows v.g.o),I,B,a_ (.int (c*v.g.s^r)),a])
 |0,j,c,Y=>⟨Y,by simp[aG,ee]⟩|r+1,j,c,Y=>by
  obtain⟨s1,s2⟩:=v.g.s2;obtain⟨a,e⟩:=u5 n S I B r _ _ _;refine⟨a,?_⟩
  have U:pz _ _=.ok (.int (c*v.g.s)):=e_mulR (by simp;lia);have b:fW CR CP n [a_ (aQ CR CP v.g.rows v.g.o),I,B,a_ (.int c),a_ (.int j)]=.ok (.nx [a_ (aQ CR CP v.g.rows v.g.o),I,B,a_ (.int (c*v.g.s)),a_ (.int j)]):=by simp[fW,(AA CR CP n S (g:=v.g) (ae 0) [a_ (aQ CR CP v.g.rows v.g.o),I,B,a_ (.int c),a_ (.int j)] ad),U,]
  have ep:c*v.g.s^(r+1)=c*v.g.s*v.g.s^r:=by rw[Int.pow_succ,Int.mul_comm (v.g.s^r),Int.mul_assoc]
  rw[jo,ee,yL,ai,ep];simp;exact b▸e
theorem plans_ok(n:Nat)(B:CR≠CP){s:Nat}(Y:m<=64)(I:dj [.int m,.int s]=.ok (.int c)):ij CR CP n [aQ CR CP v.g.rows v.g.o,.int m,.int s]=.ok (.int (c*v.g.s^m)):=by
 obtain⟨S,e⟩:=u5 CR CP n B (v:=v) (a_ (.int m)) (a_ (.int s)) m 0 c d_;have U:(-4611686018427387904)<=(m:Int):=ac
 have k2:(m:Int)<4611686018427387904:=ac
 simp[ij,oK,I,k2,e]
theorem Fv(n:Nat)(I:CR≠CP){s:Nat}(U:m<=64)(Y:v.fl.length=m)(S:dj [.int m,.int s]=.ok (.int c))(a:c*v.g.s^m<=5000):di CR CP n [aQ CR CP v.g.rows v.g.o,.lst (v.fl.map flD),.int s]=.ok .non:=by
 have ep:=plans_ok CR CP n I (v:=v) U S;have B:¬5000<c*(v.g.s:Int)^m:=ac
 simp[di,jd,hX,Y,ep,B]
end
section
variable(CR CP:h_)
noncomputable def iv(a:Int):Nat->a9
 |0=>[]|m+1=>a::iv (a+1) m
noncomputable def chs:Nat->a9->List a9
 |0,_=>[[]]|_+1,[]=>[]|k+1,a::B=>(chs k B).map (a::·)++chs (k+1) B
def chs_zero(B:a9):chs 0 B=[[]]:=by cases B<;>rfl
def begs(S B I:Nat):List a9:=(chs (I-(I-B)) (iv ((I-B:Nat):Int) (min S (I+B)-(I-B)))).map (iv 0 (I-B)++·)
end
noncomputable def bnd(st:Nat):Nat->Nat
 |0=>1|k+1=>(k+1)*(st*bnd st k)
def BL(m s:Nat):List a9:=(A_ (m+1)).flatMap (begs m s)
structure Beg(m s k:Nat)(b:a9):Prop where
 mem:b∈begs m s k
 len:b.length=k
 nd:b.Nodup
 bnd:∀x∈b,0<=x/\x<(m:Int)
theorem foldl_congr{α β:Type}{f g:β->α->β}:∀(l:List α) (b:β),(∀x∈l,∀b,f b x=g b x)->l.foldl f b=l.foldl g b
 |[],_,_=>rfl|x::l,b,h=>by rw[Iy,h x ad];exact foldl_congr l _ λy B=>h y (by simp[B])
theorem ky(n:Nat):∀L:List a9,kj (L.map aR) (n+2)=e_
 |[]=>rfl|r::L=>by simp[kj,C',aR,ky n L]
theorem yp(b:a9):∀P:Pap,b∈P.map (·.1)->gZ (bg P) b=a_ (bQ (look P b))
 |[],h=>by cases h|p::P,h=>by
  unfold gZ bg look;by_cases e:p.1=b
  .simp[e]
  .have B:b∈P.map (·.1):=by
    rcases x_.mp h with z|z
    .exact IA z.symm e
    .exact z
   have:=yp b P B;grind[gZ,bg,look]
theorem u6:∀ls:bz,jS (ls.map λl=>A'.tup [Lake.aE l,.bl e_])=.ok ls
 |[]=>rfl|l::ls=>by show(sR _).bind _=_;rw[lz,u6 ls];rfl
theorem Co(x:LK):∀(ls acc:bz),x∈ls.foldl Lake.putL acc↔x∈acc\/x∈ls
 |[],acc=>by simp|l::ls,acc=>by rw[Iy,Co x ls,BK,x_];exact or_assoc
theorem zo{α:Type}(t:α->Bool):∀l:List α,gv (l.map λx=>A'.bl (t x))=.ok (l.map t)
 |[]=>rfl|a::l=>by rw[v_,gv,zo t l];rfl
theorem all_map{α:Type}(t:α->Bool)(l:List α):allD [.lst (l.map λx=>A'.bl (t x))]=.ok (.bl (l.all t)):=by simp[e_all,zo,ai,List.all_map]
theorem nv{α:Type}{p:Pat}{ft:cd}{fe:b6}{ρ0:ab}(g f:α->A')(t:α->Bool):∀(L:List α),(∀x∈L,∃ρ,dS p (g x) ρ0=.ok ρ/\ft ρ=.ok (t x)/\(t x=e_->fe ρ=.ok (f x)))->aW p ft fe ρ0 (L.map g)=.ok ((L.filter t).map f)
 |[],_=>rfl|x::L,h=>by obtain⟨ρ,h1,U,S⟩:=h x ad;have I:=nv g f t L λy B=>h y (by simp[B]);grind[v_,aW,ai]
section
variable(CR CP:h_)
def has_dil(n:Nat)(ls:bz)(l:LK):cP [.dil ls,Lake.aE l]=.ok (.bl (ls.any λx=>nw x l)):=by
 rcases Ci n (a_ (.dil ls)) l ls d_ with⟨h1,B⟩|⟨h1,I,B⟩
 .simp[cP,iI,h1,B]
 .simp[cP,iI,h1,B]
end
section
variable(CR CP:h_)
theorem iN(n:Nat)(ns:a9)(k:Int)(c:0<=k)(h1:k<1000000):∃x,b7 [.lst (ns.map .int),.int k]=.ok (.int x):=by
 by_cases U:k<ns.length
 .exact⟨_,by simp[b7,jz,gL,U,getI_int c U];rfl⟩
 .have B:=yG ns;by_cases d:0<ns.length
  .have S:(0:Int)<ns.length:=ac
   have I:ns.isEmpty=cm:=by cases ns with|nil=>simp_all|cons a b=>rfl
   have Y: -18446744073709551616<k:=ac
   have k2:k<18446744073709551616:=ac
   rw[I]at B;exact⟨_,by simp[b7,jz,gL,U,jI,B,getI_int (Lj _ ac) (KD _ S),lO S,Y,k2];rfl⟩
  .have I:ns.isEmpty=e_:=by cases ns with|nil=>rfl|cons a b=>simp_all
   rw[I]at B;exact⟨0,by simp[b7,jz,gL,U,jI,B]⟩
def Af(p:Int->Prop)(xs:a9){k:Int}(B:0<=k)(h1:k<xs.length)(h:∀x∈xs,p x):∃x,p x/\jl (xs.map .int) k=.ok (.int x):=⟨_,h _ (Iz _),getI_int B h1⟩
theorem gap_v(c:Int):∃v m:Int,0<=v/\v<=1000000/\0<m/\jl [.int 40,.int 1000001] (c/4%2)=.ok (.int m)/\jl [.int 0,.int (c/4%10),.int (c/4%10),.int (c/4%m)] (c%4)=.ok (.int v):=by
 obtain⟨m,⟨B,S⟩,Y⟩:=Af (λm=>0<m/\m<=1000001) [40,1000001] (k:=c/4%2) ac (by show _<2;lia) λx I=>by grind
 have b:0<=c/4%m:=Lj _ ac;have a:c/4%m<m:=KD _ B;obtain⟨v,⟨U,h1⟩,ev⟩:=Af (λv=>0<=v/\v<=1000000) [0,c/4%10,c/4%10,c/4%m] (k:=c%4) ac (by show _<4;lia) λx I=>by grind
 exact⟨v,m,U,h1,B,Y,ev⟩
theorem gapr_row(n:Nat)(ns:a9)(b:Nat)(k B:Nat)(rows:be)(S I:Option A')(G:b<=100)(u:k<=3)(E:B<k):
  ∃(r:a9) (Y U:Option A'),sQ k r/\ee (.nm 6) fP (aG 0 k) [a_ (.lst (ns.map .int)),a_ (.int b),a_ (.int k),a_ (.lst rows),a_ (.int B),a_ (.lst []),S,I]=.ok (.nx [a_ (.lst (ns.map .int)),a_ (.int b),a_ (.int k),a_ (.lst rows),a_ (.int B),a_ (g8 r),Y,U]):=by
 obtain⟨ρ',e,r,Y,U,rfl,h1,A⟩:=iy (p:=.nm 6) (g:=fP)
  (λi ρ=>∃(r:a9) (S I:Option A'),ρ=[a_ (.lst (ns.map .int)),a_ (.int b),a_ (.int k),a_ (.lst rows),a_ (.int B),a_ (g8 r),S,I]/\r.length=i/\∀x∈r,0<=x/\x<=1000000) (aG 0 k) 0 _ ⟨[],S,I,rfl,rfl,ad⟩ (by
  rintro i d ρ w ⟨r,S,I,rfl,q,h⟩;obtain⟨hi,rfl⟩:=gR w;have F:(k:Int)*B<=9:=by
   have:k*B<=3*3:=Jz u ac
   exact_mod_cast this
  have s:0<=(k:Int)*B:=Sf ac ac;obtain⟨c,D⟩:=iN n ns ((b:Int)+(k:Int)*B+(i:Int)) ac ac;obtain⟨v,m,f,a,j,C,ev⟩:=gap_v c;have l: -18446744073709551616<(k:Int):=ac
  have k2:(k:Int)<18446744073709551616:=ac
  have t:r.length<16777216:=ac
  refine⟨[a_ (.lst (ns.map .int)),a_ (.int b),a_ (.int k),a_ (.lst rows),a_ (.int B),a_ (g8 r),a_ (.int i),I],ad,[a_ (.lst (ns.map .int)),a_ (.int b),a_ (.int k),a_ (.lst rows),a_ (.int B),a_ (g8 (r++[v])),a_ (.int i),a_ (.int c)],.inl ?_,_,_,_,rfl,by simp;lia,λy o=>?_⟩
  .exact cE (.int c) (by simp[l,k2,D]) (by simp[C,lO j,ev,t,g8])
  .rcases Iw.mp o with z|z
   .exact h y z
   .simp at z;subst z;exact⟨f,a⟩)
 rw[Jw,bW]at h1;exact⟨r,Y,U,⟨h1,A⟩,e⟩
theorem GV(n:Nat)(ns:a9)(b k:Nat)(o:b<=100)(l:k<=3):∃rows,lJ k rows/\cV [.lst (ns.map .int),.int b,.int k]=.ok (aZ rows):=by
 have c: -4611686018427387904<=(k:Int):=ac
 have k2:(k:Int)<4611686018427387904:=ac
 obtain⟨ρ',e,rows,u,t,a,Y,rfl,h1,q⟩:=iy (p:=.nm 4) (g:=ji)
  (λi ρ=>∃(rows:List a9) (U S I B:Option A'),ρ=[a_ (.lst (ns.map .int)),a_ (.int b),a_ (.int k),a_ (aZ rows),U,S,I,B]/\rows.length=i/\∀r∈rows,sQ k r) (aG 0 k) 0 [a_ (.lst (ns.map .int)),a_ (.int b),a_ (.int k),a_ (.lst []),d_,d_,d_,d_] ⟨[],d_,d_,d_,d_,rfl,rfl,ad⟩ (by
  rintro i d ρ m ⟨rows,U,S,I,B,rfl,h,f⟩;obtain⟨hi,rfl⟩:=gR m;obtain⟨r,a,Y,w,s⟩:=gapr_row n ns b k i (rows.map g8) I B o l hi;have j:rows.length<16777216:=ac
  refine⟨[a_ (.lst (ns.map .int)),a_ (.int b),a_ (.int k),a_ (aZ rows),a_ (.int i),S,I,B],ad,[a_ (.lst (ns.map .int)),a_ (.int b),a_ (.int k),a_ (aZ (rows++[r])),a_ (.int i),a_ (g8 r),a,Y],.inl ?_,_,_,_,_,_,rfl,by simp;lia,λy v=>?_⟩
  .exact cE (.lst []) rfl <| yt a7 s (by simp[aZ,j])
  grind)
 rw[Jw,bW]at h1;exact⟨rows,⟨h1,q⟩,by simp[cV,kL,c,k2,e]⟩
theorem gps_ok(n:Nat)(ns:a9):∃g:Gp,g.Good/\gY [.lst (ns.map .int)]=.ok g.D:=by
 obtain⟨c,d⟩:=iN n ns 0 ac ac;obtain⟨k,a⟩:∃k:Nat,1+c%3=k:=⟨(1+c%3).toNat,ac⟩
 obtain⟨rows,b,U⟩:=GV n ns 3 k ac ac;have f:k*k<=3*3:=Jz ac ac;obtain⟨Y,B,I⟩:=GV n ns (3+k*k) k ac ac;have S:((3+k*k:Nat))=3+(k:Int)*k:=by simp
 rw[S]at I;simp at U;have e: -18446744073709551616<(k:Int):=ac
 have k2:(k:Int)<18446744073709551616:=ac
 by_cases h:c/3%3=1
 .exact⟨⟨k,rows,e_,Y⟩,⟨ac,ac,b,B⟩,by simp[gY,mz,jH,d,a,U,h,e,k2,I,Gp.D]⟩
 .exact⟨⟨k,rows,cm,Y⟩,⟨ac,ac,b,B⟩,by simp[gY,mz,jH,d,a,U,h,Gp.D]⟩
theorem GP(n:Nat)(B:g.Good):dX CR CP n [g.D]=.ok (aQ CR CP g.rows g.o):=by
 have I:=B.k1;have Y:=B.k3;have e1:=uL n g.k g.rows I ac B.rows;cases h:g.two with
 |false=>simp[dX,kK,iP,Gp.D,Gp.o,h,newR,e1,aQ]|true=>
  have S:twoL (aZ g.rows) (aZ g.r2)=e_:=by simp[twoL,aZ,B.rows.1,B.r2.1]
  have U:newP CP aF [aZ g.rows,aZ g.r2]=.ok (.ins CP [("gaps",aZ g.rows),("beside",aZ g.r2)]):=by simp[newP,e1,(uL n g.k g.r2 I ac B.r2),S]
  have e3:aQ CR CP g.rows (aZ g.r2)=.ins CP [("gaps",aZ g.rows),("beside",aZ g.r2)]:=rfl;simp[dX,kK,iP,Gp.D,Gp.o,h,U,e3]
theorem E4(n:Nat)(ns:a9):∃cs:List iU,cs.length<=20/\(∀p∈cs,p.1<p.2)/\gH [.lst (ns.map .int)]=.ok (.lst (cs.map stD)):=by
 obtain⟨c,A⟩:=iN n ns 1 ac ac;obtain⟨C,b⟩:=iN n ns 2 ac ac;obtain⟨m,⟨a,H⟩,h⟩:=Af (λm=>0<=m/\m<=20) [c%4,c%4,20] (k:=c/4%8/3) ac (by show _<(3:Int);lia) λx q=>by simp at q;lia
 obtain⟨B,rfl⟩:=M9 a;simp only[Pq]at h;have U: -4611686018427387904<=(B:Int):=ac
 have k2:(B:Int)<4611686018427387904:=ac
 obtain⟨ρ',e,cs,F,E,D,rfl,h1,w⟩:=iy (p:=.nm 4) (g:=kX)
  (λi ρ=>∃(cs:List iU) (f S I:Option A'),ρ=[a_ (.lst (ns.map .int)),a_ (.int c),a_ (.int B),a_ (.lst (cs.map stD)),f,S,I]/\cs.length=i/\∀p∈cs,p.1<p.2) (aG 0 B) 0 [a_ (.lst (ns.map .int)),a_ (.int c),a_ (.int B),a_ (.lst []),d_,d_,d_] ⟨[],d_,d_,d_,rfl,rfl,ad⟩ (by
  rintro i d ρ v ⟨cs,f,S,I,rfl,s,Y⟩;obtain⟨hi,rfl⟩:=gR v;have u:cs.length<16777216:=ac
  have G:(0:Int)<=(i:Int)*i:=Sf ac ac;have i1:(i:Int)*i<=400:=by
   have:i*i<=20*20:=Jz ac ac
   exact_mod_cast this
  have p0:(0:Int)<(i:Int)*i+1:=ac
  have p1:(i:Int)*i+1<18446744073709551616:=ac
  have U: -18446744073709551616<(i:Int):=ac
  have k2:(i:Int)<18446744073709551616:=ac
  have l: -18446744073709551616<17*(i:Int):=ac
  have j:17*(i:Int)<18446744073709551616:=ac
  obtain⟨t,r⟩:∃t,t=C/((i:Int)*i+1)+17*(i:Int)*(c/32%3):=⟨_,rfl⟩
  refine⟨[a_ (.lst (ns.map .int)),a_ (.int c),a_ (.int B),a_ (.lst (cs.map stD)),a_ (.int i),S,I],ad,[a_ (.lst (ns.map .int)),a_ (.int c),a_ (.int B),a_ (.lst ((cs++[(t%50,t%50+1+t/50%9)]).map stD)),a_ (.int i),a_ (.int t),a_ (.int (t%50))],.inl ?_,_,_,_,_,rfl,by simp;lia,λy o=>?_⟩
  .exact cE (.int t) (by simp[b,U,k2,l,j,ng p0 p1,<- r]) <| cE (.int (t%50)) ad (by simp[u,stD])
  .rcases Iw.mp o with z|z
   .exact Y y z
   .simp at z;subst z;show t%50<t%50+1+t/50%9;lia)
 rw[Jw,bW]at h1;exact⟨cs,ac,w,by simp[gH,mY,A,h,U,k2,e]⟩
theorem AB(n:Nat)(ns:a9)(k:Nat)(N:1<=k)(B:Nat)(hm:B<=40):∃fl:List Fli,fl.length=B/\(∀f∈fl,uR k f)/\fU [.lst (ns.map .int),.int 21,.int k,.int B]=.ok (.lst (fl.map flD)):=by
 have H: -4611686018427387904<=(B:Int):=ac
 have k2:(B:Int)<4611686018427387904:=ac
 have u:(0:Int)<k:=ac
 obtain⟨ρ',e,fl,y5,y6,Z,X,W,F,E,D,rfl,h1,P⟩:=iy (p:=.nm 5) (g:=ke)
  (λi ρ=>∃(fl:List Fli) (t q o l j Y U S:Option A'),ρ=[a_ (.lst (ns.map .int)),a_ (.int 21),a_ (.int k),a_ (.int B),a_ (.lst (fl.map flD)),t,q,o,l,j,Y,U,S]/\fl.length=i/\∀f∈fl,uR k f) (aG 0 B) 0 [a_ (.lst (ns.map .int)),a_ (.int 21),a_ (.int k),a_ (.int B),a_ (.lst []),d_,d_,d_,d_,d_,d_,d_,d_] ⟨[],d_,d_,d_,d_,d_,d_,d_,d_,rfl,rfl,ad⟩ (by
  rintro i d ρ O ⟨fl,t,q,o,l,j,Y,U,S,rfl,K,s⟩;obtain⟨hi,rfl⟩:=gR O;have L:fl.length<16777216:=ac
  obtain⟨c,R⟩:=iN n ns (21+3*(i:Int)) ac ac;obtain⟨w,Q⟩:=iN n ns (21+3*(i:Int)+1) ac ac;obtain⟨v,ev⟩:=iN n ns (21+3*(i:Int)+2) ac ac;obtain⟨I,⟨C,a1⟩,e1⟩:=Af (λm=>0<m/\m<=900000000) [20,20,60,900000000] (k:=c/3%4) ac (by show _<(4:Int);lia) λx h=>by simp at h;lia
  obtain⟨b,⟨A,b1⟩,e2⟩:=Af (λm=>0<m/\m<=10000000) [5,30,80,1000000,10000000] (k:=w%5) ac (by show _<(5:Int);lia) λx h=>by grind
  obtain⟨a,⟨d0,T⟩,e3⟩:=Af (λm=>0<=m/\m<=1000000000) [v/2%40,v/2%1000000001] (k:=v%2) ac (by show _<(2:Int);lia) λx h=>by grind
  obtain⟨r,⟨p0,p1⟩,e4⟩:=Af (λm=>0<=m/\m<=1000000000) [v/80%5,v/80%5,v/80%1000000001] (k:=v/8%3) ac (by show _<(3:Int);lia) λx h=>by grind
  simp only[Pq]at e1 e2 e3 e4;have f0:0<=c/3%I:=Lj _ ac;have f1:c/3%I<I:=KD _ C;have w0:0<=w/5%b:=Lj _ ac;have w1:w/5%b<b:=KD _ A;have G:0<=c%(k:Int):=Lj _ ac;have q1:c%(k:Int)<k:=KD _ u;refine⟨[a_ (.lst (ns.map .int)),a_ (.int 21),a_ (.int k),a_ (.int B),a_ (.lst (fl.map flD)),a_ (.int i),q,o,l,j,Y,U,S],ad,[a_ (.lst (ns.map .int)),a_ (.int 21),a_ (.int k),a_ (.int B),a_ (.lst ((fl++[(⟨c%k,c/3%I,c/3%I+w/5%b,a,r⟩:Fli)]).map flD)),a_ (.int i),a_ (.int c),a_ (.int w),a_ (.int v),a_ (.int (c/3%I)),a_ (.int (c/3%I+w/5%b)),a_ (.int a),a_ (.int r)],.inl ?_,_,_,_,_,_,_,_,_,_,rfl,by simp;lia,λy J=>?_⟩
  .exact cE (.int c) (by simp[R]) <| cE (.int w) (by simp[Q]) <| cE (.int v) (by simp[ev]) <| cE (.int (c/3%I)) (by simp[e1,lO C]) <| cE (.int (c/3%I+w/5%b)) (by simp[e2,lO A]) <| cE (.int a) (by simp[e3]) <| cE (.int r) (by simp[e4]) (by simp[lO u,L,flD])
  .rcases Iw.mp J with z|z
   .exact s y z
   .simp at z;subst z;exact⟨G,q1,f0,ac,ac,d0,T,p0,p1⟩)
 rw[Jw,bW]at h1;exact⟨fl,h1,P,by simp[fU,lZ,H,k2,e]⟩
def E2(n:Nat)(B:g.Good){a s b:Int}(S:0<=a)(I:a<g.k)(d:0<=b)(c:b<g.k)(U:g.two=cm->s=t):gd [g.D,.tup [.int a,.int s],.tup [.int b,.int t]]=.ok (.int (apS g.rows g.r2 (a,s) (b,t))):=by
 obtain⟨f,_⟩:=jx B.rows S I;obtain⟨e,_⟩:=getA B.rows S I d c;obtain⟨r3,_⟩:=jx B.r2 S I;obtain⟨r4,_⟩:=getA B.r2 S I d c;by_cases Y:s=t
 .cases h:g.two<;>simp[gd,kM,iR,Gp.D,h,Y,aZ,f,g8,e,apS]
 .cases h:g.two with
  |false=>exact IA (U h) Y|true=>simp[gd,kM,iR,Gp.D,h,Y,aZ,r3,g8,r4,apS]
@[reducible] def evX(g:Gp)(c:Int)(L:List a9)(t b:Int)(h f e d a Y U S:Option A')(x:Int)(I B:Option A'):ab:=[a_ g.D,h,f,a_ (aE c L),e,a_ (.int t),a_ (.int b),d,a,Y,U,a_ (.int x),I,B,S]
theorem lb_row(n:Nat)(z:g.Good)(C:lR g.s g.k L)(c b t Y:Int)(E:0<=b)(D:b<g.k)(F:0<=t/\t<g.s)(i:Nat)(hi:i<g.s)(q o m l k f S B I:Option A'):
  ∃U,ee (.nm 13) d9 (aG 0 g.k) (evX g c L t b q o m l k f S I Y (a_ (.int i)) B)=.ok (.nx (evX g c L t b q o m l k f S I ((qt (λj=>apS g.rows g.r2 (j,i) (b,t)) 0 (mw L i)).foldl iV Y) (a_ (.int i)) U)):=by
 obtain⟨H,y,x,_⟩:=lA C hi;have u:g.two=cm->(i:Int)=t:=λh=>by
  have G:g.s=1:=by simp[Gp.s,h]
  lia
 obtain⟨ρ',e,U,rfl⟩:=iy (p:=.nm 13) (g:=d9)
  (λj ρ=>∃(B:Option A'),ρ=(evX g c L t b q o m l k f S I ((qt (λj=>apS g.rows g.r2 (j,i) (b,t)) 0 ((mw L i).take j)).foldl iV Y) (a_ (.int i)) B)) (aG 0 g.k) 0 (evX g c L t b q o m l k f S I Y (a_ (.int i)) B) ⟨B,by rfl⟩ (by
  rintro j d ρ A ⟨B,rfl⟩;obtain⟨J,rfl⟩:=gR A;rw[Jw];have w:=getT (ts:=mw L i) (i:=j) ac;have ea:=E2 n z (a:=j) (s:=i) (b:=b) (t:=t) ac ac E D u;have r:((mw L i).take j).length=j:=by rw[JO];lia
  refine⟨(evX g c L t b q o m l k f S I ((qt (λj=>apS g.rows g.r2 (j,i) (b,t)) 0 ((mw L i).take j)).foldl iV Y) (a_ (.int i)) (a_ (.int j))),ad,(evX g c L t b q o m l k f S I ((qt (λj=>apS g.rows g.r2 (j,i) (b,t)) 0 ((mw L i).take (j+1))).foldl iV Y) (a_ (.int i)) (a_ (.int j))),.inl ?_,_,rfl⟩
  rw[D6 ac,xD,r,Jw,Ot];by_cases v:tAt (mw L i) j= -1
  .simp[d9,hZ,aE,gg,x,tupI,w,v]
  .simp[d9,hZ,aE,gg,x,tupI,w,v,ea])
 rw[Jw,bW,J9 ac]at e;exact⟨U,e⟩
def GW:∃ds,g.D=.lst ds/\ds.length=g.s:=by unfold Gp.D Gp.s;cases g.two<;>exact⟨_,rfl,rfl⟩
theorem lb_all(n:Nat)(w:g.Good)(s:lR g.s g.k L)(c b t f:Int)(E:0<=b)(D:b<g.k)(z:0<=t/\t<g.s)(r q o m l k S U B I:Option A'):
  ∃a Y,ee (.nm 12) eU (aG 0 g.s) (evX g c L t b r q o m l k S I f U B)=.ok (.nx (evX g c L t b r q o m l k S I ((tN (λi j=>apS g.rows g.r2 (j,i) (b,t)) 0 L).foldl iV f) a Y)):=by
 have F:=w.k3;have v:=w.rows.1;have y: -4611686018427387904<=(g.k:Int):=ac
 have k2:(g.k:Int)<4611686018427387904:=ac
 obtain⟨ρ',e,a,Y,rfl⟩:=iy (p:=.nm 12) (g:=eU)
  (λi ρ=>∃(U B:Option A'),ρ=(evX g c L t b r q o m l k S I ((tN (λi j=>apS g.rows g.r2 (j,i) (b,t)) 0 (L.take i)).foldl iV f) U B)) (aG 0 g.s) 0 (evX g c L t b r q o m l k S I f U B) ⟨U,B,by rfl⟩ (by
  rintro i d ρ A ⟨U,B,rfl⟩;obtain⟨hi,rfl⟩:=gR A;rw[Jw];obtain⟨_,_,_,x⟩:=lA s hi;have u:(L.take i).length=i:=by rw[JO,s.1];lia
  obtain⟨Y,C⟩:=lb_row n w s c b t ((tN (λi j=>apS g.rows g.r2 (j,i) (b,t)) 0 (L.take i)).foldl iV f) E D z i hi r q o m l k S B I;refine⟨(evX g c L t b r q o m l k S I ((tN (λi j=>apS g.rows g.r2 (j,i) (b,t)) 0 (L.take i)).foldl iV f) (a_ (.int i)) B),ad,(evX g c L t b r q o m l k S I ((tN (λi j=>apS g.rows g.r2 (j,i) (b,t)) 0 (L.take (i+1))).foldl iV f) (a_ (.int i)) Y),.inl ?_,_,_,rfl⟩
  rw[x,zH,u,Jw,Ot];rw[<- C];cases h:g.two<;>simp[eU,Gp.D,h,aZ,v,y,k2])
 rw[Jw,bW,J9 (by rw[s.1];simp)]at e;exact⟨a,Y,e⟩
theorem open2(n:Nat)(cs:List iU)(o:cs.length<=20):∀(m:Nat) (t:Int) (I:Option A'),cnt cs t+1<m->∃u,jj cs t u/\mE gD dC m [a_ (.lst (cs.map stD)),a_ (.int t),I]=.ok (.rt (.int u))
 |0,t,I,h=>by lia|m+1,t,I,h=>by
  have d:=uH t cs;have c:cs.length<=16777216:=ac
  have j:gD [a_ (.lst (cs.map stD)),a_ (.int t),I]=.ok e_:=by simp[gD]
  have B:=yG (D9 cs t);cases f:D9 cs t with
  |nil=>
   rw[f]at B d;refine⟨t,⟨O4 _,λ⟨p,g,h1,s⟩=>?_,λv a b=>by lia⟩,?_⟩
   .have:p.2∈D9 cs t:=by
     exact IE.mpr ⟨p,Iv.mpr ⟨g,a7⟩,rfl⟩
    simp_all
   .rw[mE,j,ai];simp at d B;have q:dC [a_ (.lst (cs.map stD)),a_ (.int t),I]=.ok (.rt (.int t)):=by simp[dC,c,d,jF,B]
    rw[q];rfl
  |cons x xs=>
   rw[f]at B d;obtain⟨u,i⟩:∃u,u=xs.foldl iV x:=⟨_,rfl⟩
   have Y:u∈D9 cs t:=by
    rw[f,i];rcases n8 xs x with z|z
    .simp_all
    .simp[z]
   obtain⟨p,g,k⟩:=IE.mp Y;obtain⟨U,S⟩:=Iv.mp g;simp at S;have l:=cnt_lt U S.2;obtain⟨v,e,ev⟩:=open2 n cs o m u (a_ (.lst ((x::xs).map .int))) ac;refine⟨v,⟨?_,e.2.1,λy a b=>?_⟩,?_⟩
   .have:=e.1
    lia
   .by_cases r:y<u
    .exact⟨p,U,ac,ac⟩
    .exact e.2.2 y ac b
   .rw[mE,j,ai,p_ rfl];have w:maxD [.lst ((x::xs).map .int)]=.ok (.int u):=by
     show(bZ ((x::xs).map .int)).bind maxL=_;rw[dG,ai,maxL,i]
    simp_all[v_,dC,jF]
theorem open2_ok(n:Nat)(S:64<=n)(cs:List iU)(I:cs.length<=20)(t:Int):∃u,jj cs t u/\jv CR CP n [.lst (cs.map stD),.int t]=.ok (.int u):=by have U:cnt cs t<=cs.length:=List.countP_le_length;obtain⟨u,B,e⟩:=open2 n cs I n t d_ ac;exact⟨u,B,by simp[jv,rq,e]⟩
def g0(B:g.Good):∃ds,g.D=.lst ds/\ds.length=g.s/\jl ds 0=.ok (aZ g.rows)/\g.rows.length=g.k:=by unfold Gp.D Gp.s;cases g.two<;>exact⟨_,rfl,rfl,ad,B.rows.1⟩
theorem DO(n:Nat)(F:64<=n)(r:g.Good)(l:cs.length<=20){fl:List Fli}(e:∀f∈fl,uR g.k f)(c:Int)(Y:lR g.s g.k L){s:Nat}(Q:q<fl.length)(o:s<g.s):
  ∃u,jj cs (EO g L (i4 fl q) s) u/\cG CR CP n [g.D,.lst (fl.map flD),.lst (cs.map stD),aE c L,.int q,.int s]=.ok (after g c L (i4 fl q) s u):=by
 obtain⟨K,G⟩:=getFl (fl:=fl) (i:=q) ac ac;have S:=e _ G;have P:=r.k3;have E:g.s<=2:=by unfold Gp.s;split<;>lia
 obtain⟨x,w,v⟩:=lb_all n r Y c (i4 fl q).kind s (i4 fl q).first S.k0 S.k1 ⟨ac,ac⟩ (a_ (.lst (fl.map flD))) (a_ (.lst (cs.map stD))) (a_ (.int q)) (a_ (.int (i4 fl q).first)) (a_ (.int (i4 fl q).last)) (a_ (.int (i4 fl q).due)) (a_ (.int (i4 fl q).price)) d_ d_ d_;simp only[evX]at v;obtain⟨u,D,t⟩:=open2_ok CR CP n F cs l (EO g L (i4 fl q) s);refine⟨u,D,?_⟩
 obtain⟨I,U⟩:∃I:Nat,(i4 fl q).kind=I:=⟨(i4 fl q).kind.toNat,by have:=S.k0;lia⟩
 have b:(i4 fl q).kind.toNat=I:=ac
 have h1:=ou L (Y.short ac);have p:=iX (j:=I) Y o u;have J:=sj (putL L s I u) (p.short ac);obtain⟨e1,e2⟩:=jn Y o (j:=I) (by have:=S.k1;lia) u;rw[<- U]at e2;have z:L.length<=16777216:=by have:=Y.1;lia
 have y:(putL L s I u).length<=16777216:=by have:=p.1;lia
 have O: -18446744073709551616<(i4 fl q).price:=by have:=S.p0;lia
 have N:(i4 fl q).price<18446744073709551616:=by have:=S.p1;lia
 have C: -4611686018427387904<=(g.s:Int):=ac
 have A:(g.s:Int)<4611686018427387904:=ac
 obtain⟨ds,H,m⟩:=GW (g:=g);unfold EO at t;unfold after;have a:∀{d},mZ CR CP n [a_ g.D,a_ (.lst (fl.map flD)),a_ (.lst (cs.map stD)),a_ (aE c L),a_ (.int q),a_ (.int s),d_,d_,d_,d_,d_,d_,d_,d_,d_]=.ok (.rt d)->cG CR CP n [g.D,.lst (fl.map flD),.lst (cs.map stD),aE c L,.int q,.int s]=.ok d:=λh=>by simp[cG,h]
 have st:=λ{d} (k:_=Jp (B4.rt d))=>a (d:=d) (un_nx [.int (i4 fl q).kind,.int (i4 fl q).first,.int (i4 fl q).last,.int (i4 fl q).due,.int (i4 fl q).price] (by simp[K,flD]) rfl <| cE (.int (i4 fl q).first) rfl <| yt (by simp[H,m,C,A]) v <| cE (.int u) (by simp[t]) k);by_cases B:(i4 fl q).last<u
 .rw[p_ B];exact st (vQ (by simp[B]) (vi rfl))
 .rw[q_ B,b];refine st (mV (by simp[B]) ?_);simp only[aE,gg];simp[vh,Dp,qr,vk,Gh,asI,h1,z,e1,e2,J,y,O,N,late]
def Gb(xs:a9):neM (.lst (xs.map .int)) (.lst [])=.ok (.bl !xs.isEmpty):=by simp[C',neM,kj,eqD,mD]
theorem lnw_rows(n:Nat)(w:k<=1000)(a Y:Option A')(L M:List a9)(S I:Option A')(h1:∀r∈L,r.length=k)(s:∀r∈M,r.length=k):∃ρ',(∃h g,ρ'=[a,Y,h,g])/\ee (.tp [2,3]) fO (wR (L.map tupI) (M.map tupI)) [a,Y,S,I]=if leL L M=e_ then .ok (.nx ρ')else .ok (.rt (.bl cm)):=by
 rw[Aw];exact AD tupI leR (λρ=>∃S I,ρ=[a,Y,S,I]) L M (λr o t m ρ ⟨S,I,e⟩=>by
  subst e;have v:=h1 r o;have u:=s t m;have l: -4611686018427387904<=(r.length:Int):=ac
  have k2:(r.length:Int)<4611686018427387904:=ac
  have c:(aG 0 r.length).length<=16777216:=by rw[bW];lia
  have f:=zf (p:=.nm 0) (ft:=fB (f2 gtD (f2 ixD (ae 1) (ae 0)) (f2 ixD (ae 2) (ae 0)))) (fe:=ae 0) (ρ0:=[d_,a_ (tupI r),a_ (tupI t)]) (λj=>m_ (tAt t j<tAt r j)) (λj=>.int j) r.length (λj q=>by
   refine⟨[a_ (.int j),a_ (tupI r),a_ (tupI t)],ad,?_,ad⟩
   have e1:=getT (ts:=r) (i:=j) q;have e2:=getT (ts:=t) (i:=j) ac;simp[tupI,e1,e2])
  have U:lx [tupI r]=.ok (.int r.length):=by simp[tupI]
  have B:=Gb (((A_ r.length).filter λj=>m_ (tAt t j<tAt r j)).map λj:Nat=>(j:Int));have d:(((A_ r.length).filter λj=>m_ (tAt t j<tAt r j)).map λj:Nat=>(j:Int)).isEmpty=leR r t:=by rw[J2,Gu ac,OM,List.map_eq_nil_iff,Nd];simp
  rw[d,Cb]at B;have B:neM (.lst (((A_ r.length).filter λj=>m_ (tAt t j<tAt r j)).map λj:Nat=>A'.int j)) (.lst [])=.ok (.bl !leR r t):=B;generalize ((A_ r.length).filter λj=>m_ (tAt t j<tAt r j)).map (λj:Nat=>A'.int j)=X at f B;refine⟨[a,Y,a_ (tupI r),a_ (tupI t)],⟨_,_,rfl⟩,?_⟩
  unfold fO jh;exact vP (b:=leR r t) (by simp[U,l,k2,c,f,B])) ⟨S,I,rfl⟩
theorem lnw_ok(n:Nat)(U:g.Good){p q:Int×List a9}(S:lR g.s g.k p.2)(I:lR g.s g.k q.2):aU [labP p,labP q]=.ok (.bl (nw p q)):=by
 have Y:=U.k3;obtain⟨ρ',-,e⟩:=lnw_rows n (k:=g.k) ac (a_ (labP p)) (a_ (labP q)) p.2 q.2 d_ d_ S.2 I.2;simp only[labP,aE,gg]at e ⊢;by_cases h:p.1<=q.1
 .have h':¬q.1<p.1:=ac
  by_cases B:leL p.2 q.2=e_
  .rw[p_ B]at e;simp[aU,eI,dz,h',e,nw,h,B]
  simp_all[q_,aU,eI,dz,nw]
 .have h':q.1<p.1:=ac
  simp[aU,eI,dz,h',nw,h]
end
def Bs(l:a9):a9:=cv ltZ l
noncomputable def lD(o:a9):A':=.lst (o.map .int)
noncomputable def near(B:Nat)(p f:Int):Bool:=m_ (-(B:Int)<=f-p)&&m_ (f-p<=B)
def lvl(B:Nat)(P:Nat->a9->Int->Bool):Nat->List a9
 |0=>[[]]|s+1=>(lvl B P s).flatMap λo=>((iv 0 B).filter (P s o)).map λf=>o++[f]
def yh(I B:Nat):Nat->List a9:=lvl I λs o f=>m_ (f∉o)&&near B s f
theorem ya:∀{l m:a9},l.Nodup->(∀x∈l,x∈m)->l.length<=m.length
 |[],m,_,_=>IH _|a::l,m,h,I=>by rw[JZ]at h;have S:=I a ad;have:=ya h.2 λx B=>(List.mem_erase_of_ne (show x≠a from λe=>h.1 (e▸B))).mpr (I x (by simp[B]));grind
theorem uI{p:Pat}{ft:cd}{fe:b6}{ρ0:ab}(b:Int->Bool)(f:Int->A'):∀xs:a9,(∀x∈xs,∃ρ,dS p (.int x) ρ0=.ok ρ/\ft ρ=.ok (b x)/\(b x=e_->fe ρ=.ok (f x)))->aW p ft fe ρ0 (xs.map .int)=.ok ((xs.filter b).map f)
 |[],_=>rfl|x::xs,h=>by
  obtain⟨ρ,e1,e2,e3⟩:=h x ad;have I:=uI b f xs λy S=>h y (by simp[S]);rw[v_,aW,e1,ai,e2,ai];by_cases B:b x=e_
  .rw[p_ B,e3 B,I,P4 B];rfl
  simp_all
def B0(l:be)(a:Nat)(h:a<=l.length):dU (.lst l) d_ (a_ (a:Int))=.ok (.lst (l.take a)):=by show Jp _=_;simp
def Hy(l:be)(a:Nat)(h:a<=l.length):dU (.lst l) (a_ (a:Int)) d_=.ok (.lst (l.drop a)):=by show Jp _=_;simp
noncomputable def tabN:Nat->bi
 |0=>[1,1,1,1,1,1,1,1,1]|1=>[1,1,2,3,5,8,13,21,34]|2=>[1,1,2,6,14,31,73]|_=>[1,1,2,6,24,78]
noncomputable def Gq:Nat->Nat
 |0=>8|1=>8|2=>6|_=>5
noncomputable def lim2:Nat->Nat
 |0=>6|_=>4
def keyO(k:Nat)(o:a9):SK:=(Bs (o.take k),o.getD (k-1) 0)
def xg(k:Nat)(T:List (SK×a9))(B:List a9):List (SK×a9):=B.foldl (λT o=>putS T (keyO k o) (Bs (o.take (k-1)))) T
def StepT(m s k:Nat)(T:List (SK×a9)):Prop:=(T.map (·.1)).Nodup/\T.length<=20000/\(∀e∈T,e.1.1∈begs m s (k+1)/\e.2∈begs m s k/\∃j,j<k+1/\e.2=e.1.1.eraseIdx j/\e.1.2=e.1.1.getD j 0)/\∀S∈begs m s (k+1),(∃e∈T,e.1.1=S)/\∀j,j<k+1->S.eraseIdx j∈begs m s k->T.contains ((S,S.getD j 0),S.eraseIdx j)=e_
noncomputable instance (m s k:Nat) (T:List (SK×List Int)):Ri (StepT m s k T):=by unfold StepT;infer_instance
def Tab(m s:Nat):Prop:=((∀o∈yh m s m,o.length=m)/\(yh m s m).length<=100)/\(BL m s).Nodup/\(BL m s).Pairwise (λa b=>a.length<=b.length)/\(BL m s).length<=11000/\(∀k,k<m+1->∀b∈begs m s k,b.length=k/\b.Nodup/\∀x∈b,0<=x/\x<(m:Int))/\∀k,k<m->StepT m s k (xg (k+1) [] (yh m s m))
noncomputable instance (m s:Nat):Ri (Tab m s):=by unfold Tab;infer_instance
def tabs:∀s,s<4->∀m,m<9->m<=Gq s->Tab m s:=by decide +kernel
def bnds:∀k,k<9->bnd 1 k<=100000/\(k<7->bnd 2 k<=100000):=by decide +kernel
def nums:∀s,s<4->∀m,m<9->(m<=Gq s->(tabN s).getD m 0<=5000)/\(m<=lim2 s->(tabN s).getD m 0*2^m<=5000):=by decide +kernel
section
variable(CR CP:h_)
def runF(n s m:Nat):List (M A'):=[dj [.int m,.int s],dN [.int m,.int s],gG [.int m,.int s]]
def runG(s m:Nat):List (M A'):=[.ok (.int ((tabN s).getD m 0:Nat)),.ok (.lst ((BL m s).map aR)),.ok (.lst ((yh m s m).map lD))]
theorem runs(n:Nat):∀s m:Nat,s<4->m<=Gq s->runF n s m=runG s m
 |0,0,_,_|0,1,_,_|0,2,_,_|0,3,_,_|0,4,_,_|0,5,_,_|0,6,_,_|0,7,_,_|0,8,_,_|1,0,_,_|1,1,_,_|1,2,_,_|1,3,_,_|1,4,_,_|1,5,_,_|1,6,_,_|1,7,_,_|1,8,_,_|2,0,_,_|2,1,_,_|2,2,_,_|2,3,_,_|2,4,_,_|2,5,_,_|2,6,_,_|3,0,_,_|3,1,_,_|3,2,_,_|3,3,_,_|3,4,_,_|3,5,_,_=>by kernel_rfl|0,m+9,_,h|1,m+9,_,h|2,m+7,_,h|3,m+6,_,h=>by simp only[Gq]at h;lia|s+4,_,h,_=>by lia
end
structure Cap(CR CP:h_)(n st s m:Nat):Prop where
 m8:m<=8
 bd:∀k,k<=m->bnd st k<=100000
 run:∃c:Int,dj [.int m,.int s]=.ok (.int c)/\c*st^m<=5000
 beg:dN [.int m,.int s]=.ok (.lst ((BL m s).map aR))
 ord:gG [.int m,.int s]=.ok (.lst ((yh m s m).map lD))
 tab:Tab m s
theorem cap(CR CP:h_)(n:Nat){st s:Nat}(Y:s<=3)(h:st=1/\m<=Gq s\/st=2/\m<=lim2 s):Cap CR CP n st s m:=by
 have a:lim2 s<=Gq s/\Gq s<=8/\lim2 s<=6:=by rcases(show s=0\/s=1\/s=2\/s=3 by lia)with e|e|e|e<;>subst e<;>decide
 have B:=runs n s m ac ac;unfold runF runG at B;simp only[Oh,and_true]at B;have I:=tabs s ac m ac ac;obtain⟨U,t4⟩:=nums s ac m ac;rcases h with⟨rfl,h⟩|⟨rfl,h⟩
 .exact⟨ac,λk S=>(bnds k ac).1,⟨_,B.1,ac⟩,B.2.1,B.2.2,I⟩
 .exact⟨ac,λk S=>(bnds k ac).2 ac,⟨_,B.1,by exact_mod_cast t4 h⟩,B.2.1,B.2.2,I⟩
theorem Tab.beg{s:Nat}(h:Tab m s)(I:k<=m)(B:b∈begs m s k):Beg m s k b:=
 have:=h.2.2.2.2.1 k ac b B
 ⟨B,this.1,this.2.1,this.2.2⟩
theorem Tab.mem{m s:Nat}{b:a9}(h:Tab m s):b∈BL m s↔∃k,k<=m/\Beg m s k b:=by
 unfold BL;rw[List.mem_flatMap];constructor
 .rintro⟨k,B,I⟩;have B:=IM.mp B;exact⟨k,ac,h.beg ac I⟩
 .rintro⟨k,B,I⟩;exact⟨k,IM.mpr ac,I.mem⟩
def zx(m s:Nat):begs m s 0=[[]]:=by simp[begs,chs_zero,iv]
def BL_head(m s:Nat):(BL m s).head? =a_ []:=by simp[BL,K9,MQ,zx]
def Beg.zero(m s:Nat):Beg m s 0 []:=⟨by simp[zx],rfl,Mx,λx h=>(by cases h)⟩
section
variable(CR CP:h_)
theorem few_ok(n:Nat)(ns:a9)(g:Gp):∃s m:Nat,s<=3/\(g.s=1/\m<=Gq s\/g.s=2/\m<=lim2 s)/\ll [.lst (ns.map .int),g.D]=.ok (.tup [.int s,.int m]):=by
 obtain⟨Y,e1⟩:=iN n ns 1 ac ac;obtain⟨I,f⟩:=iN n ns 0 ac ac;obtain⟨s,a⟩:∃s:Nat,Y/96%4=s:=⟨(Y/96%4).toNat,ac⟩
 obtain⟨ds,j,i⟩:=GW (g:=g);obtain⟨s1,s2⟩:=g.s2;have c:lx [g.D]=.ok (.int g.s):=by
  have:ds.length<=16777216:=ac
  rw[j,<- i];simp[this]
 obtain⟨M,l,B⟩:∃M:Nat,(g.s=1/\M<=Gq s\/g.s=2/\M<=lim2 s)/\(jl [.lst [.int 8,.int 8,.int 6,.int 5],.lst [.int 6,.int 4,.int 3,.int 3]] (g.s-1)).bind (λd=>ixD d (.int s))=.ok (.int M):=by
  rcases(show g.s=1\/g.s=2 by lia)with h|h<;>rw[h]<;>rcases(show s=0\/s=1\/s=2\/s=3 by lia)with e|e|e|e<;>subst e
  .exact⟨8,am,rfl⟩
  .exact⟨8,am,rfl⟩
  .exact⟨6,am,rfl⟩
  .exact⟨5,am,rfl⟩
  .exact⟨6,am,rfl⟩
  .exact⟨4,am,rfl⟩
  .exact⟨3,am,rfl⟩
  .exact⟨3,am,rfl⟩
 have U:0<(M:Int)+1:=ac
 have k:0<=I/9%(M+1):=Lj _ ac;have q1:I/9%(M+1)<M+1:=KD _ U;obtain⟨m,b⟩:∃m:Nat,I/9%(M+1)=m:=⟨(I/9%(M+1)).toNat,ac⟩
 refine⟨s,m,ac,ac,?_⟩
 cases S:jl [.lst [.int 8,.int 8,.int 6,.int 5],.lst [.int 6,.int 4,.int 3,.int 3]] (g.s-1)with
 |error x=>rw[S]at B;cases B|ok d=>rw[S]at B;simp[ll,uw,e1,f,a,c,S,B,lO U,b]
end
theorem gE(n:Nat):∀ls:bz,kj (ls.map Lake.aE) (n+4)=e_
 |[]=>rfl|l::ls=>by simp[kj,C',Lake.aE,ky,gE n ls]
theorem yH:∀a b:a9,mD (a.map .int) (b.map .int)=m_ (a=b)
 |[],[]=>rfl|[],_::_=>by rfl|_::_,[]=>by rfl|x::a,y::b=>by simp[mD,];rfl
theorem rH:∀L M:List a9,mD (L.map aR) (M.map aR)=m_ (L=M)
 |[],[]=>rfl|[],_::_=>by rfl|_::_,[]=>by rfl|x::L,y::M=>by simp[mD,eqD,aR,<- rH L M]
theorem wc(x y:LK):eqD (Lake.aE x) (Lake.aE y)=m_ (x=y):=by
 have:=rH x.2 y.2;obtain⟨a,L⟩:=x;obtain⟨b,M⟩:=y
 simp_all[eqD,mD,Lake.aE]
 rfl
def Ap(x:LK):C' (Lake.aE x) 40=e_:=by have:=gE 36 [x];simpa[kj] using this
theorem y0(x:LK)(ls:bz):qO (Lake.aE x) (.lst (ls.map Lake.aE))=.ok (.bl (!decide (x∈ls))):=by
 have e:((ls.map Lake.aE).any λd=>eqD d (Lake.aE x))=m_ (x∈ls):=by
  rw[List.any_map,J2,Rr,KJ];constructor
  .rintro⟨y,B,h⟩;have h:=(wc y x).symm.trans h;simp_all
  .intro h;exact⟨x,h,(wc x x).trans ad⟩
 show(if (C' _ 40&&kj _ 40)=e_ then _ else _)=_;rw[Ap,(gE 36 ls),e];rfl
def xj(xs:a9):fT [.lst (xs.map .int)]=.ok (.lst ((Bs xs).map .int)):=by have e:=dG xs;simp[fT,nO];rfl
noncomputable def setP(P:Pap)(b:a9)(ls:bz):Pap:=P.map λp=>if p.1=b then(p.1,ls)else p
def Fm(P:Pap)(b:a9)(ls:bz):(setP P b ls).map (·.1)=P.map (·.1):=by unfold setP;rw[Cb];refine I_ λp _=>?_;show(if p.1=b then(p.1,ls)else p).1=p.1;split<;>rfl
theorem eG(p:a9×bz)(P:Pap)(c:a9):look (p::P) c=if p.1=c then p.2 else look P c:=by grind[look]
theorem Gj(P:Pap)(b:a9)(ls:bz)(c:a9):look (setP P b ls) c=if c=b/\b∈P.map (·.1)then ls else look P c:=by
 induction P with
 |nil=>simp[setP]|cons p P B=>have e:setP (p::P) b ls=(if p.1=b then(p.1,ls)else p)::setP P b ls:=rfl;rw[e,eG,eG,B];grind
theorem put_setP(P:Pap)(b:a9)(ls:bz)(h:b∈P.map (·.1)):jq (bg P) b (bQ ls)=bg (setP P b ls):=by unfold jq;rw[mW,p_ ac];unfold bg setP;rw[Cb,Cb];refine I_ λp _=>?_;lia
def vn(P:Pap)(b:a9)(ls:bz):Pap:=if b∈P.map (·.1)then setP P b ls else P++[(b,ls)]
theorem CI(P:Pap)(b:a9)(ls:bz):jq (bg P) b (bQ ls)=bg (vn P b ls):=by
 unfold vn;split
 .rename_i h;exact put_setP P b ls h
 .rename_i h;exact by unfold jq;rw[mW,q_ ac];simp[bg]
theorem kC(P:Pap)(b:a9)(ls:bz)(c:a9):look (vn P b ls) c=if c=b then ls else look P c:=by
 unfold vn;split
 .grind[Gj]
 .rename_i h;rw[look_app];by_cases e:c=b
  .subst e;rw[q_ h,p_ rfl,eG,p_ rfl]
  .split
   .rfl
   .rename_i B;rw[eG,q_ (IV e),ja B];rfl
def kD(P:Pap)(b:a9)(ls:bz):(vn P b ls).map (·.1)=if b∈P.map (·.1)then P.map (·.1)else P.map (·.1)++[b]:=by
 unfold vn;split
 .exact Fm P b ls
 .simp
def V.i6(v:V)(P:Pap)(e:SK×a9):Pap:=vn P e.1.1 ((look P e.2).foldl (v.wK e.1.2.toNat) (look P e.1.1))
structure V.Stp(v:V)(P:Pap)(e:SK×a9):Prop where
 labs:zO v P
 f0:0<=e.1.2
 f1:e.1.2<v.fl.length
 ne:e.2≠e.1.1
 there:e.2∈P.map (·.1)
 few:(look P e.1.1).length+v.g.s*(look P e.2).length<16777216
 len:P.length<16777216
inductive V.Stps(v:V):Pap->List (SK×List Int)->Prop
 |nil {P:Pap}:V.Stps v P []
 |cons {P:Pap} {e:SK×List Int} {T:List (SK×List Int)} (h:v.Stp P e) (t:V.Stps v (v.i6 P e) T):V.Stps v P (e::T)
section
variable(CR CP:h_)
theorem yf(n:Nat)(S:g.Good):gb [g.D]=.ok (Lake.aE (0,L0 g)):=by
 have e:=S.k3;have U:g.s<=2:=by unfold Gp.s;split<;>lia
 obtain⟨ds,i,a,I,B⟩:=g0 S;have c:(g.k:Int)<9223372036854775808:=ac
 have l:(-9223372036854775808)<=(g.k:Int):=ac
 have b:g.k<=16777216:=ac
 have Y:∀k,(C_ k [A'.int (-1)]).flatten=(C_ k (-1)).map A'.int:=λk=>by simp
 have j:aW (.nm 0) jZ (fL eW (aa (f2 repD (fL bu (aa (f1 As (a8 1)) au)) (fL lx (aa (f2 ixD (ae 1) (a8 0)) au))) au)) [d_,a_ (.lst ds)] ds=.ok (ds.map λ_=>tupI (C_ g.k (-1))):=by
  refine eK _ ds λd h=>⟨[a_ d,a_ (.lst ds)],ad,?_⟩
  simp[I,aZ,B,c,b,tupI]
 show _=Jp (aE 0 (C_ g.s _));have f:ds.length<=16777216:=ac
 simp_all[O1,N7,gb,oQ,aE,gg]
def lbeh(n:Nat)(Y:64<=n)(B:v.Good)(a:Lab v.g l){s:Nat}(U:q<v.fl.length)(S:s<v.g.s):
  cG CR CP n [v.g.D,.lst (v.fl.map flD),.lst (v.cs.map stD),Lake.aE l,.int q,.int s]=.ok (DQ (v.beh l q s)):=by
 obtain⟨u,I,e⟩:=DO CR CP n Y B.g B.cs B.fl l.1 a.good U S;rw[Ax,e];have b:v.bt l q s=u:=nx_eq I;unfold after V.beh;rw[b];unfold V.f;by_cases c:(i4 v.fl q).last<u
 .rw[p_ c,p_ c];rfl
 .rw[q_ c,q_ c];rfl
@[reducible] def evA(v:V)(sh c:A')(b a Y U S I B:Option A'):ab:=[a_ v.g.D,a_ (.lst (v.fl.map flD)),a_ (.lst (v.cs.map stD)),a_ sh,a_ c,d_,b,d_,a,Y,U,d_,S,I,B]
def D_len(v:V):lx [v.g.D]=.ok (.int v.g.s):=by obtain⟨ds,I,B⟩:=GW;rw[I];simp[B]
theorem xb(n:Nat)(k:64<=n){v:V}(g:v.Good)(sh d:A')(c b I:Option A')(S:A'){l:LK}(m:Lab v.g l){q:Nat}(i:q<v.fl.length):∀(r j:Nat) (L:bz) (U B:Option A'),j+r=v.g.s->L.length+r<16777216->∃a Y,
  dH (kq 13 14 11 (aY CR CP n) aP) (aG (j:Int) r) (evA v sh d c b (a_ (.tup [S,.int q])) I (a_ (Lake.aE l)) U B,L.map Lake.aE)=.ok (evA v sh d c b (a_ (.tup [S,.int q])) I (a_ (Lake.aE l)) a Y,((NF j r).foldl (v.add l q) L).map Lake.aE)
 |0,j,L,U,B,_,_=>⟨U,B,rfl⟩|r+1,j,L,U,B,h,u=>by
  have p:(v.add l q L j).length<=L.length+1:=v.sP l q [j] L;obtain⟨a,Y,o⟩:=xb n k g sh d c b I S m i r (j+1) (v.add l q L j) _ _ ac ac;refine⟨a,Y,?_⟩
  have t:kq 13 14 11 (aY CR CP n) aP (evA v sh d c b (a_ (.tup [S,.int q])) I (a_ (Lake.aE l)) U B,L.map Lake.aE) (.int j)=.ok (evA v sh d c b (a_ (.tup [S,.int q])) I (a_ (Lake.aE l)) (a_ (.int j)) (a_ (DQ (v.beh l q j))),(v.add l q L j).map Lake.aE):=by
   have e1:aY CR CP n (evA v sh d c b (a_ (.tup [S,.int q])) I (a_ (Lake.aE l)) (a_ (.int j)) B)=.ok (DQ (v.beh l q j)):=by simp[aY,(lbeh CR CP n k g m i (s:=j) ac)]
   unfold kq celC;simp at e1 ⊢;rw[e1];unfold V.add;cases w:v.beh l q j with
   |none=>rfl|some x=>
    have e:=y0 x L;have hz:L.length<16777216:=ac
    unfold Lake.putL;by_cases f:x∈L
    .simp[aP,DQ,pN,e,f]
    .simp[aP,DQ,pN,e,f,hz,-Hd]
  rw[jo,OJ];show(kq 13 14 11 _ _ _ _).bind _=_;exact t▸o
theorem Ca(n:Nat)(m:64<=n){v:V}(j:v.Good)(sh e:A')(d c U:Option A')(S:A'){q:Nat}(k:q<v.fl.length):∀(ls L:bz) (Y I B:Option A'),(∀l∈ls,Lab v.g l)->L.length+v.g.s*ls.length<16777216->∃f b a,
  dH (labC 12 13 14 11 bx (aY CR CP n) aP) (ls.map Lake.aE) (evA v sh e d c (a_ (.tup [S,.int q])) U Y I B,L.map Lake.aE)=.ok (evA v sh e d c (a_ (.tup [S,.int q])) U f b a,(ls.foldl (v.wK q) L).map Lake.aE)
 |[],L,Y,I,B,_,_=>⟨Y,I,B,rfl⟩|l::ls,L,Y,I,B,o,r=>by
  have e3:=v.lI q [l] L;simp at e3 r;obtain⟨b,a,h1⟩:=xb CR CP n m j sh e d c U S (o l ad) k v.g.s 0 L I B ac ac;obtain⟨i,h,g,t⟩:=Ca n m j sh e d c U S k ls (v.wK q L l) _ b a (λx p=>o x (by simp[p])) ac;refine⟨i,h,g,?_⟩
  have hi:bx (evA v sh e d c (a_ (.tup [S,.int q])) U (a_ (Lake.aE l)) I B)=.ok (aG 0 v.g.s):=by
   have:=D_len v;have u:oH [.int v.g.s]=.ok (aG 0 v.g.s):=by rw[yJ (by simp[bc];lia),Jn]
   simp[bx,this,u]
  have s:labC 12 13 14 11 bx (aY CR CP n) aP (evA v sh e d c (a_ (.tup [S,.int q])) U Y I B,L.map Lake.aE) (Lake.aE l)=.ok (evA v sh e d c (a_ (.tup [S,.int q])) U (a_ (Lake.aE l)) b a,(v.wK q L l).map Lake.aE):=by unfold labC;simp at hi h1 ⊢;rw[hi];refine h1.trans ?_;unfold V.wK;rw[Qt]
  show(labC 12 13 14 11 _ _ _ _ _).bind _=_;rw[s,];exact t
theorem item_run(n:Nat)(z:64<=n)(y:v.Good)(sh k:A')(d Y:Option A'){e:SK×a9}(h:v.Stp P e)(u m U I B:Option A'):∃x p j i g,
  vN 9 10 11 12 13 14 c9 c8 bx (aY CR CP n) aP (evA v sh k d Y u m U I B,bg P) (itD e)=.ok (evA v sh k d Y x p j i g,bg (v.i6 P e)):=by
 obtain⟨⟨S,f⟩,A⟩:=e;obtain⟨h1,J,H,E,D,C,G⟩:=h;obtain⟨q,rfl⟩:∃q:Nat,f=q:=⟨f.toNat,ac⟩
 obtain⟨j,i,g,o⟩:=Ca CR CP n z y sh k d Y _ _ (q:=q) ac _ _ U I B (λl o=>h1 A l o) C;refine⟨a_ (.tup [aR S,.int q]),a_ (aR A),j,i,g,?_⟩
 have F:vN 9 10 11 12 13 14 _ _ _ _ _ (evA v sh k d Y u m U I B,bg P) (itD ((S,q),A))=sT 11 12 13 14 c9 c8 bx (aY CR CP n) aP (evA v sh k d Y (a_ (.tup [aR S,.int q])) (a_ (aR A)) U I B) _:=rfl;rw[F];have r:∀a b c,c9 (evA v sh k d Y (a_ (.tup [aR S,.int q])) (a_ (aR A)) a b c)=.ok (aR S):=λa b c=>by rfl
 have w:c8 (evA v sh k d Y (a_ (.tup [aR S,.int q])) (a_ (aR A)) U I B)=.ok (aR A):=by simp[c8]
 have s:lstO (gZ (bg P) S)=(look P S).map Lake.aE:=by
  by_cases t:S∈P.map (·.1)
  .rw[yp S P t];rfl
  .have e1:=mW S P;rw[IS t,Option.isSome_eq_false_iff,Option.isNone_iff_eq_none]at e1;rw[e1,ja t];rfl
 unfold sT Lake.stepK;simp at r w o ⊢;rw[r,ai,jW,ai,w,ai,jW,ai,q_ E,yp A P D];show(dH _ _ _).bind _=_;rw[s,o,ai];unfold Ff;rw[r,ai,jW,ai,p_ ⟨rfl,by simp_all[bg,l_]⟩];have:=CI P S ((look P A).foldl (v.wK q) (look P S));unfold bQ at this;rw[this];rfl
def GF(n:Nat)(r:64<=n)(q:v.Good)(sh m:A')(g f:Option A')(h:v.Stps P T):∀(Y U S I B:Option A'),∃o l k j i,
  dH (vN 9 10 11 12 13 14 c9 c8 bx (aY CR CP n) aP) (T.map itD) (evA v sh m g f Y U S I B,bg P)=.ok (evA v sh m g f o l k j i,bg (T.foldl v.i6 P)):=by
 induction h with
 |nil=>intro Y U S I B;exact⟨Y,U,S,I,B,rfl⟩|cons h t p=>
  intro Y U S I B;obtain⟨a,b,c,d,e,h1⟩:=item_run CR CP n r q sh m g f h Y U S I B;obtain⟨a',b',x,w,u,s⟩:=p a b c d e;refine⟨a',b',x,w,u,?_⟩
  show(vN 9 10 11 12 13 14 _ _ _ _ _ _ _).bind _=_;rw[h1,];exact s
theorem FY(n:Nat)(sh b:A')(p:1<=k)(f a U S I B:Option A')(T:List (SK×a9)){o:a9}(m:k<=o.length)(h:o.length<=41)(g:T.length<16777216):
  ordC 8 cA cB (evA v sh b (a_ (.int k)) f a U S I B,T) (lD o)=.ok (evA v sh b (a_ (.int k)) (a_ (lD o)) a U S I B,putS T (keyO k o) (Bs (o.take (k-1)))):=by
 have e:=B0 (o.map .int) k a7;have d:=B0 (o.map .int) (k-1) (by simp;lia);rw[<- N5]at e d;have Y:(k-1)=((k-1:Nat):Int):=ac
 have l:(Bs (o.take k)).length<=16777216:=by unfold Bs;rw[(bD _).length_eq,JO];lia
 have j:(Bs (o.take (k-1))).length<=16777216:=by unfold Bs;rw[(bD _).length_eq,JO];lia
 have i:jl _ ((k-1:Nat))=.ok (.int (o.getD _ 0)):=getT ac;have c:cA (evA v sh b (a_ (.int k)) (a_ (lD o)) a U S I B)=.ok (aR (Bs (o.take (k-1)))):=by simp[cA,lD,Y,d,(xj (o.take (k-1))),aR,-N5]
 have e5:cB (evA v sh b (a_ (.int k)) (a_ (lD o)) a U S I B)=.ok (.tup [aR (Bs (o.take k)),.int (o.getD (k-1) 0)]):=by simp[cB,lD,Y,e,(xj (o.take k)),i,aR,-N5]
 unfold ordC;simp only[Kg,Kf]at e5 c ⊢;rw[c,ai,jW,ai,e5,ai];have:skD (.tup [aR (Bs (o.take k)),.int (o.getD (k-1) 0)])=.ok (keyO k o):=by show(bZ ((Bs (o.take k)).map .int)).bind _=_;rw[dG];rfl
 rw[this,ai,p_ (by exact g)]
end
def V.grow(v:V)(P:Pap)(L:bz)(e:SK×a9):bz:=(look P e.2).foldl (v.wK e.1.2.toNat) L
theorem kB(v:V)(P:Pap)(e:SK×a9)(b:a9):look (v.i6 P e) b=if b=e.1.1 then v.grow P (look P b) e else look P b:=by simp_all[V.i6,V.grow,kC]
def yk(v:V)(P:Pap)(e:SK×a9):(v.i6 P e).map (·.1)=if e.1.1∈P.map (·.1)then P.map (·.1)else P.map (·.1)++[e.1.1]:=kD _ _ _
noncomputable def atB(b:a9)(T:List (SK×a9)):List (SK×a9):=T.filter λe=>m_ (e.1.1=b)
def wF(b:a9)(e:SK×a9)(T:List (SK×a9)):atB b (e::T)=if e.1.1=b then e::atB b T else atB b T:=by unfold atB;by_cases h:e.1.1=b<;>simp[h]
theorem yv(v:V):∀(T:List (SK×a9)) (P:Pap),(∀e∈T,∀S∈T,e.2≠S.1.1)->∀b,look (T.foldl v.i6 P) b=(atB b T).foldl (v.grow P) (look P b)
 |[],_,_,_=>rfl|e::T,P,h,b=>by
  rw[Iy,yv v T _ (λx B y I=>h x (by simp[B]) y (by simp[I])) b,wF];have e1:∀L,(atB b T).foldl (v.grow (v.i6 P e)) L=(atB b T).foldl (v.grow P) L:=λL=>foldl_congr _ _ λx B M=>by unfold V.grow;rw[kB,q_ (h x (by simp[(Iv.mp B).1]) e ad)]
  rw[e1,kB];grind
theorem yw(v:V):∀(T:List (SK×a9)) (P:Pap),(P.map (·.1)).Nodup->((T.foldl v.i6 P).map (·.1)).Nodup/\(∀b,b∈(T.foldl v.i6 P).map (·.1)↔b∈P.map (·.1)\/∃e∈T,e.1.1=b)/\(∀x,(P.map (·.1)).head? =a_ x->((T.foldl v.i6 P).map (·.1)).head? =a_ x)/\(T.foldl v.i6 P).length<=P.length+T.length
 |[],P,h=>⟨h,λb=>by simp,λx h=>h,f_ _⟩|e::T,P,h=>by
  have S:=yk v P e;have h':((v.i6 P e).map (·.1)).Nodup:=by
   rw[S];split
   .exact h
   .rename_i c;rw[KU];exact⟨h,ad,λa d b U q=>by simp at U;subst U;exact c (q▸d)⟩
  obtain⟨h1,g,f,j⟩:=yw v T _ h';have i:(v.i6 P e).length<=P.length+1:=by have:=Kd Lx S;rw[l_]at this;rw[this];split<;>simp
  refine⟨h1,λb=>?_,λx I=>f x ?_,?_⟩
  .rw[Iy,g,S];constructor
   .rintro(q|⟨y,B,q⟩)
    .split at q
     .exact .inl q
     .rcases Iw.mp q with q|q
      .exact .inl q
      .simp at q;exact .inr ⟨e,ad,q.symm⟩
    .exact .inr ⟨y,by simp[B],q⟩
   .rintro(q|⟨y,B,q⟩)
    .left;split
     .exact q
     .exact Jq _ q
    .rcases x_.mp B with rfl|B
     .left;split
      .rename_i c;exact q▸c
      .rw[q];simp
     .exact .inr ⟨y,B,q⟩
  .rw[S];split
   .exact I
   .cases Y:P.map (·.1)with
    |nil=>rw[Y]at I;cases I|cons a as=>rw[Y]at I;simpa using I
  .rw[Iy,F_];lia
theorem Cj(v:V){P:Pap}{x:LK}:∀(F:List (SK×a9)) (L:bz),x∈F.foldl (v.grow P) L↔x∈L\/∃e∈F,∃l∈look P e.2,∃s,s<v.g.s/\v.beh l e.1.2.toNat s=a_ x
 |[],L=>by simp|e::F,L=>by
  rw[Iy,Cj v F];unfold V.grow;rw[v.pY];constructor
  .rintro((h|h)|⟨y,B,h⟩)
   .exact .inl h
   .exact .inr ⟨e,ad,h⟩
   .exact .inr ⟨y,by simp[B],h⟩
  .rintro(h|⟨y,B,h⟩)
   .exact .inl (.inl h)
   .rcases x_.mp B with rfl|B
    .exact .inl (.inr h)
    .exact .inr ⟨y,B,h⟩
theorem Ck(v:V){P:Pap}{N:Nat}:∀(F:List (SK×a9)) (L:bz),(∀e∈F,(look P e.2).length<=N)->(F.foldl (v.grow P) L).length<=L.length+F.length*(v.g.s*N)
 |[],L,_=>by simp|e::F,L,h=>by
  have h1:=Ck v F (v.grow P L e) λx B=>h x (by simp[B]);have S:(v.grow P L e).length<=L.length+v.g.s*(look P e.2).length:=v.lI _ _ _;have I:v.g.s*(look P e.2).length<=v.g.s*N:=Jz (f_ _) (h e ad);rw[Iy,F_,Nat.add_mul]
  lia
def putL_nd(h:ks.Nodup)(k:LK):(Lake.putL ks k).Nodup:=by
 unfold Lake.putL;split
 .exact h
 .rename_i c;rw[KU];exact⟨h,ad,λa I b B q=>by simp at B;subst B;exact c (q▸I)⟩
theorem Ie(v:V)(q:Nat):∀(ls ks:bz),ks.Nodup->(ls.foldl (v.wK q) ks).Nodup
 |[],_,h=>h|l::ls,ks,h=>by
  refine Ie v q ls _ ?_;have:∀(B:bi) (ks:bz),ks.Nodup->(B.foldl (v.add l q) ks).Nodup:=λB=>by
   induction B with
   |nil=>simp|cons s B I=>
    intro ks h;refine I _ ?_;unfold V.add;split
    .exact h
    .exact putL_nd h _
  exact this _ _ h
theorem GQ(v:V){P:Pap}:∀(F:List (SK×a9)) (L:bz),L.Nodup->(F.foldl (v.grow P) L).Nodup
 |[],_,h=>h|e::F,L,h=>by exact GQ v F _ (Ie v _ _ _ h)
theorem atB_len(h:(T.map (·.1)).Nodup)(U:∀e∈T,e.1.1=b->e.1.2∈b):(atB b T).length<=b.length:=by
 have h1:((atB b T).map (·.1.2)).Nodup:=by
  have Y:(atB b T).Pairwise λx y=>x.1≠y.1:=(MP.mp h).sublist List.filter_sublist;refine MP.mpr (Y.imp_of_mem λ{x y} B I n e=>n ?_);have ex:=by simpa using (Iv.mp B).2
  have a:=by simpa using (Iv.mp I).2
  exact Pm (ex.trans a.symm) e
 have:=ya h1 λx B=>by obtain⟨e,S,rfl⟩:=IE.mp B;have:=Iv.mp S;exact U e this.1 (by simpa using this.2)
 simp_all
theorem V.Good.stps{v:V}(a:v.Good){N M:Nat}:∀(T:List (SK×a9)) (P:Pap),zO v P->(∀e∈T,0<=e.1.2/\e.1.2<v.fl.length/\e.2∈P.map (·.1)/\(look P e.2).length<=N)->(∀e∈T,∀u∈T,e.2≠u.1.1) ->
  (∀e∈T,(look P e.1.1).length+(atB e.1.1 T).length*(v.g.s*N)<=M)->M<16777216->P.length+T.length<=16777216->v.Stps P T/\zO v (T.foldl v.i6 P)
 |[],P,I,_,_,_,_,_=>⟨.nil,I⟩|e::T,P,I,h1,Y,g,o,D=>by
  obtain⟨f0,f1,f2,f3⟩:=h1 e ad;have w:=g e ad;rw[wF,p_ rfl,F_,Nat.add_mul,Nat.one_mul]at w;have A:v.g.s*(look P e.2).length<=v.g.s*N:=Jz (f_ _) f3;have sp:v.Stp P e:=⟨I,f0,f1,Y e ad e ad,f2,ac,a0⟩
  have U:zO v (v.i6 P e):=λb l S=>by
   rw[kB]at S;split at S
   .rcases(v.pY _ _).mp S with z|⟨C,j,s,i,h⟩
    .exact I b l z
    .exact a.HX (I _ _ j) ac i h
   .exact I b l S
  have f:=yk v P e;have d:(v.i6 P e).length<=P.length+1:=by have:=Kd Lx f;rw[l_]at this;rw[this];split<;>simp
  obtain⟨m,k⟩:=a.stps (N:=N) (M:=M) T (v.i6 P e) U (λx B=>by
   obtain⟨t,r,g2,p⟩:=h1 x (by simp[B]);refine⟨t,r,?_,?_⟩
   .rw[f];split
    .exact g2
    .exact Jq _ g2
   .rw[kB,q_ (Y x (by simp[B]) e ad)];exact p) (λx B y n=>Y x (by simp[B]) y (by simp[n])) (λx B=>by
   have c:=g x (by simp[B]);rw[wF]at c;rw[kB];by_cases q:e.1.1=x.1.1
   .have:(v.grow P (look P x.1.1) e).length<=(look P x.1.1).length+v.g.s*(look P e.2).length:=v.lI _ _ _
    lia
   .rw[q_ q]at c;exact(q_ (IV q))▸c) o a0
  exact⟨.cons sp m,k⟩
structure V.CY(v:V)(sh k:Nat)(P:Pap):Prop where
 nd:(P.map (·.1)).Nodup
 keys:∀b,b∈P.map (·.1)↔∃j,j<=k/\Beg v.fl.length sh j b
 labs:zO v P
 zero:look P []=[v.l0]
 mem:∀b,b∈P.map (·.1)->b≠[]->∀x,x∈look P b↔x∈v.oU P b
 few:∀b,(look P b).length<=bnd v.g.s b.length
 ndl:∀b,(look P b).Nodup
 head:(P.map (·.1)).head? =a_ []
 len:P.length<=1+k*20000
theorem V.all0(v:V)(sh:Nat):v.CY sh 0 [([],[v.l0])]:=by
 have B:∀b,look [([],[v.l0])] b=if b=[]then [v.l0]else []:=λb=>by
  rw[eG];by_cases h:b=[]
  .simp_all
  .rw[q_ h,q_ a7];rfl
 refine⟨ad,λb=>?_,λb l h=>?_,by rfl,λb h1 S=>IA (by simpa using h1) S,λb=>?_,λb=>?_,rfl,ad⟩
 .constructor
  .intro h;have:=by simpa using h
   subst this;exact⟨0,f_ _,Beg.zero _ _⟩
  .rintro⟨j,U,I⟩;have:=I.len;simp_all
 .rw[B]at h;split at h
  .have:=by simpa using h
   subst this;exact v.l0_lab
  grind
 .rw[B];split
  .rename_i h;subst h;simp[bnd]
  .simp
 .rw[B];split<;>simp
theorem V.Good.next(O:v.Good)(h:v.CY sh k P)(W:k+1<=v.fl.length)(f:bnd v.g.s (k+1)<16777216)(w:Tab v.fl.length sh)(h40:k<=500):
  v.Stps P (xg (k+1) [] (yh v.fl.length sh v.fl.length))/\v.CY sh (k+1) ((xg (k+1) [] (yh v.fl.length sh v.fl.length)).foldl v.i6 P):=by
 obtain⟨tk,tl,t3,t4⟩:=w.2.2.2.2.2 k ac;generalize xg (k+1) [] (yh v.fl.length sh v.fl.length)=T at *;have B:∀e∈T,Beg v.fl.length sh (k+1) e.1.1/\∃j,j<e.1.1.length/\e.2=e.1.1.eraseIdx j/\e.1.2=e.1.1.getD j 0/\Beg v.fl.length sh k e.2:=λe B=>by obtain⟨h1,Y,j,I,D,U⟩:=t3 e B;have J:=w.beg W h1;exact⟨J,j,by exact J.len▸I,D,U,w.beg ac Y⟩
 have g:∀e∈T,∀E∈T,e.2≠E.1.1:=λe h1 E Y q=>by
  obtain⟨_,_,_,_,_,a⟩:=B e h1;have b:=(B E Y).1;have:=a.len;have:=b.len
  lia
 have m:∀e∈T,e.1.2∈e.1.1:=λe h1=>by obtain⟨_,j,I,_,q,_⟩:=B e h1;exact q▸getD_in I
 have p:∀b,(atB b T).length<=b.length:=λb=>atB_len tk λe h1 q=>q▸m e h1;have d:∀b,b.length=k+1->look P b=[]:=λb f=>ja λz=>by
  obtain⟨j,I,q⟩:=(h.keys b).mp z;have:=q.len
  lia
 have F:∀e∈T,(look P e.2).length<=bnd v.g.s k:=λe h1=>by obtain⟨_,_,_,_,_,a⟩:=B e h1;have:=h.few e.2;exact a.len▸this
 obtain⟨s1,s2⟩:=O.stps (N:=bnd v.g.s k) (M:=bnd v.g.s (k+1)) T P h.labs (λe h1=>by
  have q:=(B e h1).1.bnd _ (m e h1);obtain⟨_,_,_,_,_,a⟩:=B e h1;exact⟨q.1,q.2,(h.keys _).mpr ⟨k,f_ _,a⟩,F e h1⟩) g (λe h1=>by
  have G:=(B e h1).1.len;rw[d _ G];have:=p e.1.1;rw[G]at this;have:=Jz this (f_ (v.g.s*bnd v.g.s k));simpa[bnd] using this) f (by
  have:=h.len;lia)
 have fl:=yv v T P g;obtain⟨L,k2,K,k4⟩:=yw v T P h.nd;have S:∀b,b.length≠k+1->look (T.foldl v.i6 P) b=look P b:=λb f=>by
  rw[fl];have:atB b T=[]:=Nd.mpr λe h1 q=>f (by have:=(B e h1).1.len;simp_all)
  simp_all
 have t:∀b,Beg v.fl.length sh (k+1) b->∃e∈T,e.1.1=b:=λb f=>(t4 b f.mem).1;refine⟨s1,L,λb=>?_,s2,by rw[S [] ad];exact h.zero,λb h1 Y x=>?_,λb=>?_,λb=>?_,K _ h.head,?_⟩
 .rw[k2];constructor
  .rintro(q|⟨e,h1,rfl⟩)
   .obtain⟨j,I,q⟩:=(h.keys b).mp q;exact⟨j,ac,q⟩
   .exact⟨k+1,f_ _,(B e h1).1⟩
  .rintro⟨j,I,q⟩;by_cases c:j=k+1
   .subst c;exact .inr (t b q)
   .exact .inl ((h.keys b).mpr ⟨j,ac,q⟩)
 .rw[v.pW];by_cases c:b.length=k+1
  .have o:∀i,i<b.length->look (T.foldl v.i6 P) (b.eraseIdx i)=look P (b.eraseIdx i):=λi hi=>S _ (by have:=hV hi;lia);have y:Beg v.fl.length sh (k+1) b:=by
    rcases(k2 b).mp h1 with q|⟨e,u,rfl⟩
    .obtain⟨j,I,q⟩:=(h.keys b).mp q;have:=q.len
     lia
    .exact(B e u).1
   rw[fl,d b c,Cj];constructor
   .rintro(q|⟨e,D,l,U,s,C,A⟩)
    .cases q
    .obtain⟨h7,Z⟩:=Iv.mp D;have q:e.1.1=b:=by simpa using Z
     obtain⟨_,j,I,ea,H,_⟩:=B e h7;rw[q]at I ea H;exact⟨j,I,l,by rw[o j I,<- ea];exact U,s,C,by exact H▸A⟩
   .rintro⟨i,hi,l,U,s,C,A⟩;rw[o i hi]at U;have X:Beg v.fl.length sh k (b.eraseIdx i):=by
     have:b.eraseIdx i∈P.map (·.1):=by
      by_cases z:b.eraseIdx i∈P.map (·.1)
      .exact z
      .rw[ja z]at U;cases U
     obtain⟨j,I,q⟩:=(h.keys _).mp this;have:=q.len;have:=hV hi;have:j=k:=ac
     exact this▸q
    have Q:((b,b.getD i 0),b.eraseIdx i)∈T:=List.contains_iff_mem.mp ((t4 b y.mem).2 i ac X.mem);exact .inr ⟨((b,b.getD i 0),b.eraseIdx i),Iv.mpr ⟨Q,ad⟩,l,U,s,C,A⟩
  .rw[S b c];have n:b∈P.map (·.1):=by
    rcases(k2 b).mp h1 with q|⟨e,u,rfl⟩
    .exact q
    .exact IA (B e u).1.len c
   rw[h.mem b n Y x,v.pW];obtain⟨j,I,q⟩:=(h.keys b).mp n;have R:=q.len;have o:∀i,i<b.length->look (T.foldl v.i6 P) (b.eraseIdx i)=look P (b.eraseIdx i):=λi hi=>S _ (by have:=hV hi;lia);constructor<;>rintro⟨i,hi,r⟩
   .exact⟨i,hi,by rw[o i hi];exact r⟩
   .exact⟨i,hi,by exact(o i hi)▸r⟩
 .by_cases c:b.length=k+1
  .rw[fl,d b c];have h1:=Ck v (P:=P) (N:=bnd v.g.s k) (atB b T) [] λe h1=>F e (Iv.mp h1).1;have Y:=p b;rw[c]at Y ⊢;have:=Jz Y (f_ (v.g.s*bnd v.g.s k));simp only[Mg,Jw]at h1;exact B_ h1 this
  .rw[S b c];exact h.few b
 .rw[fl];exact GQ v _ _ (h.ndl b)
 .have:=h.len;lia
section
variable(CR CP:h_)
theorem u9(n:Nat){v:V}(sh c:A'){k:Nat}(f:1<=k)(b U S I B:Option A'):∀(Y:List a9) (T:List (SK×a9)) (a:Option A'),(∀o∈Y,k<=o.length/\o.length<=41)->T.length+Y.length<16777216->∃d,
  dH (ordC 8 cA cB) (Y.map lD) (evA v sh c (a_ (.int k)) a b U S I B,T)=.ok (evA v sh c (a_ (.int k)) d b U S I B,xg k T Y)
 |[],T,a,_,_=>⟨a,rfl⟩|o::Y,T,a,h,j=>by
  have e:=h o ad;simp at j;have l:(putS T (keyO k o) (Bs (o.take (k-1)))).length<=T.length+1:=by unfold putS;split<;>simp
  obtain⟨d,g⟩:=u9 n sh c f b U S I B Y (putS T (keyO k o) (Bs (o.take (k-1)))) _ (λx i=>h x (by simp[i])) ac;refine⟨d,?_⟩
  show(ordC 8 _ _ _ _).bind _=_;exact(FY n sh c f a b U S I B T e.1 e.2 ac)▸g
theorem size_run(n:Nat)(C:64<=n)(s:v.Good)(r:Cap CR CP n v.g.s sh v.fl.length)(B:A')(t:k+1<=v.fl.length)(h:v.CY sh k P)(x i f Y U S I:Option A'):∃w,v.CY sh (k+1) w/\∃z g y p m l j,
  qi 7 8 6 9 10 11 12 13 14 e8 cA cB c9 c8 bx (aY CR CP n) aP (evA v B (.lst ((yh v.fl.length sh v.fl.length).map lD)) x i f Y U S I,bg P) (.int ((k+1:Nat):Int))=.ok (evA v B (.lst ((yh v.fl.length sh v.fl.length).map lD)) z g y p m l j,bg w):=by
 have q:=r.tab;have D:=r.m8;obtain⟨h1,E⟩:=s.next h t (by have:=r.bd _ t;lia) q ac
 obtain⟨g,e1⟩:=u9 n B _ (k:=k+1) ac f Y U S I _ [] i (λo A=>by
  have:=q.1.1 o A
  lia) (by have:=q.1.2;simp;lia)
 obtain⟨a,b,c,d,e,e2⟩:=GF CR CP n C s B _ _ g h1 f Y U S I;refine⟨_,E,a_ (.int ((k+1:Nat))),g,a,b,c,d,e,?_⟩
 have u:e8 (evA v B (.lst ((yh v.fl.length sh v.fl.length).map lD)) (a_ (.int ((k+1:Nat)))) i f Y U S I)=.ok ((yh v.fl.length sh v.fl.length).map lD):=by simp[e8]
 unfold qi;simp at u e1 e2 ⊢;rw[u,ai,e1];exact e2
theorem xm(n:Nat)(m:64<=n){v:V}(l:v.Good){sh:Nat}(o:Cap CR CP n v.g.s sh v.fl.length)(Y:A'):∀(r k:Nat) (P:Pap) (i g f U S I B:Option A'),k+r=v.fl.length->v.CY sh k P->∃j,v.CY sh v.fl.length j/\∃ρ,
  dH (qi 7 8 6 9 10 11 12 13 14 e8 cA cB c9 c8 bx (aY CR CP n) aP) (aG ((k+1:Nat):Int) r) (evA v Y (.lst ((yh v.fl.length sh v.fl.length).map lD)) i g f U S I B,bg P)=.ok (ρ,bg j)
 |0,k,P,i,g,f,U,S,I,B,e,h=>⟨P,a7,_,rfl⟩|r+1,k,P,i,g,f,U,S,I,B,e,h=>by
  obtain⟨j,h',a,b,c,d,x,y,z,e1⟩:=size_run CR CP n m l o Y ac h i g f U S I B;obtain⟨Q,p,ρ,e2⟩:=xm n m l o Y r _ j a b c d x y z ac h';refine⟨Q,p,ρ,?_⟩
  rw[jo];show(qi 7 8 6 9 10 11 12 13 14 _ _ _ _ _ _ _ _ _ _).bind _=_;exact e1▸e2
theorem lall_ok(n:Nat)(Y:64<=n)(I:v.Good)(B:Cap CR CP n v.g.s sh v.fl.length):∃P,v.CY sh v.fl.length P/\j9 CR CP n [v.g.D,.lst (v.fl.map flD),.lst (v.cs.map stD),.int sh]=.ok (.dic (bg P)):=by
 have a:=B.m8;obtain⟨P,b,ρ,e⟩:=xm CR CP n Y I B _ v.fl.length 0 [([],[v.l0])] d_ d_ d_ d_ d_ d_ d_ ac (v.all0 sh);refine⟨P,b,?_⟩
 have U:fV (.tup [])=.ok []:=rfl;have S:ip (evA v (.int sh) (.lst ((yh v.fl.length sh v.fl.length).map lD)) d_ d_ d_ d_ d_ d_ d_)=.ok (aG ((0+1:Nat)) v.fl.length):=by
  have e2:BE [.int 1,.int (v.fl.length+1)]=.ok (aG 1 v.fl.length):=by
   have e3:((v.fl.length:Int)+1-1).toNat=v.fl.length:=ac
   rw[e_rng2 am (by simp[bc];lia),e3]
  simp[ip,e2]
 have c:A7 5 7 8 6 9 10 11 12 13 14 iC iA ip e8 cA cB c9 c8 bx (aY CR CP n) aP (evA v (.int sh) (.lst ((yh v.fl.length sh v.fl.length).map lD)) d_ d_ d_ d_ d_ d_ d_)=.ok (.rt (.dic (bg P))):=by
  have e1:iC (evA v (.int sh) (.lst ((yh v.fl.length sh v.fl.length).map lD)) d_ d_ d_ d_ d_ d_ d_)=.ok (.tup []):=by simp[iC]
  have e2:iA (evA v (.int sh) (.lst ((yh v.fl.length sh v.fl.length).map lD)) d_ d_ d_ d_ d_ d_ d_)=.ok (Lake.aE (0,L0 v.g)):=by simp[iA,(yf n I.g)]
  unfold A7;rw[e1,ai,U,ai,e2,ai];simp at S e ⊢;rw[S,ai];have e3:([([],A'.lst [Lake.aE (0,L0 v.g)])])=bg [([],[v.l0])]:=rfl;rw[e3,e,ai]
 simp[j9,ux,B.ord,c]
end
theorem Cc:∀ls:bz,o7 (ls.map Lake.aE)=.ok ls
 |[]=>rfl|l::ls=>by rw[v_,o7,lz,Cc ls];rfl
theorem lG(ls:bz):eqM (.lst (ls.map Lake.aE)) (.lst [])=.ok (.bl ls.isEmpty)/\neM (.lst (ls.map Lake.aE)) (.lst [])=.ok (.bl !ls.isEmpty):=by
 have h:C' (.lst (ls.map Lake.aE)) 40=e_:=by exact gE _ ls
 have B:C' (.lst []) 40=e_:=rfl;simp_all[eqD,eqM,neM]
def neM_lab(x y:LK):neM (Lake.aE x) (Lake.aE y)=.ok (.bl (!decide (x=y))):=by simp[neM,Ap,wc]
def mT(ls:bz)(l:LK):Bool:=(ls.filter λo=> !decide (o=l)&&nw o l).isEmpty
def ug(ls:bz):bz:=cv ltL (ls.filter (mT ls))
section
variable(CR CP:h_)
def DM(n:Nat)(S:g.Good)(I:Lab g l)(h:∀x∈ls,Lab g x):aW (.nm 0) (fAnd (fB (f2 neM (ae 0) (ae 1))) (wN (fL aU (aa (ae 0) (aa (ae 1) au))))) (ae 0) [d_,a_ (Lake.aE l)] (ls.map Lake.aE)=.ok ((ls.filter λo=> !decide (o=l)&&nw o l).map Lake.aE):=
 nv Lake.aE _ _ _ λo B=>⟨[a_ (Lake.aE o),a_ (Lake.aE l)],ad,by
  have e1:=neM_lab o l;have e2:=lnw_ok n S (h o B).good I.good;have e2:aU [Lake.aE o,Lake.aE l]=.ok _:=e2;by_cases c:o=l
  .subst c;simp[e1]
  .simp[e1,e2,c],λ_=>by simp⟩
theorem C7(n:Nat){g:Gp}(b:g.Good){B:bz}(e:∀x∈B,Lab g x)(hz:B.length<=16777216):∀(ls acc:bz) (S:Option A'),(∀x∈ls,Lab g x)->acc.length+ls.length<16777216->∃U,
  ee (.nm 2) cQ (ls.map Lake.aE) [a_ (bQ B),a_ (bQ acc),S]=.ok (.nx [a_ (bQ B),a_ (bQ (acc++ls.filter (mT B))),U])
 |[],acc,S,_,_=>⟨S,by simp[ee]⟩|l::ls,acc,S,h,j=>by
  simp at j;have d:=DM n b (h l ad) e;have I:=(lG (B.filter λo=> !decide (o=l)&&nw o l)).1;have k:cQ [a_ (bQ B),a_ (bQ acc),a_ (Lake.aE l)]=.ok (.nx [a_ (bQ B),a_ (bQ (if mT B l=e_ then acc++[l]else acc)),a_ (Lake.aE l)]):=by
   have a:acc.length<16777216:=ac
   have Y:mT B l=(B.filter λo=> !decide _&&nw o l).isEmpty:=rfl;rw[<- Y]at I;unfold bQ;cases c:mT B l with
   |true=>rw[c]at I;simp[cQ,iQ,d,I,hz,a]|false=>rw[c]at I;simp[cQ,iQ,d,I,hz]
  obtain⟨U,f⟩:=C7 n b e hz ls (if mT B l=e_ then acc++[l]else acc) _ (λx i=>h x (by simp[i])) a0;refine⟨U,?_⟩
  show(cQ [a_ _,a_ _,a_ _]).bind _=_;rw[k,Rp];refine f.trans ?_;grind
theorem least_ok(n:Nat)(I:g.Good)(h:∀x∈ls,Lab g x)(hz:ls.length<16777216):il [bQ ls]=.ok (bQ (ug ls)):=by
 obtain⟨U,e⟩:=C7 n I h ac ls [] d_ h a7;have S:bQ []=.lst []:=rfl;rw[S]at e;have es:zY [bQ (ls.filter (mT ls))]=.ok (bQ (ug ls)):=by show(o7 _).bind _=_;rw[Cc];rfl
 have B:jb (bQ ls)=.ok _:=rfl;simp[il,oP,B,e,es]
def DN(ls:bz):(ug ls).length<=ls.length:=by unfold ug;rw[(bD _).length_eq];exact List.length_filter_le ..
theorem modN(c:Int)(h:0<k):∃i:Nat,i<k/\ig (.int c) (.int k)=.ok (.int i):=by have q1:=KD c (show(0:Int)<(k:Int) by lia);have q2:=Lj c (show(k:Int)≠0 by lia);obtain⟨i,B⟩:=M9 q2;grind[lO]
theorem lbent(n:Nat)(C:g.Good)(A:Lab g l)(w c:Int):∃s,Lab g s/\bO [Lake.aE l,.int w,.int c]=.ok (Lake.aE s):=by
 obtain⟨q,L⟩:=l;have B:=A.good;have S:=A.ge;dsimp only at B S;have k3:=C.k3;have k1:=C.k1;obtain⟨s1,s2⟩:=g.s2;have d:=B.short ac;have T:=ou L d;have J:L.length=g.s:=B.1;have hz:L.length<=16777216:=ac
 obtain⟨i,hi,k⟩:=modN c (show 0<L.length by lia);rw[J]at hi;obtain⟨p,o,Z,X⟩:=lA B hi;obtain⟨j,G,f⟩:=modN (c/2) (show 0<g.k by lia);have F:∀x:Int,rowAt (L.map g8) (i:Int)=.ok (i,(mw L i).map .int)/\jO (L.map g8) (i,(mw L i).map .int) (j:Int) (.int x)=.ok ((putL L i j x).map g8):=λx=>jn B hi G x;have D:jl (L.map g8) (i:Int)=.ok (g8 (mw L i)):=by rw[iq (by simp;lia)];simp[mw,show i<L.length by lia]
 have N:jl ((mw L i).map .int) (j:Int)=.ok (.int (tAt (mw L i) j)):=getT ac;have H:dI (.int c) (.int 2)=.ok (.int (c/2)):=ng ac ac;have e:((mw L i).length:Int)=g.k:=by rw[o]
 have F1:dQ [a_ (Lake.aE (q,L)),a_ (.int w),a_ (.int c),a_ (.lst (L.map g8)),d_,d_]=.ok (.int i):=by simp[dQ,k,-lO]
 have W:cJ [a_ (Lake.aE (q,L)),a_ (.int w),a_ (.int c),a_ (.lst (L.map g8)),a_ (.int i),d_]=.ok (.int j):=by simp[cJ,D,g8,f,H,e,o,-lO,-ng]
 have fc:bB (fIt (f2 ixD (ae 0) (a8 1))) [d_] (.nm 0) jZ (fL gI (aa (ae 0) au)) [a_ (Lake.aE (q,L)),a_ (.int w),a_ (.int c),d_,d_,d_]=.ok (.lst (L.map g8)):=by rw[Ax];simp[aE,gg,T,hz]
 have I:cD [a_ (Lake.aE (q,L)),a_ (.int w),a_ (.int c),a_ (.lst (L.map g8)),a_ (.int i),a_ (.int j)]=.ok (m_ (w=3)):=by simp[cD]
 have U:cC [a_ (Lake.aE (q,L)),a_ (.int w),a_ (.int c),a_ (.lst (L.map g8)),a_ (.int i),a_ (.int j)]=.ok (m_ (w=4)):=by simp[cC]
 have Y:∀fl,lb2 3 cD dP cC cI cH dO (L.map g8) i j [a_ (Lake.aE (q,L)),a_ (.int w),a_ (.int c),d_,a_ (.int i),a_ (.int j)]=.ok (.rt fl)->bO [Lake.aE (q,L),.int w,.int c]=.ok fl:=λfl h=>by
  have:fG [a_ (Lake.aE (q,L)),a_ (.int w),a_ (.int c),d_,d_,d_]=.ok (.rt fl):=by unfold fG sLb;rw[fc,ai];show(lb1 3 4 5 _ _ _ _ _ _ _ _ (L.map g8) _)=_;unfold lb1;simp only[Kg,Kf];rw[F1,ai];show(cJ _).bind _=_;rw[W,ai];exact h
  simp[bO,this]
 by_cases a:w=3
 .refine⟨(q+1,L),⟨B,S⟩,Y _ ?_⟩
  unfold lb2;simp only[Kg,Kf];rw[I,ai,Jf a,p_ rfl];simp[dP,Lake.aE]
 .by_cases m:w=4
  .generalize u:tAt (mw L i) j-(if 0<tAt (mw L i) j then 1 else 0)=x;have E: -1<=x:=by
    have h1:tAt (mw L i) j∈mw L i:=by unfold tAt;rw[Jk,Ij ac];exact Iz _
    have:=S _ p _ h1;rw[<- u];split<;>lia
   refine⟨(q,putL L i j x),⟨iX B hi x,λr v y t=>?_⟩,Y _ ?_⟩
   .unfold putL at v;rcases LD v with z|z
    .exact S r z y t
    .subst z;rcases C0 t with z|z
     .exact S _ p y z
     simp_all
   .have R:=sj (putL L i j x) ((iX B hi x).short ac);have b:(putL L i j x).length<=16777216:=by rw[(iX B hi x).1];lia
    obtain⟨p1,p2⟩:=F x;have P:cI [a_ (Lake.aE (q,L)),a_ (.int w),a_ (.int c),a_ (.lst (L.map g8)),a_ (.int i),a_ (.int j)]=.ok (.int x):=by rw[<- u];by_cases K:0<tAt (mw L i) j<;>simp[cI,D,g8,N,K,b2z]
    have O:cH [a_ (Lake.aE (q,L)),a_ (.int w),a_ (.int c),a_ (.lst ((putL L i j x).map g8)),a_ (.int i),a_ (.int j)]=.ok (Lake.aE (q,putL L i j x)):=by have Q:(Lake.aE (q,L))=aE q L:=rfl;have e1:(Lake.aE (q,putL L i j x))=aE q (putL L i j x):=rfl;rw[Q,e1];simp[cH,aE,gg,R,b]
    unfold lb2;simp only[Kg,Kf];rw[I,ai,IS a,q_ ad,U,ai,Jf m,p_ rfl,P,ai];unfold lbW;show((rowAt (L.map g8) i).bind _)=_;rw[p1,ai,p2,ai];simp only[Kg,Kf];rw[O,ai]
  .refine⟨(q+7,L),⟨B,S⟩,Y _ ?_⟩
   unfold lb2;simp only[Kg,Kf];rw[I,ai,IS a,q_ ad,U,ai,IS m,q_ ad];simp[dO,Lake.aE]
def Dc{f g:b0}(h:f ρ=.ok (.nx ρ')):aO f g ρ=g ρ':=by unfold aO;rw[h];rfl
theorem wJ(a b:bz)(h:a.length+b.length<=16777216):eY (bQ a) (bQ b)=.ok (bQ (a++b)):=by simp_all[eY,bQ]
theorem CS(a:bz)(x:LK)(h:a.length<16777216):eY (bQ a) (.lst [Lake.aE x])=.ok (bQ (a++[x])):=wJ a [x] (by simp;lia)
theorem lbents(n:Nat)(v:g.Good)(h:∀l∈ls,Lab g l)(hz:ls.length<=1000000)(w c:Int):∃ls',(∀l∈ls',Lab g l)/\ls'.length<=ls.length+1/\bX [bQ ls,.int w,.int c]=.ok (bQ ls'):=by
 by_cases o:w=1
 .have F:revD (bQ ls)=.ok (bQ ls.reverse):=by simp[bQ]
  refine⟨ls.reverse,(λl U=>h l a7),ad,?_⟩
  simp[bX,gz,iE,o,F]
 have a:∀{ls'},gz [a_ (bQ ls),a_ (.int w),a_ (.int c),d_]=.ok (.rt (bQ ls'))->bX [bQ ls,.int w,.int c]=.ok (bQ ls'):=λG=>by simp[bX,G]
 have u:eqM (bQ ls) (.lst [])=.ok (.bl ls.isEmpty):=(lG ls).1;by_cases r:ls=[]\/w=9
 .refine⟨[],(λl U=>a0),ad,a (mV (by simp[o]) (vQ ?_ (vi rfl)))⟩
  cases ls<;>simp_all
 have e:ls≠[]:=λz=>r (.inl z);have O:¬w=9:=λz=>r (.inr z);have u:eqM (bQ ls) (.lst [])=.ok (.bl cm):=by rw[u];cases ls<;>simp_all
 have b:0<ls.length:=List.length_pos_iff.mpr e;obtain⟨i,hi,H⟩:=modN (c/12) b;have J:dI (.int c) (.int 12)=.ok (.int (c/12)):=ng ac ac;have p:dI (.int c) (.int 7)=.ok (.int (c/7)):=ng ac ac;have d:lx [bQ ls]=.ok (.int ls.length):=by simp[bQ]
 have q:ixD (bQ ls) (.int (i:Int))=.ok (Lake.aE ls[i]):=by show jl (ls.map Lake.aE) (i:Int)=_;rw[iq a7];simp
 have U:=h ls[i] (Iz hi);have A:dU (bQ ls) d_ (a_ (i:Int))=.ok (bQ (ls.take i)):=by unfold bQ;rw[N5];exact B0 (ls.map Lake.aE) i (by simp;lia)
 have y:dU (bQ ls) (a_ ((i:Int)+1)) d_=.ok (bQ (ls.drop (i+1))):=by unfold bQ;rw[List.map_drop,show((i:Int)+1)=((i+1:Nat):Int) by lia];exact Hy (ls.map Lake.aE) (i+1) (by simp;lia)
 have N:=wJ (ls.take i) (ls.drop (i+1)) a0;have L:∀B,eY (bQ (ls.take i)) (.lst [Lake.aE B])=.ok (bQ (ls.take i++[B])):=λB=>CS (ls.take i) B a0;have K:∀B,eY (bQ (ls.take i++[B])) (bQ (ls.drop (i+1)))=.ok (bQ (ls.take i++[B]++ls.drop (i+1))):=λB=>wJ (ls.take i++[B]) (ls.drop (i+1)) a0;have C:∀B,eY (bQ ls) (.lst [Lake.aE B])=.ok (bQ (ls++[B])):=λB=>CS ls B ac;have st:=λ{ls':bz} (k:_=Jp (B4.rt (bQ ls')))=>a (ls':=ls') (mV (by simp[o]) (mV a7 (cE (.int (i:Int)) (by simp[H,J,d,-lO,-ng]) k)));have I:∀B (xs:bz),Lab g B->(∀l∈xs,Lab g l)->∀l∈xs++[B],Lab g l:=λB xs f t l z=>by grind
 have tk:∀l∈ls.take i,Lab g l:=λl z=>h l (Lw z);have x:∀(xs:bz),(∀l∈xs,Lab g l)->∀l∈xs++ls.drop (i+1),Lab g l:=λxs t l U=>(Iw.mp U).elim (t l) λz=>h l (NG z);by_cases m:w=2
 .exact⟨_,x _ tk,a0,st (vQ (by simp[m]) (vi (by simp[A,y,N])))⟩
 by_cases Y:w=3\/w=4
 .obtain⟨B,f,g2⟩:=lbent n v U w (c/7);refine⟨_,x _ (I B _ f tk),by simp;lia,st (mV (by simp[m]) (vQ ?_ (vi ?_)))⟩
  .rcases Y with Y|Y<;>simp[Y]
  .simp[A,y,q,p,g2,L,K,-ng,-IG]
 have E:¬w=3:=λz=>Y (.inl z);have D:¬w=4:=λz=>Y (.inr z);have S:=λ{ls':bz} (k:_=Jp (B4.rt (bQ ls')))=>st (ls':=ls') (mV (by simp[m]) (mV (by simp[E,D]) k));by_cases j:w=5
 .exact⟨_,I _ _ U h,ad,S (vQ (by simp[j]) (vi (by simp[q,C])))⟩
 by_cases s:w=6
 .obtain⟨B,f,g2⟩:=lbent n v U w c;exact⟨_,I _ _ f h,ad,S (mV (by simp[j]) (vQ (by simp[s]) (vi (by simp[q,g2,C]))))⟩
 .exact⟨ls,h,ac,S (mV (by simp[j]) (mV (by simp[s]) rfl))⟩
end
def kE(P:Pap):(bg P).map (·.1)=P.map (·.1):=by unfold bg;rw[Cb];rfl
theorem CJ(S:a9):∀P:Pap,AN (bg P) S=bg (P.eraseP λp=>m_ (p.1=S))
 |[]=>rfl|p::P=>by have B:=CJ S P;unfold AN bg at *;by_cases h:p.1=S<;>simp[h,B]
theorem vF(S:a9):∀P:Pap,(P.map (·.1)).Nodup->∀b,look (P.eraseP λp=>m_ (p.1=S)) b=if b=S then []else look P b
 |[],_,b=>by simp[look]|p::P,h,b=>by
  rw[v_,JZ]at h;rw[List.eraseP_cons];by_cases c:p.1=S
  .have e:m_ (p.1=S)=e_:=by simpa using c
   rw[e];show look P b=_;rw[eG];by_cases B:b=S
   .exact(p_ B)▸ja (by rw[B,<- c];exact h.1)
   .rw[q_ B,q_ (λz=>B (z.symm.trans c))]
  .have e:m_ (p.1=S)=cm:=by simpa using c
   rw[e];show look (p::P.eraseP λp=>m_ _) b=_;rw[eG,eG,vF S P h.2 b];lia
theorem Cd(S:a9):∀P:Pap,(P.eraseP λp=>m_ (p.1=S)).map (·.1)=(P.map (·.1)).erase S
 |[]=>rfl|p::P=>by
  by_cases h:p.1=S
  .simp[h]
  .simp[h,Cd S P]
structure V.zI(v:V)(N:Nat)(P:Pap):Prop where
 nd:(P.map (·.1)).Nodup
 ok:okT (P.map (·.1))=e_
 labs:zO v P
 few:∀b,(look P b).length<=N
 len:P.length<16777216
theorem mQ{K:List a9}(h:K.head? =a_ []):okT K=e_:=by simp_all[okT]
theorem V.zI.put(h:v.zI N P)(d:∀l∈ls,Lab v.g l)(Y:ls.length<=N)(e:b∈P.map (·.1)\/(P.map (·.1)).head? =a_ []/\P.length+1<16777216):v.zI N (vn P b ls):=by
 have B:=kD P b ls;refine⟨?_,?_,λc l S=>?_,λc=>?_,?_⟩
 .rw[B];split
  .exact h.nd
  .rename_i c;rw[KU];exact⟨h.nd,ad,λa g b' f q=>by grind⟩
 .rw[B];split
  .exact h.ok
  .rename_i c;have I:=(e.resolve_left c).1;apply mQ;cases U:P.map (·.1)with
   |nil=>rw[U]at I;cases I|cons a as=>rw[U]at I;simpa using I
 .rw[kC]at S;split at S
  .exact d l S
  .exact h.labs c l S
 .rw[kC];split
  .exact Y
  .exact h.few c
 .have:=Kd Lx B;rw[l_]at this;rw[this];split
  .rw[l_];exact h.len
  simp_all
theorem V.zI.del(h:v.zI N P)(Y:(P.map (·.1)).head? =a_ [])(S:a9):v.zI N (P.eraseP λp=>m_ (p.1=S)):=by
 have B:=Cd S P;refine⟨by exact B▸h.nd.erase S,?_,λc l U=>?_,λc=>?_,Kk (ON QK) h.len⟩
 .rw[B];have I:=h.nd;cases e:P.map (·.1)with
  |nil=>rfl|cons a as=>
   rw[e]at Y I;have d:=by simpa using Y
   subst d;rw[JZ]at I;by_cases c:S=[]
   .subst c;unfold okT;rw[Nk];refine .inr (Jc.mpr λt b=>?_);cases t with
    |nil=>exact IA b I.1|cons x t=>rfl
   .rw[List.erase_cons_tail a7];rfl
 .rw[vF S P h.nd]at U;split at U
  .grind
  .exact h.labs c l U
 .rw[vF S P h.nd];split
  .simp
  .exact h.few c
def V.zI.up(h:v.zI N P){M:Nat}(B:N<=M):v.zI M P:=⟨h.nd,h.ok,h.labs,λb=>B_ (h.few b) B,h.len⟩
section
variable(CR CP:h_)
def ixk(P:Pap)(h:b∈P.map (·.1)):wM (.dic (bg P)) (aR b)=.ok (bQ (look P b)):=by rw[kQ,jW,ai,yp b P h]
def xI(i:Nat){fv:b6}(h1:ρ[i]?=a_ (a_ (.dic (bg A))))(S:fk ρ=.ok (aR b))(I:fv ρ=.ok (bQ ls))(B:A.length<16777216):jP i fk fv ρ=.ok (.nx (ρ.set i (a_ (.dic (bg (vn A b ls)))))):=by unfold jP ki;rw[I,h1];show(fk ρ).bind _=_;rw[S,ai,jW,ai,FO,(Jf (by rw[LH];unfold bg;rw[l_];exact B)),CI];rfl
theorem pop_at(i:Nat)(h1:ρ[i]?=a_ (a_ (.dic (bg A))))(I:fk ρ=.ok (aR b))(B:b∈A.map (·.1)):Dm i fk ρ=.ok (.nx (ρ.set i (a_ (.dic (bg (A.eraseP λp=>m_ (p.1=b))))))):=by simp_all[Dm,ki,ai,jW,p_,mW,CJ]
theorem HV(n:Nat)(hv:v.Good)(hm:m<=8)(h:v.zI N P)(hN:N<=999999)(hh:(P.map (·.1)).head? =a_ [])(X:aV (P.map (·.1))=e_)(Z:P.length<=10000000)(c:Int):∃Q,v.zI (N+1) Q/\fE [.dic (bg P),.int c,.int m]=.ok (.dic (bg Q)):=by
 generalize hK:cv mr (P.map (·.1))=K;have w:∀b,b∈K↔b∈P.map (·.1):=λb=>by rw[<- hK];exact(bD _).mem_iff
 have h0:[]∈P.map (·.1):=by
  cases hP:P.map (·.1)with
  |nil=>simp_all|cons a as=>simp_all
 have u:0<K.length:=List.length_pos_of_mem ((w _).mpr h0);have hs:dc [.dic (bg P)]=.ok (.lst (K.map aR)):=by rw[cZ,kE,p_ h.ok,hK]
 have d:∀y:Int,∃S∈P.map (·.1),∃i:Nat,ig (.int y) (.int (K.length:Int))=.ok (.int (i:Int))/\jl (K.map aR) (i:Int)=.ok (aR S):=λy=>by obtain⟨i,hi,e⟩:=modN y u;exact⟨K[i],(w _).mp (Iz _),i,e,by rw[iq (by simpa using hi)];simp⟩
 obtain⟨S,o,i,i1,i2⟩:=d (c*48271%65537);obtain⟨O,hO,j,j1,j2⟩:=d (c*69621%65521);obtain⟨ls',g1,g2,g3⟩:=lbents n hv.g (ls:=look P S) (h.labs S) (by have:=h.few S;lia) (c%12) c;have q:v.zI (N+1) (vn P S ls'):=(h.up (MS N)).put g1 (by have:=h.few S;lia) (.inl o);have U:(vn P S ls').map (·.1)=P.map (·.1):=by rw[kD,p_ o]
 have hd:dictC [.dic (bg P)]=.ok (.dic (bg P)):=by
  rw[He,kE,X];cases hP:P with
  |nil=>simp_all|cons p P=>rfl
 generalize G:(A_ m).filter (λf:Nat=> !decide ([(f:Int)]∈P.map (·.1)))=st;have H:∀f:Nat,qP (.tup [.int f]) (.dic (bg P))=.ok (.bl !decide ([(f:Int)]∈P.map (·.1))):=λf=>by rw[rN,show fV (.tup [.int (f:Int)])=.ok [(f:Int)]from jW [(f:Int)],ai,mW]
 have W:pz (.int c) (.int 48271)=.ok (.int (c*48271)):=by simp[pz,dD]
 have T:pz (.int c) (.int 69621)=.ok (.int (c*69621)):=by simp[pz,dD]
 have L:ig (.int (c*48271)) (.int 65537)=.ok (.int (c*48271%65537)):=lO ac;have J:ig (.int (c*69621)) (.int 65521)=.ok (.int (c*69621%65521)):=lO ac;have hm3:ig (.int c) (.int 12)=.ok (.int (c%12)):=lO ac
 let ρ:Pap->Option A'->ab:=λA I=>[a_ (.dic (bg P)),a_ (.int c),a_ (.int m),a_ (.lst (K.map aR)),a_ (aR S),a_ (aR O),a_ (.int (c%12)),a_ (.dic (bg A)),I]
 have eS:wM (.dic (bg P)) (aR S)=.ok (bQ (look P S)):=ixk P o;have eO:wM (.dic (bg P)) (aR O)=.ok (bQ (look P O)):=ixk P hO
 let z:Option A':=a_ (.lst (st.map λf:Nat=>aR [(f:Int)]))
 have Y:∀{A B Q:Pap},gN (ρ (vn P S ls') d_)=.ok (.nx (ρ A d_))->eQ (ρ A z)=.ok (.nx (ρ B z))->gM (ρ B z)=.ok (.nx (ρ Q z))->fE [.dic (bg P),.int c,.int m]=.ok (.dic (bg Q)):=λ{A B Q} r1 r2 r3=>by
  have:rC [a_ (.dic (bg P)),a_ (.int c),a_ (.int m),d_,d_,d_,d_,d_,d_]=.ok (.rt (.dic (bg Q))):=
   cE (.lst (K.map aR)) (by simp[hs,-cZ]) <| cE (aR S) (by simp[W,L,i1,i2,-lO]) <| cE (aR O) (by simp[T,J,j1,j2,-lO]) <| cE (.int (c%12)) (by rfl) <| cE (.dic (bg P)) (by simp[hd,-He]) <|
   (Dc (xI 7 (A:=P) (b:=S) (ls:=ls') rfl rfl (by simp[eS,g3,-kQ]) ac)).trans <| (Dc r1).trans <| cE (.lst (st.map λf:Nat=>aR [(f:Int)])) (by
    have c1:bc (m:Int)=e_:=by simp[bc];lia
    have c2:oH [.int (m:Int)]=.ok (aG 0 m):=by rw[yJ c1,Jn]
    have c3:(aG 0 m).length<=16777216:=by rw[bW];lia
    have c4:=zf (p:=.nm 0) (ft:=fB (f2 qP (fL bT (aa (ae 0) au)) (ae 1))) (fe:=fL bT (aa (ae 0) au)) (ρ0:=[d_,a_ (.dic (bg P))]) (λf:Nat=> !decide ([(f:Int)]∈P.map (·.1))) (λf:Nat=>aR [(f:Int)]) m λf _=>⟨[a_ (.int f),a_ (.dic (bg P))],ad,by simp[H f,-rN],λ_=>by rfl⟩
    rw[G]at c4;simp[ρ,c2,c3,c4,-yJ,-rN]) <| (Dc r2).trans <| (Dc r3).trans rfl
  simp[fE,this]
 have F:¬c%12=7->∀A I,gN (ρ A I)=.ok (.nx (ρ A I)):=λz A I=>if_end (by simp[ρ,z])
 have n2:¬c%12=8->∀A I,eQ (ρ A I)=.ok (.nx (ρ A I)):=λz A I=>if_end (by simp[ρ,z])
 have E:¬c%12=10->∀A I,gM (ρ A I)=.ok (.nx (ρ A I)):=λz A I=>if_end (by simp[ρ,z])
 have g:∀{t:cd} {a b:b0} {ρ:ab} {R:M B4},t ρ=.ok e_->a ρ=R->sIf t a b ρ=R:=λh k=>by unfold sIf;rw[h];exact k
 by_cases r:c%12=7
 .exact⟨_,q.del (by rw[U];exact hh) S,Y (g (by simp[ρ,r]) (pop_at 7 (A:=vn P S ls') (b:=S) rfl rfl (by rw[U];exact o))) (n2 ac _ _) (E ac _ _)⟩
 by_cases D:c%12=8
 .by_cases es:st=[]
  .refine⟨_,q,Y (F r _ _) ?_ (E ac _ _)⟩
   simp[eQ,ρ,D,z,es,neM,C',kj,eqD,mD]
  .obtain⟨ys,y,rfl⟩:∃ys y,st=ys++[y]:=⟨_,_,(O3 es).symm⟩
   have NE:neM (.lst ((ys++[y]).map λf:Nat=>aR [(f:Int)])) (.lst [])=.ok (.bl e_):=by
    have e1:((ys++[y]).map λf:Nat=>aR [(f:Int)])=((ys++[y]).map λf:Nat=>[(f:Int)]).map aR:=by rw[Cb];rfl
    unfold neM;rw[e1,C',ky,C'];cases ys<;>simp[eqD,mD,kj]
   have C:jl ((ys++[y]).map λf:Nat=>aR [(f:Int)]) (-1)=.ok (aR [(y:Int)]):=by unfold jl atI;rw[l_,II,Np,vK];simp
   have hlP:(vn P S ls').length<=10000000:=by
    have:=Kd Lx U;rw[l_,l_]at this
    lia
   refine⟨_,q.put (b:=[(y:Int)]) (ls:=look P []) (h.labs []) (by have:=h.few [];lia) (.inr ⟨by rw[U];exact hh,ac⟩),Y (F r _ _) (g (by simp[ρ,D,z,NE,-Lh]) (xI 7 rfl (by simp[ρ,z,C,-Lh]) ?_ ac)) (E ac _ _)⟩
   have e0:wM (.dic (bg P)) (.tup [])=.ok (bQ (look P [])):=ixk P h0;have l:(look P []).length<=16777216:=by have:=h.few [];lia
   have e1:gI [bQ (look P [])]=.ok (bQ (look P [])):=by unfold bQ;simp[l]
   simp[ρ,e0,e1,-kQ]
 by_cases s:c%12=10
 .have x:=q.put (b:=S) (ls:=look P O) (h.labs O) (by have:=h.few O;lia) (.inl (by rw[U];exact o));exact⟨_,x.put (b:=O) (ls:=look P S) (h.labs S) (by have:=h.few S;lia) (.inl (by rw[kD,U,p_ o];exact hO)),Y (F r _ _) (n2 D _ _) (g (by simp[ρ,s]) ((Dc (xI 7 (A:=vn P S ls') (b:=S) (ls:=look P O) rfl rfl (by simp[ρ,eO,-kQ]) q.len)).trans ((Dc (xI 7 (A:=vn (vn P S ls') S (look P O)) (b:=O) (ls:=look P S) rfl rfl (by simp[ρ,eS,-kQ]) x.len)).trans rfl)))⟩
 .exact⟨_,q,Y (F r _ _) (n2 D _ _) (E s _ _)⟩
end
theorem rK:∀a b:bz,mD (a.map Lake.aE) (b.map Lake.aE)=m_ (a=b)
 |[],[]=>rfl|[],_::_=>by rfl|_::_,[]=>by rfl|x::a,y::b=>by simp[mD,wc,rK a b]
theorem eqM_labs(a b:bz):eqM (.lst (a.map Lake.aE)) (.lst (b.map Lake.aE))=.ok (.bl (m_ (a=b))):=by
 have h1:C' (.lst (a.map Lake.aE)) 40=e_:=by exact gE _ a
 have I:C' (.lst (b.map Lake.aE)) 40=e_:=by exact gE _ b
 have B:eqD (.lst _) (.lst _)=m_ _:=rK a b;simp_all[eqM]
theorem neM_labs(a b:bz):neM (.lst (a.map Lake.aE)) (.lst (b.map Lake.aE))=.ok (.bl (!decide (a=b))):=by
 have h1:C' (.lst (a.map Lake.aE)) 40=e_:=by exact gE _ a
 have I:C' (.lst (b.map Lake.aE)) 40=e_:=by exact gE _ b
 have B:eqD (.lst _) (.lst _)=m_ _:=rK a b;simp_all[neM]
theorem BW(a b:List a9):neM (.lst (a.map aR)) (.lst (b.map aR))=.ok (.bl (!decide (a=b))):=by
 have h1:C' (.lst (a.map aR)) 40=e_:=by exact ky _ a
 have I:C' (.lst (b.map aR)) 40=e_:=by exact ky _ b
 have B:eqD (.lst _) (.lst _)=m_ _:=rH a b;simp_all[neM]
def V.rgt(v:V)(Q:Pap)(b:a9):Bool:=if b=[]then m_ (look Q []=[v.l0])else
 ((look Q b).all λx=>m_ (x∈v.oU Q b))&&((v.oU Q b).all λx=>(look Q b).any λy=>nw y x)
def V.jR(v:V)(s:Nat)(P:Pap):Bool:=if cv mr (P.map (·.1))=cv mr (BL v.fl.length s)then(BL v.fl.length s).all (v.rgt P)else cm
def V.BF(v:V)(Q:Pap)(b:a9):Bool:=if b=[]then e_ else
 (((look Q b).foldl Lake.putL []).all λx=>m_ (x∈v.oU Q b))&&(((v.oU Q b).filter λx=> !decide (x∈(look Q b).foldl Lake.putL [])).all λx=>((look Q b).foldl Lake.putL []).any λy=>nw y x)
def V.rgt_eq(e:¬b=[]):v.rgt P b=v.BF P b:=by
 unfold V.rgt V.BF;rw[q_ e,q_ e];have I:∀x,x∈(look P b).foldl Lake.putL []↔x∈look P b:=λx=>by rw[Co];simp
 generalize (look P b).foldl Lake.putL []=T at I;rw[J2,D_,D_];simp only[Jc,Rr,Iv,Rj,decide_eq_false_iff_not];constructor
 .rintro⟨h1,U⟩;exact⟨λx B=>h1 x ((I x).mp B),λx B=>by obtain⟨y,S,q⟩:=U x B.1;exact⟨y,(I y).mpr S,q⟩⟩
 .rintro⟨h1,U⟩;refine⟨λx B=>h1 x ((I x).mpr B),λx B=>?_⟩
  by_cases c:x∈T
  .exact⟨x,(I x).mp c,(by simp[nw,C9])⟩
  .obtain⟨y,S,q⟩:=U x ⟨B,c⟩;exact⟨y,(I y).mp S,q⟩
section
variable(CR CP:h_)
theorem right_ok(n:Nat)(Y:CR≠CP)(s:v.Good)(a:zO v P)(B:∀b,(look P b).length<=262144)(C:b∈P.map (·.1))(o:∀x∈b,0<=x/\x<v.fl.length)(f:b.length<=18):cy CR CP n [aQ CR CP v.g.rows v.g.o,.lst (v.fl.map flD),.lst (v.cs.map stD),.dic (bg P),aR b]=.ok (.bl (v.rgt P b)):=by
 have c:wM (.dic (bg P)) (aR b)=.ok (bQ (look P b)):=by rw[kQ,jW,ai,yp b P C]
 have t:=(ne_tup b).1;have S:∀{d},kJ CR CP n [a_ (aQ CR CP v.g.rows v.g.o),a_ (.lst (v.fl.map flD)),a_ (.lst (v.cs.map stD)),a_ (.dic (bg P)),a_ (aR b),d_,d_]=.ok (.rt d)->cy CR CP n [aQ CR CP v.g.rows v.g.o,.lst (v.fl.map flD),.lst (v.cs.map stD),.dic (bg P),aR b]=.ok d:=λh=>by simp[cy,h]
 by_cases e:b=[]
 .have m:=GY CR CP n Y s.g;have I:eqM (aR b) (.tup [])=.ok (.bl e_):=by rw[t,e];rfl
  have z:eqM (bQ (look P b)) (.lst [aE 0 (L0 v.g)])=.ok (.bl (m_ (look P []=[v.l0]))):=by rw[e];exact eqM_labs (look P []) [v.l0]
  have:v.rgt P b=m_ (look P []=[v.l0]):=by unfold V.rgt;rw[p_ e]
  rw[this];exact S (vQ (by simp[I]) (vi (by simp[c,m,z,-kQ])))
 .have I:eqM (aR b) (.tup [])=.ok (.bl cm):=by
   rw[t];cases b with
   |nil=>exact IA rfl e|cons x b=>rfl
  obtain⟨s1,s2⟩:=v.g.s2;have u:v.g.s*262144*b.length<16777216:=Kk (Jz (show v.g.s*262144<=2*262144 by lia) f) am;have r:=v.CU P 262144 (smL b) [] λp _=>B p.1;have D:=behs_ok CR CP n Y s P a 262144 b o ac (λi _=>B _) u;have g:(v.oU P b).length<=16777216:=by
   unfold V.oU;have:(smL b).length=b.length:=by simp[smL]
   rw[this]at r;simp only[Mg,Jw]at r
   lia
  have E:v.BF P b=((((look P b).foldl Lake.putL []).all λx=>m_ (x∈v.oU P b))&&(((v.oU P b).filter λx=> !decide (x∈(look P b).foldl Lake.putL [])).all λx=>((look P b).foldl Lake.putL []).any λy=>nw y x)):=by unfold V.BF;rw[q_ e]
  have j:(look P b).length<=16777216:=by have:=B b;lia
  have q:((look P b).foldl Lake.putL []).length<=16777216:=by
   have:∀ls acc:bz,(ls.foldl Lake.putL acc).length<=acc.length+ls.length:=λls=>by
    induction ls with
    |nil=>simp|cons l ls w=>intro acc;have h1:=w (Lake.putL acc l);have N:=BM acc l;grind
   have h1:=this (look P b) [];simp only[Mg,Jw]at h1
   lia
  have F:CF [.lst ((look P b).map λl=>A'.tup [Lake.aE l,.bl e_])]=.ok (.dil ((look P b).foldl Lake.putL [])):=by rw[Cz,u6,ai]
  rw[V.rgt_eq e,E];generalize (look P b).foldl Lake.putL []=T at *;have J:aW (.nm 0) jZ (fL bT (aa (ae 0) (aa (fC (.bl e_)) au))) [d_] ((look P b).map Lake.aE)=.ok ((look P b).map λl=>A'.tup [Lake.aE l,.bl e_]):=
   lH Lake.aE _ _ λl _=>⟨[a_ (Lake.aE l)],ad,ad⟩
  have k:∀x,inLD (Lake.aE x) (.dil (v.oU P b))=.ok (.bl (m_ (x∈v.oU P b))):=λx=>by show(sR (Lake.aE x)).bind _=_;rw[lz,ai]
  have H:aW (.nm 0) jZ (f2 inLD (ae 0) (ae 1)) [d_,a_ (.dil (v.oU P b))] (T.map Lake.aE)=.ok (T.map λx=>A'.bl (m_ (x∈v.oU P b))):=
   lH Lake.aE _ _ λl A=>⟨[a_ (Lake.aE l),a_ (.dil (v.oU P b))],ad,by simp[k l]⟩
  have U:∀x,vD (Lake.aE x) (.dil T)=.ok (.bl !decide (x∈T)):=λx=>by show(sR (Lake.aE x)).bind _=_;rw[lz,ai]
  have G:aW (.nm 0) (fB (f2 vD (ae 0) (ae 1))) (fL cP (aa (ae 1) (aa (ae 0) au))) [d_,a_ (.dil T)] ((v.oU P b).map Lake.aE)=.ok (((v.oU P b).filter λx=> !decide (x∈T)).map λx=>A'.bl (T.any λy=>nw y x)):=
   nv Lake.aE _ _ _ λl A=>⟨[a_ (Lake.aE l),a_ (.dil T)],ad,by simp[U l],λ_=>by simp[has_dil n]⟩
  have L:=all_map (λx=>m_ (x∈v.oU P b)) T;have K:=all_map (λx=>T.any λy=>nw y x) ((v.oU P b).filter λx=> !decide (x∈T));generalize (T.all λx=>m_ (x∈v.oU P b))=p1 at *;generalize (((v.oU P b).filter λx=> !decide (x∈T)).all λx=>T.any λy=>nw y x)=p2 at *;exact S (mV (by simp[I]) <| cE (.dil (v.oU P b)) a7 <| cE (.dil T) (by simp[c,J,F,j,bQ,-kQ,-Cz]) <| (GK (b:=p1) (by simp[H,L,q,-e_all]) (qq (d:=.bl p2) (by simp[G,K,g,-e_all]))).trans ac)
theorem DZ(n:Nat)(Y:CR≠CP)(o:v.Good){s:Nat}(e:Cap CR CP n v.g.s s v.fl.length)(a:zO v P)(I:∀b,(look P b).length<=262144)(j:okT (P.map (·.1))=e_):j7 CR CP n [aQ CR CP v.g.rows v.g.o,.lst (v.fl.map flD),.lst (v.cs.map stD),.int s,.dic (bg P)]=.ok (.bl (v.jR s P)):=by
 obtain⟨c,q,t⟩:=e.run;have w:=e.m8;have A:=e.tab.2.2.2.1;have p:=Fv CR CP n Y (v:=v) (m:=v.fl.length) ac rfl q t;have u:=e.beg;have s1:dc [.dic (bg P)]=.ok (.lst ((cv mr (P.map (·.1))).map aR)):=by rw[cZ,kE,p_ j]
 have s2:dc [.lst ((BL v.fl.length s).map aR)]=.ok (.lst ((cv mr (BL v.fl.length s)).map aR)):=by rw[fH,l8,ai,p_ (mQ (BL_head _ _))]
 have B:=BW (cv mr (P.map (·.1))) (cv mr (BL v.fl.length s));have i:∀{d},ur CR CP n [a_ (aQ CR CP v.g.rows v.g.o),a_ (.lst (v.fl.map flD)),a_ (.lst (v.cs.map stD)),a_ (.int s),a_ (.dic (bg P)),d_]=.ok (.rt d)->j7 CR CP n [aQ CR CP v.g.rows v.g.o,.lst (v.fl.map flD),.lst (v.cs.map stD),.int s,.dic (bg P)]=.ok d:=λh=>by simp[j7,h]
 have st:=λ{d} (k:_=Jp (B4.rt d))=>i (d:=d) (dr_nx (by simp[p];rfl) <| cE (.lst ((BL v.fl.length s).map aR)) (by simp[u]) k);by_cases U:cv mr (P.map (·.1))=cv mr (BL v.fl.length s)
 case neg=>
  have:v.jR s P=cm:=by unfold V.jR;rw[q_ U]
  rw[this];rw[IS U]at B;exact st (vQ (by simp[s1,s2,B,-cZ,-fH]) (vi rfl))
 have S:∀b,b∈BL v.fl.length s->b∈P.map (·.1):=λb f=>by have h1:b∈cv mr (BL v.fl.length s):=(bD _).mem_iff.mpr f;rw[<- U]at h1;exact(bD _).mem_iff.mp h1
 have:v.jR s P=(BL v.fl.length s).all (v.rgt P):=by unfold V.jR;rw[p_ U]
 rw[this];rw[Jf U]at B;have y:aW (.nm 0) jZ (fL (cy CR CP n) (aa (ae 1) (aa (ae 2) (aa (ae 3) (aa (ae 4) (aa (ae 0) au)))))) [d_,a_ (aQ CR CP v.g.rows v.g.o),a_ (.lst (v.fl.map flD)),a_ (.lst (v.cs.map stD)),a_ (.dic (bg P))] ((BL v.fl.length s).map aR)=.ok ((BL v.fl.length s).map λb=>A'.bl (v.rgt P b)):=
  lH aR _ _ λb f=>⟨[a_ (aR b),a_ (aQ CR CP v.g.rows v.g.o),a_ (.lst (v.fl.map flD)),a_ (.lst (v.cs.map stD)),a_ (.dic (bg P))],ad,by obtain⟨k,U,g⟩:=e.tab.mem.mp f;have:=right_ok CR CP n Y o a I (S b f) (λx l=>⟨(g.bnd x l).1,(g.bnd x l).2⟩) (by rw[g.len];lia);simp[this]⟩
 have r:(BL v.fl.length s).length<=16777216:=ac
 have z:=all_map (v.rgt P) (BL v.fl.length s);exact st (mV (by simp[s1,s2,B,-cZ,-fH]) (qq (by simp[y,r,z,-e_all])))
end
def V.Gf(v:V)(Q:Pap)(b:a9)(i:Nat):bz:=(look Q (b.eraseIdx i)).flatMap λl=>(A_ v.g.s).filterMap (v.beh l (b.getD i 0).toNat)
def V.j6(v:V)(Q:Pap)(b:a9):bz:=(A_ b.length).flatMap (v.Gf Q b)
def C1:x∈v.j6 Q b↔x∈v.oU Q b:=by rw[v.pW];simp[V.j6,V.Gf]
def fm_len(f:α->Option β)(l:List α):(l.filterMap f).length<=l.length:=List.length_filterMap_le f l
theorem rF{α β:Type}(f:α->List β)(N:Nat):∀l:List α,(∀x∈l,(f x).length<=N)->(l.flatMap f).length<=N*l.length
 |[],_=>by simp|x::l,h=>by
  have h1:=rF f N l λy B=>h y (by simp[B]);have I:=h x ad;rw[MQ,II,F_]
  lia
theorem others:∀{b:a9},b.Nodup->∀{i:Nat} (hi:i<b.length),(b.filter λx=> !decide (x=b[i]))=b.eraseIdx i
 |x::b,h,0,_=>by
  rw[JZ]at h;have:b.filter (λy=> !decide (y=x))=b:=QJ.mpr λy B=>by lia
  simpa using this
 |x::b,h,i+1,hi=>by
  rw[JZ]at h;have hi:i<b.length:=by simpa using hi
  have I:x≠b[i]:=λz=>h.1 (z▸Iz hi);have:=others h.2 hi;simp_all
section
variable(CR CP:h_)
@[reducible] def evM(v:V)(Q:Pap)(b:a9)(acc:bz)(Y U S I B:Option A'):ab:=[a_ v.g.D,a_ (.lst (v.fl.map flD)),a_ (.lst (v.cs.map stD)),a_ (.dic (bg Q)),a_ (aR b),a_ (bQ acc),Y,U,S,I,B]
def fm_flat(f:α->Option β)(l:List α):l.filterMap f=l.flatMap λa=>(f a).toList:=by
 induction l with
 |nil=>rfl|cons x l B=>rw[Mn,MQ,B];cases f x<;>rfl
theorem Au(n:Nat)(o:64<=n)(k:v.Good)(Q:Pap)(b:a9)(m:q<v.fl.length)(S a I B:Option A'){acc:bz}(h:∀l∈ls,Lab v.g l)(Y:acc.length+(ls.flatMap λl=>(A_ v.g.s).filterMap (v.beh l q)).length<16777216):∃ρ',(∃f c U,ρ'=evM v Q b (acc++ls.flatMap λl=>(A_ v.g.s).filterMap (v.beh l q)) (a_ (.int q)) S f c U) /\
  ee (.nm 8) (gO CR CP n) (ls.map Lake.aE) (evM v Q b acc (a_ (.int q)) S a I B)=.ok (.nx ρ'):=
 vX Lake.aE (λl=>(A_ v.g.s).filterMap (v.beh l q)) (λacc ρ=>∃a I B,ρ=evM v Q b acc (a_ (.int q)) S a I B) (λl p acc ρ Y ⟨a,I,B,e⟩=>by
  subst e;have u:=v.g.s2;have t:oH [.int (v.g.s:Int)]=.ok (aG 0 v.g.s):=by rw[yJ (by simp[bc];lia),Jn]
  rw[fm_flat]at Y ⊢;obtain⟨ρ',⟨c,U,i⟩,e⟩:=vX (λj:Nat=>A'.int (0+j)) (λj=>(v.beh l q j).toList) (λacc ρ=>∃I B,ρ=evM v Q b acc (a_ (.int q)) S (a_ (Lake.aE l)) I B) (pt:=.nm 9) (g:=eR CR CP n) (xs:=A_ v.g.s) (λj r acc ρ Y ⟨I,B,e⟩=>by
   subst e;have e:=lbeh CR CP n o k (h l p) m (s:=j) (IM.mp r);refine⟨evM v Q b (acc++(v.beh l q j).toList) (a_ (.int q)) S (a_ (Lake.aE l)) (a_ (.int j)) (a_ (DQ (v.beh l q j))),⟨_,_,rfl⟩,?_⟩
   rw[Int.zero_add];rw[yL,ai];show eR CR CP n (evM v Q b acc (a_ (.int q)) S (a_ (Lake.aE l)) (a_ (.int j)) B)=_;simp only[evM,bQ];cases d:v.beh l q j with
   |none=>rw[d]at e;simp only[DQ]at e ⊢;simp[eR,jG,e,notN_non]|some x=>rw[d]at e Y;have hz:acc.length<16777216:=JD Y;simp only[DQ]at e ⊢;simp[eR,jG,e,pN,hz,-Hd]) Y ⟨I,B,rfl⟩
  refine⟨ρ',⟨_,c,U,i⟩,?_⟩
  rw[yL,ai];show gO CR CP n (evM v Q b acc (a_ (.int q)) S (a_ (Lake.aE l)) I B)=_;unfold gO;rw[rD (ds:=aG 0 v.g.s) (by simp[D_len v,t,-yJ])];exact e) Y ⟨a,I,B,rfl⟩
theorem made_ok(n:Nat)(A:64<=n)(y:v.Good)(E:zO v Q)(F:∀b,(look Q b).length<=N)(z:b.Nodup)(r:∀x∈b,0<=x/\x<v.fl.length)(G:b.length<=40)(hz:v.g.s*N*b.length<16777216):(v.j6 Q b).length<=v.g.s*N*b.length/\jw CR CP n [v.g.D,.lst (v.fl.map flD),.lst (v.cs.map stD),.dic (bg Q),aR b]=.ok (bQ (v.j6 Q b)):=by
 have a:(v.j6 Q b).length<=v.g.s*N*b.length:=by
  have:=rF (v.Gf Q b) (v.g.s*N) (A_ b.length) λi _=>B_ (rF _ v.g.s _ λl _=>by have:=fm_len (v.beh l (b.getD i 0).toNat) (A_ v.g.s);rwa [J_]at this) (Jz (f_ _) (F _))
  rwa [J_]at this
 refine⟨a,?_⟩
 obtain⟨ρ',⟨J,H,u,t,S,d⟩,e⟩:=vX (λj=>A'.int (b.getD j 0)) (v.Gf Q b) (λacc ρ=>∃s c Y U B,ρ=evM v Q b acc s c Y U B) (pt:=.nm 6) (g:=jK CR CP n) (xs:=A_ b.length) (acc:=[]) (ρ:=evM v Q b [] d_ d_ d_ d_ d_) (λj I acc ρ m ⟨s,c,Y,U,B,e⟩=>by
  subst e;have I:=IM.mp I;have p:=r b[j] (Iz I);obtain⟨q,f⟩:=M9 p.1;have o:b.getD j 0=q:=by rw[Jk,Ij I];exact f
  unfold V.Gf at m ⊢;rw[o,Jn]at m ⊢;obtain⟨ρ',⟨u,t,S,d⟩,e⟩:=Au CR CP n A y Q b (q:=q) ac (a_ (aR (b.eraseIdx j))) Y U B (λl a=>E _ l a) m;refine⟨ρ',⟨_,_,u,t,S,d⟩,?_⟩
  rw[yL,ai];show jK CR CP n (evM v Q b acc (a_ (.int q)) c Y U B)=_;have w:aW (.nm 0) (fB (f2 neM (ae 0) (ae 1))) (ae 0) [d_,a_ (.int q)] (b.map .int)=.ok ((b.filter λx=> !decide (x=(q:Int))).map .int):=
   uI _ _ b λx _=>⟨[a_ (.int x),a_ (.int q)],ad,ad,λ_=>by simp⟩
  rw[<- f,others z I,f]at w;have k:(b.eraseIdx j).length<=16777216:=by have:=hV I;lia
  have h:b.length<=16777216:=ac
  have C:getDD (.dic (bg Q)) (aR (b.eraseIdx j)) (.lst [])=.ok (bQ (look Q (b.eraseIdx j))):=by show(fV (aR (b.eraseIdx j))).bind _=_;rw[jW (b.eraseIdx j),ai];exact Kd Jp (vR (b.eraseIdx j) Q)
  have hi:jb (bQ (look Q (b.eraseIdx j)))=.ok ((look Q (b.eraseIdx j)).map Lake.aE):=rfl;exact cE (aR (b.eraseIdx j)) (by simp[aR,w,k,h]) ((rD (by simp[C,hi])).trans e)) (by rw[Mg,Jw];exact Kk a hz) ⟨_,_,_,_,_,rfl⟩
 subst d;have D:(A_ b.length).map (λj=>A'.int (b.getD j 0))=b.map .int:=by refine L5 ad λi h1 K=>?_;simp at h1;simp[h1]
 rw[D]at e;have:rA CR CP n [a_ v.g.D,a_ (.lst (v.fl.map flD)),a_ (.lst (v.cs.map stD)),a_ (.dic (bg Q)),a_ (aR b),d_,d_,d_,d_,d_,d_]=.ok (.rt (bQ (v.j6 Q b))):=
  cE (bQ []) rfl (yt (by rfl) e rfl)
 simp[jw,this]
end
def V.dueB(v:V)(Q:Pap)(b:a9):Bool:=((look Q b).all λx=>m_ (x∈v.j6 Q b))&&((v.j6 Q b).all λx=>(look Q b).any λy=>nw y x)
def Hh(e:b≠[]):v.rgt Q b=v.dueB Q b:=by unfold V.rgt V.dueB;rw[q_ e,J2,D_,D_];simp[Jc,C1]
def filter_nil(p:α->Bool)(l:List α):(l.filter λx=> !p x).isEmpty=l.all p:=by rw[J2,OM,];simp
def E7(p:α->Bool)(l:List α):(l.filter p).isEmpty= !l.any p:=by rw[J2,OM];simp
section
variable(CR CP:h_)
@[reducible] def evD(v:V)(Q:Pap)(E:A')(S I B:Option A'):ab:=[a_ v.g.D,a_ (.lst (v.fl.map flD)),a_ (.lst (v.cs.map stD)),a_ (.dic (bg Q)),a_ E,S,I,B]
def Hi(n:Nat)(d:v.Good)(j:zO v Q)(E:A')(i:b∈Q.map (·.1))(f:(look Q b).length<=16777216)(I:Option A'){S:bz}(h:∀x∈S,Lab v.g x)(B:Option A'):∃ρ',(∃B,ρ'=evD v Q E (a_ (aR b)) I B)/\ee (.nm 7) oW (S.map Lake.aE) (evD v Q E (a_ (aR b)) I B)=if (S.all λx=>(look Q b).any λy=>nw y x)=e_ then .ok (.nx ρ')else .ok (.rt (.bl cm)):=
 vW Lake.aE (λx=>(look Q b).any λy=>nw y x) (λρ'=>∃B,ρ'=evD v Q E (a_ (aR b)) I B) (λx U ρ ⟨B,e⟩=>by
  subst e;have g:aW (.nm 0) (wN (fL aU (aa (ae 0) (aa (ae 1) au)))) (ae 0) [d_,a_ (Lake.aE x)] ((look Q b).map Lake.aE)=.ok (((look Q b).filter λy=>nw y x).map Lake.aE):=
   nv Lake.aE _ _ _ λy c=>⟨[a_ (Lake.aE y),a_ (Lake.aE x)],ad,by have e2:aU [Lake.aE y,Lake.aE x]=.ok (.bl (nw y x)):=lnw_ok n d.g (p:=y) (q:=x) (j b y c).good (h x U).good;simp[e2],λ_=>by simp⟩
  have U:=ixk Q i;have a:=(lG ((look Q b).filter λy=>nw y x)).1;rw[E7]at a;have Y:jb (bQ (look Q b))=.ok ((look Q b).map Lake.aE):=rfl;exact⟨_,⟨a_ (Lake.aE x),rfl⟩,vP (by simp[U,Y,g,f,a,-kQ])⟩) ⟨B,rfl⟩
theorem due_loop(n:Nat)(t:64<=n)(a:v.Good)(f:zO v Q)(m:∀b,(look Q b).length<=N)(hz:v.g.s*N*40<16777216)(E:A'){bs:List a9}(h:∀b∈bs,b∈Q.map (·.1)/\b.Nodup/\(∀x∈b,0<=x/\x<v.fl.length)/\b.length<=40)(S I B:Option A'):∃ρ',(∃S I B,ρ'=evD v Q E S I B)/\ee (.nm 5) (oV CR CP n) (bs.map aR) (evD v Q E S I B)=if (bs.all λb=>b.isEmpty||v.dueB Q b)=e_ then .ok (.nx ρ')else .ok (.rt (.bl cm)):=
 vW aR (λb=>b.isEmpty||v.dueB Q b) (λρ'=>∃S I B,ρ'=evD v Q E S I B) (λb w ρ ⟨S,I,B,e⟩=>by
  subst e;obtain⟨h1,z,p,o⟩:=h b w;show ∃ρ',_/\kU CR CP n (evD v Q E (a_ (aR b)) I B)=_;have j:=(ne_tup b).2;by_cases e:b=[]
  .subst e;exact⟨_,⟨_,I,B,rfl⟩,(if_end (by rfl)).trans rfl⟩
  .have eb:b.isEmpty=cm:=by cases b<;>simp_all
   rw[eb]at j ⊢;obtain⟨C,g2⟩:=made_ok CR CP n t a f m z p o (Kk (Jz (f_ _) o) hz);have A:∀x∈v.j6 Q b,Lab v.g x:=λx Y=>by obtain⟨i,hi,l,U,s,r,e⟩:=v.pW.mp (C1.mp Y);have:=p _ (getD_in hi);exact a.HX (f _ l U) ac r e
   have U:(look Q b).length<=16777216:=by
    have:=m b;have:=Jz v.g.s2.1 (f_ N)
    lia
   obtain⟨ρ',⟨q,g⟩,e4⟩:=Hi n a f E h1 U (a_ (bQ (v.j6 Q b))) A B;have u:aW (.nm 0) (fB (f2 qO (ae 0) (ae 1))) (ae 0) [d_,a_ (bQ (v.j6 Q b))] ((look Q b).map Lake.aE)=.ok (((look Q b).filter λx=> !decide (x∈v.j6 Q b)).map Lake.aE):=
    nv Lake.aE _ _ _ λy g=>⟨[a_ (Lake.aE y),a_ (bQ (v.j6 Q b))],ad,by have:qO (Lake.aE y) (bQ (v.j6 Q b))=_:=y0 y (v.j6 Q b);simp[this],λ_=>by simp⟩
   have Y:=ixk Q h1;have k:=(lG ((look Q b).filter λx=> !decide (x∈v.j6 Q b))).2;rw[filter_nil (λx=>m_ (x∈v.j6 Q b))]at k;have d:∀xs:bz,jb (bQ xs)=.ok (xs.map Lake.aE):=λ_=>rfl;have c:(fB (f2 neM (ae 5) (fL bT au))) (evD v Q E (a_ (aR b)) I B)=.ok e_:=by simp[j]
   refine⟨ρ',⟨_,_,q,g⟩,?_⟩
   unfold kU sIf;rw[c];refine(cE (bQ (v.j6 Q b)) (by simp[g2]) (GK (b:=(look Q b).all λx=>m_ (x∈v.j6 Q b)) (by simp[Y,d,u,U,k,-kQ]) ((rD (by rfl)).trans e4))).trans ?_;unfold V.dueB;cases(look Q b).all λx=>m_ (x∈v.j6 Q b)<;>rfl) ⟨S,I,B,rfl⟩
theorem due_ok(n:Nat)(r:64<=n){v:V}(o:v.Good){Q:Pap}{N s:Nat}(u:zO v Q)(l:okT (Q.map (·.1))=e_)(w:∀b,(look Q b).length<=N)(hz:v.g.s * N * 40 < 16777216)(y:v.fl.length<=40){E:List a9}(q:Tab v.fl.length s)(i:E.Perm (BL v.fl.length s))(f:E.head?=a_ []): j8 CR CP n [v.g.D,.lst (v.fl.map flD),.lst (v.cs.map stD),.dic (bg Q),.lst (E.map aR)]=.ok (.bl (v.jR s Q)):=by
  have s1:dc [.dic (bg Q)]=.ok (.lst ((cv mr (Q.map (·.1))).map aR)):=by rw[cZ,kE,p_ l]
  have A:cv mr E=cv mr (BL v.fl.length s):=mj ordI ((bD _).trans (i.trans (bD _).symm)) (gh ordI _) (gh ordI _);have s2:dc [.lst (E.map aR)]=.ok (.lst ((cv mr (BL v.fl.length s)).map aR)):=by rw[fH,l8,ai,p_ (mQ f),A]
  have I:=BW (cv mr (Q.map (·.1))) (cv mr (BL v.fl.length s));have t:=yf n o.g;unfold V.jR;by_cases Y:cv mr (Q.map (·.1))=cv mr (BL v.fl.length s)
  case neg =>rw[q_ Y];rw[IS Y]at I;simp[j8,og,oT,s1,s2,I,-cZ,-fH]
  rw[p_ Y];rw[Jf Y]at I;have B:∀b,b∈BL v.fl.length s->b∈Q.map (·.1) :=λb S=>by have h1:b∈cv mr (BL v.fl.length s):=(bD _).mem_iff.mpr S;rw[<- Y]at h1;exact(bD _).mem_iff.mp h1
  have p:([]:a9)∈BL v.fl.length s:=by
    have:=i.mem_iff (a:=([]:a9));rw[<- this];cases E with
    | nil=>cases f| cons a as=>simp_all
  have j:wM (.dic (bg Q)) (.tup [])=.ok (bQ (look Q [])):=ixk Q (B [] p);have m:neM (bQ (look Q [])) (.lst [Lake.aE (0,L0 v.g)])=.ok (.bl (!decide (look Q []=[v.l0]))):=neM_labs (look Q []) [v.l0];have d:(BL v.fl.length s).all (v.rgt Q)=(m_ (look Q []=[v.l0])&&E.all λb=>b.isEmpty || v.dueB Q b):=by
    rw[J2,D_,Jc,Jc,KJ];constructor
    · intro h
      have U:=h [] p;unfold V.rgt at U;rw[p_ rfl,KJ]at U;refine⟨U,λb S=>?_⟩
      by_cases e:b=[]
      · rw[e]; rfl
      · rw[<- Hh e,h b (i.mem_iff.mp S)]; simp
    · rintro⟨h1,z⟩ b S
      by_cases e:b=[]
      · rw[e]; unfold V.rgt; rw[p_ rfl]; exact Jf h1
      · have:=z b (i.mem_iff.mpr S)
        simp_all[Bool.false_or,Hh]
  rw[d];obtain⟨ρ',-,e⟩:=due_loop CR CP n r o u w hz (.lst (E.map aR)) (bs:=E) (λb S=>by have c:=i.mem_iff.mp S;obtain⟨k,Y,g⟩:=q.mem.mp c;exact⟨B b c,g.nd,λx j=>⟨(g.bnd x j).1,(g.bnd x j).2⟩,by rw[g.len]; lia⟩) d_ d_ d_
  have:og CR CP n (evD v Q (.lst (E.map aR)) d_ d_ d_)=.ok (.rt (.bl (m_ (look Q []=[v.l0])&&E.all λb=>b.isEmpty || v.dueB Q b))):=by refine(GK (b:=m_ (look Q []=[v.l0])) (R:=.ok (.rt (.bl (E.all λb=>b.isEmpty || v.dueB Q b)))) (by simp[s1,s2,I,j,t,m,-cZ,-fH,-kQ]) ?_).trans (by cases m_ (look Q []=[v.l0]) <;> rfl);unfold aO;rw[rD (ds:=E.map aR) ad,e];cases E.all λb=>b.isEmpty || v.dueB Q b <;> rfl
  simp only[evD]at this;simp[j8,this]
end
theorem zG:∀l:List a9,aV l=e_↔l.Pairwise λx y=>qg y≠qg x
 |[]=>by simp[aV]|k::l=>by rw[aV,D_,Kh,zG l,Jc];simp
def Ia:∀s,s<4->∀m,m<9->m<=Gq s->aV (BL m s)=e_:=by decide +kernel
def Ej{a b:List a9}(h:a.Perm b)(B:aV b=e_):aV a=e_:=by rw[zG]at B ⊢;exact(h.pairwise_iff λ{x y} q=>IV q).mpr B
def xo{a b:List a9}(I:a.Nodup)(B:b.Nodup)(h:∀x,x∈a↔x∈b):a.Perm b:=(List.perm_ext_iff_of_nodup I B).mpr h
theorem put_last(ks:List (a9×A'))(k:a9)(d:A')(h:k∉ks.map (·.1)):jq ks k d=ks++[(k,d)]:=by grind[jq,gZ,N8.mpr]
theorem fold_same:∀(ps acc:List (a9×A')),((acc++ps).map (·.1)).Nodup->ps.foldl (λacc p=>jq acc p.1 p.2) acc=acc++ps
 |[],acc,_=>by simp|p::ps,acc,h=>by
  have B:=λz=>by rw[Lh,KU]at h;exact h.2.2 p.1 z p.1 ad rfl
  rw[Iy,put_last acc p.1 p.2 B,fold_same ps _ (by simpa using h)];simp
theorem xR:∀P:Pap,fj ((bg P).map λp=>.tup [.tup (p.1.map .int),p.2])=.ok (bg P)
 |[]=>rfl|p::P=>by show(fV (aR p.1)).bind (λk=>(fj ((bg P).map λp=>.tup [.tup _,p.2])).bind λr=>.ok _)=_;rw[jW,xR P];rfl
theorem Bw:∀P:Pap,qj (bg P) (bg P)=e_
 |[]=>rfl|p::P=>by
  have h:C' (bQ p.2) 40=e_:=by unfold bQ;exact gE _ p.2
  show(m_ _&&C' _ 40&&C' _ 40&&eqD _ _&&qj (bg P) (bg P))=e_;rw[h,vZ h,Bw P];simp
theorem C3:∀{P:Pap} {p:a9×bz},p∈P->(P.map (·.1)).Nodup->look P p.1=p.2
 |q::P,p,h,B=>by
  rw[v_,JZ]at B;rw[eG];rcases x_.mp h with z|z
  .simp_all
  .rw[q_ λe=>B.1 (by exact e▸IE.mpr ⟨p,z,rfl⟩)];exact C3 z B.2
def V.CY.perm(h:v.CY sh v.fl.length P)(B:Tab v.fl.length sh):(P.map (·.1)).Perm (BL v.fl.length sh):=
 xo h.nd B.2.1 λb=>by rw[h.keys b,B.mem]
theorem V.CY.nice{CR:h_}(h:v.CY sh v.fl.length P)(B:Cap CR CP n v.g.s sh v.fl.length):v.zI 100000 P:=by
 refine⟨h.nd,mQ h.head,h.labs,λb=>?_,by have:=h.len;have:=B.m8;lia⟩
 by_cases c:b∈P.map (·.1)
 .obtain⟨j,I,q⟩:=(h.keys b).mp c;have h1:=h.few b;rw[q.len]at h1;exact B_ h1 (B.bd j I)
 .rw[ja c];simp
section
variable(CR CP:h_)
@[reducible] def evL(d G c M C F E R:A')(b a Y U S I B:Option A'):ab:=[a_ d,a_ G,a_ c,a_ M,a_ C,a_ F,a_ E,a_ R,b,a,Y,U,S,I,B]
theorem uf(n:Nat){v:V}(q:v.Good){P:Pap}{N:Nat}(a:v.zI N P)(w:N<=1000000)(f G e M C F:A')(d Y U S I B:Option A'):∀(ks:List a9) (R:Pap) (i:Option A'),P.map (·.1)=R.map (·.1)++ks->zO v R->(∀b,(look R b).length<=N)->∃g k,g.map (·.1)=P.map (·.1)/\zO v g/\(∀b,(look g b).length<=N) /\
  ee (.nm 8) wD (ks.map aR) (evL f G e M C F (.dic (bg P)) (.dic (bg R)) i d Y U S I B)=.ok (.nx (evL f G e M C F (.dic (bg P)) (.dic (bg g)) k d Y U S I B))
 |[],R,i,h,h1,p=>⟨R,i,by rw[h];simp,h1,p,by rfl⟩|b::ks,R,i,h,h1,p=>by
  have u:b∈P.map (·.1):=by rw[h];simp
  have m:=λz=>by have:=a.nd;rw[h,KU]at this;exact this.2.2 b z b ad rfl
  have s:=least_ok n q.g (a.labs b) (by have:=a.few b;lia);have o:R.length<16777216:=by
   have D:=a.len;have:=Kd Lx h;rw[l_,II,l_]at this
   lia
  have t:(vn R b (ug (look P b))).map (·.1)=R.map (·.1)++[b]:=by rw[kD,q_ m]
  obtain⟨g,k,A,g2,y,r⟩:=uf n q a w f G e M C F d Y U S I B ks _ _ (by rw[t,h];simp) (λc l j=>by
   rw[kC]at j;split at j
   .exact a.labs b l ((Iv.mp ((bD _).mem_iff.mp j)).1)
   .exact h1 c l j) (λc=>by
   rw[kC];split
   .exact B_ (DN _) (a.few b)
   .exact p c)
  refine⟨g,k,A,g2,y,?_⟩
  have x:wD (evL f G e M C F (.dic (bg P)) (.dic (bg R)) (a_ (aR b)) d Y U S I B)=.ok (.nx (evL f G e M C F (.dic (bg P)) (.dic (bg (vn R b (ug (look P b))))) (a_ (aR b)) d Y U S I B)):=by exact xI 7 ad ad (by simp[(ixk P u),s]) o
  show(wD (evL f G e M C F _ _ (a_ (aR b)) d Y U S I B)).bind _=_;exact x▸r
@[reducible] def evQ(CR CP:h_)(v:V)(sh:Nat)(P:Pap)(b M R:A')(a Y U S I B:Option A'):ab:=evL b v.g.D (.int sh) M (.lst (v.cs.map stD)) (.lst (v.fl.map flD)) (.dic (bg P)) R a (a_ (aQ CR CP v.g.rows v.g.o)) Y U S I B
theorem G3(n:Nat)(w:64<=n)(o:CR≠CP)(l:v.Good)(e:Cap CR CP n v.g.s sh v.fl.length)(s:v.CY sh v.fl.length P)(B:v.zI 100001 Q)(t M R:A')(r S h g f:Option A'):∃k j i,
  wC CR CP n (evQ CR CP v sh P t M R r S (a_ (.dic (bg Q))) h g f)=.ok (.nx (evQ CR CP v sh P t M R r S (a_ (.dic (bg Q))) k j i)):=by
 refine⟨a_ (.dic (bg Q)),a_ (.bl (v.jR sh Q)),a_ (.bl (v.jR sh Q)),?_⟩
 have E:=e.m8;have m:=v.g.s2;have z:gI [.lst (v.fl.map flD)]=.ok (.lst (v.fl.map flD)):=by
  have:(v.fl.map flD).length<=16777216:=by simp;lia
  rw[l_]at this;simp[this]
 have A:gI [.lst (v.cs.map stD)]=.ok (.lst (v.cs.map stD)):=by
  have:=l.cs;have:v.cs.length<=16777216:=ac
  simp[this]
 have y:=DZ CR CP n o l e B.labs (λb=>by have:=B.few b;lia) B.ok;have U:v.g.s*100001*40<16777216:=by
  have:v.g.s*100001<=2*100001:=Jz m.2 (f_ _)
  lia
 have C:(P.map (·.1)).Perm (BL v.fl.length sh):=s.perm e.tab;have c:=due_ok CR CP n w l B.labs B.ok B.few U ac e.tab C s.head;have q:C5 [.dic (bg P)]=.ok (.lst ((P.map (·.1)).map aR)):=by rw[Cw];unfold bg;rw[Cb,Cb];rfl
 have I:aW (.tp [0,1]) jZ (fL bT (aa (ae 0) (aa (fL gI (aa (ae 1) au)) au))) [d_,d_] ((bg Q).map λp=>.tup [.tup (p.1.map .int),p.2])=.ok ((bg Q).map λp=>.tup [.tup (p.1.map .int),p.2]):=by
  have e1:((bg Q).map λp=>A'.tup [.tup (p.1.map .int),p.2])=Q.map λp=>A'.tup [aR p.1,bQ p.2]:=by unfold bg;rw[Cb];rfl
  rw[e1];refine lH _ _ Q λp u=>⟨[a_ (aR p.1),a_ (bQ p.2)],by rfl,?_⟩
  have x:look Q p.1=p.2:=C3 u B.nd;have:p.2.length<=16777216:=by rw[<- x];have:=B.few p.1;lia
  have e2:gI [bQ p.2]=.ok (bQ p.2):=by unfold bQ;simp[this]
  simp[e2]
 have Y:((bg Q).map λp=>A'.tup [.tup (p.1.map .int),p.2]).length<=16777216:=by unfold bg;simp;exact IY B.len
 have d:dictA [.lst ((bg Q).map λp=>.tup [.tup (p.1.map .int),p.2])]=.ok (.dic (bg Q)):=by rw[Hf,xR,ai];unfold GX;rw[fold_same (bg Q) [] (by rw[O0,kE];exact B.nd)];rfl
 have a:vM (.dic (bg Q))=.ok ((bg Q).map λp=>.tup [.tup (p.1.map .int),p.2]):=yK _;refine cE (.dic (bg Q)) ?_ <| cE (.bl (v.jR sh Q)) ?_ <| cE (.bl (v.jR sh Q)) ?_ <| mV ?_ (if_end ?_)
 .generalize ((bg Q).map λp=>A'.tup [.tup (p.1.map .int),p.2])=X at *;simp[a,I,Y,d,-yK,-Hf]
 .simp_all
 .generalize (P.map (·.1)).map aR=D at *;simp[q,c,-Cw]
 .simp[neM,C',eqD]
 simp[e_neKD,Bw,p_]
theorem qF(n:Nat)(p:64<=n)(k:CR≠CP){v:V}(o:v.Good){sh:Nat}(q:Cap CR CP n v.g.s sh v.fl.length){P:Pap}(r:v.CY sh v.fl.length P)(l M R:A')(j U:Option A'):∀(m:List Pap) (Y S I B:Option A'),(∀Q∈m,v.zI 100001 Q)->∃i g f d,
  ee (.nm 11) (wC CR CP n) (m.map λQ=>.dic (bg Q)) (evQ CR CP v sh P l M R j U Y S I B)=.ok (.nx (evQ CR CP v sh P l M R j U i g f d))
 |[],Y,S,I,B,_=>⟨Y,S,I,B,rfl⟩|Q::m,Y,S,I,B,h=>by
  obtain⟨a,b,c,e⟩:=G3 CR CP n p k o q r (h Q ad) l M R j U S I B;obtain⟨i,g,f,d,s⟩:=qF n p k o q r l M R j U m (a_ (.dic (bg Q))) a b c λx t=>h x (by simp[t]);refine⟨i,g,f,d,?_⟩
  rw[v_,ee,yL,ai];show(wC CR CP n (evQ CR CP v sh P l M R j U (a_ (.dic (bg Q))) S I B)).bind _=_;rw[e,ai];exact s
theorem law_true(y:CR≠CP):∀ns:a9,ns.length<=63->∃n,m_law CR CP n [.lst (ns.map .int)]=.ok (.bl e_):=by
 intro ns hns;refine⟨64,?_⟩
 obtain⟨g,w,eg⟩:=gps_ok 64 ns;obtain⟨s,m,k,S,ef⟩:=few_ok 64 ns g;obtain⟨cs,D,C,ec⟩:=E4 64 ns;have o:m<=8:=(cap CR CP 64 k S).m8;obtain⟨fl,p,z,el⟩:=AB 64 ns g.k w.k1 m ac
 let v:V:=⟨g,fl,cs⟩
 have j:v.Good:=⟨w,z,ac,D,C⟩
 have u:Cap CR CP 64 v.g.s s v.fl.length:=by show Cap CR CP 64 g.s s fl.length;rw[p];exact cap CR CP 64 k S
 obtain⟨P,d,ep⟩:=lall_ok CR CP 64 (f_ _) j u;have B:=d.nice u;obtain⟨f,c⟩:=iN 64 ns 2 ac ac;have I:=GP CR CP 64 w;have q:aV (BL v.fl.length s)=e_:=by
  show aV (BL fl.length s)=e_;rw[p];refine Ia s ac m ac ?_;have:lim2 s<=Gq s:=by rcases(show s=0\/s=1\/s=2\/s=3 by lia)with e|e|e|e<;>subst e<;>decide
  lia
 have r:=Ej (d.perm u.tab) q;have U:P.length<=10000000:=by have:=d.len;have:=u.m8;lia
 obtain⟨R,N,i,Z,r3,er⟩:=uf 64 j B ac (.lst (ns.map .int)) v.g.D (.int s) (.int m) (.lst (cs.map stD)) (.lst (fl.map flD)) d_ d_ d_ d_ d_ d_ (P.map (·.1)) [] d_ rfl (λb l h=>by cases h) (λb=>by simp[look]);have t:v.zI 100000 R:=⟨by rw[i];exact B.nd,by rw[i];exact B.ok,Z,r3,by grind[l_]⟩
 have a:R.length<=10000000:=by
  have:=Kd Lx i;rw[l_,l_]at this
  lia
 obtain⟨L,b1,G⟩:=HV 64 j o B ac d.head r U f;obtain⟨K,b2,F⟩:=HV 64 j o t ac (by rw[i];exact d.head) (by rw[i];exact r) a (f/12);have J:=B.up (M:=100001) ac;have H:=t.up (M:=100001) ac;obtain⟨X,W,T,O,E⟩:=qF CR CP 64 (f_ _) y j u d (.lst (ns.map .int)) (.int m) (.dic (bg R)) N (a_ (.int f)) [P,R,L,K] d_ d_ d_ d_ a7
 obtain⟨ds,hD,hDl,A,x⟩:=g0 w;have hk:lx [aZ g.rows]=.ok (.int g.k):=by simp[aZ,x]
 have ep:j9 CR CP 64 [g.D,.lst (fl.map flD),.lst (cs.map stD),.int s]=.ok (.dic (bg P)):=ep;have I:dX CR CP 64 [g.D]=.ok (aQ CR CP g.rows g.o):=I;have Y:Ce (.dic (bg P))=.ok ((P.map (·.1)).map aR):=by rw[Cy];unfold bg;rw[Cb,Cb];rfl
 have hd:dI (.int f) (.int 12)=.ok (.int (f/12)):=ng ac ac;have gl:g_law CR CP 64 [a_ (.lst (ns.map .int)),d_,d_,d_,d_,d_,d_,d_,d_,d_,d_,d_,d_,d_,d_]=.ok (.rt (.bl e_)):=by refine cE g.D (by simp[eg]) <| un_nx [.int s,.int m] (by simp[ef]) rfl <| cE (.lst (cs.map stD)) (by simp[ec]) <| cE (.lst (fl.map flD)) (by rw[hD];simp[A,hk,el]) <| cE (.dic (bg P)) (by simp[ep]) <| cE (.dic (bg [])) rfl <| yt (by simp[Y,-Cy]) er <| cE (aQ CR CP g.rows g.o) (by simp[I,v]) <| cE (.int f) (by simp[c]) <| yt (ds:=[P,R,L,K].map λQ=>.dic (bg Q)) (by simp[G,F,hd,-ng]) E rfl
 show(g_law CR CP 64 [a_ (.lst (ns.map .int)),d_,d_,d_,d_,d_,d_,d_,d_,d_,d_,d_,d_,d_,d_]).bind _=_;rw[gl];rfl
end
def fin_mk{P:IQ}{K:Pn}{h:IF}{fa CR:h_}(_:K.In h)(_:h.Ns JE mg)(B:mg "law"=a_ (.ref fa))(Z:Zs K mg CR CP):
  ∃fd:Kw,(∀(s:j_) (v:g_),Oo s fd ⟨[v],[]⟩ [("_law_script",v)])/\∀base:IF,K.In base->base.Ns JE mg->jN P w K mg base CX0 12 fa fd ["_law_script"] (spLaw K):=by
 obtain⟨f,fd,D,I⟩:=Z.d_law;have e:=B.symm.trans D.mg;cases e;refine⟨fd,I,λbase _ _=>law_ok (ro:=cm) (λn=>?_) (law_true CR CP Z.ne)⟩
 obtain⟨U,S,Y⟩:=ok_law (P:=P) (w:=w) (base:=base) Z;cases(D.mg.symm.trans Y.d.mg);exact(D.fn.uniq Y.d.fn)▸Y.o
def walk{l:Oc}{q:IQ}{B:List IL}{e:(Ld)->IF->Prop}{S:JX->IF->Prop}{d:DefRec}{K:Params->Pn}(U:l.most=a_ 63)(I:d.params.defaults=[])(b:∀(w:JX) (h:IF),S w h->(K w.params).In h)(F:∀(w:JX) (mg:Ld) (fa:h_) (h:IF),(K w.params).In h->h.Ns JE mg->mg d.name=a_ (.ref fa) ->
   ∃fd:Kw,(∀(s:j_) (u:g_),Oo s fd ⟨[u],[]⟩ [("_law_script",u)])/\∀base:IF,(K w.params).In base->base.Ns JE mg->jN l.prog w (K w.params) mg base CX0 12 fa fd ["_law_script"] (spLaw (K w.params))):
  QD q B e S l.row.toRowW d [] (λf vs=>Ms f vs):=
 Lake.walk_of U am I ⟨rfl,am,am⟩ b F (λ_ _ a ns Y _ c=>⟨a,ns,rfl,c,Y,λ_=>rfl⟩) λ_ _ _ _ _ z=>z
end Tactic
end
open PySem PySem.W PyProof.Rows
structure PySem.W.Fast:Prop where (tw5340257015300847473
tw1719934711449936597
tw10733353991246130693
tw12038334076958087550
tw6853437678820000714
tw11969289557431396925
tw14135846297615234313
tw5563462701099876181
tw2895203259930830718
tw15750806318603988479
tw1562632266483671383
tw2830312142889644025
tw15554029840439646367
tw9792147334123768111
tw17276244733350351047
tw449440311836299142
tw10615784149492053319
tw13271239527271605406
tw7505821272899797862
tw18022186879805824493
tw15353597756158511799
tw9351324995663725118
tw15267443178363097119
tw9361788709495786386
tw463908932384778251
tw14143412930244682578
tw4018096891927101349
tw14534121755239687751
tw13175357492089540824
tw1992885694112648363
tw770414390759626916
tw4418653970111833202
tw5268274761575786720
tw1020172537519467218
tw9231897565389753274
tw3411518695592041825
tw13563697917177832747
tw2154309519378664361
tw6023582194836782928
tw6195293815438966704
tw10820850905309529680
tw11992719182820829911
tw8957738546949951682
tw2809277590882010546
tw815332383023892299
tw10765515987901776206
tw3734418536220296119
tw7877193024244499224
tw9145738736676238463
tw2041287413377889689
tw17126200757599416616
tw16878569586078274401
tw10362725189744002903
tw4825060833112370324
tw9307362589143773672
tw10189370138616710682
tw10090674677267603464
tw12819159456115022747
tw13528254553591040572
tw18067671175126518394
tw7056269231706784954
tw1707312931912926704
tw10927226519784993891
tw8802041329311554285
tw8853086264292328616
tw10927060631992888012
tw9302267481808437272
tw14877882170413571688
tw5000964976423067790
tw9535897135701402983
tw1147852665496465104
tw8280795670648563619
tw9152689931086039966
tw3867525921294226389
tw17649999463459174614
tw4672961585466354332
tw2927812682059031921
tw3220006493148397445
tw17614884627162094336
tw2616194232665776160
tw2683146219765182910
tw404589270836407135
tw6960201890208740905
tw4417998443961224918
tw458557639916748396
tw8012689728857428712:True)
namespace PySem.W.Fast
def tw18372800780262157512:True:=⟨⟩
def tw557959594615035103:True:=⟨⟩
def tw11504064603770968048:True:=⟨⟩
def tw17000861570040726553:True:=⟨⟩
def tw12153089355216474261:True:=⟨⟩
def tw12204311415382893697:True:=⟨⟩
def tw9955622259621846154:True:=⟨⟩
def tw14122738058404538059:True:=⟨⟩
def tw16605593901056917238:True:=⟨⟩
def tw332253984474152944:True:=⟨⟩
def tw5114034540977464340:True:=⟨⟩
def tw9899946519175696354:True:=⟨⟩
def tw2935629459033428532:True:=⟨⟩
def tw13419772192615708683:True:=⟨⟩
def tw16584412026533876879:True:=⟨⟩
def tw130086607509278349:True:=⟨⟩
def tw11673891565283810625:True:=⟨⟩
def tw17295038763243292559:True:=⟨⟩
def tw8383871437167096574:True:=⟨⟩
def tw14649340420950005745:True:=⟨⟩
def tw2600009478818478724:True:=⟨⟩
def tw16301999644398576328:True:=⟨⟩
def tw2438545320977537929:True:=⟨⟩
def tw13744415424957556077:True:=⟨⟩
def tw2274274792396035745:True:=⟨⟩
def tw4868913080224529236:True:=⟨⟩
def tw8193354074918080511:True:=⟨⟩
def tw10542176805514749060:True:=⟨⟩
def tw8781124877914052260:True:=⟨⟩
def tw7285268499696285861:True:=⟨⟩
def tw16821669564802497573:True:=⟨⟩
def tw7365703290872060624:True:=⟨⟩
def tw1913437074232740024:True:=⟨⟩
def tw12309586050894522297:True:=⟨⟩
def tw13270273802356042554:True:=⟨⟩
def tw13395652160619536237:True:=⟨⟩
def tw9773180478975138969:True:=⟨⟩
def tw12310406421654706832:True:=⟨⟩
def tw8058952074864967061:True:=⟨⟩
def tw6442363901989543165:True:=⟨⟩
def tw9859970036773161336:True:=⟨⟩
def tw11865512684913891426:True:=⟨⟩
def tw15996125875538295074:True:=⟨⟩
def tw14282304373634222258:True:=⟨⟩
def tw11689445722936986094:True:=⟨⟩
def tw8014411110723872320:True:=⟨⟩
def tw3111531063727067940:True:=⟨⟩
def tw10540547028286335486:True:=⟨⟩
def tw13017927222377974724:True:=⟨⟩
def tw12487026039173111129:True:=⟨⟩
def tw6131396673106251241:True:=⟨⟩
def tw2111952586032540032:True:=⟨⟩
def tw18265053680058336206:True:=⟨⟩
def tw4790867443768342017:True:=⟨⟩
def tw17195789529826122128:True:=⟨⟩
def tw16303900957950154578:True:=⟨⟩
def tw12884524934556604390:True:=⟨⟩
def tw13794573700379361155:True:=⟨⟩
def tw15273196213910666594:True:=⟨⟩
def tw4175931807683780705:True:=⟨⟩
def tw16354120197654984480:True:=⟨⟩
def tw5712423269462577280:True:=⟨⟩
def tw15702827476228418520:True:=⟨⟩
def tw4463911727233243049:True:=⟨⟩
def tw16153047019725732426:True:=⟨⟩
def tw6255424792236760232:True:=⟨⟩
def tw8435673075743409653:True:=⟨⟩
def tw224494721320939692:True:=⟨⟩
def tw8129406577027607209:True:=⟨⟩
def tw5764148744757686717:True:=⟨⟩
def tw14418471831062700004:True:=⟨⟩
def tw6500767785543956611:True:=⟨⟩
def tw5740878758877263553:True:=⟨⟩
def tw12879259447399995121:True:=⟨⟩
def tw15237840277555640282:True:=⟨⟩
def tw4313363030683103586:True:=⟨⟩
def tw3577441042962142175:True:=⟨⟩
def tw1469656212326578703:True:=⟨⟩
def tw18252920786486890567:True:=⟨⟩
def tw6370864097236971652:True:=⟨⟩
def tw11651707529279171074:True:=⟨⟩
def tw5867957827753379578:True:=⟨⟩
def tw13536832243006941900:True:=⟨⟩
def tw6313442122253807167:True:=⟨⟩
def tw9162722335829311848:True:=⟨⟩
def tw12277142480074409981:True:=⟨⟩
def tw380594519884080737:True:=⟨⟩
def tw5190242769430538020:True:=⟨⟩
def tw3177996247242393796:True:=⟨⟩
def tw6061786659265586580:True:=⟨⟩
def tw10883305804685711140:True:=⟨⟩
def tw13180913705702558807:True:=⟨⟩
def tw15293184935612705737:True:=⟨⟩
def tw11072697142262009162:True:=⟨⟩
def tw7125930481367600005:True:=⟨⟩
def tw14514334188214474724:True:=⟨⟩
def tw6082441979478777996:True:=⟨⟩
def tw4303255886038327523:True:=⟨⟩
def tw3746123347493504896:True:=⟨⟩
def tw13058944769695531046:True:=⟨⟩
def tw3613468737889719478:True:=⟨⟩
def tw12117731636923471705:True:=⟨⟩
def tw5164672336893091794:True:=⟨⟩
def tw2141718822372580880:True:=⟨⟩
def tw14028836718088282513:True:=⟨⟩
def tw654804577051530509:True:=⟨⟩
def tw17229410290960800329:True:=⟨⟩
def tw12008696975664651814:True:=⟨⟩
def tw14750061332143578481:True:=⟨⟩
def tw7693169303082072368:True:=⟨⟩
def tw337375921234946380:True:=⟨⟩
def tw11557505883556077757:True:=⟨⟩
def tw9932214279997919402:True:=⟨⟩
def tw17454601469986847092:True:=⟨⟩
def tw9973905668856761382:True:=⟨⟩
def tw12014318263584395039:True:=⟨⟩
def tw10091172564472208246:True:=⟨⟩
def tw7674929488609867238:True:=⟨⟩
def tw11667483135015278352:True:=⟨⟩
def tw7365210367387107456:True:=⟨⟩
def tw10656430846508932571:True:=⟨⟩
def tw6869010077986078718:True:=⟨⟩
def tw6228908751637910613:True:=⟨⟩
def tw11199812390959878883:True:=⟨⟩
def tw3048110345934691045:True:=⟨⟩
def tw8633232309042058049:True:=⟨⟩
def tw4115566987640596209:True:=⟨⟩
def tw4906318378220922288:True:=⟨⟩
def tw8514028459850057371:True:=⟨⟩
def tw11100607427159871225:True:=⟨⟩
def tw16779070813874512321:True:=⟨⟩
def tw17530558392792031282:True:=⟨⟩
def tw16365208485174863126:True:=⟨⟩
def tw778611438331333939:True:=⟨⟩
def tw10888095663296958467:True:=⟨⟩
def tw15060484719635054371:True:=⟨⟩
def tw12045915815767974528:True:=⟨⟩
def tw7886689421953950019:True:=⟨⟩
def tw4462913304485249838:True:=⟨⟩
def tw5165291530268583033:True:=⟨⟩
def tw3996225232094393151:True:=⟨⟩
def tw8319012864554680821:True:=⟨⟩
def tw10565788685038756378:True:=⟨⟩
def tw284755356365933301:True:=⟨⟩
def tw12886230721528592895:True:=⟨⟩
def tw15607445263344144541:True:=⟨⟩
def tw741402081875739257:True:=⟨⟩
def tw6677538905389557518:True:=⟨⟩
def tw9336737330054309969:True:=⟨⟩
def tw11189051961562868075:True:=⟨⟩
def tw800162986545190688:True:=⟨⟩
def tw14552176814022281960:True:=⟨⟩
def tw998237661996718629:True:=⟨⟩
def tw10989163407645793497:True:=⟨⟩
def tw1931429437641365496:True:=⟨⟩
def tw6647684220481655998:True:=⟨⟩
def tw1981049374667752705:True:=⟨⟩
def tw14114973213731550258:True:=⟨⟩
def tw9827832132681754432:True:=⟨⟩
def tw10683564064127663505:True:=⟨⟩
def tw1265542491682848190:True:=⟨⟩
def tw2986796167643127709:True:=⟨⟩
def tw14363797837106670776:True:=⟨⟩
def tw7479961533714014398:True:=⟨⟩
def tw14909587549041885372:True:=⟨⟩
def tw15628743764074280835:True:=⟨⟩
def tw13107283355349803447:True:=⟨⟩
def tw4680602762530365610:True:=⟨⟩
def tw3009353359527522192:True:=⟨⟩
def tw4135832473841012654:True:=⟨⟩
def tw10787570374831296174:True:=⟨⟩
def tw6441533964433390346:True:=⟨⟩
def tw2958871024701312404:True:=⟨⟩
def tw8392546830480347397:True:=⟨⟩
def tw2432941548804508681:True:=⟨⟩
def tw7875831699123147031:True:=⟨⟩
def tw15009945550836314309:True:=⟨⟩
end PySem.W.Fast
set_option maxRecDepth 100000 in
set_option maxHeartbeats 0 in
theorem PySem.Challenge.cw_wakeorder_k54_papers_checked_holds : PySem.Challenge.rw_wakeorder_k54_papers_checked.Holds := by
 w_on;o_law;k_head;(case hw=>w_witness2)
 k_fill
 refine Tactic.walk (l:=PySem.Challenge.rw_wakeorder_k54_papers_checked) rfl rfl (fun w h Y=>PySem.W.kIn_of Y) ?F
 case F=>
  intro w mg fa h KX G hmg;refine' Tactic.fin_mk KX G hmg ?z
  case z=>
   constructor
   all_goals first|exact Lake.dF KX G (B:=by intro _ _ _ _ _ _;repeat' first|exact Lake.B0_ rfl|refine Lake.BS_ λ_=>?_)|exact PySem.W.mg_none_of KX G (by k_is)|exact ⟨_,mg_of KX G (by k_is)⟩|exact mg_of KX G (by k_is)|exact (Lake.mF (B:=by intro _ _ _ _ _ _;repeat' first|exact Lake.B0_ rfl|refine Lake.BS_ λ_=>?_))|exact Lake.kF KX G|exact Lake.tF KX G|exact Lake.iF|exact Lake.xF KX G|exact Lake.xM KX G (Lake.mF (B:=by intro _ _ _ _ _ _;repeat' first|exact Lake.B0_ rfl|refine Lake.BS_ λ_=>?_))|exact Lake.lF KX G|exact Lake.rS (Lake.mF (B:=by intro _ _ _ _ _ _;repeat' first|exact Lake.B0_ rfl|refine Lake.BS_ λ_=>?_))|k_is|kernel_rfl|exact ⟨mg_of KX G (by k_is),by k_is,by k_is⟩|exact ⟨by k_is,Lake.iF⟩|exact ⟨⟨_,_,_,rfl,by first|k_is|kernel_rfl,by first|k_is|kernel_rfl,by first|k_is|kernel_rfl⟩⟩|exact ⟨⟨_,_,_,_,rfl,by first|k_is|kernel_rfl,by first|k_is|kernel_rfl,by first|k_is|kernel_rfl,by first|k_is|kernel_rfl⟩⟩|decide +kernel|(constructor<;>first|k_is|kernel_rfl|rfl|decide +kernel)|(simp only [List.mem_cons,List.not_mem_nil,or_false,forall_eq_or_imp,forall_eq];repeat' constructor)<;>first|k_is|kernel_rfl
