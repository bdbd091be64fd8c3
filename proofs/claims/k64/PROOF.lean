import PyProof.Rows.All
import Wide.All
import OpenK.AllK
import PySem.Challenge.RW_wakeorder_k64_best_of_all
open Option renaming some->a_,none->g_,isSome_iff_exists->Ic,map_some->LX,map_eq_some_iff->MW,any_eq_true->NJ,isSome_map->N4
open PySem renaming wpAny_bind->b_,wpAny_pure->e_,Value->h_,Shared->i_,starEach->j_,Addr->k_,wpAny->r_,sizeLine->t_,model->x_,eval->FL,wpAny_call_entry->FO,wpAny_newObj_type->FP,Str->FU,Heap->FX,boot_len->FZ,wpAny_callSpecial?_slot->F_,Program->Gf,wpAny_holding->Gq,mainGlobals->Gu,wpAny_mono->Gx,compareOp->Gy,wpAny_setField->Gz,cLine->GB,wpAny_seqItems->GF,backTo->GG,Stmt->GH,Expr->GI,codeAny_builtin->GK,wpAny_field->GQ,World->GS,mem_of_lookup->GZ,swapsWith->G0,wpAny_truthy_bool->G3,sizeLine_eq->G4,DictEntry->G5,Around->G8,wpAny_isInstance->Ha,cellsFrom->Hb,rawInt->Hg,bootBuiltins->Hi,binaryOp->Hr,wpAny_Call_Name_kw->Hv,wpAny_attempt->Hy,plainId_quiet->Hz,codeAny_mono->HA,intKind->HF,sysModules->HG,FuncData->HN,attributeBase->HV,assignEach->Ia,wpAny_of_eq->Ij,foldedSetIterable->Ik,wpAny_fieldsOf->Iz,wpAny_typeNameOfWhole_valiter->IE,wpAny_typeNameOfWhole_keyiter->IF,keywordEach->IG,wpAny_rule->II,wpAny_passesOwn->IL,SetTable->IM,NameKind->IP,wpAny_setState_of->IU,wpAny_dictEntries->IV,holding->IW,wpAny_askSetting->Jb,codeAny->Jc,wpAny_setEntries_of->Jg,ZipApart->Jl,wpAny_updateSeq->Jm,wpAny_specialOf->Jn,wpAny_execs_nil->Jo,wpAny_dictEpoch->Jp,wpAny_tupleItemsOf->Jt,wpAny_pyIter_tuple->Ju,call->Jv,wpAny_letGo->Jy,scanBound->Jz,wpAny_pyIter_enum->JG,Obj->JM,eqBool->JP,Within->JQ,Paired->JR,wpAny_onRaise->JT,behindInMarks->JU,Keyword->JV,backToKw->JX,wpAny_typeOf->J9,argBest->J_,reduceHash->Kl,pyNext->Km,isSubtype_stop->Kn,wpAny_pyIter_slot->KC,wpAny_pyIter_list->KD,wpAny_standAt->KI,wpAny_handled->KJ,assign->KL,wpAny_pyIter_zip->KV,wpAny_forIn_list->KW,wpAny_load->K6,wpAny_call->K7,standAt->K8,IsPair->La,wpAny_isOneOf_valiter->Lk,isSubtype_tuple_tuple->Ll,wpAny_tryCatch->Lp,wpAny_throw->Lq,wpAny_runValue->Lr,sliceBounds->Lu,setField->Lv,richCompare->Lw,pyHash->Lx,codeAny_call_builtin->Ly,pickOrder->LC,getMethod->LD,BindsTo->LH,wpAny_newList->LS,swapsWithSole->LU,swappedStores->LV,wpAny_setEpoch_of->Ma,wpAny_loadPart_at->Mb,relayAll->Mc,concat_meets->Me,callerA->Mf,bindArgs->Mg,Scope->Mm,ExcBaseFacts->Mp,plainObj_wpAny_Assign_Attribute->Mv,wpAny_execs_cons->MC,pyIter->MD,noFill_tuple_add->ME,IsPart->MI,excClassObj->MP,Model->MQ,ExcAttrBase->MS,Env->MT,pushCells_keeps->MZ,letOwnedTupleGo->M0,codeAny_of_tree->M1,wpAny_richCompare_same_room->Na,wpAny_newTuple->Ni,wpAny_loadPart->Nj,wpAny_letOwnedTupleGo_enum->Nk,numAt->Nl,newFunctionEnv->Nm,intKind_is->Nn,firstArgMember->Np,Walks->Nq,GenState->Nx,wpAny_letOwnedTupleGo_zip->NI,wpAny_comprehension_free->NT,seq_tuple_add->NU,rangeSize_one->NV,nums_intItems->NW,Fin->N2,updateSeq->N8,lastMarks->N9,eqIsQuiet->N_,PassesOwn->Og,wpAny_Assign_Subscript->Oq,seqIndex_neg->Ot,isTrue->Ou,getItem->Ov,Result->Ox,ItemsOf->Oy,ElemsOf->Oz,wpAny_notOrdered_dict->OI,wpAny_isOneOf_keyiter->OJ,Sem->OM,seqIndex_of->OZ,numAt_eq->O0,intItems_at->O1,codeAny_extend_loopS->O3,callWith->O4,bindL->O5,bindC->O6,atKey->O7,wpAny_isSubtype_exc->Pk,call_enumerate_list->Pm,wpAny_setItem_heap->Pz,wpAny_setField_rec->PB,wpAny_Name->PC,typeLookup->PD,tupleKind_room_in1->PF,isInstance->PH,call_meets->PJ,builtinsNs->PK,wpAny_storeSet_of->PU,wpAny_assign_Name->PV,wpAny_Assign_Name->PX,unaryOp->PY,storedH->PZ,slot_list_getitem->P0,setNext->P1,setItem->P2,setAttr->P4,fits_of_scanBound->P5,call_sum_walkAnyS->P6,Drawn->Qc,wpAny_lookBehind->Qi,wpAny_Dict_empty->Qj,small_one->Qk,setFlight->Ql,pastItsLine_dict->Qm,checkBuiltinCall->Qn,Pos->Qr
open Bool renaming false->c_,true->f_,and_eq_true->FH,false_eq_true->Ho,false_ne_true->HQ,or_eq_true->L9,eq_iff_iff->L_,not_true->MX,false_and->Px,and_false->Py,true_and->PQ,and_true->PR,or_true->Qh
open PySem.Heap renaming get?_push_of_some->d_,get?_push_size->l_,lt_size->m_,get?_update_other->A_,get?_update_self->FV,size_push->Gi,ExtBut->GJ,SameBut->Hd,get?_none_of_le->K3,IsTuple->Nf,size_update->ON
open List renaming mem_cons->n_,map_cons->u_,getElem?_eq_some_iff->v_,length_map->w_,getElem?_eq_getElem->y_,getElem?_set_ne->z_,range->A1,getD_eq_getElem?_getD->B_,getElem?_set_self->Cb,mem_range->C_,mem_map->FG,map_map->FJ,length_cons->FK,getElem?_map->FY,all_eq_true->Gd,lookup->Gj,length_set->Gk,getElem_mem->Gm,mem_append->Gn,replicate->Gr,length_append->Gs,mem_filter->Gv,foldl_cons->Gw,exists_cons_of_length_eq_add_one->GA,mem_append_right->GC,size_toArray->GO,lookup_cons->GU,getElem?_append_left->GY,mem_of_getElem?->G9,length_range->He,append_assoc->Hf,drop_eq_getElem_cons->Hk,getElem?_eq_none->Hl,pairwise_cons->Hm,mem_cons_self->Hn,mem_cons_of_mem->Hu,append_nil->HB,not_mem_nil->HJ,mem_flatMap->HK,mem_singleton->HP,pairwise_append->Ie,map_congr_left->Il,getElem?_cons_succ->Io,take_of_length_le->Iu,set_cons_zero->Iv,set_cons_succ->Iw,mem_filterMap->Iy,nodup_cons->IB,find?_cons->IC,mem_map_of_mem->I_,length_eq_zero_iff->Jh,reverse_cons->Jr,drop_zero->Js,length_replicate->JD,drop_length->JF,map_append->JO,getElem?_range->JS,map_nil->JW,pairwise_iff_getElem->J7,mem_or_eq_of_mem_set->J8,foldl_append->Kd,mem_of_mem_eraseIdx->Kg,eq_of_mem_replicate->Kh,take_length->Kt,length_take->Ku,filter_cons_of_neg->Kv,countP_cons->Kw,range_succ_eq_map->KH,length_nil->KP,singleton_append->KR,mem_iff_getElem?->KS,length_filter_le->KU,getElem_of_mem->Lh,findSome?_cons->Li,filterMap_cons->Lj,pairwise_map->LJ,ext_getElem?->LL,exists_of_findSome?_eq_some->LM,eraseIdx_eq_take_drop_succ->LQ,any_eq_true->LY,length->L3,range_succ->L5,of_mem_zip->L6,nil_append->L7,getElem?_append_right->MA,getElem?_replicate->M9,filter_cons_of_pos->M_,pairwise_lt_range->Nh,length_singleton->NG,getElem?_toArray->NH,range_eq_range'->NK,range'->NL,mem_append_left->NM,length_eraseIdx->NO,countP_pos_iff->N5,map_replicate->Om,contains_cons->Oo,take_sublist->OG,flatMap_cons->OH,range'_succ->OT,length_drop->OU,ext_getElem->OV,cons_append->OW,map_const'->Pg,forIn_cons->Ph,take_succ->Pu,nodup_nil->Pw,toArray->Qg
open Nat renaming le_refl->o_,ne_of_lt->E_,lt_of_lt_of_le->FQ,le_trans->Gg,zero_le->GD,ne_of_gt->GP,le_of_lt->HI,lt_irrefl->Ii,zero_add->IX,lt_succ_self->IY,le_succ->Jk,lt_succ_of_lt->Jx,succ_ne_self->KA,mul_le_mul->Le,lt_trichotomy->LO,le_of_eq->LP,mul_add->L4,not_lt_zero->Mu,add_assoc->M8,lt_trans->NF,mul_le_mul_left->Ol,not_lt->OF,sub_zero->Qv,sub_self->Qw,mul_succ->Qx
open Decidable renaming decide->s_
open PySem.Value renaming ref->D_,none->GR,type->HL,int->Je,isInt->KZ,bool->Mj
open PyProof.Rows renaming callWith_type1->FR,boot_list->G6,boot_tuple->H_,seqObj->Ib,IntsAre->Ih,slot_tuple_getitem->Iq,envOfC->Jw,AllBare->KG,boot_max->K2,callWith_builtin1->K5,boot_isinstance->Lg,boot_int->L1,boot_min->Mt,Call_->MU,entry_list_sort->M7,slot_list_sort->NB,boot_range->NC,args_list_sort->ND,listUpdate_at->N3,lt_int->Oi,subscriptTail_builtinR->OA,plain_sorted->OB,entry_sorted->OC,args_sorted1->OD,seqEpoch_at->Pd,kind_sorted->Pe,boot_sorted->Pf,IsTup->Qe
open PySem.W renaming findIn->FT,kas_sort->Hj,kitOne->Hq,emptyDict->Hx,kas_place->HX,cellsFrom_some->Ip,keepIn->IT,instObj->I9,mroIn->JA,InstAt->JB,kas_desc->JH,kas_asc->Ka,looks_findIn->Ko,methodCall_KW->Kx,plainGet_of->KY,kas_rev->K9,callWith_K->K_,OpenLaw->Lz,kas_descPart->Mi,fnOf->MF,clsIn->MG,looks_clsIn->M3,kia_one->Nb,kas_bin->Nc,typeIn->Nr,plainGet->Nt,isNs_of_in->Nu,codeIn->Nv,handedIn->NY,WalkO->NZ,takesIn->Oa,specialIn->Ob,readsIn->Oc,kas_count->Od,hasDictIn->Oe,findCls->Of,any_some->Ow,nsIn->PL,set_plain->P7,makesIn->P8,kas_ask->P9,plainOver->Qo,kas_tail3->Qp,Frag->Qq
open PySem.Builtin.Tuple renaming tupleHashOf->FW,tupleItemsOf->Lm,tupleExact->Qs
open PySem.NameKind renaming free->Ga,cell->HC
open PySem.Heap.SameBut renaming update->Gb
open Array renaming length_toList->Ge,getElem?_eq_getElem->GW,getElem?_eq_none->HE,getElem?_toList->HR,getD_eq_getD_getElem?->IH,getElem?_eq_some_iff->IQ,perm_iff_toList_perm->JY,toList_push->LA,toList->LB,forIn_toList->N6,find?_toList->N7
open False renaming elim->Gh
open PySem.Obj renaming mapSeq->GL,data_mapFields->G7,mapFields->Ht,isFreed_of_fields->HW,cls_mapFields->Ke,putSet->MH
open Option.some renaming inj->GN,injEq->MV
open PySem.F renaming slot_dict_valueiterator_next->GV,slot_dict_keyiterator_next->G1,slot_tuple_iterator_next->HY,slot_zip_next->Jq,called_set->JC,attrBase_ValueError->JJ,args_tuple_add_2->J1,plainAttrs_list->Kb,entry_tuple_add->Kc,slot_tuple_add->Kp,slot_tuple_hash->Kr,plain_list_iadd->Ks,plain_min_loop->KN,args_dict_valueiterator_next_1->KO,entry_dict_valueiterator_next->KQ,args_dict_keyiterator_next_1->K0,entry_dict_keyiterator_next->K4,entry_proto_collect->Lb,args_tuple_iterator_next_1->Lc,entry_tuple_iterator_next->Lf,slot_dict_values_iter->LG,entry_list_iadd->LZ,slot_dict_values->Mn,entry_min_loop->Mo,slot_list_count->Mx,plainAttrs_dict->My,args_zip_next_1->Mz,slot_tuple_eq->MJ,slot_dict_iter->MK,entry_zip_next->ML,slot_dict_get->MR,args_object_init_2->M6,slot_list_extend->Ny,slot_list_append->Nz,plain_extend_loop->OO,slot_tuple_lt->Qa,slot_set_iter->Qb
open Ne renaming symm->GX
open Pure renaming pure->G2
open Nat.succ renaming inj->G_
open Except renaming ok->Hc,error->Ir,bind->PN
open Int renaming toNat_natCast->Hh,le_refl->Hw,emod_nonneg->Ig,emod_lt_of_pos->Ji,mul_le_mul_of_nonneg_left->JK,mul_assoc->Lo,mul_nonneg->MN,fdiv_eq_ediv_of_nonneg->MO,lt_trichotomy->OX,pow_succ->Qy,mul_comm->Qz,le_trans->QA
open List.Perm renaming refl->HD,swap->LR
open PySem.SetTable renaming below->HM,grown->Jf
open Except.ok renaming inj->HZ
open PySem.Builtin.Dict renaming showsAll->Im
open PySem.Builtin.Slice renaming slicePlaces->IA,sliceAdjust->JI,slicePartIndex->Qt,sliceApplied->Qu
open PySem.Builtin.List renaming listSameRef->IJ,listTooLong->JN
open PySem.Builtin.Range renaming rangeSize->IS,small->Kq
open List.Pairwise renaming nil->IZ
open Prod renaming fst->Ja,ext->LI
open PySem.Calls renaming spliced_cons->Jd,call_function_entry->J5,callWith_builtin->Kz,Name_function_global->Mr,evalArgs_plain->NA,spliced_nil->Oh
open True renaming intro->JE
open PySem.AutoSeq1 renaming wpAny_loadPart'->JZ
open PySem.Shared renaming TypeIs->J6,heap->Nd
open PyProof.Rows.F renaming entry_set_update_loop->Kf,plain_set_update_loop->Qf
open LawfulBEq renaming eq_of_beq->Ki
open ForInStep renaming yield->Kj
open PySem.SeqAt renaming EqAt->Ky,ne_of_list_tuple->M4,RcNeAt->M5,RcAt->N1
open PySem.Builtin.SmallTypes renaming nextOf->K1,ownedTupleIsFree->OQ
open PySem.Code renaming quiet_builtin->Ln
open PySem.W.KasT renaming ret->LF
open PyProof.Rows.IntsAre renaming int_at->LW,length->Oj
open Function renaming comp->L8
open PySem.pickOrder renaming go->Md
open PySem.Walks renaming list->Mh
open PySem.SetTable.below renaming go->Ml
open PyProof renaming noPylong_of_log2->Ms
open PySem.Paired renaming length->Mw
open PySem.EntryCells renaming newEntry->MM
open PySem.Around renaming under_plainId->Ng
open PySem.Heap.Ns1 renaming of_empty->Nw
open List.cons renaming injEq->NQ
open PySem.Within renaming cons->NX
open PySem.W.Looks renaming here->N0,of_pure->Po
open PyProof.Rows.IsTup renaming new->OE
open PySem.Builtin.ObjectAttr renaming storeInOwnDict->OR
open PySem.Builtin.Dict_items renaming ownsTuple->OS
open ToString renaming toString->OY
open PySem.W.KatTups renaming cons->O8,nil->Pp
open PySem.SetTable.probe renaming go->O9
open PySem.Builtin.Frozenset renaming updateFrom->O_,slot0->Pa,sizeOf->Pb,newClass->Pc
open PySem.Moved renaming eq_with->Pq
open PySem.ItemsOf renaming nil->Pr
open PySem.Builtin.Builtins renaming bindParams->Pt
open PySem.Challenge renaming pw_wakeorder_k64_best_of_all->PM
open PySem.Heap.IsSliceOf renaming new->P_
open PyProof.Rows.SortSt renaming mk'->Qd
abbrev p_:=@if_pos
abbrev q_:=@if_neg
noncomputable abbrev FN:=@absurd
abbrev HU:=@decide_eq_true
abbrev H9:=@of_decide_eq_true
abbrev ID:=@DecidableEq
abbrev Jj:=@decide_eq_true_eq
abbrev JL:=@decide_eq_false
abbrev J0:=@congrArg
abbrev Kk:=@beq_iff_eq
abbrev LN:=@if_false
abbrev MB:=@or_false
abbrev MY:=@beq_eq_false_iff_ne
abbrev NR:=@bne_self_eq_false
abbrev Pj:=@trivial
set_option Elab.async false
set_option linter.all false
set_option maxRecDepth 100000
set_option maxHeartbeats 4000000
open PySem.W (lookIn plainGet hasDictIn isFn plainOver takerIn makesIn typeIn keepIn callWith_K fnOf codeIn nsIn mg_of specialIn kitOne kia_one kitAny)
abbrev Pn:=Qq
abbrev Vp:=List (k_×JM)
abbrev Mq:=h_->i_->Prop
abbrev Ld:=FU->Option h_
set_option compiler.extract_closed false
noncomputable section
theorem Jq0(_:True:=by rfl):True:=trivial
local macro_rules|`(~~~$t)=>`(autoParam $t Jq0._auto_1)
theorem Jq1(_:True:=by decide):True:=trivial
local macro_rules|`($t⁻¹)=>`(autoParam $t Jq1._auto_1)
theorem Jq2_(_:True:=by k_is):True:=trivial
def Jq2:Lean.Syntax:=Jq2_._auto_1
theorem Jq3_(_:True:=by kernel_rfl):True:=trivial
def Jq3:Lean.Syntax:=Jq3_._auto_1
theorem Jq4_(_:True:=by first|exact .inl rfl|exact .inr rfl|assumption):True:=trivial
def Jq4:Lean.Syntax:=Jq4_._auto_1
theorem Jq5_(_:True:=by first|exact Or.inl rfl|exact Or.inr (Or.inl rfl)|exact Or.inr (Or.inr rfl)):True:=trivial
def Jq5:Lean.Syntax:=Jq5_._auto_1
theorem Jq6_(_:True:=by intro _;rfl):True:=trivial
def Jq6:Lean.Syntax:=Jq6_._auto_1
theorem Jq7_(_:True:=by first|exact Or.inl rfl|exact Or.inr rfl):True:=trivial
def Jq7:Lean.Syntax:=Jq7_._auto_1
theorem Jq8_(_:True:=by first|k_is|kernel_rfl):True:=trivial
def Jq8:Lean.Syntax:=Jq8_._auto_1
theorem Jq9_(_:True:=by with_unfolding_all rfl):True:=trivial
def Jq9:Lean.Syntax:=Jq9_._auto_1
theorem Jq10_(_:True:=by exact⟨rfl,rfl,rfl,by decide +kernel,rfl,by decide +kernel,by decide +kernel⟩):True:=trivial
def Jq10:Lean.Syntax:=Jq10_._auto_1
theorem Jq11_(_:True:=by first|exact DQ _|with_unfolding_all rfl):True:=trivial
def Jq11:Lean.Syntax:=Jq11_._auto_1
theorem Jq12_(_:True:=by exact λ_ _=>rfl):True:=trivial
def Jq12:Lean.Syntax:=Jq12_._auto_1
theorem Jq13_(_:True:=by exact PassesOwn.never):True:=trivial
def Jq13:Lean.Syntax:=Jq13_._auto_1
theorem Jq14_(_:True:=by intro _ _ _ _ _ _ us hl;repeat' (first|(simp at hl;done)|rfl|(cases us<;>try rename_i us))):True:=trivial
def Jq14:Lean.Syntax:=Jq14_._auto_1
theorem dkK{p:Prop}(h:p:=by decide +kernel):p:=h
theorem ac{p:Prop}(h:p:=by omega):p:=h
theorem ad{p:Prop}(h:p:=by lia):p:=h
theorem aj{p:Prop}(h:p:=by simp):p:=h
theorem al{p:Prop}(h:p:=by decide):p:=h
theorem am{p:Prop}(h:p:=by grind):p:=h
theorem as{p:Prop}(h:p:=by simp_all):p:=h
noncomputable abbrev PySem.Shared.z(s:PySem.Shared):=s.heap.objs.size
set_option bootstrap.genMatcherCode false
set_option genSizeOf false
set_option genInjectivity false
namespace Lake
open PySem PySem.Spec PyProof.Rows
abbrev bb:=List Nat
abbrev aH:=List h_
abbrev aG:=List Int
variable{a b dx C:k_}{h h':FX}{x name m qual:FU}{e c tg:GI}{B2:Vp}{g':Array Nx}{ch fp:List k_}{N ps:List FU}{i j k:Nat}{A:G8}{E:Mq}{u:h_}{Q:Unit->i_->Prop}{s':i_}{pos pos' p:Qr}{K:Pn}{es:List GI}{g:Int->Int->Int}{body:List GH}{P:Gf}{w:GS}{op op':CmpOp}{us:List h_}{mA mg:Ld}{pl:OM Bool}{kw:List (FU×h_)}{outer:List MT}{fd:HN}{scope:Mm}
set_option genInjectivity true in
set_option bootstrap.genMatcherCode true in
inductive V where
 |non|bl (b:Bool)|int (i:Int)|ref (a:k_)|ty (n:String)
 deriving DecidableEq
abbrev a0:=List V
variable{v y:V}{xs vs:List V}
def B5:V->h_->Prop
 |.non,u=>u=GR|.bl b,u=>u=Mj b|.int i,u=>∃t,u=Je i t
 |.ref a,u=>u=D_ a|.ty n,u=>u=HL n
abbrev B6:a0->aH->Prop:=JR B5
theorem B6.length{xs:a0}{us:aH}(r:B6 xs us):xs.length=us.length:=Mw r
inductive AtI{α:Type}(S P:α->Prop):Prop
 |mk (u:α) (e:S u) (r:P u)
theorem B6.get:∀{xs:a0} {us:aH} {i:Nat} {x:V},B6 xs us->xs[i]?=a_ x->AtI (λu=>us[i]?=a_ u) (B5 x)
 |_,_,_,_,.nil,e=>by simp at e|_,_,0,_,.cons r _,e=>by simp at e;subst e;exact⟨_,rfl,r⟩|_,_,i+1,x,.cons _ t,e=>by obtain⟨u,h1,J⟩:=B6.get t (by simpa using e);exact⟨u,as,J⟩
theorem B6.set{x:V}{u:h_}(r:B5 x u):∀{xs:a0} {us:aH} (i:Nat),B6 xs us->B6 (xs.set i x) (us.set i u)
 |_,_,_,.nil=>.nil|_,_,0,.cons _ t=>.cons r t|_,_,i+1,.cons q t=>.cons q (B6.set r i t)
theorem B6.append:∀{xs ys:a0} {us J:aH},B6 xs us->B6 ys J->B6 (xs++ys) (us++J)
 |_,_,_,_,.nil,s=>s|_,_,_,_,.cons r t,s=>.cons r (B6.append t s)
theorem B6.take:∀{xs:a0} {us:aH} (n:Nat),B6 xs us->B6 (xs.take n) (us.take n)
 |_,_,0,_=>.nil|_,_,_+1,.nil=>.nil|_,_,n+1,.cons r t=>.cons r (B6.take n t)
theorem B6.drop:∀{xs:a0} {us:aH} (n:Nat),B6 xs us->B6 (xs.drop n) (us.drop n)
 |_,_,0,r=>r|_,_,_+1,.nil=>.nil|_,_,n+1,.cons _ t=>B6.drop n t
def xt:Option V->Option h_->Prop
 |some v,a_ u=>B5 v u|none,g_=>True|_,_=>False
set_option genInjectivity true in
inductive HO where
  |lst (xs:List V)
  |tup (xs:List V)
  |ins (C dx:k_) (fs:List (FU×V))
  |own (x:k_)
  |xd (fs:List (FU×V))
  |met (f x:k_)
  |rng (lo hi:Int)
  |frz (o:JM) (u:HO)
  |tbl (ps:Array h_)
  |ext (φ:FX->Prop)
noncomputable abbrev Hp:=k_->Option HO
variable{H H':Hp}
noncomputable def upd(H:Hp)(a:k_)(o:HO):Hp:=λb=>if b=a then a_ o else H b
theorem aq{o:HO}:upd H a o a=a_ o:=by simp[upd]
theorem aw{o:HO}(h:b≠a):upd H a o b=H b:=by simp_all[upd]
theorem aL{o:HO}(h:H a=a_ o)(h':H b=g_):a≠b:=ad
section
variable(P:Gf)(w:GS)
def dq(H:Hp)(h:FX)(a:k_):HO->Prop
 |.lst xs=>xs.length<=t_/\∃(its:aH) (n:Nat),B6 xs its/\h.get? a=a_ {cls:=.type "list",data:=.seq its.toArray n}
 |.tup xs=>xs.length<=t_/\∃its:aH,B6 xs its/\Qe h a its.toArray
 |.ins C dx fs=>H dx=a_ (.own a)/\fs.length<=1000/\dx≠a/\h.get? a=a_ (I9 C dx) /\
   ∃mA,h.Ns1 dx mA/\(∀f,xt (fs.lookup f) (mA f))/\JQ mA (fs.map (·.1))
 |.own _=>∃o,h.get? a=a_ o
 |.xd fs=>∃mA,h.Ns1 a mA/\∀f,xt (fs.lookup f) (mA f)
 |.rng lo hi=>∃t u v,h.get? a=a_ {cls:=.type "range",data:=.fields #[.int lo t,.int hi u,.int 1 v]}
 |.frz o u=>h.get? a=a_ o/\dq H h a u|.tbl ps=>h.get? a=a_ {cls:=.none,data:=.fields ps}|.met f x=>h.get? a=a_ (PySem.W.methodObj (.ref f) (.ref x))|.ext J=>J h/\(∃o,h.get? a=a_ o)/\∀h1 S:FX,J h1->(∀o,h1.get? a=a_ o->S.get? a=a_ o)->J S
def HOk(H:Hp)(h:FX):Prop:=∀a o,H a=a_ o->dq H h a o
end
section
variable{o:HO}
theorem dq.lt(x:dq H h a o):a<h.objs.size:=by
 cases o with
 |lst xs=>obtain⟨_,_,_,_,e⟩:=x;exact m_ e
 |tup xs=>obtain⟨_,_,_,p⟩:=x;exact p.lt
 |ins C dx fs=>obtain⟨_,_,_,e,_⟩:=x;exact m_ e
 |own y=>obtain⟨_,e⟩:=x;exact m_ e
 |xd fs=>obtain⟨_,⟨_,_,_,e,_⟩,_⟩:=x;exact m_ e
 |rng lo hi=>obtain⟨_,_,_,e⟩:=x;exact m_ e
 |frz S u=>obtain⟨e,_⟩:=x;exact m_ e
 |tbl ps=>exact m_ (show h.get? a=a_ _ from x)|met f y=>exact m_ (show h.get? a=a_ _ from x)|ext J=>obtain⟨_,⟨_,e⟩,_⟩:=x;exact m_ e
theorem Paired.mapP{α β:Type}{F G:α->β->Prop}:∀{S:List α} {J:List β},JR F S J->(∀a b,F a b->G a b)->JR G S J
 |_,_,.nil,_=>.nil|_,_,.cons r t,f=>.cons (f _ _ r) (Paired.mapP t f)
def dq.xA(x:dq H h a o)(k:∀b u,(b=a\/H b=a_ (.own a))->h.get? b=a_ u->h'.get? b=a_ u)(Y:∀b,H b=a_ (.own a)->H' b=a_ (.own a))(i:∀b xs,H b=a_ (.tup xs)->H' b=a_ (.tup xs)):dq H' h' a o:=by
 induction o with
 |lst xs=>obtain⟨z,its,n,r,e⟩:=x;exact⟨z,its,n,r,k _ _ (.inl rfl) e⟩
 |tup xs=>obtain⟨z,its,r,J,e,c⟩:=x;exact⟨z,its,r,J,k _ _ (.inl rfl) e,c⟩
 |ins C dx fs=>obtain⟨d,z,S,e,mA,⟨od,es,ep,e2,c⟩,r⟩:=x;exact⟨Y _ d,z,S,k _ _ (.inl rfl) e,mA,⟨od,es,ep,k _ _ (.inr d) e2,c⟩,r⟩
 |own y=>obtain⟨J,e⟩:=x;exact⟨J,k _ _ (.inl rfl) e⟩
 |xd fs=>obtain⟨mA,⟨od,es,ep,e,c⟩,r⟩:=x;exact⟨mA,⟨od,es,ep,k _ _ (.inl rfl) e,c⟩,r⟩
 |rng lo hi=>obtain⟨t,u,v,e⟩:=x;exact⟨t,u,v,k _ _ (.inl rfl) e⟩
 |frz J u U=>obtain⟨e,q⟩:=x;exact⟨k _ _ (.inl rfl) e,U q⟩
 |tbl ps=>exact k a _ (.inl rfl) x|met f y=>exact k a _ (.inl rfl) x|ext g=>obtain⟨p,⟨o,e⟩,st⟩:=x;exact⟨st _ _ p λo q=>k _ _ (.inl rfl) q,⟨o,k _ _ (.inl rfl) e⟩,st⟩
theorem HOk.lt(x:HOk H h)(e:H a=a_ o):a<h.objs.size:=(x a o e).lt
def HOk.fresh(x:HOk H h)(e:h.objs.size<=a):H a=g_:=by
 cases q:H a with
 |none=>rfl|some u=>exact FN (FQ (x.lt q) e) (Ii _)
def HOk.kept(x:HOk H h)(k:∀b u,h.get? b=a_ u->h'.get? b=a_ u):HOk H h':=λa o e=>(x a o e).xA (λb u _ q=>k b u q) (λ_ q=>q) λ_ _ q=>q
theorem HOk.laid(x:HOk H h)(k:∀b u,h.get? b=a_ u->h'.get? b=a_ u)(U:h.objs.size<=a)(S:dq (upd H a o) h' a o):HOk (upd H a o) h':=λb u e=>by
 have J:=x.fresh U;by_cases Y:b=a
 .simp_all[aq]
 .rw[aw Y]at e;exact(x b u e).xA (λc v _ q=>k c v q) (λc q=>by rw[aw (aL q J)];exact q) λc xs q=>by rw[aw (aL q J)];exact q
end
def Rd(H:Hp)(a:k_)(u:HO):Prop:=H a=a_ u\/∃o,H a=a_ (.frz o u)
def Rd.ok{u:HO}(r:Rd H a u)(x:HOk H h):dq H h a u:=by
 rcases r with r|⟨o,r⟩
 .exact x a u r
 .obtain⟨_,q⟩:=x a _ r;exact q
def Mut:Option HO->Prop
 |some (.lst _)=>True|some (.ins _ _ _)=>True|some (.ext _)=>True|_=>False
section
variable{x e:k_}{o':HO}
theorem HOk.write(d:HOk H h)(S:Mut (H x))(g:e=x\/H e=a_ (.own x))(k:∀b u,b≠e->h.get? b=a_ u->h'.get? b=a_ u)(U:∃u,h'.get? e=a_ u)(f:dq (upd H x o') h' x o'):HOk (upd H x o') h':=λb u q=>by
 have J:∀c y,H c=a_ (.own y)->c≠x:=λc y r z=>by subst z;rw[r]at S;exact S
 by_cases i:b=x
 .simp_all[aq]
 .rw[aw i]at q;by_cases Y:b=e
  .have a:H b=a_ (.own x):=by
    rcases g with z|z
    .simp_all
    .rw[Y];exact z
   rw[q]at a;cases a;obtain⟨v,hv⟩:=U;exact⟨v,as⟩
  .refine(d b u q).xA (λc v j r=>k c v ?_ r) (λc r=>by rw[aw (J c b r)];exact r) λc xs r=>by rw[aw ((λc xs r z=>by subst z;rw[r]at S;exact S) c xs r)];exact r
   grind
end
structure Un(fs ex:List k_)(H H':Hp)(h h':FX):Prop where
 keep:∀b o,h.get? b=a_ o->H b=g_->b∉fs->b∉ex->h'.get? b=a_ o
 slot:∀b o,h.get? b=a_ o->H b=g_->b∈fs->b∉ex->∃sl,h'.get? b=a_ {o with slots:=sl}
 free:∀b o,h.get? b=a_ o->H b=g_->b∉ex->H' b=g_
 there:∀b o,h.get? b=a_ o->b∉ex->∃o',h'.get? b=a_ o'
 tups:∀b xs,H b=a_ (.tup xs)->H' b=a_ (.tup xs)
 frzs:∀b o u,H b=a_ (.frz o u)->H' b=a_ (.frz o u)
 tbls:∀b ps,H b=a_ (.tbl ps)->∃more,H' b=a_ (.tbl (ps++more))
section
variable{fs ex:List k_}{H1:Hp}{h1:FX}{x e:k_}{o:HO}
def Un.any(u:Un fs ex H H1 h h1){J:JM}(q:h.get? b=a_ J)(n:H b=g_)(S:b∉ex):∃sl,h1.get? b=a_ {J with slots:=sl}:=by
 by_cases U:b∈fs
 .exact u.slot b J q n U S
 .exact⟨J.slots,u.keep b J q n U S⟩
theorem Un.kept(k:∀b u,h.get? b=a_ u->h'.get? b=a_ u):Un fs ex H H h h':=
 ⟨λb J q _ _ _=>k b J q,λb J q _ _ _=>⟨J.slots,k b J q⟩,λ_ _ _ n _=>n,λb J q _=>⟨J,k b J q⟩,λ_ _ q=>q,λ_ _ _ q=>q,λ_ ps q=>⟨#[],as⟩⟩
def Un.refl:Un fs ex H H h h:=Un.kept λ_ _ q=>q
def Un.laid(k:∀b u,h.get? b=a_ u->h'.get? b=a_ u)(S:h.objs.size<=a)(J:H a=g_):Un fs ex H (upd H a o) h h' where
 keep:=λb u q _ _ _=>k b u q
 slot:=λb u q _ _ _=>⟨u.slots,k b u q⟩
 free:=λb u q n _=>by rw[aw (E_ (FQ (m_ q) S))];exact n
 there:=λb u q _=>⟨u,k b u q⟩
 tups:=λb xs q=>by rw[aw (aL q J)];exact q
 frzs:=λb u xs q=>by rw[aw (aL q J)];exact q
 tbls:=λb ps q=>⟨#[],by rw[aw (aL q J),q];simp⟩
theorem Un.write(S:Mut (H x))(c:e=x\/H e=a_ (.own x))(k:∀b u,b≠e->h.get? b=a_ u->h'.get? b=a_ u)(a:∃u,h'.get? e=a_ u):Un fs ex H (upd H x o) h h':=by
 have Y:∀b,H b=g_->b≠x:=λb n z=>by subst z;rw[n]at S;exact S
 have U:∀b,H b=g_->b≠e:=λb n z=>by simp_all
 have J:∀b u,H b=a_ u->¬Mut (a_ u)->b≠x:=λb u q nm z=>by simp_all
 refine⟨λb u q n _ _=>k b u (U b n) q,λb u q n _ _=>⟨u.slots,k b u (U b n) q⟩,λb u q n _=>by rw[aw (Y b n)];exact n,λb u q _=>?_,
  λb xs q=>by rw[aw (J b _ q λz=>z)];exact q,λb u xs q=>by rw[aw (J b _ q λz=>z)];exact q,λb ps q=>⟨#[],by rw[aw (J b _ q λz=>z),q];simp⟩⟩
 grind
end
noncomputable def trk(h:FX)(H:Hp):List k_:=(A1 h.objs.size).filter λa=>(H a).isSome
def hidT(h:FX)(H:Hp):FX:=PySem.W.hideAll h (trk h H)
def Er(h:FX)(H:Hp):(hidT h H).objs.size=h.objs.size:=PySem.W.hideAll_size _ _
theorem hidT_get{o:JM}(e:h.get? b=a_ o)(n:H b=g_):(hidT h H).get? b=a_ o:=
 PySem.W.hideAll_get _ e λJ=>by
  have q:=(Gv.mp J).2
  simp_all
theorem of_hidT{o:JM}(e:(hidT h H).get? b=a_ o):h.get? b=a_ o/\H b=g_:=by
 have J:=PySem.W.of_hideAll _ e;refine⟨J,?_⟩
 cases q:H b with
 |none=>rfl|some x=>
  have z:(hidT h H).get? b=g_:=PySem.W.hideAll_none _ (Gv.mpr ⟨C_.mpr (m_ J),by simp[q]⟩)
  simp_all
structure Mod(K:Pn)(mg:Ld)(base:FX):Prop where
 kin:K.In base
 glob:base.Ns Gu mg
 blt:∃mb,base.Ns PK mb/\∀x:FU,x≠"__name__"->mb x=Hi x
 nolimit:base.NoLimit
structure Cx where
 prog:Gf
 w:GS
 K:Pn
 mg:Ld
 base:FX
 A:G8
 N:List FU
 s₀:i_
 H₀:Hp
 env:MT
 outer:List MT
 stack:List MT
 ex:List k_
 fn:FU->Bool
 calm:Bool
 pn:Vp
 xe:Mq
variable{X:Cx}
noncomputable def frs(l:List MT):List k_:=l.filterMap (·.frame)
abbrev Cx.fs(X:Cx):List k_:=frs X.outer
def Vis(sc:Mm)(x:FU):Prop:=sc.names.lookup x=a_ .local\/sc.names.lookup x=a_ .cell\/sc.names.lookup x=a_ .free
def Loc(sc:Mm)(x:FU):Prop:=sc.names.lookup x=a_ .local\/sc.names.lookup x=a_ .cell
def Look(env:MT)(h:FX)(m:Ld)(x:FU)(u:h_):Prop:=
 (env.kindOf x=a_ .local/\m x=a_ u)\/((env.kindOf x=a_ .cell\/env.kindOf x=a_ .free)/\∃c,env.cells.lookup x=a_ c/\h.IsCell c (a_ u))
structure Cx.Ok(X:Cx):Prop where
 mod:Mod X.K X.mg X.base
 kind:X.env.scope.kind=.function
 glob:X.env.globals=Gu
 blt:X.env.builtins=PK
 above:X.s₀.heap.objs.size<=X.env.locals
 inj:∀x y c,X.env.cells.lookup x=a_ c->X.env.cells.lookup y=a_ c->x=y
 has:∀x,(X.env.kindOf x=a_ .cell\/X.env.kindOf x=a_ .free)->∃c,X.env.cells.lookup x=a_ c
 cab:∀x c,X.fn x=f_->X.env.cells.lookup x=a_ c->X.s₀.heap.objs.size<=c
 hd:X.calm=f_->X.A.handled=g_
 frames:X.A.frames=a_ X.stack
 stk:X.stack=X.outer\/(X.stack=X.env::X.outer/\X.env.frame=a_ X.env.locals)
 exf:∀b∈X.ex,b≠X.env.locals/\∀x c,X.env.cells.lookup x=a_ c->c≠b
 bs:∀b o,X.base.get? b=a_ o->X.s₀.heap.get? b=a_ o/\X.H₀ b=g_
 bsz:X.base.objs.size<=X.s₀.heap.objs.size
 noex:∀b o,X.base.get? b=a_ o->b∉X.ex
 exfs:∀b∈X.ex,b∉X.fs
 wj:X.s₀.heap.FunFrames X.base X.outer
 frf:∀b∈X.fs,X.H₀ b=g_
structure B3(X:Cx)(B2:Vp)(σ:List (Option V))(H:Hp)(s:i_):Prop where
 ok:X.Ok
 os:s.os=X.s₀.os
 bare:KG s.gens
 base:Un X.fs X.ex X.H₀ H X.s₀.heap s.heap
 loc:∃m,s.heap.Ns X.env.locals m/\∀(i:Nat) (x:FU) (v:V),X.N[i]?=a_ x->σ[i]?=a_ (a_ v)->Vis X.env.scope x->∃u,B5 v u/\Look X.env s.heap m x u
 cell:∀x c,X.env.cells.lookup x=a_ c->∃v,s.heap.IsCell c v
 free:H X.env.locals=g_
 freeC:∀x c,X.env.cells.lookup x=a_ c->H c=g_
 pin:∀p∈X.pn++B2,s.heap.get? p.1=a_ p.2/\H p.1=g_/\p.1≠X.env.locals/\p.1∉X.fs/\∀v,p.2.data≠.cell v
 hok:HOk H s.heap
 len:σ.length=X.N.length
section
variable{σ:List (Option V)}{s:i_}
theorem Cx.Ok.nofr(J:X.Ok){o:JM}(e:X.base.get? b=a_ o):b∉X.fs:=λS=>by
 have:=(J.wj.mem S).1
 simp_all
theorem B3.bs(I:B3 X B2 σ H s):∀b o,X.base.get? b=a_ o->s.heap.get? b=a_ o/\H b=g_:=λb o e=>⟨I.base.keep b o (I.ok.bs b o e).1 (I.ok.bs b o e).2 (I.ok.nofr e) (I.ok.noex b o e),I.base.free b o (I.ok.bs b o e).1 (I.ok.bs b o e).2 (I.ok.noex b o e)⟩
def B3.bk(I:B3 X B2 σ H s):∀b o,X.base.get? b=a_ o->s.heap.get? b=a_ o:=λb o e=>(I.bs b o e).1
theorem B3.mod(I:B3 X B2 σ H s):Mod X.K X.mg X.base:=I.ok.mod
def B3.kIn(I:B3 X B2 σ H s):X.K.In s.heap:=I.ok.mod.kin.keeps I.bk
theorem B3.lt(I:B3 X B2 σ H s):X.env.locals<s.heap.objs.size:=let ⟨_,J,_⟩:=I.loc;J.lt
def B3.sz(I:B3 X B2 σ H s):X.s₀.heap.objs.size<=s.heap.objs.size:=Gg I.ok.above (HI I.lt)
def B3.nofs(I:B3 X B2 σ H s)(h:s.heap.objs.size<=a):a∉X.fs:=λS=>by obtain⟨_,o,J,_⟩:=I.ok.wj.mem S;exact FN (FQ (m_ J) (Gg I.sz h)) (Ii _)
theorem B3.cne(I:B3 X B2 σ H s):∀x c,X.env.cells.lookup x=a_ c->c≠X.env.locals:=λx c e z=>by
 obtain⟨v,o,U,hd⟩:=I.cell x c e;obtain⟨m,⟨o',es,ep,J,S,_⟩,_⟩:=I.loc
 simp_all
theorem B3.wj(I:B3 X B2 σ H s):s.heap.FunFrames X.base X.outer:=by
 have S:∀(l:List MT),(∀b∈frs l,b∈X.fs)->X.s₀.heap.FunFrames X.base l->s.heap.FunFrames X.base l:=by
  intro l
  induction l with
  |nil=>intro _ _;trivial|cons env r a=>intro U g;obtain⟨h,⟨L,o,i,f,d,hd⟩,c⟩:=g;have J:=U L (by simp_all[frs]);obtain⟨sl,e⟩:=I.base.slot L o d (I.ok.frf L J) J λz=>I.ok.exfs L z J;exact⟨h,⟨L,_,i,f,e,hd⟩,a (λb Y=>U b (by simp_all[frs])) c⟩
 exact S X.outer (λ_ Y=>Y) I.ok.wj
theorem B3.stack(I:B3 X B2 σ H s):s.heap.FunFrames X.base X.stack:=by
 rcases I.ok.stk with e|⟨e,S⟩
 .rw[e];exact I.wj
 .rw[e];obtain⟨m,J,_⟩:=I.loc;refine .cons (by rw[I.ok.kind];decide) S J ?_ I.wj;exact K3 (Gg I.ok.bsz I.ok.above)
theorem B3.qQ(I:B3 X B2 σ H s):∀b∈frs X.stack,b∈X.env.locals::X.fs:=λb S=>by
 rcases I.ok.stk with e|⟨e,J⟩
 .simp_all
 simp_all[frs]
def B3.CW(I:B3 X B2 σ H s):∀b∈frs X.stack,H b=g_:=λb J=>by
 rcases n_.mp (I.qQ b J)with e|J
 .rw[e];exact I.free
 .obtain⟨_,o,S,_⟩:=I.ok.wj.mem J;exact I.base.free b o S (I.ok.frf b J) λz=>I.ok.exfs b z J
theorem B3.step{t':Nat}{R:Qc}(I:B3 X B2 σ H s)(a:∀b∈ch,(b∈X.ex\/X.s₀.heap.objs.size<=b)/\b≠X.env.locals/\(∀x c,X.env.cells.lookup x=a_ c->c≠b)/\∀p∈X.pn++B2,p.1≠b)(Y:∀b o,b≠X.env.locals->b∉X.fs->b∉ch->s.heap.get? b=a_ o->H b=g_->h'.get? b=a_ o)(h:∀b o,b≠X.env.locals->b∈X.fs->b∉ch->s.heap.get? b=a_ o->H b=g_->∃sl,h'.get? b=a_ {o with slots:=sl})(S:∀b o,b∉ch->s.heap.get? b=a_ o->H b=g_->H' b=g_)(j:∀b o,b∉ch->s.heap.get? b=a_ o->∃o',h'.get? b=a_ o')(y:∀b xs,H b=a_ (.tup xs)->H' b=a_ (.tup xs))(C:∀b o u,H b=a_ (.frz o u)->H' b=a_ (.frz o u))(F:∀b ps,H b=a_ (.tbl ps)->∃B,H' b=a_ (.tbl (ps++B)))(ns:∀m,s.heap.Ns X.env.locals m->h'.Ns X.env.locals m)(E:HOk H' h')(Q:KG g'):
  B3 X B2 σ H' {s with heap:=h',gens:=g',drawn:=R,toks:=t'}:=by
 have A:∀b o,X.s₀.heap.get? b=a_ o->b≠X.env.locals:=λb o e=>E_ (FQ (m_ e) I.ok.above);have g:∀b o,X.s₀.heap.get? b=a_ o->b∉X.ex->b∉ch:=λb o e J t=>by
  rcases(a b t).1 with z|z
  .exact J z
  .exact FN (FQ (m_ e) z) (Ii _)
 have f:∀x c,X.env.cells.lookup x=a_ c->∀v,s.heap.IsCell c v->h'.IsCell c v:=λx c e v ⟨o,w,hd⟩=>by
  have U:=λz=>(a c z).2.2.1 x c e rfl;by_cases N:c∈X.fs
  .obtain⟨sl,q⟩:=h c o (I.cne x c e) N U w (I.freeC x c e);exact⟨_,q,hd⟩
  .exact⟨o,Y c o (I.cne x c e) N U w (I.freeC x c e),hd⟩
 refine⟨I.ok,I.os,Q,⟨λb o e n t J=>?_,λb o e n t J=>?_,λb o e n J=>?_,λb o e J=>?_,λb xs e=>y b xs (I.base.tups b xs e),λb o xs e=>C b o xs (I.base.frzs b o xs e),λb ps e=>?_⟩,?_,λx c e=>?_,?_,λx c e=>?_,λp L=>?_,E,I.len⟩
 .exact Y b o (A b o e) t (g b o e J) (I.base.keep b o e n t J) (I.base.free b o e n J)
 .obtain⟨sl,e1⟩:=I.base.slot b o e n t J;obtain⟨D,e2⟩:=h b _ (A b o e) t (g b o e J) e1 (I.base.free b o e n J);exact⟨D,e2⟩
 .obtain⟨o',e1⟩:=I.base.there b o e J;exact S b o' (g b o e J) e1 (I.base.free b o e n J)
 .obtain⟨o',e1⟩:=I.base.there b o e J;exact j b o' (g b o e J) e1
 .obtain⟨T,e1⟩:=I.base.tbls b ps e
  grind
 .obtain⟨m,O,P⟩:=I.loc;refine⟨m,ns m O,λi x v e1 e2 e3=>?_⟩
  obtain⟨u,r,l⟩:=P i x v e1 e2 e3;refine⟨u,r,?_⟩
  rcases l with l|⟨k,c,e,z⟩
  .exact .inl l
  .exact .inr ⟨k,c,e,f x c e _ z⟩
 .obtain⟨v,z⟩:=I.cell x c e;exact⟨v,f x c e v z⟩
 .obtain⟨m,⟨o,_,_,w,_⟩,_⟩:=I.loc;exact S _ o (λz=>(a _ z).2.1 rfl) w I.free
 .obtain⟨v,o,w,hd⟩:=I.cell x c e;exact S c o (λz=>(a c z).2.2.1 x c e rfl) w (I.freeC x c e)
 .obtain⟨e,n,K,G,d⟩:=I.pin p L;have U:=λz=>(a p.1 z).2.2.2 p L rfl;exact⟨Y p.1 p.2 K G U e n,S p.1 p.2 U e n,K,G,d⟩
def B3.un{t':Nat}(I:B3 X B2 σ H s)(u:Un X.fs [] H H' s.heap h')(S:HOk H' h'):B3 X B2 σ H' {s with heap:=h',toks:=t'}:=by
 obtain⟨m,⟨o,es,ep,a,r⟩,_⟩:=id I.loc;obtain⟨sl,d⟩:=u.any a I.free aj;exact I.step (ch:=[]) (λ_ z=>nomatch z) (λb o _ U _ e n=>u.keep b o e n U aj) (λb o _ U _ e n=>u.slot b o e n U aj) (λb o _ e n=>u.free b o e n aj) (λb o _ e=>u.there b o e aj) u.tups u.frzs u.tbls (λf c=>by obtain⟨o',Y,ep',J,r'⟩:=c;rw[a]at J;cases J;exact⟨_,Y,ep',d,r'⟩) S I.bare
def B3.call{t':Nat}{j:Qc}(I:B3 X B2 σ H s)(u:Un (frs X.stack) ch H H' s.heap h')(Y:HOk H' h')(h:KG g')(U:∀b∈ch,(b∈X.ex\/X.s₀.heap.objs.size<=b)/\b≠X.env.locals/\(∀x c,X.env.cells.lookup x=a_ c->c≠b)/\∀p∈X.pn++B2,p.1≠b):
  B3 X B2 σ H' {s with heap:=h',gens:=g',drawn:=j,toks:=t'}:=by
 obtain⟨m,⟨o,es,ep,f,r⟩,_⟩:=id I.loc;obtain⟨sl,a⟩:=u.any f I.free λz=>(U _ z).2.1 rfl;exact I.step U (λb o a i J e n=>u.keep b o e n (λz=>(n_.mp (I.qQ b z)).elim a i) J) (λb o _ _ J e n=>u.any e n J) (λb o J e n=>u.free b o e n J) (λb o J e=>u.there b o e J) u.tups u.frzs u.tbls (λk g=>by obtain⟨o',d,ep',S,r'⟩:=g;rw[f]at S;cases S;exact⟨_,d,ep',a,r'⟩) Y h
theorem B3.turned{t':Nat}{J:k_}(I:B3 X B2 σ H s)(k:∀b o,b≠J->s.heap.get? b=a_ o->h'.get? b=a_ o)(h:H J=g_)(U:J≠X.env.locals)(h1:J∈X.ex\/X.s₀.heap.objs.size<=J)(g:∀x c,X.env.cells.lookup x=a_ c->c≠J)(f:∀p∈X.pn++B2,p.1≠J):B3 X B2 σ H {s with heap:=h',toks:=t'}:=by
 refine I.step (ch:=[J]) (λb d=>?_) (λb o _ _ S e _=>k b o (λz=>S (by simp[z])) e) (λb o _ _ S e _=>⟨o.slots,k b o (λz=>S (by simp[z])) e⟩) (λ_ _ _ _ n=>n)
  (λb o S e=>⟨o,k b o (λz=>S (by simp[z])) e⟩) (λ_ _ e=>e) (λ_ _ _ e=>e) (λb ps e=>⟨#[],as⟩) (λm a=>?_) (λb u e=>?_) I.bare
 .have e:=by simpa using d
  subst e;exact⟨h1,U,g,f⟩
 .obtain⟨o,es,ep,Y,r⟩:=a;exact⟨o,es,ep,k _ o (GX U) Y,r⟩
 .refine(I.hok b u e).xA (λc v S q=>k c v ?_ q) (λ_ q=>q) λ_ _ q=>q
  lia
def B3.tok(I:B3 X B2 σ H s)(t:Nat):B3 X B2 σ H {s with toks:=t}:=I.un Un.refl I.hok
theorem B3.kept{t':Nat}(I:B3 X B2 σ H s)(k:∀b u,s.heap.get? b=a_ u->h'.get? b=a_ u):B3 X B2 σ H {s with heap:=h',toks:=t'}:=I.un (Un.kept k) (I.hok.kept k)
theorem B3.laid{a:k_}{o:HO}{t':Nat}(I:B3 X B2 σ H s)(k:∀b u,s.heap.get? b=a_ u->h'.get? b=a_ u)(S:s.heap.objs.size<=a)(J:dq (upd H a o) h' a o):
  B3 X B2 σ (upd H a o) {s with heap:=h',toks:=t'}:=I.un (Un.laid k S (I.hok.fresh S)) (I.hok.laid k S J)
theorem B3.write{x e:k_}{o:HO}{t':Nat}(I:B3 X B2 σ H s)(U:Mut (H x))(Y:e=x\/H e=a_ (.own x))(k:∀b u,b≠e->s.heap.get? b=a_ u->h'.get? b=a_ u)(J:∃u,h'.get? e=a_ u)(S:dq (upd H x o) h' x o):B3 X B2 σ (upd H x o) {s with heap:=h',toks:=t'}:=I.un (Un.write U Y k J) (I.hok.write U Y k J S)
def B3.weak{σ':List (Option V)}(I:B3 X B2 σ H s)(U:σ'.length=σ.length)(w:∀(i:Nat) v,σ'[i]?=a_ (a_ v)->σ[i]?=a_ (a_ v)):B3 X B2 σ' H s:=
 ⟨I.ok,I.os,I.bare,I.base,let ⟨m,S,J⟩:=I.loc;⟨m,S,λi x v e1 e2 e3=>J i x v e1 (w i v e2) e3⟩,I.cell,I.free,I.freeC,I.pin,I.hok,U.trans I.len⟩
def B3.sY{pins':Vp}(I:B3 X B2 σ H s)(h:∀p∈pins',s.heap.get? p.1=a_ p.2/\H p.1=g_/\p.1≠X.env.locals/\p.1∉X.fs/\∀v,p.2.data≠.cell v):B3 X pins' σ H s:=
 ⟨I.ok,I.os,I.bare,I.base,I.loc,I.cell,I.free,I.freeC,λp J=>(Gn.mp J).elim (λz=>I.pin p (NM _ z)) (h p),I.hok,I.len⟩
def tB(J:N.Nodup)(a:N[i]?=a_ x)(b:N[j]?=a_ x):i=j:=by obtain⟨h1,e1⟩:=v_.mp a;obtain⟨S,e2⟩:=v_.mp b;exact(List.getElem_inj J).mp (e1.trans e2.symm)
theorem v8{M:MQ}(I:B3 X B2 σ H s)(hN:X.N.Nodup)(hi:X.N[i]?=a_ x)(U:Loc X.env.scope x)(r:B5 v u)(h:∀s',B3 X B2 (σ.set i (a_ v)) H s'->(∃a,Hd a s.heap s'.heap/\(a=X.env.locals\/X.env.cells.lookup x=a_ a))->Q () s')(hf:autoParam (X.fn x=f_\/X.env.scope.names.lookup x=a_ .local) Jq4):r_ M A (storeName X.env x u) Q E s:=by
 obtain⟨m,W,hl⟩:=id I.loc;have C:(X.env.scope.kind==.class||(X.env.scope.kind==.module&&X.env.locals != X.env.globals))=c_:=by rw[I.ok.kind];rfl
 have f:i<σ.length:=by rw[I.len];exact(v_.mp hi).1
 have w:=I.cne;have S:∀{a:k_} {h':FX},(∃o,s.heap.get? a=a_ o/\H a=g_)->Hd a s.heap h'->HOk H h':=λ{a h'} ha J b ob e=>by
  refine(I.hok b ob e).xA (λc G Y q=>(J.2 c ?_).trans q) (λ_ q=>q) λ_ _ q=>q
  lia
 rcases U with B|B
 .refine wpAny_storeName_local B W (λh' T J=>?_) C;obtain⟨oL,_,_,R,_⟩:=id W;refine h _ ⟨I.ok,I.os,I.bare,⟨λb o e n t U=>?_,λb o e n t U=>?_,I.base.free,λb o e U=>?_,I.base.tups,I.base.frzs,I.base.tbls⟩,⟨_,T,λj y K e1 e2 e3=>?_⟩,λy c e=>?_,I.free,I.freeC,λp O=>?_,S ⟨oL,R,I.free⟩ J,by simpa using I.len⟩ ⟨_,J,.inl rfl⟩
  .exact(J.2 b (E_ (FQ (m_ e) I.ok.above))).trans (I.base.keep b o e n t U)
  .obtain⟨sl,e1⟩:=I.base.slot b o e n t U;exact⟨sl,(J.2 b (E_ (FQ (m_ e) I.ok.above))).trans e1⟩
  .obtain⟨o',e1⟩:=I.base.there b o e U;exact⟨o',(J.2 b (E_ (FQ (m_ e) I.ok.above))).trans e1⟩
  .by_cases g:j=i
   .subst g;rw[hi]at e1;cases e1;rw[Cb f]at e2;cases e2;exact⟨u,r,.inl ⟨B,aj⟩⟩
   .rw[z_ (GX g)]at e2;obtain⟨L,r',q⟩:=hl j y K e1 e2 e3;refine⟨L,r',?_⟩
    rcases q with⟨k,e⟩|⟨k,c,e,z⟩
    .refine .inl ⟨k,?_⟩;have:y≠x:=λe=>g (tB hN e1 (e▸hi))
     simp_all
    .exact .inr ⟨k,c,e,z.sameBut J (w y c e)⟩
  .obtain⟨G,z⟩:=I.cell y c e;exact⟨G,z.sameBut J (w y c e)⟩
  .obtain⟨e,n,D,N,d⟩:=I.pin p O;exact⟨(J.2 p.1 D).trans e,n,D,N,d⟩
 .have l:X.fn x=f_:=by
   rcases hf with z|z
   .exact z
   .simp_all
  obtain⟨c,Y⟩:=I.ok.has x (.inl B);obtain⟨G,z⟩:=I.cell x c Y;refine wpAny_storeName_cell I.ok.kind B Y z (λh' hc' J=>?_);obtain⟨oc,P,hocd⟩:=id z;refine h {s with heap:=h'} ⟨I.ok,I.os,I.bare,⟨λb o e n t U=>?_,λb o e n t U=>?_,I.base.free,λb o e U=>?_,I.base.tups,I.base.frzs,I.base.tbls⟩,⟨m,W.sameBut J (GX (w x c Y)),λj y K e1 e2 e3=>?_⟩,λy F e=>?_,I.free,I.freeC,λp O=>?_,S ⟨oc,P,I.freeC x c Y⟩ J,by simpa using I.len⟩ ⟨c,J,.inr Y⟩
  .exact(J.2 b (E_ (FQ (m_ e) (I.ok.cab x c l Y)))).trans (I.base.keep b o e n t U)
  .obtain⟨sl,e1⟩:=I.base.slot b o e n t U;exact⟨sl,(J.2 b (E_ (FQ (m_ e) (I.ok.cab x c l Y)))).trans e1⟩
  .obtain⟨o',e1⟩:=I.base.there b o e U;exact⟨o',(J.2 b (E_ (FQ (m_ e) (I.ok.cab x c l Y)))).trans e1⟩
  .by_cases g:j=i
   .subst g;rw[hi]at e1;cases e1;rw[Cb f]at e2;cases e2;exact⟨u,r,.inr ⟨.inl B,c,Y,hc'⟩⟩
   .rw[z_ (GX g)]at e2;obtain⟨L,r',q⟩:=hl j y K e1 e2 e3;refine⟨L,r',?_⟩
    rcases q with q|⟨k,F,e,z'⟩
    .exact .inl q
    .refine .inr ⟨k,F,e,z'.sameBut J ?_⟩;rintro rfl;exact g (tB hN e1 (I.ok.inj _ _ _ e Y▸hi))
  .by_cases Z:F=c
   .grind
   .obtain⟨w2,z2⟩:=I.cell y F e;exact⟨w2,z2.sameBut J Z⟩
  .obtain⟨e,n,D,N,d⟩:=I.pin p O;refine⟨(J.2 p.1 ?_).trans e,n,D,N,d⟩
   grind
def kO{M:MQ}(I:B3 X B2 σ H s)(U:X.N.Nodup)(hi:X.N[i]?=a_ x)(J:Loc X.env.scope x)(r:B5 v u)(h:∀s',B3 X B2 (σ.set i (a_ v)) H s'->Q () s')(S:autoParam (X.fn x=f_\/X.env.scope.names.lookup x=a_ .local) Jq4):r_ M A (storeName X.env x u) Q E s:=
 v8 I U hi J r (λs' Y _=>h s' Y) S
def B3.call'(I:B3 X B2 σ H s)(U:s'.os=s.os)(u:Un (frs X.stack) ch H H' s.heap s'.heap)(J:HOk H' s'.heap)(Y:KG s'.gens)(S:∀b∈ch,(b∈X.ex\/X.s₀.heap.objs.size<=b)/\b≠X.env.locals/\(∀x c,X.env.cells.lookup x=a_ c->c≠b)/\∀p∈X.pn++B2,p.1≠b):B3 X B2 σ H' s':=by obtain⟨h',g',a,t',o'⟩:=s';subst U;exact I.call u J Y S
end
abbrev XK:=h_->Option k_->Hp->Prop
noncomputable abbrev St:=List (Option V)
variable{σ:St}
abbrev VK:=V->Hp->Prop
abbrev TE:=St->Hp->VK->Prop
variable{ta tb te:TE}
abbrev TT:=St->Hp->(Bool->Hp->Prop)->Prop
variable{tc:TT}
abbrev TA:=St->Hp->(a0->Hp->Prop)->Prop
structure Ends where
 nx:St->Hp->Prop
 rt:VK
 bk:St->Hp->Prop:=λ_ _=>False
 ct:St->Hp->Prop:=λ_ _=>False
abbrev TS:=Ends->St->Hp->Prop
inductive EP(X:Cx)(B2:Vp)(σ:St)(Q:VK)(u:h_)(s':i_):Prop
 |mk (v:V) (H':Hp) (I:B3 X B2 σ H' s') (r:B5 v u) (q:Q v H')
inductive TP(X:Cx)(B2:Vp)(σ:St)(Q:Bool->Hp->Prop)(b:Bool)(s':i_):Prop
 |mk (H':Hp) (I:B3 X B2 σ H' s') (q:Q b H')
inductive AP(X:Cx)(B2:Vp)(σ:St)(Q:List V->Hp->Prop)(us:List h_)(s':i_):Prop
 |mk (vs:List V) (H':Hp) (I:B3 X B2 σ H' s') (r:B6 vs us) (q:Q vs H')
inductive NP(X:Cx)(B2:Vp)(Q:St->Hp->Prop)(s':i_):Prop
 |mk (σ':St) (H':Hp) (I:B3 X B2 σ' H' s') (q:Q σ' H')
inductive RP(X:Cx)(B2:Vp)(Q:VK)(u:h_)(s':i_):Prop
 |mk (v:V) (σ':St) (H':Hp) (I:B3 X B2 σ' H' s') (r:B5 v u) (q:Q v H')
def SP(X:Cx)(B2:Vp)(D:Ends)(f:Flow)(s':i_):Prop:=
 match f with
 |.next=>NP X B2 D.nx s'|.brk=>NP X B2 D.bk s'|.cont=>NP X B2 D.ct s'|.ret u=>RP X B2 D.rt u s'
def PE(X:Cx)(e:GI)(t:TE):Prop:=
 ∀(B2:Vp) (s:i_) (σ:St) (H:Hp) (Q:VK),B3 X B2 σ H s->t σ H Q->r_ (x_ X.prog X.w) X.A (FL e X.env) (EP X B2 σ Q) X.xe s
def PT(X:Cx)(e:GI)(t:TT):Prop:=
 ∀(B2:Vp) (s:i_) (σ:St) (H:Hp) (Q:Bool->Hp->Prop),B3 X B2 σ H s->t σ H Q->r_ (x_ X.prog X.w) X.A (Ou e X.env (FL e X.env)) (TP X B2 σ Q) X.xe s
def PW(X:Cx)(e:GI)(t:TT):Prop:=
 ∀(J:OM h_) (B2:Vp) (s:i_) (σ:St) (H:Hp) (Q:Bool->Hp->Prop),B3 X B2 σ H s->t σ H Q->r_ (x_ X.prog X.w) X.A (Ou e X.env J) (TP X B2 σ Q) X.xe s
def PW.pt{t:TT}(h:PW X e t):PT X e t:=h _
def PA(X:Cx)(es:List GI)(t:TA):Prop:=
 ∀(pos:Qr) (B2:Vp) (s:i_) (σ:St) (H:Hp) (Q:a0->Hp->Prop),B3 X B2 σ H s->t σ H Q->r_ (x_ X.prog X.w) X.A (spliced (GG pos (j_ es X.env))) (AP X B2 σ Q) X.xe s
def PS(X:Cx)(st:GH)(t:TS):Prop:=
 ∀(B2:Vp) (s:i_) (σ:St) (H:Hp) (D:Ends),B3 X B2 σ H s->t D σ H->r_ (x_ X.prog X.w) X.A (exec st X.env) (SP X B2 D) X.xe s
def PSs(X:Cx)(st:List GH)(t:TS):Prop:=
 ∀(B2:Vp) (s:i_) (σ:St) (H:Hp) (D:Ends),B3 X B2 σ H s->t D σ H->r_ (x_ X.prog X.w) X.A (execs st X.env) (SP X B2 D) X.xe s
def B'{α:Type}{t:OM α}{Q J:α->i_->Prop}{M:MQ}{s:i_}(h:r_ M A t Q E s)(S:∀a s,Q a s->J a s):r_ M A t J E s:=Gx h S λ_ _ x=>x
section
noncomputable def tVar(i:Nat):TE:=λσ H Q=>∃v,σ[i]?=a_ (a_ v)/\Q v H
noncomputable def tC(v:V):TE:=λ_ H Q=>Q v H
def pe_int{i j pos}:PE X (.Constant (.int i) j pos) (tC (.int i)):=λ_ _ _ H _ I h=>wpAny_Constant_int ⟨.int i,H,I.tok _,⟨_,rfl⟩,h⟩
def pe_bl{b j pos}:PE X (.Constant (.bool b) j pos) (tC (.bl b)):=λ_ _ _ H _ I h=>Constant_bool ⟨.bl b,H,I,rfl,h⟩
def pe_non{j pos}:PE X (.Constant .none j pos) (tC .non):=λ_ _ _ H _ I h=>Constant_none ⟨.non,H,I,rfl,h⟩
def Gl(X:Cx)(x:FU):Prop:=X.env.kindOf x=a_ .globalImplicit
def ju{s:i_}{Q:Mq}(I:B3 X B2 σ H s)(S:Gl X x)(J:X.mg x=a_ u)(h:Q u s)(hd:((x==("__debug__":FU))=c_)⁻¹):r_ (x_ X.prog X.w) X.A (FL (.Name x pos) X.env) Q E s:=
 Mr I.ok.kind S (Calls.loadGlobal_global (by rw[I.ok.glob];exact I.mod.glob.keeps I.bk) J h) hd
def gH{s:i_}{Q:Mq}(I:B3 X B2 σ H s)(U:Gl X x)(S:X.mg x=g_)(hv:Hi x=a_ u)(h:Q u s)(J:(x≠"__name__")⁻¹)(hd:((x==("__debug__":FU))=c_)⁻¹):r_ (x_ X.prog X.w) X.A (FL (.Name x pos) X.env) Q E s:=by obtain⟨a,h1,Y⟩:=I.mod.blt;exact Mr I.ok.kind U (Calls.loadGlobal_builtin (by rw[I.ok.glob];exact I.mod.glob.keeps I.bk) S (by rw[I.ok.blt];exact h1.keeps I.bk) ((Y x J).trans hv) h) hd
def Dz(S:Gl X x)(J:X.mg x=a_ u)(r:B5 v u)(hd:((x==("__debug__":FU))=c_)⁻¹):PE X (.Name x pos) (tC v):=
 λ_ _ _ H _ I h=>ju I S J ⟨v,H,I,r,h⟩ hd
def pe_bltn(U:Gl X x)(S:X.mg x=g_)(hv:Hi x=a_ u)(r:B5 v u)(J:(x≠"__name__")⁻¹)(hd:((x==("__debug__":FU))=c_)⁻¹):PE X (.Name x pos) (tC v):=
 λ_ _ _ H _ I h=>gH I U S hv ⟨v,H,I,r,h⟩ J hd
variable{a b:GI}
variable{tA tB':TT}{rest:List GI}
def tAnd(t u:TT):TT:=λσ H Q=>t σ H λc H1=>if c=f_ then u σ H1 Q else Q c_ H1
def tOr(t u:TT):TT:=λσ H Q=>t σ H λc H1=>if c=f_ then Q f_ H1 else u σ H1 Q
def tNot(t:TT):TT:=λσ H Q=>t σ H λc H1=>Q (!c) H1
def pw_and(e:PT X a tA)(d:PW X (.BoolOp .And (b::rest) pos) tB'):PW X (.BoolOp .And (a::b::rest) pos) (tAnd tA tB'):=by
 intro S B2 s σ H Q I h;refine isTrue_and (B' (e B2 s σ H _ I h) λc U Y=>?_);obtain⟨H1,J,q1⟩:=Y;cases c with
 |true=>exact d S B2 U σ H1 Q J q1|false=>exact⟨H1,J,q1⟩
def pw_or(e:PT X a tA)(d:PW X (.BoolOp .Or (b::rest) pos) tB'):PW X (.BoolOp .Or (a::b::rest) pos) (tOr tA tB'):=by
 intro S B2 s σ H Q I h;refine isTrue_or (B' (e B2 s σ H _ I h) λc U Y=>?_);obtain⟨H1,J,q1⟩:=Y;cases c with
 |true=>exact⟨H1,J,q1⟩|false=>exact d S B2 U σ H1 Q J q1
def pt_not(S:PT X a tA):PT X (.UnaryOp .Not a pos) (tNot tA):=by intro B2 s σ H Q I h;refine isTrue_not (B' (S B2 s σ H (λc H1=>Q (!c) H1) I h) λ_ _ J=>?_);obtain⟨H1,U,q1⟩:=J;exact⟨H1,U,q1⟩
noncomputable def tAndV(ta tb:TE):TE:=λσ H Q=>ta σ H λx H1=>∃c,x=.bl c/\if c=f_ then tb σ H1 Q else Q (.bl c_) H1
def pe_and(e:PE X a ta)(d:PE X (.BoolOp .And (b::rest) pos) tb):PE X (.BoolOp .And (a::b::rest) pos) (tAndV ta tb):=by
 intro B2 s σ H Q I h;refine BoolOp_and (B' (e B2 s σ H _ I h) λv S Y=>?_);obtain⟨x,H1,J,U,q1⟩:=Y;obtain⟨c,rfl,q1⟩:=q1;cases U;refine G3 ?_;cases c with
 |true=>exact d B2 S σ H1 Q J q1|false=>exact⟨.bl c_,H1,J,rfl,q1⟩
def tIf(t:TT)(ta tb:TE):TE:=λσ H Q=>t σ H λc H1=>if c=f_ then ta σ H1 Q else tb σ H1 Q
def pe_ifExp(Y:PT X c tA)(f:PE X a ta)(e:PE X b tb):PE X (.IfExp c a b pos) (tIf tA ta tb):=by
 intro B2 s σ H Q I h;refine wpAny_IfExp (B' (Y B2 s σ H _ I h) λd J U=>?_);obtain⟨H1,S,q1⟩:=U;cases d with
 |true=>exact f B2 J σ H1 Q S q1|false=>exact e B2 J σ H1 Q S q1
end
inductive KLs(K:Pn)(a:k_)(xs:List V):Prop
 |mk (o:JM) (its:Array h_) (n:Nat) (k:K.lookup a=a_ o) (c:o.cls=.type "list") (d:o.dict=g_) (s:o.data=.seq its n) (z:its.size<=t_) (r:B6 xs its.toList)
inductive KTp(K:Pn)(a:k_)(xs:List V):Prop
 |mk (o:JM) (its:Array h_) (n:Nat) (k:K.lookup a=a_ o) (c:o.cls=.type "tuple") (s:o.data=.seq its n) (z:its.size<=t_) (r:B6 xs its.toList)
def SqL(K:Pn)(H:Hp)(a:k_)(xs:a0):Prop:=Rd H a (.lst xs)\/KLs K a xs
def SqT(K:Pn)(H:Hp)(a:k_)(xs:a0):Prop:=Rd H a (.tup xs)\/KTp K a xs
noncomputable def absV:h_->Option V
 |.none=>a_ .non|.bool b=>a_ (.bl b)|.int i _=>a_ (.int i)|.ref a=>a_ (.ref a)|.type n=>a_ (.ty n)|_=>g_
def B5.abs{x:V}(r:B5 x u):absV u=a_ x:=by
 cases x with
 |non=>cases r;rfl|bl _=>cases r;rfl|int _=>obtain⟨t,rfl⟩:=r;rfl
 |ref _=>cases r;rfl|ty _=>cases r;rfl
def B5.inj{x y:V}{u:h_}(r:B5 x u)(q:B5 y u):x=y:=GN (r.abs.symm.trans q.abs)
theorem B6.inj:∀{xs ys:a0} {us:aH},B6 xs us->B6 ys us->xs=ys
 |_,_,_,.nil,.nil=>rfl|_,_,_,.cons r t,.cons r' t'=>by rw[r.inj r',B6.inj t t']
section
variable{s:i_}{ys:List V}
def SqL.of(h:H a=a_ (.lst xs)):SqL K H a xs:=.inl (.inl h)
def SqT.of(h:H a=a_ (.tup xs)):SqT K H a xs:=.inl (.inl h)
inductive AsQ(P:Array h_->Prop)(xs:List V):Prop
 |mk (its:List h_) (r:B6 xs its) (p:P its.toArray) (z:xs.length<=t_)
theorem B3.list(I:B3 X B2 σ H s)(h:SqL X.K H a xs):AsQ (PlainL s.heap a) xs:=by
 rcases h with h|⟨o,its,n,J,S,hd,Y,U,r⟩
 .obtain⟨z,its,n,r,e⟩:=h.ok I.hok;exact⟨its,r,⟨_,n,e,rfl,rfl,rfl⟩,z⟩
 .refine⟨its.toList,r,⟨o,n,I.kIn a o J,S,hd,as⟩,?_⟩
  have e:=r.length
  simp_all
theorem B3.tuple(I:B3 X B2 σ H s)(h:SqT X.K H a xs):AsQ (Qe s.heap a) xs:=by
 rcases h with h|⟨o,its,n,J,S,Y,U,r⟩
 .obtain⟨z,its,r,p⟩:=h.ok I.hok;exact⟨its,r,p,z⟩
 .refine⟨its.toList,r,⟨o,I.kIn a o J,S,n,as⟩,?_⟩
  have e:=r.length
  simp_all
def B3.nQ(I:B3 X B2 σ H s)(h:SqL X.K H a xs)(h':SqL X.K H a ys):xs=ys:=by
 obtain⟨its,r,⟨o,n,e,_,_,d⟩,_⟩:=I.list h;obtain⟨its',r',⟨o',U,J,_,_,S⟩,_⟩:=I.list h';rw[e]at J;cases J;rw[d]at S;injection S with d1 _
 have:=by simpa using J0 LB d1
 subst this;exact r.inj r'
def B3.kN(I:B3 X B2 σ H s)(h:SqT X.K H a xs)(h':SqT X.K H a ys):xs=ys:=by
 obtain⟨its,r,⟨o,e,_,n,d⟩,_⟩:=I.tuple h;obtain⟨its',r',⟨o',J,_,U,S⟩,_⟩:=I.tuple h';rw[e]at J;cases J;rw[d]at S;injection S with d1 _
 have:=by simpa using J0 LB d1
 subst this;exact r.inj r'
end
noncomputable abbrev Cx.so(X:Cx)(E:Mq):Cx:={X with xe:=E}
abbrev Cx.nox(X:Cx):Cx:=X.so λ_ _=>False
theorem Cx.Ok.so{X:Cx}(J:X.Ok)(E:Mq):(X.so E).Ok:=
 ⟨J.mod,J.kind,J.glob,J.blt,J.above,J.inj,J.has,J.cab,J.hd,J.frames,J.stk,J.exf,J.bs,J.bsz,J.noex,J.exfs,J.wj,J.frf⟩
def Cx.Ok.j5(J:(X.so E).Ok):X.Ok:=
 ⟨J.mod,J.kind,J.glob,J.blt,J.above,J.inj,J.has,J.cab,J.hd,J.frames,J.stk,J.exf,J.bs,J.bsz,J.noex,J.exfs,J.wj,J.frf⟩
section
variable{s:i_}
theorem B3.so(I:B3 X B2 σ H s)(E:Mq):B3 (X.so E) B2 σ H s:=⟨I.ok.so E,I.os,I.bare,I.base,I.loc,I.cell,I.free,I.freeC,I.pin,I.hok,I.len⟩
theorem B3.j5(I:B3 (X.so E) B2 σ H s):B3 X B2 σ H s:=⟨I.ok.j5,I.os,I.bare,I.base,I.loc,I.cell,I.free,I.freeC,I.pin,I.hok,I.len⟩
theorem SP.j5{D:Ends}{f:Flow}{s':i_}(h:SP (X.so E) B2 D f s'):SP X B2 D f s':=by
 cases f with
 |next=>obtain⟨σ',H',I,q⟩:=h;exact⟨σ',H',I.j5,q⟩
 |brk=>obtain⟨σ',H',I,q⟩:=h;exact⟨σ',H',I.j5,q⟩
 |cont=>obtain⟨σ',H',I,q⟩:=h;exact⟨σ',H',I.j5,q⟩
 |ret u=>obtain⟨v,σ',H',I,r,q⟩:=h;exact⟨v,σ',H',I.j5,r,q⟩
theorem PE.nox{e:GI}{t:TE}(h:PE X.nox e t):PE X e t:=λB2 s σ H Q I hw=>Gx (h B2 s σ H Q (I.so _) hw) (λ_ _ ⟨v,H',J,r,q⟩=>⟨v,H',J.j5,r,q⟩) λ_ _ z=>Gh z
theorem PSs.nox{st:List GH}{t:TS}(h:PSs X.nox st t):PSs X st t:=λB2 s σ H D I hw=>Gx (h B2 s σ H D (I.so _) hw) (λ_ _ q=>q.j5) λ_ _ z=>Gh z
end
section
variable{st:GH}{rest:List GH}{t u:TS}
def tNext:TS:=λD σ H=>D.nx σ H
def tSeq(t u:TS):TS:=λD σ H=>t {D with nx:=u D} σ H
def Dm:PSs X [] tNext:=λ_ _ σ H _ I h=>Jo ⟨σ,H,I,h⟩
def kU(h1:PS X st t)(S:PSs X rest u):PSs X (st::rest) (tSeq t u):=by
 intro B2 s σ H D I h;refine MC (B' (h1 B2 s σ H {D with nx:=u D} I h) λf J q=>?_);cases f with
 |next=>obtain⟨σ',H',U,q⟩:=q;exact S B2 J σ' H' D U q
 |ret v=>exact q|brk=>exact q|cont=>exact q
def oz(h1:PS X st t):PSs X [st] t:=by
 intro B2 s σ H D I h;refine MC (B' (h1 B2 s σ H D I h) λf J q=>?_);cases f with
 |next=>exact Jo q|ret v=>exact q|brk=>exact q|cont=>exact q
noncomputable def tCont:TS:=λD σ H=>D.ct σ H
def xZ:PS X (.Continue pos) tCont:=λ_ _ σ H _ I h=>wpAny_Continue ⟨σ,H,I,h⟩
def B3.quiet{s:i_}(I:B3 X B2 σ H s):interactive X.env=c_:=by simp[interactive,I.ok.kind]
def tDrop(te:TE):TS:=λD σ H=>te σ H λ_ H1=>D.nx σ H1
def sV(U:PE X e te)(J: ~~~(G0 e g_ pos.line X.env=G2 c_)):PS X (.Expr e pos) (tDrop te):=by intro B2 s σ H D I h;refine wpAny_Expr_any (B' (U B2 s σ H _ I h) λv a S=>?_) I.quiet J;obtain⟨x,H1,Y,b,q1⟩:=S;exact⟨σ,H1,Y,q1⟩
noncomputable def tRet(te:TE):TS:=λD σ H=>te σ H D.rt
def ps_ret(U:PE X e te):PS X (.Return (a_ e) pos) (tRet te):=by intro B2 s σ H D I h;refine wpAny_Return_some (B' (U B2 s σ H _ I h) λv a S=>?_);obtain⟨x,H1,Y,J,q1⟩:=S;exact⟨x,σ,H1,Y,J,q1⟩
def tIfS(c:TT)(t u:TS):TS:=λD σ H=>c σ H λb H1=>if b=f_ then t D σ H1 else u D σ H1
def ps_if{a b:List GH}(Y:PT X c tc)(f:PSs X a t)(e:PSs X b u):PS X (.If c a b pos) (tIfS tc t u):=by
 intro B2 s σ H D I h;refine wpAny_If (B' (Y B2 s σ H _ I h) λd J U=>?_);obtain⟨H1,S,q1⟩:=U;cases d with
 |true=>exact f B2 J σ H1 D S q1|false=>exact e B2 J σ H1 D S q1
noncomputable def tNever:TS:=λ_ _ _=>False
def vE{sts:List GH}:PSs X sts tNever:=λ_ _ _ _ _ _ h=>h.elim
end
abbrev TG:=V->St->Hp->(St->Hp->Prop)->Prop
abbrev TGs:=a0->St->Hp->(St->Hp->Prop)->Prop
def PG(X:Cx)(J:GI)(t:TG):Prop:=
 ∀(B2:Vp) (s:i_) (σ:St) (H:Hp) (v:V) (u:h_) (Q:St->Hp->Prop),B3 X B2 σ H s->B5 v u->t v σ H Q ->
  r_ (x_ X.prog X.w) X.A (KL J X.env u) (λ_ s'=>NP X B2 Q s') X.xe s
def PGs(X:Cx)(ts:List GI)(t:TGs):Prop:=
 ∀(B2:Vp) (s:i_) (σ:St) (H:Hp) (vs:a0) (us:aH) (Q:St->Hp->Prop),B3 X B2 σ H s->B6 vs us->t vs σ H Q ->
  r_ (x_ X.prog X.w) X.A (assignInOrder ((Ia ts X.env).map (·.2)) us) (λ_ s'=>NP X B2 Q s') X.xe s
abbrev TSet:=V->V->V->Hp->(Hp->Prop)->Prop
def PSet(X:Cx)(t:TSet):Prop:=
 ∀(B2:Vp) (s:i_) (σ:St) (H:Hp) (o i v:V) (J S u:h_) (Q:Hp->Prop),B3 X B2 σ H s->B5 o J->B5 i S->B5 v u->t o i v H Q ->
  r_ (x_ X.prog X.w) X.A (P2 J S u) (λ_ s'=>TP X B2 σ (λ_=>Q) f_ s') X.xe s
noncomputable def ph(i:Nat):TG:=λv σ H Q=>Q (σ.set i (a_ v)) H
def y0(U:X.N.Nodup)(hi:X.N[i]?=a_ x)(J:Loc X.env.scope x)(S:autoParam (X.fn x=f_\/X.env.scope.names.lookup x=a_ .local) Jq4):PG X (.Name x pos) (ph i):=by intro B2 s σ H v u Q I r h;exact PV (kO I U hi J r (λs' Y=>⟨_,H,Y,h⟩) S)
noncomputable def gNil:TGs:=λvs σ H Q=>vs=[]/\Q σ H
def gCons(t:TG)(u:TGs):TGs:=λvs σ H Q=>∃v r,vs=v::r/\t v σ H λσ' H'=>u r σ' H' Q
def zQ{t:TG}{u:TGs}(h1:PG X e t)(b:PGs X es u)(Y: ~~~((Ia (e::es) X.env).map (·.2)=KL e X.env::(Ia es X.env).map (·.2))):PGs X (e::es) (gCons t u):=by
 intro B2 s σ H vs us Q I r h;obtain⟨v,d,e1,h⟩:=h;subst e1;cases r with
 |cons r U=>rw[Y];refine assignInOrder_cons (B' (h1 B2 s σ H _ _ _ I r h) λ_ S a=>?_);obtain⟨J,H1,c,q1⟩:=a;exact b B2 S J H1 _ _ Q c U q1
def gTup(K:Pn)(n:Nat)(t:TGs):TG:=λv σ H Q=>∃a xs,v=.ref a/\SqT K H a xs/\xs.length=n/\t xs σ H Q
def gSub(to J:TE)(t:TSet):TG:=λv σ H Q=>to σ H λo H1=>J σ H1 λi H2=>t o i v H2 λS=>Q σ S
def pg_sub{o i:GI}{to Y:TE}{t:TSet}(g:PE X o to)(hi:PE X i Y)(f:PSet X t)(p:autoParam (∀v,KL (.Subscript o i pos) X.env v=(do
   let J <- IW [v] (FL o X.env)
   let S <- IW [v,J] (FL i X.env)
   K8 pos
   IW [v,J,S] (P2 J S v)
   release [v,J,S] [])) Jq6):PG X (.Subscript o i pos) (gSub to Y t):=by
 intro B2 s σ H v u Q I r h;refine b_ (Gq (B' (g B2 s σ H _ I h) λJ b U=>?_));obtain⟨x,H1,l,d,q1⟩:=U;refine b_ (Gq (B' (hi B2 b σ H1 _ l q1) λS a U=>?_));obtain⟨y,H2,k,c,q2⟩:=U;refine b_ (KI (b_ (Gq (B' (f B2 a σ H2 x y v J S u _ k d c r q2) λ_ n U=>?_))));obtain⟨m,j,e⟩:=U;exact wpAny_release ⟨σ,m,j,e⟩
def tAsg(te:TE)(g:TG):TS:=λD σ H=>te σ H λx H1=>g x σ H1 D.nx
def Dq{g:TG}(b:PE X e te)(a:PG X tg g)(U: ~~~(LU [tg] e pos.line X.env=G2 c_))(hw: ~~~(LV [tg] e X.env=G2 g_))(h1: ~~~((Ia [tg] X.env).map (·.2)=[KL tg X.env])):PS X (.Assign [tg] e pos) (tAsg te g):=by intro B2 s σ H D I h;refine wpAny_Assign_stores (B' (b B2 s σ H _ I h) λv J Y=>?_) U hw;obtain⟨x,H1,c,S,q1⟩:=Y;rw[h1];exact B' (a B2 J σ H1 x v _ c S q1) λ_ d q=>q
def Dn(c:X.N.Nodup)(hi:X.N[i]?=a_ x)(S:Loc X.env.scope x)(b:PE X e te)(U: ~~~(G0 e (a_ (.Name x pos')) pos.line X.env=G2 c_))(a:autoParam (X.fn x=f_\/X.env.scope.names.lookup x=a_ .local) Jq4):
  PS X (.Assign [.Name x pos'] e pos) (tAsg te (ph i)):=by
 intro B2 s σ H D I h;refine PX (B' (b B2 s σ H _ I h) λv j Y=>?_) U;obtain⟨y,H1,f,J,q1⟩:=Y;exact kO f c hi S J (λg d=>⟨_,H1,d,q1⟩) a
def tWhile(c:TT)(tb:TS):TS:=λD σ H=>∃W:Nat->St->Hp->Prop,(∃m,W m σ H)/\∀m σ H,W m σ H ->
 c σ H λb H1=>if b=f_ then ∃N:St->Hp->Prop,(∀σ' H',N σ' H'->∃J,J<m/\W J σ' H')/\tb {D with nx:=N,ct:=N,bk:=D.nx} σ H1 else D.nx σ H1
def ps_while{tb:TS}(d:Og (x_ X.prog X.w) X.A X.env X.xe)(u:PT X c tc)(w:PSs X body tb):PS X (.While c body [] pos) (tWhile tc tb):=by
 intro B2 s σ H D I h;obtain⟨W,⟨t,p⟩,U⟩:=h;refine wpAny_While (codeAny_whileLoop (λn s'=>NP X B2 (W n) s') ?_ t ⟨σ,H,I,p⟩);rintro n r ⟨S,H1,x,o⟩;refine IL d (B' (u B2 r S H1 _ x (U n S H1 o)) λb q d=>?_);obtain⟨H2,m,q2⟩:=d;cases b with
 |true=>
  obtain⟨N,l,q2⟩:=q2;refine IL d (B' (w B2 q S H2 _ m q2) λf y a=>?_);cases f with
  |next=>obtain⟨J,Y,k,g⟩:=a;obtain⟨i,j,e⟩:=l J Y g;exact⟨i,j,J,Y,k,e⟩
  |cont=>obtain⟨J,Y,k,g⟩:=a;obtain⟨i,j,e⟩:=l J Y g;exact⟨i,j,J,Y,k,e⟩
  |brk=>exact a|ret v=>exact a
 |false=>exact Jo ⟨S,H2,m,q2⟩
structure It where
 go:Nat->Hp->Prop
 yld:Nat->Hp->V->Hp->Prop
 stop:Nat->Hp->Prop
def Cr(X:Cx)(B2:Vp)(H:Hp)(b:k_):Prop:=
 H b=g_/\b≠X.env.locals/\b∉X.fs/\(b∈X.ex\/X.s₀.heap.objs.size<=b)/\(∀x c,X.env.cells.lookup x=a_ c->c≠b)/\∀p∈X.pn++B2,p.1≠b
theorem B3.fpOk{s:i_}(I:B3 X B2 σ H s)(J:s.heap.objs.size<=b)(U:H' b=g_):Cr X B2 H' b:=by
 refine⟨U,GP (FQ I.lt J),I.nofs J,.inr (Gg I.sz J),λx c e z=>?_,λp S z=>?_⟩
 .obtain⟨v,q⟩:=I.cell x c e;exact FN (FQ q.lt as) (Ii _)
 .exact FN (FQ (m_ (I.pin p S).1) as) (Ii _)
inductive TnP(X:Cx)(B2:Vp)(σ:St)(u:h_)(s:i_)(Y:V->Hp->Prop)(T:Prop)(fp:List k_):Prop
 |mk (x:V) (H':Hp) (I:B3 X B2 σ H' s) (r:B5 x u) (y:Y x H') (t:T) (n:∀b∈fp,H' b=g_)
structure Turn(P:Gf)(w:GS)(K:Pn)(tg:GI)(J:It)(fp:List k_)(it:k_)(tn:Nat->FX->Prop):Prop where
 mem:it∈fp
 obj:∀i h,tn i h->∀b∈fp,∃o,h.get? b=a_ o/\∀v,o.data≠.cell v
 keep:∀i h h',tn i h->(∀b∈fp,∀o,h.get? b=a_ o->h'.get? b=a_ o)->tn i h'
 item:∀(X:Cx),X.prog=P->X.w=w->X.K=K->X.calm=f_->∀(i:Nat) (B2:Vp) (s:i_) (σ:St) (H:Hp) (E:Mq),B3 X B2 σ H s->(∀b∈fp,Cr X B2 H b)->tn i s.heap->J.go i H ->
  r_ (x_ P w) X.A (Km (.ref it)) (λr s1=>∃u,r=a_ u /\
   r_ (x_ P w) X.A (M0 tg (.ref it) u) (λ_ s2=>TnP X B2 σ u s2 (J.yld i H) (tn (i+1) s2.heap) fp) E s1) E s
 done:∀(X:Cx),X.prog=P->X.w=w->X.K=K->X.calm=f_->∀(i:Nat) (B2:Vp) (s:i_) (σ:St) (H:Hp) (E:Mq),B3 X B2 σ H s->(∀b∈fp,Cr X B2 H b)->tn i s.heap->J.stop i H ->
  r_ (x_ P w) X.A (Km (.ref it)) (λr s1=>r=g_/\B3 X B2 σ H s1) E s
 self:∀(A:G8) (i:Nat) (s:i_) (Q:Mq) (E:Mq),tn i s.heap->Q (.ref it) s->r_ (x_ P w) A (MD (.ref it)) Q E s
abbrev TI:=St->Hp->(It->Hp->Prop)->Prop
inductive PIE(X:Cx)(B2:Vp)(σ:St)(tg:GI)(R:It->Hp->Prop)(itv:h_)(s2:i_):Prop
 |mk (it:k_) (fp:List k_) (tn:Nat->FX->Prop) (J:It) (H':Hp) (e:itv=.ref it) (I:B3 X B2 σ H' s2) (t:Turn X.prog X.w X.K tg J fp it tn) (z:tn 0 s2.heap) (f:∀b∈fp,Cr X B2 H' b) (r:R J H')
def PI(X:Cx)(tg iter:GI)(wi:TI):Prop:=
 ∀(B2:Vp) (s:i_) (σ:St) (H:Hp) (R:It->Hp->Prop),B3 X B2 σ H s->wi σ H R ->
  r_ (x_ X.prog X.w) X.A (FL iter X.env) (λv J=>r_ (x_ X.prog X.w) X.A (MD v) (PIE X B2 σ tg R) X.xe J) X.xe s
def go_of{M : MQ}{A : G8}{E : h_ -> i_ -> Prop}{s : i_}{tg : GI}{S : k_}{u : h_}{o : JM}{n : String}{vs : Array h_}{Q : Unit -> i_ -> Prop}(U : s.heap.get? S = a_ o)(a : o.cls = .type n)(hd : o.data = .fields vs)(Y : ["enumerate", "zip", "dict_itemiterator", "dict_reverseitemiterator", "odict_iterator", "itertools.zip_longest", "itertools.pairwise"].contains n = c_)(J : Q () s): r_ M A (M0 tg (.ref S) u) Q E s := by
  cases tg <;> first
    | exact e_ J
    | (cases u <;> first
        | exact e_ J
        | (refine b_ (K6 U ?_)
           rw[a,hd];show r_ M A (if (["enumerate", "zip", "dict_itemiterator", "dict_reverseitemiterator", "odict_iterator", "itertools.zip_longest", "itertools.pairwise"].contains n && vs[0]?== a_ (Hg _)) = f_ then _ else _) Q E s;rw[q_ (by intro h; rw[Y]at h; cases h)];exact e_ J))
noncomputable def Itl(K:Pn)(a:k_):It:=
 ⟨λi H=>∃xs x,SqL K H a xs/\xs[i]?=a_ x,λi H x H'=>H'=H/\∀xs,SqL K H a xs->xs[i]?=a_ x,λi H=>∃xs,SqL K H a xs/\xs.length<=i⟩
noncomputable def Itt(K:Pn)(a:k_):It:=
 ⟨λi H=>∃xs x,SqT K H a xs/\xs[i]?=a_ x,λi H x H'=>H'=H/\∀xs,SqT K H a xs->xs[i]?=a_ x,λi H=>∃xs,SqT K H a xs/\xs.length<=i⟩
noncomputable def Itr(lo:Int)(n:Nat):It:=⟨λi _=>i<n,λi H x H'=>H'=H/\x=.int (lo+i),λi _=>n<=i⟩
theorem CM(a S:k_):Turn P w K tg (Itl K a) [S] S (λi h=>h.IsListIter S a i) where
 mem:=by simp
 obj:=λi h st b J=>by
  have e:=by simpa using J
  obtain⟨o,e,c,d⟩:=st
  simp_all
 keep:=λi h h' st k=>st.at λo e=>k S aj o e
 item:=by intro X m hw n r i B2 s σ H E I f st l;subst m hw n;obtain⟨xs,x,Y,j⟩:=l;obtain⟨its,g,p,y⟩:=I.list Y;obtain⟨u,B,v⟩:=g.get j;obtain⟨q,f1,A,f3,f4,f5⟩:=f S aj;refine wpAny_pyNext_list_item st p.isList (x:=u) as λh' U t=>?_;obtain⟨o,e,c,d⟩:=id U;exact⟨u,rfl,go_of e c d al ⟨x,H,(I.turned (t':=s.toks) (λb o J e=>(t.2 b J).trans e) q f1 f3 f4 f5),v,⟨rfl,λys z=>by rw[I.nQ z Y];exact j⟩,U,λb J=>(f b J).1⟩⟩
 done:=by intro X m hw n r i B2 s σ H E I f st l;subst m hw n;obtain⟨xs,Y,j⟩:=l;obtain⟨its,g,p,y⟩:=I.list Y;obtain⟨q,f1,A,f3,f4,f5⟩:=f S aj;have C:=g.length;exact wpAny_pyNext_list_end (I.ok.hd r) st p.isList as λh' eb=>⟨rfl,I.turned (λb o J e=>eb b o J e) q f1 f3 f4 f5⟩
 self:=λ_ _ _ _ _ st h=>wpAny_pyIter_listiter st h
theorem Bb(a S:k_):Turn P w K tg (Itt K a) [S] S (λi h=>h.IsTupleIter S a i) where
 mem:=by simp
 obj:=λi h st b J=>by
  have e:=by simpa using J
  obtain⟨o,e,c,d⟩:=st
  simp_all
 keep:=λi h h' st k=>st.at λo e=>k S aj o e
 item:=by intro X m hw n r i B2 s σ H E I f st l;subst m hw n;obtain⟨xs,x,Y,j⟩:=l;obtain⟨its,g,p,y⟩:=I.tuple Y;obtain⟨u,B,v⟩:=g.get j;obtain⟨q,f1,A,f3,f4,f5⟩:=f S aj;refine wpAny_pyNext_tuple_item st (show s.heap.IsTuple a its.toArray from p) (x:=u) as λh' U t=>?_;obtain⟨o,e,c,d⟩:=id U;exact⟨u,rfl,go_of e c d al ⟨x,H,(I.turned (t':=s.toks) (λb o J e=>(t.2 b J).trans e) q f1 f3 f4 f5),v,⟨rfl,λys z=>by rw[I.kN z Y];exact j⟩,U,λb J=>(f b J).1⟩⟩
 done:=by intro X m hw n r i B2 s σ H E I f st l;subst m hw n;obtain⟨xs,Y,j⟩:=l;obtain⟨its,g,p,y⟩:=I.tuple Y;obtain⟨q,f1,A,f3,f4,f5⟩:=f S aj;have C:=g.length;exact wpAny_pyNext_tuple_end (I.ok.hd r) st (show s.heap.IsTuple a its.toArray from p) as λh' eb=>⟨rfl,I.turned (λb o J e=>eb b o J e) q f1 f3 f4 f5⟩
 self:=λ_ _ _ _ _ st h=>wpAny_pyIter_tupleiter st h
theorem Bc(J:k_)(lo:Int)(n:Nat):Turn P w K tg (Itr lo n) [J] J (λi h=>IsRangeIter h J (lo+(i:Nat)*1) ((n:Int)-(i:Nat)) 1) where
 mem:=by simp
 obj:=λi h st b U=>by simp_all
 keep:=λi h h' st k=>k J aj _ st
 item:=by
  intro X f hw g c i B2 s σ H E I Y st a;subst f hw g;obtain⟨d,f1,l,f3,f4,f5⟩:=Y J aj;have W:=Walks.range (prog:=X.prog) (w:=X.w) (I.ok.hd c) J lo 1 n;refine W.item i s _ _ a st λv h' tk hv S j=>?_;obtain⟨t,rfl⟩:=hv;refine⟨_,rfl,go_of S rfl rfl al ⟨.int _,H,(I.turned (λb o U e=>j b o as e) d f1 f3 f4 f5),⟨t,?_⟩,⟨rfl,rfl⟩,S,λb U=>(Y b U).1⟩⟩
  simp
 done:=by intro X f hw g c i B2 s σ H E I Y st a;obtain⟨d,f1,l,f3,f4,f5⟩:=Y J aj;exact wpAny_pyNext_range_end (I.ok.hd c) st (by have:n<=i:=a;lia) λh' eb=>⟨rfl,I.turned (λb o U e=>eb b o U e) d f1 f3 f4 f5⟩
 self:=λ_ _ _ _ _ st h=>wpAny_pyIter_rangeiter st h
theorem zO{s:i_}{R:It->Hp->Prop}{lo hi:Int}{t u v:Tok}{tk:Nat}(I:B3 X B2 σ H s)(h1: -(2^62)<=lo)(a:lo<2^62)(Y: -(2^62)<=hi)(U:hi<2^62)(q:R (Itr lo (hi-lo).toNat) H):r_ (x_ X.prog X.w) X.A (MD (.ref s.heap.objs.size)) (PIE X B2 σ tg R) E {s with heap:=s.heap.push {cls:=.type "range",data:=.fields #[.int lo t,.int hi u,.int 1 v]},toks:=tk}:=by
 refine wpAny_pyIter_range (IsRange.new ..) (Qk h1 a Y U) ?_;have J:B3 X B2 σ H {s with heap:=s.heap.push {cls:=.type "range",data:=.fields #[.int lo t,.int hi u,.int 1 v]},toks:=tk}:=I.kept λb o e=>d_ _ e;refine⟨(s.heap.push {cls:=.type "range",data:=.fields #[.int lo t,.int hi u,.int 1 v]}).objs.size,[(s.heap.push {cls:=.type "range",data:=.fields #[.int lo t,.int hi u,.int 1 v]}).objs.size],_,_,H,rfl,
  J.kept λb o e=>d_ _ e,Bc _ lo (hi-lo).toNat,?_,λb S=>?_,q⟩
 .have e1:lo+((0:Nat))*1=lo:=by simp
  have e2:(((hi-lo).toNat:Nat))-((0:Nat))=IS lo hi 1:=by rw[NV];split<;>lia
  rw[e1,e2];exact l_ _ rfl
 .have e:b=(s.heap.push {cls:=.type "range",data:=.fields #[.int lo t,.int hi u,.int 1 v]}).objs.size:=by simpa using S
  subst e;exact J.fpOk (o_ _) (J.hok.fresh (o_ _))
def iRng1(ta:TA):TI:=λσ H R=>ta σ H λvs H1=>∃j:Int,vs=[.int j]/\ -(2^62)<=j/\j<2^62/\R (Itr 0 j.toNat) H1
def iRng2(ta:TA):TI:=λσ H R=>ta σ H λvs H1=>∃i j:Int,vs=[.int i,.int j]/\(-(2^62)<=i/\i<2^62/\ -(2^62)<=j/\j<2^62)/\R (Itr i (j-i).toNat) H1
theorem Dw{a:GI}{ta:TA}(c:Gl X "range")(b:X.mg "range"=g_)(d:PA X [a] ta)(U: ~~~(j_ [a] X.env=[(c_,FL a X.env)])):PI X tg (.Call (.Name "range" p) [a] [] pos) (iRng1 ta):=by
 intro B2 s σ H R I h;refine MU (gH I c b NC (FR (B' (d pos B2 s σ H _ I h) λus g Y=>?_) U rfl));obtain⟨vs,H1,f,S,q1⟩:=Y;obtain⟨j,e,q1,q2,q⟩:=q1;subst e;cases S with
 |cons r J=>cases J;obtain⟨t,rfl⟩:=r;exact call_range_1 (zO f ad ad q1 q2 as)
theorem Dv{a b:GI}{ta:TA}(g:Gl X "range")(f:X.mg "range"=g_)(k:PA X [a,b] ta)(n: ~~~(j_ [a,b] X.env=[(c_,FL a X.env),(c_,FL b X.env)]))(S: ~~~(j_ [b] X.env=[(c_,FL b X.env)])):
  PI X tg (.Call (.Name "range" p) [a,b] [] pos) (iRng2 ta):=by
 intro B2 s σ H R I h;refine MU (gH I g f NC (FR (B' (k pos B2 s σ H _ I h) λus m d=>?_) as (by rw[S];rfl)));obtain⟨vs,H1,l,U,q1⟩:=d;obtain⟨i,j,e,⟨q1,q2,c,Y⟩,q⟩:=q1;subst e;cases U with
 |cons r J=>
  cases J with
  |cons r' J=>cases J;obtain⟨t,rfl⟩:=r;obtain⟨t',rfl⟩:=r';exact call_range_2 (zO l q1 q2 c Y q)
def tFor(wi:TI)(g:TG)(tb:TS):TS:=λD σ H=>wi σ H λJ H1=>∃W:Nat->Nat->St->Hp->Prop,(∃m,W 0 m σ H1)/\∀i m σ H,W i m σ H ->
 (J.stop i H/\D.nx σ H)\/(J.go i H/\∃N:St->Hp->Prop,(∀σ' H',N σ' H'->∃U,U<m/\W (i+1) U σ' H')/\∀x H',J.yld i H x H'->g x σ H' λS H2=>tb {D with nx:=N,ct:=N,bk:=D.nx} S H2)
noncomputable def zP(fp:List k_)(h:FX):Vp:=fp.filterMap λb=>(h.get? b).map λo=>(b,o)
theorem jM{o:JM}(J:b∈fp)(e:h.get? b=a_ o):(b,o)∈zP fp h:=Iy.mpr ⟨b,J,as⟩
theorem DM{p:k_×JM}(J:p∈zP fp h):p.1∈fp/\h.get? p.1=a_ p.2:=by
 obtain⟨b,S,e⟩:=Iy.mp J;cases q:h.get? b with
 |none=>simp_all|some o=>grind
theorem B3.pinned{s:i_}(I:B3 X B2 σ H s)(S:∀b∈fp,Cr X B2 H b)(Y:∀b∈fp,∃o,s.heap.get? b=a_ o/\∀v,o.data≠.cell v):B3 X (B2++zP fp s.heap) σ H s:=
 I.sY λp J=>(Gn.mp J).elim (λz=>I.pin p (GC _ z)) λz=>by
  obtain⟨U,e⟩:=DM z;obtain⟨c,f1,a,_⟩:=S p.1 U
  grind
def B3.sr{pl:Vp}{s:i_}(I:B3 X (B2++pl) σ H s):B3 X B2 σ H s:=I.sY λp J=>I.pin p (GC _ (NM _ J))
def ps_for{iter:GI}{wi:TI}{g:TG}{tb:TS}(U:Og (x_ X.prog X.w) X.A X.env X.xe)(Q:X.calm=f_)(hi:PI X tg iter wi)(hg:PG X tg g)(c:PSs X body tb)(hs:autoParam (∀x,Ik iter X.env x=G2 x) Jq6):PS X (.For tg iter body [] pos) (tFor wi g tb):=by
 intro B2 s σ H D I h;refine wpAny_For (B' (hi B2 s σ H _ I h) λv s1 h1=>B' h1 λitv s2 h2=>?_) hs;obtain⟨it,fp,O,J,H2,e,I2,T,F,R,W,⟨m0,w0⟩,t⟩:=h2;subst e;have a:∀{H':Hp},(∀b∈fp,H' b=g_)->∀b∈fp,Cr X B2 H' b:=λhn b c=>⟨hn b c,(R b c).2⟩
 refine codeAny_forLoop_any (λn s'=>∃i σ' H',B3 X B2 σ' H' s'/\O i s'.heap/\(∀b∈fp,H' b=g_)/\W i n σ' H') ?_ m0 ⟨0,σ,H2,I2,F,λb c=>(R b c).1,w0⟩;rintro n P ⟨i,Y,C,Z,z,B,w3⟩;rcases t i n Y C w3 with⟨w,qn⟩|⟨go,N,hN,y⟩
 .refine IL U (B' (T.done X rfl rfl rfl Q i B2 P Y C X.xe Z (a B) z w) λr s4 U=>?_);obtain⟨K,I4⟩:=U;subst K;exact Jo ⟨Y,C,I4,qn⟩
 .refine IL U (B' (T.item X rfl rfl rfl Q i B2 P Y C X.xe Z (a B) z go) λr s4 U=>?_);obtain⟨u,K,h4⟩:=U;subst K;refine IL U (B' h4 λ_ s5 U=>?_);obtain⟨x,H5,I5,r5,y5,q,L⟩:=U;refine IL U (B' (hg _ s5 Y H5 x u _ (I5.pinned (a L) (T.obj _ _ q)) r5 (y x H5 y5)) λ_ s6 U=>?_);obtain⟨E,H6,I6,q6⟩:=U;refine IL U (B' (c _ s6 E H6 _ I6 q6) λf G p=>?_);have j:∀{S:St} {l:Hp},B3 X _ S l G->N S l->∃m,m<n/\∃i σ' H',B3 X B2 σ' H' G/\O i G.heap/\(∀b∈fp,H' b=g_)/\W i m σ' H':=λ{S l} k A=>by
   obtain⟨m',hm,w7⟩:=hN S l A;refine⟨m',hm,i+1,S,l,k.sr,T.keep _ _ _ q λb c o e=>(k.pin (b,o) (GC _ (GC _ (jM c e)))).1,λb c=>?_,w7⟩
   obtain⟨o,e,d⟩:=T.obj _ _ q b c;exact(k.pin (b,o) (GC _ (GC _ (jM c e)))).2.1
  cases f with
  |next=>obtain⟨S,l,k,A⟩:=p;exact j k A
  |cont=>obtain⟨S,l,k,A⟩:=p;exact j k A
  |brk=>obtain⟨S,l,k,p⟩:=p;exact⟨S,l,k.sr,p⟩
  |ret v=>obtain⟨x7,S,l,k,r7,p⟩:=p;exact⟨x7,S,l,k.sr,r7,p⟩
abbrev R2:=V->V->Hp->VK->Prop
variable{r r':R2}
def OpR(X:Cx)(f:h_->h_->OM h_)(r:R2):Prop:=
 ∀(B2:Vp) (s:i_) (σ:St) (H:Hp) (x y:V) (v u:h_) (Q:VK),B3 X B2 σ H s->B5 x v->B5 y u->r x y H Q ->
  r_ (x_ X.prog X.w) X.A (f v u) (EP X B2 σ Q) X.xe s
def UnR(X:Cx)(f:h_->OM h_)(r:V->Hp->VK->Prop):Prop:=
 ∀(B2:Vp) (s:i_) (σ:St) (H:Hp) (x:V) (v:h_) (Q:VK),B3 X B2 σ H s->B5 x v->r x H Q ->
  r_ (x_ X.prog X.w) X.A (f v) (EP X B2 σ Q) X.xe s
def du(X:Cx)(f:h_)(r:a0->Hp->VK->Prop):Prop:=
 ∀(B2:Vp) (s:i_) (σ:St) (H:Hp) (xs:a0) (us:aH) (Q:VK),B3 X B2 σ H s->B6 xs us->r xs H Q ->
  r_ (x_ X.prog X.w) X.A (Jv f us) (EP X B2 σ Q) X.xe s
def TruR(X:Cx)(r:V->Hp->(Bool->Hp->Prop)->Prop):Prop:=
 ∀(B2:Vp) (s:i_) (σ:St) (H:Hp) (x:V) (v:h_) (Q:Bool->Hp->Prop),B3 X B2 σ H s->B5 x v->r x H Q ->
  r_ (x_ X.prog X.w) X.A (truthy v) (TP X B2 σ Q) X.xe s
noncomputable def tOp(r:R2)(ta tb:TE):TE:=λσ H Q=>ta σ H λx H1=>tb σ H1 λy H2=>r x y H2 Q
noncomputable def tUn(r:V->Hp->VK->Prop)(ta:TE):TE:=λσ H Q=>ta σ H λx H1=>r x H1 Q
noncomputable def rI(C:Int->Int->Prop)(g:Int->Int->V):R2:=λx y H Q=>∃i j,x=.int i/\y=.int j/\C i j/\Q (g i j) H
noncomputable def rI0(g:Int->Int->V):R2:=λx y H Q=>∃i j,x=.int i/\y=.int j/\Q (g i j) H
def rU(g:Int->V):V->Hp->VK->Prop:=λx H Q=>∃i,x=.int i/\Q (g i) H
section
variable{a b:GI}
def binT(j:PE X a ta)(i:PE X b tb){s:i_}{R:V->V->Hp->Prop}(I:B3 X B2 σ H s)(h:ta σ H λx H1=>tb σ H1 λy H2=>R x y H2){Q:Mq}{f:h_->h_->OM h_}(g:∀v u U x y H2,B3 X B2 σ H2 U->B5 x v->B5 y u->R x y H2->r_ (x_ X.prog X.w) X.A (f v u) Q X.xe U):
  r_ (x_ X.prog X.w) X.A (FL a X.env) (λv S=>r_ (x_ X.prog X.w) X.A (FL b X.env) (λu J=>r_ (x_ X.prog X.w) X.A (f v u) Q X.xe J) X.xe S) X.xe s:=by
 refine B' (j B2 s σ H _ I h) λv c Y=>?_;obtain⟨x,H1,l,e,q1⟩:=Y;refine B' (i B2 c σ H1 _ l q1) λu U Y=>?_;obtain⟨y,H2,k,d,q2⟩:=Y;exact g v u U x y H2 k e d q2
def pe_op{op:Operator}(Y:OpR X (Hr op) r)(d:PE X a ta)(c:PE X b tb):PE X (.BinOp a op b pos) (tOp r ta tb):=by intro B2 s σ H Q I h;exact wpAny_BinOp (binT d c I h λv u J x y H2 e U S q=>Y B2 J σ H2 x y v u Q e U S q)
def pe_un{op:UnaryOp}{r:V->Hp->VK->Prop}(Y:UnR X (PY op) r)(b:PE X a ta):PE X (.UnaryOp op a pos) (tUn r ta):=by intro B2 s σ H Q I h;refine UnaryOp_ (B' (b B2 s σ H _ I h) λv J U=>?_);obtain⟨x,H1,c,S,q1⟩:=U;exact Y B2 J σ H1 x v Q c S q1
def opI{f:h_->h_->OM h_}{C:Int->Int->Prop}(J:∀(i j:Int) (t u:Tok) (s:i_) (Q:Mq) (E:Mq),C i j->Q (.int (g i j) s.toks) {s with toks:=s.toks+1}->r_ (x_ X.prog X.w) X.A (f (.int i t) (.int j u)) Q E s):
  OpR X f (rI C λi j=>.int (g i j)):=by
 intro B2 s σ H x y v u Q I U S h;obtain⟨i,j,rfl,rfl,Y,q⟩:=h;obtain⟨t,rfl⟩:=U;obtain⟨t',rfl⟩:=S;exact J i j t t' s _ _ Y ⟨.int _,H,I.tok _,⟨_,rfl⟩,q⟩
def opI0{f:h_->h_->OM h_}(J:∀(i j:Int) (t u:Tok) (s:i_) (Q:Mq) (E:Mq),Q (.int (g i j) s.toks) {s with toks:=s.toks+1}->r_ (x_ X.prog X.w) X.A (f (.int i t) (.int j u)) Q E s):
  OpR X f (rI0 λi j=>.int (g i j)):=by
 intro B2 s σ H x y v u Q I U S h;obtain⟨i,j,rfl,rfl,q⟩:=h;obtain⟨t,rfl⟩:=U;obtain⟨t',rfl⟩:=S;exact J i j t t' s _ _ ⟨.int _,H,I.tok _,⟨_,rfl⟩,q⟩
def opB0{f:h_->h_->OM h_}{g:Int->Int->Bool}(J:∀(i j:Int) (t u:Tok) (s:i_) (Q:Mq) (E:Mq),Q (.bool (g i j)) s->r_ (x_ X.prog X.w) X.A (f (.int i t) (.int j u)) Q E s):
  OpR X f (rI0 λi j=>.bl (g i j)):=by
 intro B2 s σ H x y v u Q I U S h;obtain⟨i,j,rfl,rfl,q⟩:=h;obtain⟨t,rfl⟩:=U;obtain⟨t',rfl⟩:=S;exact J i j t t' s _ _ ⟨.bl _,H,I,rfl,q⟩
def CPow(i j:Int):Prop:=0<=j/\j<=1000000/\i.natAbs<2^64
def CMul(i j:Int):Prop:=(-(2^64)<i/\i<2^64)\/(-(2^64)<j/\j<2^64)
def CMul.ok{i j:Int}(h:CMul i j):IntMulOk i j:=by
 rcases h with⟨h1,J⟩|⟨h1,J⟩
 .exact .of_left (intBits_le_64 h1 J)
 .exact .of_right (intBits_le_64 h1 J)
def op_add:OpR X (Hr .Add) (rI0 λi j=>.int (i+j)):=opI0 λ_ _ _ _ _ _ _ q=>add_int q
def op_sub:OpR X (Hr .Sub) (rI0 λi j=>.int (i-j)):=opI0 λ_ _ _ _ _ _ _ q=>sub_int q
def op_mul:OpR X (Hr .Mult) (rI CMul λi j=>.int (i*j)):=opI λ_ _ _ _ _ _ _ J q=>mul_int q J.ok
theorem op_mod:OpR X (Hr .Mod) (rI (λ_ j=>0<j) λi j=>.int (i%j)):=opI λi j _ _ _ _ _ J q=>by exact mod_int' ad (by rw[Int.fmod_eq_emod_of_nonneg i ad];exact q)
def op_pow:OpR X (Hr .Pow) (rI CPow λi j=>.int (i^j.toNat)):=opI λ_ _ _ _ _ _ _ J q=>pow_int_small J.1 J.2.1 J.2.2 q
def unI{f:h_->OM h_}{g:Int->Int}(J:∀(i:Int) (t:Tok) (s:i_) (Q:Mq) (E:Mq),Q (.int (g i) s.toks) {s with toks:=s.toks+1}->r_ (x_ X.prog X.w) X.A (f (.int i t)) Q E s):
  UnR X f (rU λi=>.int (g i)):=by
 intro B2 s σ H x v Q I S h;obtain⟨i,rfl,q⟩:=h;obtain⟨t,rfl⟩:=S;exact J i t s _ _ ⟨.int (g i),H,I.tok _,⟨_,rfl⟩,q⟩
def un_neg:UnR X (PY .USub) (rU λi=>.int (-i)):=unI λ_ _ _ _ _ q=>neg_int q
end
noncomputable def scal:V->V->Bool
 |.non,.non=>f_|.non,.int _=>f_|.int _,.non=>f_|.non,.bl _=>f_|.bl _,.non=>f_|.int _,.int _=>f_|.bl _,.bl _=>f_|_,_=>c_
def rNe:R2:=λx y H Q=>scal x y=f_/\Q (.bl (!decide (x=y))) H
def dec_int{i j:Int}:s_ (V.int i=V.int j)=(i==j):=by rw[L_];simp
def dec_bl{i j:Bool}:s_ (V.bl i=V.bl j)=(i==j):=by rw[L_];simp
section
variable{a b:GI}{tc:TE}
def lx{s:i_}{Q:VK}{k k':Bool}(I:B3 X B2 σ H s)(q:Q (.bl k) H)(e:k=k'):EP X B2 σ Q (.bool k') s:=by subst e;exact⟨.bl k,H,I,rfl,q⟩
def op_ne:OpR X (Gy .NotEq) rNe:=by
 intro B2 s σ H x y v u Q I U J h;obtain⟨S,q⟩:=h;cases x with
 |non=>
  cases U;cases y with
  |non=>cases J;exact PySem.EqNone.ne_none_none (lx I q aj)|bl j=>cases J;exact PySem.EqNone.ne_none_bool (lx I q aj)|int j=>obtain⟨t',rfl⟩:=J;exact PySem.EqNone.ne_none_int (lx I q aj)
  |_=>exact FN (show c_=f_ from S) HQ
 |bl i=>
  cases U;cases y with
  |non=>cases J;exact PySem.EqNone.ne_bool_none (lx I q aj)|bl j=>cases J;exact ne_bool (lx I q (J0 not dec_bl))|_=>exact FN (show c_=f_ from S) HQ
 |int i=>
  obtain⟨t,rfl⟩:=U;cases y with
  |non=>cases J;exact PySem.EqNone.ne_int_none (lx I q aj)|int j=>obtain⟨t',rfl⟩:=J;exact ne_int (lx I q (J0 not dec_int))
  |_=>exact FN (show c_=f_ from S) HQ
 |_=>cases y<;>exact FN (show c_=f_ from S) HQ
def op_lt:OpR X (Gy .Lt) (rI0 λi j=>.bl (s_ (i<j))):=opB0 λ_ _ _ _ _ _ _ q=>Oi q
def op_le:OpR X (Gy .LtE) (rI0 λi j=>.bl (s_ (i<=j))):=opB0 λ_ _ _ _ _ _ _ q=>le_int q
def op_gt:OpR X (Gy .Gt) (rI0 λi j=>.bl (s_ (j<i))):=opB0 λ_ _ _ _ _ _ _ q=>gt_int q
def op_isN:OpR X (Gy .Is) (λx y H Q=>y=.non/\Q (.bl (s_ (x=.non))) H):=by
 intro B2 s σ H x y v u Q I S J h;obtain⟨rfl,q⟩:=h;cases J;refine is_none_gen (lx I q ?_);cases x<;>first
  |(obtain⟨t,rfl⟩:=S;rfl)
def op_notN:OpR X (Gy .IsNot) (λx y H Q=>y=.non/\Q (.bl (!decide (x=.non))) H):=by
 intro B2 s σ H x y v u Q I S J h;obtain⟨rfl,q⟩:=h;cases J;refine isnot_none_gen (lx I q ?_);cases x<;>first
  |(obtain⟨t,rfl⟩:=S;rfl)
def OpR.or{f:h_->h_->OM h_}(h:OpR X f r)(h':OpR X f r'):OpR X f (λx y H Q=>r x y H Q\/r' x y H Q):=by
 intro B2 s σ H x y v u Q I S J q;rcases q with q|q
 .exact h B2 s σ H x y v u Q I S J q
 .exact h' B2 s σ H x y v u Q I S J q
theorem DQ(b:GI)(h:(op≠.In)⁻¹)(J:(op≠.NotIn)⁻¹):JU op b=c_:=by
 have e1:(op==CmpOp.In)=c_:=by cases op<;>first|simp_all
 have e2:(op==CmpOp.NotIn)=c_:=by cases op<;>first|simp_all
 cases b<;>simp[JU,e1,e2]
def pe_cmpR(Y:OpR X (Gy op) r)(e:PE X a ta)(d:PE X b tb)(c:JU op b=c_):PE X (.Compare a [op] [b] pos) (tOp r ta tb):=by intro B2 s σ H Q I h;exact wpAny_Compare1 (binT e d I h λv u J x y H2 f U S q=>Y B2 J σ H2 x y v u Q f U S q) c
def tTest(t:TE):TT:=λσ H Q=>t σ H λx H'=>∃k,x=.bl k/\Q k H'
def Dl(g:OpR X (Gy op) r)(l:PE X a ta)(j:PE X b tb)(i:JU op b=c_):PT X (.Compare a [op] [b] pos) (tTest (tOp r ta tb)):=by
 intro B2 s σ H Q I h;refine wpAny_isTrue_Compare1 (B' (l B2 s σ H _ I h) λv S ⟨x,H1,o,d,q1⟩=>B' (j B2 S σ H1 _ o q1) λu J ⟨y,H2,n,Y,q2⟩=>B' (g B2 J σ H2 x y v u _ n d Y q2) λc q ⟨z,p,m,U,k,e,f⟩=>?_) i
 subst e;cases U;exact G3 ⟨p,m,f⟩
noncomputable def CS(r r':R2)(ta tb tc:TE):TE:=λσ H Q=>ta σ H λx H1=>tb σ H1 λy H2=>r x y H2 λz J=>∃k,z=.bl k /\
 (if k=f_ then tc σ J λS U=>r' y S U Q else Q (.bl c_) J)
def pe_chain(w:OpR X (Gy op) r)(J:OpR X (Gy op') r')(D:PE X a ta)(C:PE X b tb)(B:PE X c tc)(A:autoParam (N9 [op,op'] [b,c]=c_) Jq9):PE X (.Compare a [op,op'] [b,c] pos) (CS r r' ta tb tc):=by
 intro B2 s σ H Q I h;refine Compare_chain (B' (D B2 s σ H _ I h) λv n ⟨x,H1,G,q,q1⟩=>chain_link (B' (C B2 n σ H1 _ G q1) λu m ⟨y,H2,F,S,q2⟩=>B' (w B2 m σ H2 x y v u _ F q S q2) λd l ⟨z,f,Y,p,k,e,U⟩=>?_)) A
 subst e;cases p;refine G3 ?_;cases k with
 |false=>exact ite_ff ⟨.bl c_,f,Y,rfl,U⟩|true=>exact ite_tt (chain_last (B' (B B2 l σ f _ Y U) λi j ⟨g,K,E,o,t⟩=>J B2 j σ K y g u i Q E S o t))
def pt_chain(D:OpR X (Gy op) r)(S:OpR X (Gy op') r')(K:PE X a ta)(G:PE X b tb)(F:PE X c tc)(E:autoParam (N9 [op,op'] [b,c]=c_) Jq9):PT X (.Compare a [op,op'] [b,c] pos) (tTest (CS r r' ta tb tc)):=by
 intro B2 s σ H Q I h;refine isTrue_chain (B' (K B2 s σ H _ I h) λv o ⟨x,H1,R,w,q1⟩=>test_link (B' (G B2 o σ H1 _ R q1) λu n ⟨y,H2,P,U,q2⟩=>B' (D B2 n σ H2 x y v u _ P w U q2) λd m ⟨z,g,f,t,k,e,Y⟩=>?_)) E
 subst e;cases t;refine G3 ?_;cases k with
 |false=>obtain⟨k',L,C⟩:=Y;cases L;exact ite_ff ⟨g,f,C⟩
 |true=>refine ite_tt (test_last (B' (F B2 m σ g _ f Y) λj l J=>?_));obtain⟨i,W,O,q,B⟩:=J;refine B' (S B2 l σ W y i u j _ O U q B) λd' s5 J=>?_;obtain⟨Z,T,N,p,k2,e2,A⟩:=J;subst e2;cases p;exact G3 ⟨T,N,A⟩
def TruV(K:Pn)(x:V)(H:Hp)(k:Bool):Prop:=
 match x with
 |.non=>k=c_|.bl b=>k=b|.int i=>k=(i != 0)|.ref p=>(∃xs,SqL K H p xs/\k= !xs.isEmpty)\/∃xs,SqT K H p xs/\k= !xs.isEmpty
 |_=>False
def rD{its:aH}(r:B6 xs its):(!its.toArray.isEmpty)= !xs.isEmpty:=by cases r<;>simp
def zZ:(t_:Nat)<2^63:=by simp[G4]
theorem tru_ok:TruR X (λx H Q=>∃k,TruV X.K x H k/\Q k H):=by
 intro B2 s σ H x v Q I U h;obtain⟨k,e,q⟩:=h;have c:=G4;cases x with
 |non=>cases U;subst e;exact truthy_none ⟨H,I,q⟩|bl b=>cases U;subst e;exact G3 ⟨H,I,q⟩|int i=>obtain⟨t,rfl⟩:=U;subst e;exact PySem.P.truthy_int ⟨H,I,q⟩
 |ref p=>
  cases U;have S:=e;rcases S with⟨xs,Y,S⟩|⟨xs,Y,S⟩
  .subst S;obtain⟨its,r,pl,a⟩:=I.list Y;have J:=r.length;exact wpAny_truthy_list pl.isList am ⟨H,I.tok _,by rw[rD r];exact q⟩
  .subst S;obtain⟨its,r,pl,a⟩:=I.tuple Y;have J:=r.length;exact truthy_tuple pl am ⟨H,I.tok _,by rw[rD r];exact q⟩
 |_=>exact(show False from e).elim
def pt_truth(c:PE X a ta)(b:∀J,Ou a X.env J=(do let v <- J;K8 a.pos;IW [v] (truthy v))):
  PT X a (λσ H Q=>ta σ H λx H'=>∃k,TruV X.K x H' k/\Q k H'):=by
 intro B2 s σ H Q I h;refine isTrue_plain (B' (c B2 s σ H _ I h) λv S Y=>?_) (b _);obtain⟨x,H1,d,U,q1⟩:=Y;exact tru_ok B2 S σ H1 x v Q d U q1
def vals1{x:V}(r:B6 [x] us):∃u,us=[u]/\B5 x u:=by
 cases r with
 |cons S J=>cases J;exact⟨_,rfl,S⟩
def vals2{x:V}(r:B6 [x,y] us):∃u J,us=[u,J]/\B5 x u/\B5 y J:=by
 cases r with
 |cons a Y=>
  cases Y with
  |cons U S=>cases S;exact⟨_,_,rfl,a,U⟩
def call_abs:du X (.builtin "abs") (λxs H Q=>∃i,xs=[.int i]/\Q (.int (if i<0 then -i else i)) H):=by intro B2 s σ H xs us Q I r h;obtain⟨i,rfl,q⟩:=h;obtain⟨u,rfl,t,rfl⟩:=vals1 r;exact call_abs_int λu tk=>⟨.int _,H,I.tok _,⟨_,rfl⟩,q⟩
def Fi(S:X.calm=f_):du X (.builtin "max") (λxs H Q=>∃i j,xs=[.int i,.int j]/\Q (.int (if j>i then j else i)) H):=by
 intro B2 s σ H xs us Q I r h;obtain⟨i,j,rfl,q⟩:=h;obtain⟨u,U,rfl,⟨t,rfl⟩,⟨t',rfl⟩⟩:=vals2 r;refine max_two_ints (I.ok.hd S) λh' tk k=>⟨_,H,I.kept k,?_,q⟩
 by_cases J:j>i
 .rw[p_ J,p_ J];exact⟨_,rfl⟩
 .rw[q_ J,q_ J];exact⟨_,rfl⟩
def Fg(S:X.calm=f_):du X (.builtin "min") (λxs H Q=>∃i j,xs=[.int i,.int j]/\Q (.int (if j<i then j else i)) H):=by
 intro B2 s σ H xs us Q I r h;obtain⟨i,j,rfl,q⟩:=h;obtain⟨u,U,rfl,⟨t,rfl⟩,⟨t',rfl⟩⟩:=vals2 r;refine min_two_ints (I.ok.hd S) λh' tk k=>⟨_,H,I.kept k,?_,q⟩
 by_cases J:j<i
 .rw[p_ J,p_ J];exact⟨_,rfl⟩
 .rw[q_ J,q_ J];exact⟨_,rfl⟩
def Fl:du X (.type "int") (λxs H Q=>(∃i,xs=[.int i]/\Q (.int i) H)\/∃k,xs=[.bl k]/\Q (.int (if k then 1 else 0)) H):=by
 intro B2 s σ H xs us Q I r h;rcases h with⟨i,rfl,q⟩|⟨k,rfl,q⟩
 .obtain⟨u,rfl,t,rfl⟩:=vals1 r;exact call_int_int ⟨.int i,H,I,⟨_,rfl⟩,q⟩
 .obtain⟨u,rfl,J⟩:=vals1 r;cases J;exact call_int_bool ⟨.int _,H,I.tok _,⟨_,rfl⟩,q⟩
end
structure ObjM(h:FX)(x dx C:k_)(mA:Ld):Prop where
 obj:h.get? x=a_ (I9 C dx)
 ns:h.Ns1 dx mA
 ne:dx≠x
theorem E2(n:h.Ns1 dx mA):∃od,h.get? dx=a_ od/\∀name,lookIn name od=a_ (mA name):=by
 obtain⟨o,es,ep,U,hd,b,_,Y⟩:=n;refine⟨o,U,λname=>?_⟩
 have e:=Y name;unfold nsFind findBy at e;rw[<- N7]at e;unfold lookIn;rw[hd];dsimp only;split
 .simp_all
 .rename_i q;have a:es.toList.any (·.refKey)=c_:=by
   rw[List.any_eq_false];intro y S;obtain⟨z,t,J⟩:=b y (Array.mem_toList_iff.mp S);simp[DictEntry.refKey,J]
  grind
def ObjM.look{x:k_}(I:ObjM h x dx C mA):∃od,JB h x (I9 C dx) C (a_ od)/\∀name,lookIn name od=a_ (mA name):=
 let ⟨od,J,S⟩:=E2 I.ns
 ⟨od,⟨I.obj,rfl,rfl,J⟩,S⟩
section
variable{prog:Gf}{s:i_}{x f:k_}{v:h_}
theorem get_map{S:Bool}{Q:Mq}(X:K.In s.heap)(I:ObjM s.heap x dx C mA)(a:Nt K C name=f_)(Y:Oe K C=f_)(b:FT K (.ref C) name=a_ g_)(hv:mA name=a_ v)(U:NY v=f_)(h:Q v {s with toks:=s.toks+1}):
  r_ (x_ prog w) A (getAttr (.ref x) name S) Q E s:=by
 obtain⟨od,J,c⟩:=I.look;exact PySem.W.get_value X J (KY a).1 (PySem.W.findObj_own Y b rfl as) U h
theorem get_meth{Q:h_×aH->i_->Prop}(X:K.In s.heap)(I:ObjM s.heap x dx C mA)(S:Nt K C name=f_)(Y:FT K (.ref C) name=a_ (a_ (.ref f)))(U:isFn K (.ref f)=f_)(hv:mA name=g_)(h:Q (.ref f,[.ref x]) s):
  r_ (x_ prog w) A (LD (.ref x) name pl) Q E s:=by
 obtain⟨od,J,a⟩:=I.look;exact PySem.W.method_fn X J (KY S).1 (KY S).2 Y (Kk.mp U) (by show(lookIn name od).map _=a_ c_;simp_all) h
theorem set_map{ns:List FU}(X:K.In s.heap)(I:ObjM s.heap x dx C mA)(f:FT K (.ref C) "__setattr__"=a_ (a_ (.builtin "object.__setattr__")))(g:Qo K C=f_)(e:takerIn K C name=a_ g_)(i:Oe K C=f_)(hw:JQ mA ns)(hsz:ns.length<=t_)(h:∀h',ObjM h' x dx C (λy=>if y=name then a_ v else mA y)->Hd dx s.heap h'->Q () {s with heap:=h',toks:=s.toks+2}):
  r_ (x_ prog w) A (P4 (.ref x) name v) Q E s:=by
 obtain⟨od,J,n⟩:=I.look;refine P7 X J f (PySem.W.osa_open X J g e λb=>?_);obtain⟨cd,j,c⟩:=Ow i;refine b_ (e_ (b_ (b_ (Nj I.obj (b_ (N0 (M3 X j) ?_))))));rw[c];refine e_ (b_ (e_ (b_ ?_)));refine wpAny_nsSet1 I.ns λh' U S=>?_;obtain⟨m,k,l,Y,a,d⟩:=U.count (NX name v hw);refine b_ (Qi Y (by rw[a];exact Qm (Gg d as)) ?_);exact e_ (h _ ⟨(S.2 _ (GX I.ne)).trans I.obj,U,I.ne⟩ S)
def make_map{R:Ox->i_->Prop}{vs:aH}(X:K.In s.heap)(S:P8 K C=f_)(hi:FT K (.ref C) "__init__"=a_ (a_ (.ref f)))(U:Nr K (.ref f)=a_ (.type "function"))(h:Jc (x_ prog w) (A.under (.builtin "type.__call__" ⟨.ref C::vs,kw⟩)) (.call (.ref f) ⟨.ref (s.heap.objs.size+1)::vs,kw⟩) (PySem.W.InitBack (s.heap.objs.size+1) R)
   {s with heap:=(s.heap.push Hx).push (I9 C s.heap.objs.size)}):
  Jc (x_ prog w) A (.call (.ref C) ⟨vs,kw⟩) R s:=by
 obtain⟨Y,g,d,t,os⟩:=s;exact PySem.W.make_core (PySem.W.makes_of X S) (Ko X hi) (λJ=>PySem.W.bind_fn X J U) (.inl rfl) h
end
noncomputable def vD(f:FU)(v:V):List (FU×V)->List (FU×V)
 |[]=>[(f,v)]|(g,x)::r=>if g=f then(g,v)::r else(g,x)::vD f v r
theorem oO(f g:FU)(v:V):∀fs:List (FU×V),(vD f v fs).lookup g=if g=f then a_ v else fs.lookup g
 |[]=>by
  show Gj g [(f,v)]=_
  grind
 |(k,x)::r=>by
  have J:=oO f g v r;rw[show vD f v _=(if k=f then(k,v)::r else(k,x)::vD f v r)from rfl]
  grind
theorem oS(f:FU)(v:V):∀fs:List (FU×V),f∈(vD f v fs).map (·.1)/\∀g,g∈fs.map (·.1)->g∈(vD f v fs).map (·.1)
 |[]=>⟨by simp[vD],λg h=>by simp at h⟩|(k,x)::r=>by
  obtain⟨S,J⟩:=oS f v r;rw[show vD f v _=(if k=f then(k,v)::r else(k,x)::vD f v r)from rfl]
  grind
theorem oR(f:FU)(v:V):∀fs:List (FU×V),(vD f v fs).length<=fs.length+1
 |[]=>by simp[vD]|(k,x)::r=>by
  have J:=oR f v r;rw[show vD f v _=(if k=f then(k,v)::r else(k,x)::vD f v r)from rfl]
  grind
def xt.some_of{o:Option h_}(r:xt (a_ v) o):∃u,o=a_ u/\B5 v u:=by
 cases o with
 |none=>exact(show False from r).elim|some u=>exact⟨u,rfl,r⟩
def xt.none_of{o:Option h_}(r:xt g_ o):o=g_:=by
 cases o with
 |none=>rfl|some u=>exact(show False from r).elim
def Et(r:B5 v u):NY u=f_:=by
 cases v with
 |non=>cases(show u=GR from r);rfl|bl b=>cases(show u=Mj b from r);rfl|int i=>obtain⟨t,e⟩:=(show ∃t,u=Je i t from r);cases e;rfl
 |ref a=>cases(show u=D_ a from r);rfl|ty n=>cases(show u=HL n from r);rfl
section
variable{fs:List (FU×V)}
def yx(J:HOk H h)(e:H a=a_ (.ins C dx fs)):∃mA,ObjM h a dx C mA/\(∀f,xt (fs.lookup f) (mA f))/\JQ mA (fs.map (·.1))/\fs.length<=1000/\H dx=a_ (.own a):=by
 obtain⟨d,z,U,S,mA,n,r,q⟩:=(show dq H h a _ from J a _ e)
 exact⟨mA,⟨S,n,U⟩,r,q,z,d⟩
end
structure Cls(K:Pn)(C:k_):Prop where
 pg:Nt K C Str.empty=f_
 hd:Oe K C=f_
 po:Qo K C=f_
 sa:FT K (.ref C) "__setattr__"=a_ (a_ (.builtin "object.__setattr__"))
def Cls.get(c:Cls K C)(f:FU):Nt K C f=f_:=c.pg
def jf(K:Pn)(C:k_)(f:FU):Prop:=FT K (.ref C) f=a_ g_
def jf.taker{f:FU}(n:jf K C f):takerIn K C f=a_ g_:=by unfold takerIn;rw[show FT K _ f=a_ g_ from n];rfl
structure Meth(K:Pn)(C:k_)(m:FU)(f:k_):Prop where
 at_:FT K (.ref C) m=a_ (a_ (.ref f))
 fn:isFn K (.ref f)=f_
 kp:IT K (.ref f)=f_
section
variable{s:i_}{fs:List (FU×V)}{f:FU}
def BV{b:Bool}{Q:Mq}(I:B3 X B2 σ H s)(e:H a=a_ (.ins C dx fs))(c:Cls X.K C)(n:jf X.K C f)(l:fs.lookup f=a_ v)(h:∀u s',B3 X B2 σ H s'->B5 v u->Q u s'):r_ (x_ X.prog X.w) A (getAttr (.ref a) f b) Q E s:=by obtain⟨mA,O,r,_,_,_⟩:=yx I.hok e;obtain⟨u,S,J⟩:=xt.some_of (by rw[<- l];exact r f);exact get_map I.kIn O (c.get f) c.hd n S (Et J) (h u _ (I.tok _) J)
def rF{g:k_}{Q:h_×aH->i_->Prop}(I:B3 X B2 σ H s)(e:H a=a_ (.ins C dx fs))(c:Cls X.K C)(k:Meth X.K C m g)(l:fs.lookup m=g_)(h:Q (.ref g,[.ref a]) s):r_ (x_ X.prog X.w) A (LD (.ref a) m pl) Q E s:=by obtain⟨mA,O,r,_,_,_⟩:=yx I.hok e;exact get_meth I.kIn O (c.get m) k.at_ k.fn (xt.none_of (by rw[<- l];exact r m)) h
theorem Bi(I:B3 X B2 σ H s)(e:H a=a_ (.ins C dx fs))(c:Cls X.K C)(n:jf X.K C f)(j:fs.length<1000)(U:B5 y u)(h:∀s',B3 X B2 σ (upd H a (.ins C dx (vD f y fs))) s'->Q () s'):r_ (x_ X.prog X.w) A (P4 (.ref a) f u) Q E s:=by
 obtain⟨mA,O,r,wi,_,J⟩:=yx I.hok e;refine set_map I.kIn O c.sa c.po n.taker c.hd wi (by rw[w_,G4];lia) λh' O' S=>h _ ?_;refine I.write (by rw[e];exact JE) (.inr J) (λb q d z=>(S.2 b d).trans z) (let ⟨o,_,_,i,_⟩:=O'.ns;⟨o,i⟩) ?_;refine⟨by rw[aw O.ne];exact J,?_,O.ne,O'.obj,_,O'.ns,λg=>?_,λg Y=>?_⟩
 .have:=oR f y fs;lia
 .rw[oO];by_cases q:g=f
  .rw[p_ q,p_ q];exact U
  simp_all
 .by_cases q:g=f
  .rw[q];exact(oS f y fs).1
  .refine(oS f y fs).2 g (wi g λz=>Y ?_)
   simp_all
def B3.made(I:B3 X B2 σ H s):B3 X B2 σ (upd (upd H s.heap.objs.size (.own (s.heap.objs.size+1))) (s.heap.objs.size+1) (.ins C s.heap.objs.size []))
  {s with heap:=(s.heap.push Hx).push (I9 C s.heap.objs.size)}:=by
 have e1:(s.heap.push Hx).get? s.z=a_ Hx:=l_ s.heap rfl;have e2:=by
  have:=l_ (s.heap.push Hx) (o:=I9 C s.z) rfl
  rwa [Gi]at this
 have Y:=I.laid (o:=.own (s.z+1)) (t':=s.toks) (λb u q=>d_ _ q) (o_ _) ⟨_,e1⟩;refine Y.laid (λb u q=>d_ _ q) (LP (Gi _ _)) ?_;have J:s.z≠s.z+1:=E_ (IY _);refine⟨by rw[aw J,aq],GD _,J,e2,λ_=>g_,(Nw (⟨Hx,#[],_,e1,rfl,(λe U=>FN U aj),λ_=>rfl⟩)).at λo q=>d_ _ q,λ_=>JE,λy S=>FN rfl S⟩
end
def tFld(K:Pn)(ta:TE)(f:FU):TE:=λσ H Q=>ta σ H λx H1=>∃a C dx fs v,x=.ref a/\H1 a=a_ (.ins C dx fs)/\Cls K C/\jf K C f/\fs.lookup f=a_ v/\Q v H1
def sFld(K:Pn)(ta tv:TE)(f:FU):TS:=λD σ H=>tv σ H λy H1=>ta σ H1 λx H2=>∃a C dx fs,x=.ref a/\H2 a=a_ (.ins C dx fs)/\Cls K C/\jf K C f/\fs.length<1000 /\
 D.nx σ (upd H2 a (.ins C dx (vD f y fs)))
section
variable{o value:GI}{f:FU}{tv:TE}
def DB(Y:PE X e ta)(b:HV e f X.env (FL e X.env)=FL e X.env):PE X (.Attribute e f pos) (tFld X.K ta f):=by intro B2 s σ H Q I h;refine Attribute_any_ (B' (Y B2 s σ H _ I h) λu k U=>?_) (by rw[arm_eval_Attribute,b]);obtain⟨x,H1,g,J,a,C,dx,fs,v,ex,ea,c,n,l,q⟩:=U;subst ex;obtain rfl:u=D_ a:=J;exact BV g ea c n l λi j d S=>⟨v,H1,d,S,q⟩
def ps_fld(e:PE X o ta)(hv:PE X value tv)(d:G0 value (a_ (.Attribute o f pos')) pos.line X.env=G2 c_):PS X (.Assign [.Attribute o f pos'] value pos) (sFld X.K ta tv f):=by intro B2 s σ H D I h;refine Mv (B' (hv B2 s σ H _ I h) λu S J=>?_) d;obtain⟨y,H1,j,U,q⟩:=J;refine B' (e B2 S σ H1 _ j q) λb m J=>?_;obtain⟨x,H2,i,Y,a,C,dx,fs,ex,ea,c,n,l,q2⟩:=J;subst ex;obtain rfl:b=D_ a:=Y;exact Bi i ea c n l U λk g=>⟨σ,_,g,q2⟩
end
structure gR(k:Nat)(A:G8):Prop where
 hd:A.handled=g_
 dp:A.depth+3*k+5<recursionLimit
 un:A.units+16*k+200<GB
theorem gR.mono(r:gR k A)(h:j<=k):gR j A:=⟨r.hd,by have:=r.dp;lia,by have:=r.un;lia⟩
theorem gR.deeper{k:Nat}{A:G8}(r:gR (k+1) A)(env:MT):gR k (A.deeper env):=
 ⟨r.hd,by have:=r.dp;show A.depth+1+3*k+5<_;lia,by have:=r.un;show A.units+3+16*k+200<_;lia⟩
theorem BM:(A.under (.builtin "type.__call__" ⟨.ref C::us,kw⟩)).depth=A.depth+1:=by rfl
theorem BK:(A.under (.builtin "type.__call__" ⟨.ref C::us,kw⟩)).units=A.units+1:=by rfl
theorem gR.make(r:gR (k+1) A)(C:k_)(us:aH)(kw:List (FU×h_)):gR k (A.under (.builtin "type.__call__" ⟨.ref C::us,kw⟩)):=
 ⟨r.hd,by have:=r.dp;grind[BM],by have:=r.un;grind[BK]⟩
theorem gR.depth{k:Nat}{A:G8}(r:gR k A):A.depth<recursionLimit:=by have:=r.dp;lia
theorem gR.units{k:Nat}{A:G8}(r:gR k A):A.units+64<GB:=by have:=r.un;lia
noncomputable def tNil:TA:=λ_ H Q=>Q [] H
noncomputable def ni(ta:TE)(J:TA):TA:=λσ H Q=>ta σ H λx H1=>J σ H1 λxs H2=>Q (x::xs) H2
section
variable{t:TA}
def cA:PA X [] tNil:=λ_ _ _ _ H Q I h=>Oh ⟨[],H,I,.nil,h⟩
def aR(c:PE X e te)(b:PA X es t)(a: ~~~(j_ (e::es) X.env=(c_,FL e X.env)::j_ es X.env)):PA X (e::es) (ni te t):=by intro pos B2 s σ H Q I h;rw[a];refine Jd (B' (c B2 s σ H _ I h) λu S J=>?_);obtain⟨x,H1,f,Y,q1⟩:=J;refine B' (b pos B2 S σ H1 _ f q1) λus g J=>?_;obtain⟨xs,H2,d,U,q2⟩:=J;exact⟨x::xs,H2,d,.cons Y U,q2⟩
def tTup(t:TA):TE:=λσ H Q=>t σ H λxs H1=>xs.length<=t_/\∀p,H1 p=g_->Q (.ref p) (upd H1 p (.tup xs))
def tLst(t:TA):TE:=λσ H Q=>t σ H λxs H1=>xs.length<=t_/\∀p,H1 p=g_->Q (.ref p) (upd H1 p (.lst xs))
def pe_tup{U}(h:PA X es t):PE X (.Tuple es U pos) (tTup t):=by
 intro B2 s σ H Q I Y;refine wpAny_Tuple_spliced (B' (h pos B2 s σ H _ I Y) λus J a=>?_);obtain⟨xs,H1,S,r,z,q⟩:=a;refine⟨by rw[<- r.length];exact z,?_⟩
 refine⟨.ref J.z,upd H1 J.z _,S.laid (λb u e=>d_ _ e) (o_ _) ?_,rfl,q _ (S.hok.fresh (o_ _))⟩
 exact⟨z,us,r,⟨_,l_ _ rfl,rfl,_,rfl⟩⟩
def pe_lst(h:PA X es t):PE X (.List es pos) (tLst t):=by
 intro B2 s σ H Q I U;refine wpAny_List_spliced (B' (h pos B2 s σ H _ I U) λus J Y=>?_);obtain⟨xs,H1,S,r,z,q⟩:=Y;refine⟨by rw[<- r.length];exact z,?_⟩
 refine⟨.ref J.z,upd H1 J.z _,S.laid (λb u e=>d_ _ e) (o_ _) ?_,rfl,q _ (S.hok.fresh (o_ _))⟩
 exact⟨z,us,0,r,l_ _ rfl⟩
end
abbrev Sp:=a0->Hp->VK->XK->Prop
variable{sp:Sp}
abbrev CXT:=List MT->Hp->i_->XK->Mq
variable{CX:CXT}
structure Env0(P:Gf)(w:GS)(K:Pn)(mg:Ld)(base:FX)(A:G8)(outer:List MT)(s:i_)(H:Hp):Prop where
 frames:A.frames=a_ outer
 mod:Mod K mg base
 bs:∀b o,base.get? b=a_ o->s.heap.get? b=a_ o/\H b=g_
 bsz:base.objs.size<=s.heap.objs.size
 wj:s.heap.FunFrames base outer
 frf:∀b∈frs outer,H b=g_
 hok:HOk H s.heap
 bare:KG s.gens
inductive CE(outer:List MT)(P:Gf)(w:GS)(H:Hp)(s:i_)(Q:VK)(u:h_)(s':i_):Prop
 |mk (v:V) (H':Hp) (o:s'.os=s.os) (b:KG s'.gens) (n:Un (frs outer) [] H H' s.heap s'.heap) (k:HOk H' s'.heap) (r:B5 v u) (q:Q v H')
def CR(CX:CXT)(outer:List MT)(P:Gf)(w:GS)(H:Hp)(s:i_)(Q:VK)(E:XK)(r:Ox)(s':i_):Prop:=
 match r with
 |.ok (.ret u)=>CE outer P w H s Q u s'|.ok _=>False|.error e=>CX outer H s E e s'
structure gQ(P:Gf)(w:GS)(K:Pn)(mg:Ld)(base:FX)(CX:CXT)(k:Nat)(f:k_)(fd:HN)(ps:List FU)(sp:Sp):Prop where
 len:∀vs H Q E,sp vs H Q E->vs.length=ps.length
 run:∀(A:G8) (outer:List MT) (s:i_) (H:Hp) (args:Args) (us:aH) (vs:a0) (Q:VK) (E:XK),gR k A->Env0 P w K mg base A outer s H->LH s fd args (ps.zip us)->B6 vs us->sp vs H Q E ->
  Jc (x_ P w) A (.call (.ref f) args) (CR CX outer P w H s Q E) s
def Env0.make{base:FX}{s:i_}(e:Env0 P w K mg base A outer s H)(C:k_)(us:aH)(kw:List (FU×h_)):
  Env0 P w K mg base (A.under (.builtin "type.__call__" ⟨.ref C::us,kw⟩)) outer s H:=⟨by first|(simpa[Around.under,Code.envs,Code.isFrame,pushEnvs] using e.frames),e.mod,e.bs,e.bsz,e.wj,e.frf,e.hok,e.bare⟩
section
variable{s:i_}
def B3.env0(I:B3 X B2 σ H s):Env0 X.prog X.w X.K X.mg X.base X.A X.stack s H:=
 ⟨I.ok.frames,I.ok.mod,I.bs,Gg I.ok.bsz I.sz,I.stack,I.CW,I.hok,I.bare⟩
def B3.after{Q:VK}(I:B3 X B2 σ H s)(h:CE X.stack X.prog X.w H s Q u s'):EP X B2 σ Q u s':=by obtain⟨v,H',os,J,Y,U,r,q⟩:=h;obtain⟨a,g,d,t,S⟩:=s';obtain rfl:S=s.os:=os;exact⟨v,H',I.call Y U J (λb z=>FN z aj),r,q⟩
end
def tCall(sp:Sp)(dvs:a0)(E:XK)(t:TA):TE:=λσ H Q=>t σ H λvs H1=>sp (vs++dvs) H1 Q E
def tMeth(C:k_)(m:FU)(sp:Sp)(dvs:a0)(E:XK)(ta:TE)(t:TA):TE:=λσ H Q=>ta σ H λx H1=>∃a dx fs,x=.ref a/\H1 a=a_ (.ins C dx fs)/\fs.lookup m=g_ /\
 t σ H1 λvs H2=>sp (x::(vs++dvs)) H2 Q E
def tMake(C:k_)(sp:Sp)(dvs:a0)(E:XK)(t:TA):TE:=λσ H Q=>t σ H λvs H1=>∀x dx,H1 x=g_->H1 dx=g_->dx≠x ->
 sp (.ref x::(vs++dvs)) (upd (upd H1 dx (.own x)) x (.ins C dx [])) (λv H2=>v=.non/\Q (.ref x) H2) E
def Binds(K:Pn)(fd:HN)(ps:List FU)(ds:aH):Prop:=
 ∀(s:i_) (us:aH),K.In s.heap->(us++ds).length=ps.length->LH s fd ⟨us,[]⟩ (ps.zip (us++ds))
def Binds.all(h:∀us:aH,us.length=ps.length->Mg fd ⟨us,[]⟩=G2 (ps.zip us)):Binds K fd ps []:=λs us _ J=>by rw[HB]at J ⊢;exact .of_eq (h us J)
def Passes(CX:CXT)(X:Cx)(E:XK):Prop:=∀(B2:Vp) (σ:St) (H:Hp) (s:i_) (e:h_) (s':i_),B3 X B2 σ H s->CX X.stack H s E e s'->X.xe e s'
section
variable{f:k_}{dvs:List V}{ds:List h_}{E:XK}{apos:Qr}{o:GI}{t:TA}
theorem zF{s:i_}{Q:VK}(F:gQ X.prog X.w X.K X.mg X.base CX k f fd ps sp)(Y:gR k X.A)(a:Binds X.K fd ps ds)(hd:B6 dvs ds)(U:Passes CX X E)(I:B3 X B2 σ H s)(r:B6 vs us)(h:sp (vs++dvs) H Q E):r_ (x_ X.prog X.w) X.A (Jv (.ref f) us) (EP X B2 σ Q) X.xe s:=by
 have S:=r.append hd;refine K7 (HA (F.run X.A X.stack s H _ _ _ Q E Y I.env0 (a s us I.kIn (by rw[<- S.length];exact F.len _ _ _ _ h)) S h) λr s' J=>?_);cases r with
 |error e=>exact U B2 σ H s e s' I J|ok fl=>
  cases fl with
  |ret u=>exact I.after J|next=>exact Gh J|brk=>exact Gh J|cont=>exact Gh J
def ya(F:gQ X.prog X.w X.K X.mg X.base CX k f fd ps sp)(a:gR k X.A)(g:Gl X x)(c:X.mg x=a_ (.ref f))(d:IT X.K (.ref f)=f_)(j:Binds X.K fd ps ds)(hd:B6 dvs ds)(Y:Passes CX X E)(l:PA X (e::es) t)(S:((x==("__debug__":FU))=c_)⁻¹)(i: ~~~(j_ (e::es) X.env=(c_,FL e X.env)::j_ es X.env))(J: ~~~((GG pos (j_ es X.env)).any (·.1)=c_)):
  PE X (.Call (.Name x p) (e::es) [] pos) (tCall sp dvs E t):=by
 intro B2 s σ H Q I h;refine Hv (ju I g c ?_ S);refine K_ I.ok.mod.kin d (B' (l pos B2 s σ H _ I h) λus m b=>?_) i J;obtain⟨vs,H1,U,r,q⟩:=b;refine⟨U.kIn,?_⟩
 exact zF F a j hd Y U r q
def pe_meth(w:PE X o ta)(c:Cls X.K C)(b:Meth X.K C m f)(F:gQ X.prog X.w X.K X.mg X.base CX k f fd ps sp)(v:gR k X.A)(y:Binds X.K fd ps ds)(hd:B6 dvs ds)(n:Passes CX X E)(z:PA X (e::es) t)(J: ~~~(j_ (e::es) X.env=(c_,FL e X.env)::j_ es X.env))(S: ~~~((GG pos (j_ es X.env)).any (·.1)=c_))(p: ~~~(FL (.Call (.Attribute o m apos) (e::es) [] pos) X.env=(do
   let Y <- FL o X.env
   K8 apos.atName
   let (f,first) <- IW [Y] (LD Y m pl)
   O4 pos f first (GG pos (j_ (e::es) X.env)) (JX pos (IG [] X.env))))):
  PE X (.Call (.Attribute o m apos) (e::es) [] pos) (tMeth C m sp dvs E ta t):=by
 intro B2 s σ H Q I h;refine Kx (B' (w B2 s σ H _ I h) λu i U=>?_) p;obtain⟨x,H1,g,j,a,dx,fs,ex,ea,l,q⟩:=U;subst ex;obtain rfl:u=D_ a:=j;refine rF g ea c b l ?_;refine K_ I.ok.mod.kin b.kp (B' (z pos B2 i σ H1 _ g q) λus A U=>?_) J S;obtain⟨vs,H2,d,r,q2⟩:=U;refine⟨d.kIn,?_⟩
 exact zF (vs:=.ref a::vs) F v y hd n d (.cons rfl r) q2
def pe_meth0(i:PE X o ta)(c:Cls X.K C)(U:Meth X.K C m f)(F:gQ X.prog X.w X.K X.mg X.base CX k f fd ps sp)(e:gR k X.A)(j:Binds X.K fd ps ds)(hd:B6 dvs ds)(b:Passes CX X E)(d: ~~~(FL (.Call (.Attribute o m apos) [] [] pos) X.env=(do
   let S <- FL o X.env
   K8 apos.atName
   let (f,first) <- IW [S] (LD S m pl)
   O4 pos f first (GG pos (j_ [] X.env)) (JX pos (IG [] X.env))))):
  PE X (.Call (.Attribute o m apos) [] [] pos) (tMeth C m sp dvs E ta tNil):=by
 intro B2 s σ H Q I h;refine Kx (B' (i B2 s σ H _ I h) λu n g=>?_) d;obtain⟨x,H1,J,Y,a,dx,fs,ex,ea,l,q⟩:=g;subst ex;obtain rfl:u=D_ a:=Y;refine rF J ea c U l ?_;exact PySem.W.callWith_K0 J.kIn U.kp (zF (vs:=[.ref a]) F e j hd b J (.cons rfl .nil) q)
structure Mk(K:Pn)(C f:k_):Prop where
 makes:P8 K C=f_
 init:FT K (.ref C) "__init__"=a_ (a_ (.ref f))
 fn:isFn K (.ref f)=f_
 kp:IT K (.ref C)=f_
theorem run_make{s:i_}{Q:VK}(M:Mk X.K C f)(F:gQ X.prog X.w X.K X.mg X.base CX k f fd ps sp)(d:gR (k+1) X.A)(i:Binds X.K fd ps ds)(hd:B6 dvs ds)(c:Passes CX X E)(I:B3 X B2 σ H s)(r:B6 vs us)(h:∀x dx,H x=g_->H dx=g_->dx≠x->sp (.ref x::(vs++dvs)) (upd (upd H dx (.own x)) x (.ins C dx [])) (λv H2=>v=.non/\Q (.ref x) H2) E):
  r_ (x_ X.prog X.w) X.A (Jv (.ref C) us) (EP X B2 σ Q) X.xe s:=by
 have Y:=h (s.z+1) s.z (I.hok.fresh (Jk _)) (I.hok.fresh (o_ _)) (E_ (IY _));have S:=B3.made (C:=C) I;have U:B6 (V.ref (s.z+1)::(vs++dvs)) (D_ (s.z+1)::(us++ds)):=.cons rfl (r.append hd);have g:(D_ (s.z+1)::us++ds).length=ps.length:=by have e:=U.length;rw[F.len _ _ _ _ Y]at e;exact e.symm
 refine K7 (make_map (f:=f) I.kIn M.makes M.init (Kk.mp M.fn) (HA (F.run _ X.stack _ _ ⟨D_ (s.z+1)::us,[]⟩ (D_ (s.z+1)::(us++ds)) _ _ E (d.make C us [])
  (S.env0.make C us []) (i _ (D_ (s.z+1)::us) S.kIn g) U Y) λr s' J=>?_))
 cases r with
 |error e=>exact c B2 σ _ _ e s' S J|ok fl=>
  cases fl with
  |ret u=>obtain⟨v,H',j,a,ev,b⟩:=S.after J;subst ev;exact⟨a,⟨V.ref (s.z+1),H',j,rfl,b⟩⟩
  |next=>exact Gh J|brk=>exact Gh J|cont=>exact Gh J
def Dy(M:Mk X.K C f)(F:gQ X.prog X.w X.K X.mg X.base CX k f fd ps sp)(a:gR (k+1) X.A)(d:Gl X x)(c:X.mg x=a_ (.ref C))(i:Binds X.K fd ps ds)(hd:B6 dvs ds)(Y:Passes CX X E)(j:PA X (e::es) t)(S:((x==("__debug__":FU))=c_)⁻¹)(g: ~~~(j_ (e::es) X.env=(c_,FL e X.env)::j_ es X.env))(J: ~~~((GG pos (j_ es X.env)).any (·.1)=c_)):
  PE X (.Call (.Name x p) (e::es) [] pos) (tMake C sp dvs E t):=by
 intro B2 s σ H Q I h;refine Hv (ju I d c ?_ S);refine K_ I.ok.mod.kin M.kp (B' (j pos B2 s σ H _ I h) λus l b=>?_) g J;obtain⟨vs,H1,U,r,q⟩:=b;refine⟨U.kIn,?_⟩
 exact run_make M F a i hd Y U r q
end
structure g9(N P:List FU)(sc:Mm):Prop where
 kind:sc.kind=.function
 co:sc.isCoroutine=c_
 gen:sc.isGenerator=c_
 nd:N.Nodup
 pre:N.take P.length=P
 par:∀x∈P,sc.names.lookup x=a_ .local\/sc.names.lookup x=a_ .cell
 nofree:∀y∈sc.names,y.2≠.free
theorem xc{S:FU->Option IP}{x:FU}:∀{J:List (FU×h_)} {m:Ld},(∀v,(x,v)∉J)->O5 S J m x=m x
 |[],_,_=>rfl|(n,v)::r,m,h=>by
  unfold O5;rw[xc λw hw=>h w (Hu _ hw)];split
  .grind
  .rfl
theorem xg{S:FU->Option IP}{x:FU}:∀{J:List (FU×h_)} {m:Ld},(∀v,(x,v)∉J)->O6 S J m x=m x
 |[],_,_=>rfl|(n,v)::r,m,h=>by
  unfold O6;rw[xg λw hw=>h w (Hu _ hw)];split
  .rfl
  grind
theorem xf{J:FU->Option IP}{x:FU}{v:h_}:∀{P:List FU} {vs:aH} {i:Nat} {m:Ld},P.Nodup->P[i]?=a_ x->vs[i]?=a_ v->J x=a_ .local ->
  O5 J (P.zip vs) m x=a_ v
 |[],_,_,_,_,h,_,_=>by simp at h|_::_,[],_,_,_,_,h,_=>by simp at h|p::P,w::vs,0,m,U,h1,S,Y=>by simp at h1 S;subst h1;subst S;show O5 J ((p,w)::P.zip vs) m p=_;unfold O5;rw[xc λv hv=>(IB.mp U).1 (L6 hv).1,p_ Y];simp|p::P,w::vs,i+1,m,U,h1,S,Y=>by unfold O5;exact xf (IB.mp U).2 (by simpa using h1) (by simpa using S) Y
theorem xh{J:FU->Option IP}{x:FU}{v:h_}:∀{P:List FU} {vs:aH} {i:Nat} {m:Ld},P.Nodup->P[i]?=a_ x->vs[i]?=a_ v->J x≠a_ .local ->
  O6 J (P.zip vs) m x=a_ v
 |[],_,_,_,_,h,_,_=>by simp at h|_::_,[],_,_,_,_,h,_=>by simp at h|p::P,w::vs,0,m,U,h1,S,Y=>by simp at h1 S;subst h1;subst S;show O6 J ((p,w)::P.zip vs) m p=_;unfold O6;rw[xg λv hv=>(IB.mp U).1 (L6 hv).1,q_ Y];simp|p::P,w::vs,i+1,m,U,h1,S,Y=>by unfold O6;exact xh (IB.mp U).2 (by simpa using h1) (by simpa using S) Y
noncomputable def start(N:List FU)(vs:a0):St:=vs.map a_++Gr (N.length-vs.length) g_
noncomputable def Ax(CX:CXT)(P:Gf)(w:GS)(K:Pn)(mg:Ld)(base:FX)(N:List FU)(qual:FU)(scope:Mm)(f:k_)(cd:h_)(A:G8)(outer:List MT)(s:i_)(H:Hp)(E:XK):Cx where
 prog:=P
 w:=w
 K:=K
 mg:=mg
 base:=base
 A:=A.deeper (Jw qual scope s.heap.objs.size f cd)
 N:=N
 s₀:=s
 H₀:=H
 env:=Jw qual scope s.heap.objs.size f cd
 outer:=outer
 stack:=Jw qual scope s.heap.objs.size f cd::outer
 ex:=[]
 calm:=f_
 fn:=λ_=>f_
 pn:=[]
 xe:=λe s'=>r_ (x_ P w) (A.deeper (Jw qual scope s.heap.objs.size f cd)) (leaving (Jw qual scope s.heap.objs.size f cd) e) (λ_ J=>CX outer H s E e J) (λS J=>CX outer H s E S J) s'
def AD{sc:Mm}{n:Nat}(h:sc.names.lookup x=a_ .cell):∃c,(Hb n sc.names []).lookup x=a_ c:=by exact Ic.mp (Ip sc.names n [] (.inl h))
theorem Eo{base:FX}{f:k_}{cd:h_}{s l:i_}{E:XK}(S:g9 N ps scope)(hd:A.handled=g_)(J:Env0 P w K mg base A outer s H)(C:vs.length=ps.length)(r:B6 vs us)(x:InCallC s s.heap.objs.size (O5 (Jw qual scope s.heap.objs.size f cd).kindOf (ps.zip us) λ_=>g_) (Hb (s.heap.objs.size+1) scope.names []) (O6 (Jw qual scope s.heap.objs.size f cd).kindOf (ps.zip us) λ_=>g_) l):
  B3 (Ax CX P w K mg base N qual scope f cd A outer s H E) [] (start N vs) H l:=by
 have t:ps.length<=N.length:=by have:=J0 L3 S.pre;rw[Ku]at this;lia
 obtain⟨h1,tk,rfl,n⟩:=x.done;have U:∀b,b∉(Ax CX P w K mg base N qual scope f cd A outer s H E).ex:=λb z=>FN (show b∈[]from z) aj;refine⟨⟨J.mod,S.kind,rfl,rfl,o_ _,λy z c h1 j=>?_,λy d=>?_,λy c _ h=>?_,λ_=>hd,Around.frames_deeper J.frames,.inr ⟨rfl,rfl⟩,λb z=>FN z (U b),J.bs,J.bsz,λb _ _=>U b,λb z=>FN z (U b),J.wj,J.frf⟩,
  rfl,J.bare,Un.kept n,⟨_,x.toInCall.ns,λi y v h1 j D=>?_⟩,λy c h=>⟨_,x.cell y c h⟩,J.hok.fresh (o_ _),λy c h=>?_,λp g=>FN (show p∈[]from g) aj,J.hok.kept n,?_⟩
 .exact name_of_addr x.apart (GZ h1) (GZ j)
 .rcases d with d|d
  .exact AD d
  .exact FN rfl (S.nofree _ (GZ d))
 .exact HI (x.above y c (GZ h))
 .have hi:i<vs.length:=by
   unfold start at j;by_cases hi:i<vs.length
   .exact hi
   .simp_all[MA,M9]
  have B:vs[i]?=a_ v:=by
   unfold start at j;rw[GY as]at j;cases e:vs[i]? with
   |none=>simp_all|some a=>simp_all
  obtain⟨u,m,o⟩:=r.get B;have g:ps[i]?=a_ y:=by rw[<- S.pre,List.getElem?_take_of_lt ad];exact h1
  have Y:ps.Nodup:=by rw[<- S.pre];exact S.nd.sublist (OG _ _)
  refine⟨u,o,?_⟩
  rcases S.par y (G9 g)with k|k
  .exact .inl ⟨k,xf Y g m k⟩
  .obtain⟨c,e⟩:=AD k;refine .inr ⟨.inl k,c,e,?_⟩;have q:=x.cell y c e;rw[xh Y g m (by show scope.names.lookup y≠_;simp_all)]at q;exact q
 .exact J.hok.fresh (HI (x.above y c (GZ h)))
 .unfold start;show _=N.length
  simp_all
theorem fn_of{base:FX}{f:k_}{U:Arguments}{B kV doc pm cdv ct oc:h_}{an od:Option k_}{osl:Array (Option h_)}(F:K.lookup f=a_ ⟨oc,od,.func (MF name qual U body scope B kV doc pm an cdv ct),osl⟩)(p:Nv K cdv qual=f_)(S:g9 N ps scope)(d:∀vs H Q E,sp vs H Q E->vs.length=ps.length)(a:∀(A:G8) (outer:List MT) (s:i_) (H:Hp) (vs:a0) (Q:VK) (E:XK),gR k (A.deeper (Jw qual scope s.heap.objs.size f cdv))->sp vs H Q E ->
   ∃t,PSs (Ax CX P w K mg base N qual scope f cdv A outer s H E) body t/\t {nx:=λ_ H'=>Q .non H',rt:=Q} (start N vs) H):
  gQ P w K mg base CX (k+1) f (MF name qual U body scope B kV doc pm an cdv ct) ps sp:=by
 refine⟨d,λA outer s H C us vs Q E m i T r g=>?_⟩
 have D:=i.mod.kin.keeps λb o e=>(i.bs b o e).1;have l:=i.mod.nolimit.keeps λb o e=>(i.bs b o e).1;have Y:∀y∈ps.zip us,scope.names.lookup y.1=a_ .local\/(scope.names.lookup y.1=a_ .cell/\((Hb (s.z+1) scope.names []).lookup y.1).isSome=f_):=λ⟨n,v⟩ G=>by
  rcases S.par n (L6 G).1 with q|q
  .exact .inl q
  .exact .inr ⟨q,Ip _ _ _ (.inl q)⟩
 refine codeAny_call_function m.depth (D _ _ F) rfl S.co S.gen rfl (PySem.W.codeRec_of D p) (T _ _ _ _ ?_);refine wpAny_newFunctionEnv_cells S.kind Y λenv R z x=>?_;subst R;refine⟨l.keeps x.toInCall.keep,codeAny_func ?_⟩
 obtain⟨t,L,O⟩:=a A outer s H vs Q E (m.deeper _) g;have I:B3 (Ax CX P w K mg base N qual scope f cdv A outer s H E) [] _ H z:=Eo S m.hd i (d _ _ _ _ g) r x;refine Gx (L [] z _ H _ I O) (λfl s' c=>?_) λe s' c=>c;have h:∀{σ':St} {H':Hp} {v:V} {u:h_},B3 (Ax CX P w K mg base N qual scope f cdv A outer s H E) [] σ' H' s'->B5 v u->Q v H'->CE outer P w H s Q u s':=
  λ{σ' H' v u} J j q=>⟨v,H',J.os,J.bare,J.base,J.hok,j,q⟩
 cases fl with
 |ret u=>obtain⟨v,σ',H',J,j,q⟩:=c;exact h J j q
 |next=>obtain⟨σ',H',J,q⟩:=c;exact h (v:=V.non) J rfl q
 |brk=>
  obtain⟨_,_,_,q⟩:=c
  simp_all
 |cont=>
  obtain⟨_,_,_,q⟩:=c
  simp_all
section
variable{t:TA}{id T:String}{r:List V->Hp->VK->Prop}
def tCB(r:a0->Hp->VK->Prop)(t:TA):TE:=λσ H Q=>t σ H λvs H1=>r vs H1 Q
def gV(g:du X (.builtin id) r)(d:Gl X x)(c:X.mg x=g_)(hv:Hi x=a_ (.builtin id))(i:PA X (e::es) t)(b:(x≠"__name__")⁻¹)(S:((x==("__debug__":FU))=c_)⁻¹)(f: ~~~(j_ (e::es) X.env=(c_,FL e X.env)::j_ es X.env))(J: ~~~((GG pos (j_ es X.env)).any (·.1)=c_)):PE X (.Call (.Name x p) (e::es) [] pos) (tCB r t):=by intro B2 s σ H Q I h;refine Hv (gH I d c hv ?_ b S);refine K5 (B' (i pos B2 s σ H _ I h) λus U a=>?_) f J;obtain⟨vs,H1,j,Y,q1⟩:=a;exact g B2 U σ H1 vs us Q j Y q1
def kW(g:du X (.type T) r)(d:Gl X x)(c:X.mg x=g_)(hv:Hi x=a_ (.type T))(i:PA X (e::es) t)(b:(x≠"__name__")⁻¹)(S:((x==("__debug__":FU))=c_)⁻¹)(f: ~~~(j_ (e::es) X.env=(c_,FL e X.env)::j_ es X.env))(J: ~~~((GG pos (j_ es X.env)).any (·.1)=c_)):PE X (.Call (.Name x p) (e::es) [] pos) (tCB r t):=by intro B2 s σ H Q I h;refine Hv (gH I d c hv ?_ b S);refine FR (B' (i pos B2 s σ H _ I h) λus U a=>?_) f J;obtain⟨vs,H1,j,Y,q1⟩:=a;exact g B2 U σ H1 vs us Q j Y q1
end
end Lake
namespace Lake.HT
open PySem PyProof.Rows
section
open PySem.SeqAt
open PySem.AutoSeq1 (wpAny_loadPart')
open PySem.MeetsSeq PySem.MeetsSeq2 PySem.MeetsSeq3
end
section
variable{prog:Gf}{w:GS}{A:G8}{E:Mq}{s:i_}
theorem cat_tup{t b:k_}{vs J:aH}{Q:Mq}(h:Qe s.heap t vs.toArray)(j:Qe s.heap b J.toArray)(hv:vs≠[])(h1:J=[]->Q (.ref t) s)(k:J≠[]->Q (.ref s.heap.objs.size) {s with heap:=s.heap.push {cls:=.type "tuple",data:=.seq (vs++J).toArray}})(hsz:vs.length+J.length<=t_):r_ (x_ prog w) A (Hr .Add (.ref t) (.ref b)) Q E s:=by
 obtain⟨⟨cls,dd,data,sl⟩,a,i,n,hd⟩:=id h;obtain⟨⟨g,Y,f,U⟩,S,d,n2,c⟩:=id j;subst i hd d c;have e:vs.toArray++J.toArray=(vs++J).toArray:=by simp
 by_cases hw:J=[]
 .exact Me ⟨_,a,rfl⟩ ⟨_,S,rfl⟩ ME NU Kp Kc (J1 _ _)
   (tuple_addW1 t b vs.toArray J.toArray n n2 dd Y sl U as (by simp[hw])) ⟨a,S,h1 hw⟩
 .refine Me ⟨_,a,rfl⟩ ⟨_,S,rfl⟩ ME NU Kp Kc (J1 _ _)
   (tuple_addW2 t b vs.toArray J.toArray n n2 dd Y sl U as as as) ⟨a,S,?_⟩
  rw[e];exact k hw
noncomputable def sIx(n d:Nat):Option Int->Nat
 |none=>d|some v=>if v<0 then(v+(n:Int)).toNat else min v.toNat n
theorem sIx_le(n d:Nat)(hd:d<=n)(o:Option Int):sIx n d o<=n:=by
 cases o with
 |none=>exact hd|some v=>
  show(if v<0 then(v+n).toNat else min v.toNat n)<=n
  lia
theorem Fb(v:Int)(n d:Nat):(if v<0 then max (v+(n:Int)) 0 else min v (n:Int))=((sIx n d (a_ v):Nat):Int):=by
 show(if v<0 then max _ 0 else min v n)=(((if v<0 then(v+(n:Int)).toNat else min v.toNat n):Nat))
 grind
theorem Cq(lo hi:Option Int)(n:Nat):JI lo hi 1 (n:Int)=(((sIx n 0 lo:Nat):Int),((sIx n n hi:Nat):Int)):=by
 have h1:¬((1:Int)<0):=ad
 unfold JI;simp only[h1,LN];refine LI ?_ ?_
 .cases lo with
  |none=>rfl|some v=>exact Fb v n 0
 .cases hi with
  |none=>rfl|some v=>exact Fb v n n
theorem BB(i j:Nat):IA (i:Int) (j:Int) 1=j-i:=by
 unfold IA
 lia
def qT{v:h_}{o:Option Int}{Q:Option Int->i_->Prop}(p:MI v o)(h:Q o s):r_ (x_ prog w) A (Qt v) Q E s:=by
 cases p with
 |none=>exact slicePart_none h|int i t=>exact slicePart_int h
def nj{sl:k_}{Y U:h_}{lo hi:Option Int}{n:Nat}{Q:Int×Int×Nat->i_->Prop}(b:s.heap.IsSliceOf sl Y U .none)(pl:MI Y lo)(a:MI U hi)(h:Q (((sIx n 0 lo:Nat):Int),1,sIx n n hi-sIx n 0 lo) s):r_ (x_ prog w) A (Qu (.ref sl) (G2 (n:Int))) Q E s:=by obtain⟨os,J,c,S⟩:=id b;refine b_ (b_ (GQ J S rfl (b_ (GQ J S rfl (b_ (GQ J S rfl (e_ ?_)))))));refine b_ (slicePart_none ?_);refine b_ (qT pl (b_ (qT a (b_ (e_ ?_)))));show r_ _ _ (match JI lo hi 1 n with|(lo,hi)=>G2 (lo,(1:Int),IA lo hi 1)) _ _ s;rw[Cq lo hi n];show r_ _ _ (G2 (((sIx n 0 lo):Int),1,IA ((sIx n 0 lo:Nat)) ((sIx n n hi:Nat)) 1)) _ _ s;rw[BB];exact e_ h
theorem pick_gen(xs:Array h_)(i k:Nat):((A1 k).filterMap λ(m:Nat)=>xs[((i:Int)+(m:Int)*1).toNat]?).toArray=((xs.toList.drop i).take k).toArray:=by
 have e:(λ(m:Nat)=>xs[(i+(m:Int)*1).toNat]?)=λm=>xs[i+m]?:=by
  funext m
  have:(i+(m:Int)*1).toNat=i+m:=ad
  rw[this]
 have:=pick_run xs i k;have e2:((λx=>xs[x]?)∘λx=>i+x)=λm=>xs[i+m]?:=rfl
 simp_all
theorem m7{t sl:k_}{items:Array h_}{c b:h_}{lo hi:Option Int}{Q:Mq}(S:Qe s.heap t items)(d:s.heap.IsSliceOf sl c b .none)(pl:MI c lo)(e:MI b hi)(hw:¬(sIx items.size 0 lo=0/\sIx items.size items.size hi=items.size))(h:Q (.ref s.heap.objs.size) {s with heap:=s.heap.push {cls:=.type "tuple",data:=.seq ((items.toList.drop (sIx items.size 0 lo)).take (sIx items.size items.size hi-sIx items.size 0 lo)).toArray}})(hsz:items.size<=t_):r_ (x_ prog w) A (Ov (.ref t) (.ref sl)) Q E s:=by
 have J:=by show((items.toList.drop (sIx items.size 0 lo)).take (sIx items.size items.size hi-sIx items.size 0 lo)).toArray.size<=t_;rw[GO,Ku,OU,Ge];lia
 obtain⟨os,U,a,f⟩:=id d;unfold Ov
 try with_reducible refine Gq ?_
 refine b_ (wpAny_sequenceKey S.typeIs al ?_);refine b_ (F_ S.typeIs Iq
  (FO Iq S.typeIs entry_tuple_getitem ?_ (args_tuple_getitem _ _)))
 show r_ _ _ (Lm _ >>= _) _ _ s;refine b_ (tupleItemsOf_ S ?_);refine b_ (J9 (⟨os,U,a⟩) ?_);refine b_ (nj d pl e ?_);have Y:¬((((sIx items.size 0 lo):Int)==0&&(1:Int)==1&&(sIx items.size items.size hi-sIx items.size 0 lo)==items.size)=f_):=by intro q;rw[FH,FH]at q;have q1:=Ki q.1.1;have q2:=Ki q.2;exact hw ⟨ad,ad⟩
 show r_ _ _ (if (((sIx items.size 0 lo):Int)==0&&1==1&&(sIx items.size items.size hi-sIx items.size 0 lo)==items.size)=f_ then _ else _) _ _ s;rw[q_ Y,pick_gen]
 first
  |exact b_ (FP (b_ (e_ (e_ ⟨_,rfl,e_ h⟩))) J)
end
end Lake.HT
namespace Lake
open PySem PySem.Spec PyProof.Rows
variable{X:Cx}{e:GI}{pos:Qr}{r:V->Option Int->Option Int->Hp->VK->Prop}{xs ys:List V}{us its its':List h_}{α:Type}{n:Nat}{i:Int}{B2:Vp}{σ:St}{H:Hp}{T:String}{x:V}
abbrev TO:=St->Hp->(Option Int->Hp->Prop)->Prop
inductive OP(X:Cx)(B2:Vp)(σ:St)(Q:Option Int->Hp->Prop)(u:h_)(s':i_):Prop
 |mk (o:Option Int) (H':Hp) (I:B3 X B2 σ H' s') (r:MI u o) (q:Q o H')
def PO(X:Cx)(e:Option GI)(t:TO):Prop:=
 ∀(B2:Vp) (s:i_) (σ:St) (H:Hp) (Q:Option Int->Hp->Prop),B3 X B2 σ H s->t σ H Q ->
  r_ (x_ X.prog X.w) X.A (evalPart e X.env) (λu s'=>OP X B2 σ Q u s') X.xe s
noncomputable def tNoPart:TO:=λ_ H Q=>Q g_ H
def tPart(t:TE):TO:=λσ H Q=>t σ H λx H1=>∃i,x=.int i/\Q (a_ i) H1
def intsAre_of{ns:aG}:∀{us:aH},B6 (ns.map V.int) us->Ih us ns:=by
 induction ns with
 |nil=>intro us r;cases r;exact .nil|cons n ns U=>
  intro us r;cases r with
  |cons S J=>obtain⟨t,e⟩:=S;subst e;exact .cons n t (U J)
section
variable{te:TE}{lo hi:Option GI}{tl th:TO}{p2:Qr}
def po_none:PO X g_ tNoPart:=by intro B2 s σ H Q I h;exact e_ ⟨g_,H,I,.none,h⟩
def po_some(h:PE X e te):PO X (a_ e) (tPart te):=by intro B2 s σ H Q I hw;refine B' (h B2 s σ H _ I hw) λu Y S=>?_;obtain⟨x,H1,U,J,q1⟩:=S;obtain⟨i,rfl,q⟩:=q1;obtain⟨t,rfl⟩:=J;exact⟨a_ i,H1,U,.int i t,q⟩
def SlR(X:Cx)(r:V->Option Int->Option Int->Hp->VK->Prop):Prop:=
 ∀(B2:Vp) (s:i_) (σ:St) (H:Hp) (x:V) (v S J:h_) (lo hi:Option Int) (sl:k_) (Q:VK),B3 X B2 σ H s->B5 x v->s.heap.IsSliceOf sl S J .none->MI S lo->MI J hi->r x lo hi H Q ->
  ∃T id,PD (.type T) "__getitem__"=G2 (a_ (.builtin id))/\s.TypeIs v T/\r_ (x_ X.prog X.w) X.A (Ov v (.ref sl)) (EP X B2 σ Q) X.xe s
def SlR.or{r':V->Option Int->Option Int->Hp->VK->Prop}(h:SlR X r)(h':SlR X r'):SlR X (λx lo hi H Q=>r x lo hi H Q\/r' x lo hi H Q):=by
 intro B2 s σ H x v S J lo hi sl Q I U a pl Y q;rcases q with q|q
 .exact h B2 s σ H x v S J lo hi sl Q I U a pl Y q
 .exact h' B2 s σ H x v S J lo hi sl Q I U a pl Y q
noncomputable def tSl(r:V->Option Int->Option Int->Hp->VK->Prop)(te:TE)(tl th:TO):TE:=λσ H Q=>te σ H λx H1=>tl σ H1 λl H2=>th σ H2 λu J=>r x l u J Q
def pe_slice(k:SlR X r)(o:PE X e te)(m:PO X lo tl)(i:PO X hi th):PE X (.Subscript e (.Slice lo hi g_ p2) pos) (tSl r te tl th):=by intro B2 s σ H Q I h;refine Subscript_ (B' (o B2 s σ H _ I h) λv c J=>?_);obtain⟨x,H1,y,d,q1⟩:=J;refine wpAny_Slice (B' (m B2 c σ H1 _ y q1) λY a J=>?_);obtain⟨l,H2,w,pl,q2⟩:=J;refine B' (i B2 a σ H2 _ w q2) λU S J=>?_;obtain⟨u,z,t,g,f⟩:=J;refine e_ ?_;obtain⟨T,id,p,j,n⟩:=k B2 {S with heap:=S.heap.push {cls:=.type "slice",data:=.fields #[Y,U,.none]}} σ z x v Y U l u S.z Q (t.kept (t':=S.toks) λb A q=>d_ _ q) d (P_ ..) pl g f;exact tail_any j p n (by rfl)
def cutV(xs:a0)(lo hi:Option Int):a0:=(xs.drop (HT.sIx xs.length 0 lo)).take (HT.sIx xs.length xs.length hi-HT.sIx xs.length 0 lo)
theorem pG(xs:a0)(lo hi:Option Int):(cutV xs lo hi).length<=xs.length:=by unfold cutV;rw[Ku,OU];lia
def rSlT(K:Pn):V->Option Int->Option Int->Hp->VK->Prop:=λx lo hi H Q=>∃a xs,x=.ref a/\SqT K H a xs /\
 ¬(HT.sIx xs.length 0 lo=0/\HT.sIx xs.length xs.length hi=xs.length)/\∀p,H p=g_->Q (.ref p) (upd H p (.tup (cutV xs lo hi)))
theorem sl_tup:SlR X (rSlT X.K):=by
 intro B2 s σ H x v g f lo hi sl Q I U e pl Y h;obtain⟨a,xs,rfl,d,hw,q⟩:=h;cases U;obtain⟨its,r,S,c⟩:=I.tuple d;have J:its.toArray.size=xs.length:=by exact r.length.symm
 refine⟨"tuple",_,Iq.lookup,S.typeIs,?_⟩
 refine HT.m7 S e pl Y (by rw[J];exact hw) ?_ as;rw[J];refine⟨.ref s.z,_,I.laid (λb i q=>d_ _ q) (o_ _) ?_,rfl,q _ (I.hok.fresh (o_ _))⟩
 exact⟨Gg (pG xs lo hi) c,_,(r.drop _).take _,OE _ _⟩
def rCatT(K:Pn):R2:=λx y H Q=>∃a b xs ys,x=.ref a/\y=.ref b/\SqT K H a xs/\SqT K H b ys/\xs≠[]/\xs.length+ys.length<=t_ /\
 (ys=[]->Q (.ref a) H)/\(ys≠[]->∀p,H p=g_->Q (.ref p) (upd H p (.tup (xs++ys))))
def B6.ym(r:B6 xs us):us=[]↔xs=[]:=by
 cases r with
 |nil=>simp|cons _ _=>simp
theorem op_catT:OpR X (Hr .Add) (rCatT X.K):=by
 intro B2 s σ H x y v u Q I c Y h;obtain⟨a,b,xs,ys,rfl,rfl,g,f,e,d,q1,q2⟩:=h;cases c;cases Y;obtain⟨its,S,p1,_⟩:=I.tuple g;obtain⟨U,J,p2,_⟩:=I.tuple f;refine HT.cat_tup p1 p2 (λz=>e (S.ym.mp z)) (λz=>⟨.ref a,H,I,rfl,q1 (J.ym.mp z)⟩) (λz=>?_) (by rw[<- S.length,<- J.length];exact d);refine⟨.ref s.z,_,I.laid (λb i q=>d_ _ q) (o_ _) ?_,rfl,q2 (λw=>z (J.ym.mpr w)) _ (I.hok.fresh (o_ _))⟩
 exact⟨as,_,S.append J,OE _ _⟩
end
noncomputable def ixN(n:Nat)(i:Int):Option Nat:=if 0<=i then(if i<n then a_ i.toNat else g_)else if -(n:Int)<=i then a_ (i+n).toNat else g_
def atI(xs:List α)(i:Int):Option α:=(ixN xs.length i).bind λj=>xs[j]?
theorem yt{j:Nat}(h:ixN n i=a_ j):seqIndex? i n=a_ j/\j<n/\ -(n:Int)<=i/\i<n:=by
 unfold ixN at h;by_cases J:0<=i
 .by_cases h1:i<n
  .grind[OZ]
  simp_all
 .by_cases h1: -n<=i
  .grind[Ot]
  simp_all
theorem Fv{xs:List α}{v:α}(h:atI xs i=a_ v):∃j,seqIndex? i xs.length=a_ j/\xs[j]?=a_ v/\j<xs.length/\ -(xs.length:Int)<=i/\i<xs.length:=by
 unfold atI at h;cases e:ixN xs.length i with
 |none=>simp_all|some j=>rw[e]at h;obtain⟨h1,U,S,J⟩:=yt e;exact⟨j,h1,h,U,S,J⟩
def zb(b:GI):Prop:=∀o i,subscripted b c_ o i=operate [o,i] (Ov o i)
def IxR(X:Cx)(r:R2):Prop:=
 ∀(value J:GI) (B2:Vp) (s:i_) (σ:St) (H:Hp) (x y:V) (v u:h_) (Q:VK),B3 X B2 σ H s->B5 x v->B5 y u->r x y H Q ->
  subscripted J c_ v u=operate [v,u] (Ov v u)->r_ (x_ X.prog X.w) X.A (subscriptTail value J v u) (EP X B2 σ Q) X.xe s
def MtR(X:Cx)(id:String)(r:V->a0->Hp->VK->Prop):Prop:=
 ∀(B2:Vp) (s:i_) (σ:St) (H:Hp) (x:V) (xs:a0) (v:h_) (us:aH) (Q:VK),B3 X B2 σ H s->B5 x v->B6 xs us->r x xs H Q ->
  r_ (x_ X.prog X.w) X.A (Jv (.builtin id) (v::us)) (EP X B2 σ Q) X.xe s
section
variable{a b:GI}{ta tb:TE}
def IxR.or{r r':R2}(h:IxR X r)(h':IxR X r'):IxR X (λx y H Q=>r x y H Q\/r' x y H Q):=by
 intro value J B2 s σ H x y v u Q I U S q Y;rcases q with q|q
 .exact h value J B2 s σ H x y v u Q I U S q Y
 .exact h' value J B2 s σ H x y v u Q I U S q Y
def pe_ix{r:R2}(c:IxR X r)(e:PE X a ta)(d:PE X b tb)(Y:zb b):PE X (.Subscript a b pos) (tOp r ta tb):=by intro B2 s σ H Q I h;exact Subscript_ (binT e d I h λv u J x y H2 f U S q=>c a b B2 J σ H2 x y v u Q f U S q (Y _ _))
def rIxL(K:Pn):R2:=λx y H Q=>∃p xs i v,x=.ref p/\y=.int i/\SqL K H p xs/\atI xs i=a_ v/\Q v H
def rIxT(K:Pn):R2:=λx y H Q=>∃p xs i v,x=.ref p/\y=.int i/\SqT K H p xs/\atI xs i=a_ v/\Q v H
theorem ix_list:IxR X (rIxL X.K):=by
 intro value S B2 s σ H x y v u Q I e d h a;obtain⟨p,xs,i,z,rfl,rfl,f,k,q⟩:=h;cases e;obtain⟨t,rfl⟩:=d;obtain⟨its,r,pl,o⟩:=I.list f;obtain⟨j,h1,n,B,m,l⟩:=Fv k;obtain⟨w,c,U⟩:=r.get n;have g:=r.length;have A:=zZ;have J:EP X B2 σ Q w s:=⟨z,H,I,U,q⟩
 by_cases b:0<=i
 .have Y:=by
   rw[OZ b l]at h1;exact GN h1
  exact item_listR pl.isList b ad (by rw[Y];simpa using c) J a
 .have Y:(i+its.toArray.size).toNat=j:=by
   rw[Ot ad m]at h1;rw[GO,<- g];exact GN h1
  exact OA pl.isList.typeIs P0.lookup
   (wpAny_getItem_list_neg pl.isList ad as ad (by rw[Y];simpa using c) ⟨rfl,J⟩) a
theorem ix_tup:IxR X (rIxT X.K):=by
 intro value J B2 s σ H x y v u Q I Y U h a;obtain⟨p,xs,i,z,rfl,rfl,b,c,q⟩:=h;cases Y;obtain⟨t,rfl⟩:=U;obtain⟨its,r,pl,f⟩:=I.tuple b;obtain⟨j,h1,d,n,m,l⟩:=Fv c;obtain⟨w,e,S⟩:=r.get d;have k:=r.length;have g:=zZ;exact OA pl.typeIs Iq.lookup
  (getItem_tuple (j:=j) pl ad ad as (by simpa using e) ⟨rfl,(⟨z,H,I,S,q⟩)⟩) a
def rIx(K:Pn):R2:=λx y H Q=>rIxL K x y H Q\/rIxT K x y H Q
def ix_seq:IxR X (rIx X.K):=ix_list.or ix_tup
def BJ(its:aH)(n j:Nat)(u:h_):GL (·.setIfInBounds j u) {cls:=.type "list",data:=.seq its.toArray n}={cls:=.type "list",data:=.seq (its.set j u).toArray n}:=by simp[GL]
theorem B3.lst{B2:Vp}{σ:St}{H:Hp}{s:i_}{p:k_}{xs:a0}(I:B3 X B2 σ H s)(h:H p=a_ (.lst xs)):
  ∃(its:aH) (n:Nat),B6 xs its/\s.heap.get? p=a_ {cls:=.type "list",data:=.seq its.toArray n}/\xs.length<=t_:=by
 obtain⟨z,its,n,r,e⟩:=I.hok p _ h;exact⟨its,n,r,e,z⟩
def B3.lstUpd{s:i_}{p:k_}{J:Nat}{f:JM->JM}(I:B3 X B2 σ H s)(h:H p=a_ (.lst xs))(Y:s.heap.get? p=a_ {cls:=.type "list",data:=.seq its.toArray n})(S:f {cls:=.type "list",data:=.seq its.toArray n}={cls:=.type "list",data:=.seq its'.toArray J})(r:B6 ys its')(U:ys.length<=t_)(t:Nat):
  B3 X B2 σ (upd H p (.lst ys)) {s with heap:=s.heap.update p f,toks:=t}:=by
 have e:(s.heap.update p f).get? p=a_ {cls:=.type "list",data:=.seq its'.toArray J}:=by rw[FV f Y (by rw[S]<;>rfl),S]
 refine I.write (by rw[h];trivial) (.inl rfl) (λb u a q=>(A_ _ _ (GX a)).trans q) ⟨_,e⟩ ?_;exact⟨U,its',J,r,e⟩
def rSetL:V->V->V->Hp->(Hp->Prop)->Prop:=λo i v H Q=>∃p xs k j,o=.ref p/\i=.int k/\H p=a_ (.lst xs)/\ixN xs.length k=a_ j/\Q (upd H p (.lst (xs.set j v)))
theorem set_list:PSet X rSetL:=by
 intro B2 s σ H o i v l m u Q I ro c b h;obtain⟨p,xs,k,j,rfl,rfl,U,e,q⟩:=h;cases ro;obtain⟨t,rfl⟩:=c;obtain⟨its,n,r,J,w⟩:=I.lst U;obtain⟨h1,y,g,f⟩:=yt e;have d:=r.length;have x:=zZ;have a:=
  I.lstUpd U J (BJ its n j u) (r.set b j) as s.toks
 by_cases Y:0<=k
 .have S:=by
   rw[OZ Y f]at h1;exact GN h1
  exact PySem.W.ki_setAt J Y ad as (by rw[S];exact⟨_,a,q⟩)
 .have S:(k+its.toArray.size).toNat=j:=by
   rw[Ot ad g]at h1;rw[GO,<- d];exact GN h1
  exact PySem.W.ki_setBack J ad as ad (by rw[S];exact⟨_,a,q⟩)
theorem ve(lo hi:Option Int)(n:Nat):(Lu lo hi g_ n).1=((HT.sIx n 0 lo:Nat):Int)/\(Lu lo hi g_ n).2.1=((HT.sIx n n hi:Nat):Int)/\(Lu lo hi g_ n).2.2=1:=by
 refine⟨?_,?_,rfl⟩
 .cases lo with
  |none=>rfl|some i=>
   simp[Lu,HT.sIx,]
   grind
 .cases hi with
  |none=>rfl|some i=>
   simp[Lu,HT.sIx,]
   grind
def sD(its:aH)(lo hi:Option Int):slicePick its.toArray lo hi g_=((its.drop (HT.sIx its.length 0 lo)).take (HT.sIx its.length its.length hi-HT.sIx its.length 0 lo)).toArray:=by obtain⟨h1,S,J⟩:=ve lo hi its.toArray.size;unfold slicePick;rw[h1,S,J];simp only[sliceRange_one,pick_run,GO]
def rSlL(K:Pn):V->Option Int->Option Int->Hp->VK->Prop:=λx lo hi H Q=>∃a xs,x=.ref a/\SqL K H a xs/\∀p,H p=g_->Q (.ref p) (upd H p (.lst (cutV xs lo hi)))
theorem sl_list:SlR X (rSlL X.K):=by
 intro B2 s σ H x v g f lo hi sl Q I U e pl Y h;obtain⟨a,xs,rfl,d,q⟩:=h;cases U;obtain⟨its,r,S,c⟩:=I.list d;have J:=r.length;refine⟨"list",_,P0.lookup,S.isList.typeIs,?_⟩
 refine wpAny_getItem_list_slice S.isList e pl Y .none aj ?_ as;rw[sD,<- J];refine⟨.ref s.z,_,I.laid (λb i q=>d_ _ q) (o_ _) ?_,rfl,q _ (I.hok.fresh (o_ _))⟩
 exact⟨Gg (pG xs lo hi) c,_,0,(r.drop _).take _,l_ _ rfl⟩
theorem jC:du X (.builtin "len") (λxs H Q=>∃p ys,xs=[.ref p]/\(SqL X.K H p ys\/SqT X.K H p ys)/\Q (.int ys.length) H):=by
 intro B2 s σ H xs us Q I r h;obtain⟨p,ys,rfl,J,q⟩:=h;obtain⟨u,rfl,U⟩:=vals1 r;cases U;have a:=zZ;rcases J with J|J
 .obtain⟨its,r',pl,Y⟩:=I.list J;have S:=r'.length;exact Calls.call_len_list pl.isList am ⟨.int ys.length,H,I.tok _,⟨s.toks+1,as⟩,q⟩
 .obtain⟨its,r',pl,Y⟩:=I.tuple J;have S:=r'.length;exact len_tuple pl am ⟨.int ys.length,H,I.tok _,⟨s.toks+1,as⟩,q⟩
def du.or{f:h_}{r r':a0->Hp->VK->Prop}(h:du X f r)(h':du X f r'):du X f (λxs H Q=>r xs H Q\/r' xs H Q):=by
 intro B2 s σ H xs us Q I J q;rcases q with q|q
 .exact h B2 s σ H xs us Q I J q
 .exact h' B2 s σ H xs us Q I J q
theorem nc:du X (.type "list") (λxs H Q=>∃p ys,xs=[.ref p]/\(SqL X.K H p ys\/SqT X.K H p ys)/\∀l,H l=g_->Q (.ref l) (upd H l (.lst ys))):=by
 intro B2 s σ H xs us Q I r h;obtain⟨p,ys,rfl,Y,q⟩:=h;obtain⟨u,rfl,g⟩:=vals1 r;cases g;have c:∀(its:aH),B6 ys its->ys.length<=t_->∀(h':FX) (J:Nat),(∀b o',s.heap.get? b=a_ o'->h'.get? b=a_ o') ->
   h'.get? s.z=a_ {cls:=.type "list",dict:=g_,data:=.seq its.toArray J,slots:=#[]}->EP X B2 σ Q _ {s with heap:=h'}:=λits r' U h' J S e=>
  ⟨.ref s.z,_,I.laid S (o_ _) (show dq _ h' _ (.lst ys)from⟨U,its,J,r',e⟩),rfl,q _ (I.hok.fresh (o_ _))⟩
 rcases Y with Y|Y
 .obtain⟨its,r',pl,U⟩:=I.list Y;have a:=r'.length;obtain⟨o,d,f,n,hd⟩:=pl.isList;exact call_list_seq p (.inl rfl) d f hd (λh' J S e=>c its r' U h' J S e) as
 .obtain⟨its,r',pl,U⟩:=I.tuple Y;have a:=r'.length;obtain⟨o,d,f,n,hd⟩:=pl;exact call_list_seq p (.inr rfl) d f hd (λh' J S e=>c its r' U h' J S e) as
theorem ur:du X (.type "tuple") (λxs H Q=>∃p ys,xs=[.ref p]/\((SqL X.K H p ys/\∀l,H l=g_->Q (.ref l) (upd H l (.tup ys)))\/(SqT X.K H p ys/\Q (.ref p) H))):=by
 intro B2 s σ H xs us Q I r h;obtain⟨p,ys,rfl,h⟩:=h;obtain⟨u,rfl,a⟩:=vals1 r;cases a;rcases h with⟨J,q⟩|⟨J,q⟩
 .obtain⟨its,r',pl,S⟩:=I.list J;have U:=r'.length;refine call_tuple_list pl.isList (λh' c=>?_) as;have Y:=I.kept (t':=s.toks) c;exact⟨.ref h'.objs.size,_,(Y.laid (t':=s.toks) (λb o e=>d_ _ e) (o_ _) (show dq _ _ _ (.tup ys)from⟨S,its,r',OE _ _⟩)),rfl,q _ (Y.hok.fresh (o_ _))⟩
 .obtain⟨its,r',pl,S⟩:=I.tuple J;exact call_tuple_same pl ⟨.ref p,H,I,rfl,q⟩
def tyV(K:Pn)(T:String)(x:V)(H:Hp):Prop:=T="list"/\∃p xs,x=.ref p/\SqL K H p xs
def tyV_is{s:i_}{v:h_}(I:B3 X B2 σ H s)(r:B5 x v)(ty:tyV X.K T x H):
  s.TypeIs v T/\∀a,v=.ref a->∃J,s.heap.get? a=a_ J/\J.dict=g_:=by
 obtain⟨rfl,p,xs,rfl,S⟩:=ty;cases r;obtain⟨its,_,pl,_⟩:=I.list S;refine⟨pl.isList.typeIs,λa e=>?_⟩
 cases e;obtain⟨o,n,e,c,hd,_⟩:=pl;exact⟨o,e,hd⟩
def tBM(K:Pn)(T:String)(r:V->a0->Hp->VK->Prop)(to:TE)(t:TA):TE:=λσ H Q=>to σ H λx H1=>tyV K T x H1/\t σ H1 λxs H2=>r x xs H2 Q
variable{o:GI}{es:List GI}{to:TE}{t:TA}{name:FU}{apos cpos:Qr}{id:String}{r:V->List V->Hp->VK->Prop}
def pe_bm(l:PlainAttrs T)(Y:Slot T name id)(b:typeOf (.builtin id)=G2 (.type "method_descriptor"))(p:MtR X id r)(n:PE X o to)(q:PA X (e::es) t)(U: ~~~(HV o name X.env (FL o X.env)=FL o X.env))(a: ~~~(((GG cpos (j_ (e::es) X.env)).all (λx=> !x.1)&&(JX cpos (IG [] X.env)).all (λx=>x.1.isSome)
   &&s_ ((e::es).length+([]:List JV).length+(if ([]:List JV).isEmpty then 0 else 1)<30))=f_))(S: ~~~((apos.endLine==cpos.line)=f_))(m: ~~~(j_ (e::es) X.env=(c_,FL e X.env)::j_ es X.env))(J: ~~~((GG cpos (j_ es X.env)).any (·.1)=c_)):
  PE X (.Call (.Attribute o name apos) (e::es) [] cpos) (tBM X.K T r to t):=by
 intro B2 s σ H Q I h;refine wpAny_Call_method_late U a S rfl (B' (n B2 s σ H _ I h) λv j c=>?_);obtain⟨x,H1,g,d,ty,q1⟩:=c;obtain⟨h1,u⟩:=tyV_is g d ty;refine⟨T,id,l,Y,b,h1,u,?_⟩
 have f:=q cpos B2 j σ H1 _ g q1;rw[m]at f ⊢;refine Kz (by show(c_||(GG cpos (j_ es X.env)).any (·.1))=c_;rw[J]<;>rfl) (NA ?_);refine B' f λus i c=>?_;obtain⟨vs,H2,w,k,q2⟩:=c;exact p B2 i σ H2 x vs v us Q w d k q2
/- xs.append(e),list.index on a module's tuple .. are MtR facts of 06m -/
end
def MtM(X:Cx)(id:String)(r:V->a0->Hp->VK->Prop):Prop:=
 ∀(B2:Vp) (s:i_) (σ:St) (H:Hp) (x:V) (xs:a0) (v:h_) (us:aH) (Q:VK),B3 X B2 σ H s->B5 x v->B6 xs us->r x xs H Q ->
  r_ (x_ X.prog X.w) X.A (Jv (.builtin id) (v::us)) (EP X B2 σ Q) X.xe s
def B6.one(h:B6 [x] us):∃u,us=[u]/\B5 x u:=by
 cases h with
 |cons r t=>cases t;exact⟨_,rfl,r⟩
def B6.two{y:V}(h:B6 [x,y] us):∃u v,us=[u,v]/\B5 x u/\B5 y v:=by
 cases h with
 |cons r t=>obtain⟨v,rfl,q⟩:=B6.one t;exact⟨_,_,rfl,r,q⟩
section
variable{s:i_}{l:k_}
def B3.lset{f:Array h_->Array h_}{t':Nat}(I:B3 X B2 σ H s)(a:H l=a_ (.lst xs))(e:s.heap.get? l=a_ {cls:=.type "list",data:=.seq its.toArray n})(U:f its.toArray=its'.toArray)(hv:B6 ys its')(J:ys.length<=t_):
  B3 X B2 σ (upd H l (.lst ys)) {s with heap:=s.heap.update l (GL f),toks:=t'}:=by
 have q:=PySem.IsL.update e f;rw[U]at q;refine I.write (by rw[a];exact Pj) (.inl rfl) (λb' u Y S=>(A_ s.heap _ (GX Y)).trans S) ⟨_,q⟩ ?_;exact⟨J,its',_,hv,q⟩
def B3.lnew{t':Nat}(I:B3 X B2 σ H s)(hv:B6 ys its)(J:ys.length<=t_):
  B3 X B2 σ (upd H s.heap.objs.size (.lst ys)) {s with heap:=s.heap.push {cls:=.type "list",data:=.seq its.toArray},toks:=t'}:=
 I.laid (λ_ _ q=>d_ _ q) (o_ _) ⟨J,its,0,hv,l_ _ rfl⟩
theorem B3.fresh(I:B3 X B2 σ H s):H s.heap.objs.size=g_:=I.hok.fresh (o_ _)
def B3.lstM(I:B3 X B2 σ H s)(J:H l=a_ (.lst xs)):xs.length<=t_/\∃(its:aH) (n:Nat),B6 xs its/\xs.length=its.length/\s.heap.get? l=a_ {cls:=.type "list",data:=.seq its.toArray n}:=by obtain⟨z,its,n,r,e⟩:=I.hok l _ J;exact⟨z,its,n,r,r.length,e⟩
theorem notLongL(h:n<=t_):JN n=c_:=by simp_all[JN]
end
def Dh:V->a0->Hp->VK->Prop:=λx vs H Q=>∃l xs y,x=.ref l/\vs=[y]/\H l=a_ (.lst xs)/\xs.length<t_/\Q .non (upd H l (.lst (xs++[y])))
theorem DY:MtM X "list.append" Dh:=by
 intro B2 s σ H x vs v us Q I S U h;obtain⟨l,xs,y,rfl,rfl,J,a,q⟩:=h;cases S;obtain⟨u,rfl,Y⟩:=U.one;obtain⟨z,its,n,r,b,e⟩:=I.lstM J;refine PJ Nz ⟨_,e,rfl⟩ F.entry_list_append (F.args_list_append_2 _ _) (PySem.list_append l its.toArray n u as) ⟨e,?_⟩;refine⟨.non,_,I.lset J e aj (r.append (.cons Y .nil)) ?_,rfl,q⟩
 grind[]
def rExtend:V->a0->Hp->VK->Prop:=λx vs H Q=>∃l b xs J,x=.ref l/\vs=[.ref b]/\H l=a_ (.lst xs)/\H b=a_ (.lst J)/\xs.length+J.length<=t_/\Q .non (upd H l (.lst (xs++J)))
theorem DX:MtM X "list.extend" rExtend:=by
 intro B2 s σ H x vs v us Q I Y a h;obtain⟨l,b,xs,i,rfl,rfl,U,g,k,q⟩:=h;cases Y;obtain⟨u,rfl,c⟩:=a.one;cases c;obtain⟨z,its,n,r,m,e⟩:=I.lstM U;obtain⟨j,J,n2,d,f,e2⟩:=I.lstM g;have hsz:its.toArray.size+J.toArray.size<=t_:=by rw[GO,GO];lia
 have S:¬(!its.toArray.isEmpty&&JN (its.toArray.size+J.toArray.size))=f_:=by rw[notLongL hsz,Py];exact HQ
 refine PJ Ny ⟨_,e,rfl⟩ F.entry_list_extend (F.args_list_extend_2 _ _)
  (AutoSeq1.list_extend_list_list_0 l its.toArray n b J.toArray n2 S as ad) ⟨e,e2,?_⟩
 refine⟨.non,_,I.lset U e aj (r.append d) ?_,rfl,q⟩
 simp_all
end Lake
namespace Lake.Att
open PySem PySem.W PySem.Calls PyProof.Rows
def oW{P:Params}{h:FX}:∀(ns:aG) (vs:aH),WellAll P h vs (ns.map WData.int)->Ih vs ns:=by
 intro ns
 induction ns with
 |nil=>intro vs w;cases w;exact .nil|cons n ns J=>
  intro vs w;cases w with
  |cons a b=>cases a;exact .cons _ _ (J _ b)
theorem D4{l:Lz}{n:Nat}(j:l.most=a_ n){P:Params}{h:FX}{J:List WData}{S:aH}(U:l.row.toRowW.claim.pre J=f_)(e:WellAll P h S J):
  ∃a vs ns,S=[D_ a]/\J=[WData.list (ns.map WData.int)]/\h.get? a=a_ {cls:=.type "list",data:=.seq vs.toArray}/\Ih vs ns/\ns.length<=n:=by
 have k:=(pre_splitW U).2;obtain⟨d,r,rfl,h1,o⟩:=hasAllW_cons ((pre_splitW U).1);obtain rfl:=hasAllW_nil o;obtain⟨xs,rfl,m⟩:=hasW_list h1;obtain⟨ns,rfl⟩:=items_int m;have Y:ns.length<=n:=by
  have c:=by have c:=(holds_andW k).1;rw[j]at c;exact c
  have p:=condW_of c (w_not (w_lt w_lit (w_len_list (w_arg rfl))));refine Nat.le_of_not_lt λq=>?_
  first
   |simp_all
 cases e with
 |cons g f=>
  cases f;cases g with
  |list i b=>exact⟨_,_,ns,rfl,rfl,i,oW ns _ b,Y⟩
def Ds(l:Lz)(args:List WData):l.row.toRowW.claim.post args (.bool f_) args=f_:=
 postW_of
  (show WShape.has [] _ .bool=f_ by rfl)
  (show(WTm.eq .res _).value [] {args:=args,res:=a_ _,after:=args}=a_ _ from w_eq_bool (w_res rfl) w_lit) rfl
def yZ{l:Lz}{n:Nat}{q:Gf}{U:List FU}{y:(Ld)->FX->Prop}{x:GS->FX->Prop}{d:DefRec}(C:l.most=a_ n)(m:d.params.defaults=[])(h:∀(w:GS) (S J:i_) (mg i:Ld) (fa:k_) (o:JM) (pm cd doc:h_) (a:k_) (vs:aH) (ns:aG),
   Ground q U [] y w S mg i J.heap->x w J.heap ->
   J.heap.get? fa=a_ o->o.data=.func (docDef d.name d.params d.body d.scope pm cd doc)->J.heap.CodeRec cd d.name->mg d.name=a_ (.ref fa) ->
   J.heap.get? a=a_ {cls:=.type "list",data:=.seq vs.toArray}->Ih vs ns->ns.length<=n->J.gens=#[] ->
   Jc (x_ l.prog w) Mf (.call (.ref fa) ⟨[.ref a],[]⟩) (λr s'=>r=.ok (.ret (.bool f_))/\OldK J.heap s'.heap/\s'.os=J.os/\KG s'.gens) J):
  NZ q U y x l.row.toRowW d [] (λf vs=>Jv f vs):=by
 intro w S J mg i G Y fa o pm cd doc L kV B hd p u k F v s N c t z j E;obtain rfl:L=.none:=Dflts.none u m;obtain rfl:kV=.none:=Dflts.noKw u;obtain⟨a,vs,ns,rfl,rfl,e,b,g⟩:=D4 C c j;refine enter_call (HA (h w S J mg i fa o pm cd doc a vs ns G Y B (fd_plain hd) p k e b g F) λr s' A=>?_);obtain⟨rfl,K,I,H⟩:=A;exact⟨.inl ⟨.bool f_,.bool f_,[],rfl,λ_=>rfl,.bool f_,Ds l _,λ_=>⟨IZ,λ_ D=>(nomatch D)⟩⟩,K,I,H⟩
end Lake.Att
namespace Lake
open PySem PySem.Spec PyProof.Rows
variable{P prog:Gf}{w:GS}{K:Pn}{mg:Ld}{CX:CXT}{k n j i m nN nrem nN2 n2 ep sl ep':Nat}{a l b c L C r fad fI z I:k_}{fd fdI:HN}{x qual y nm:FU}{sp:Sp}{vs us tl its bmB sub:List h_}{ns ks:List Int}{X:Cx}{st b₀:GH}{ps N' N ps2 sn:List FU}{oc kV doc pm cdv ct mc v r' u k' a' b' hv cd first:h_}{od an dx hd dd:Option k_}{osl:Array (Option h_)}{pos spos py p apos pos' q p2 q1 q2 p1 np hpos pos1 cpos:Qr}{H H1 H2 H' F F' H0 F1 F0 FB:Hp}{scope sc:Mm}{env:MT}{A:G8}{E:Mq}{B2:Vp}{σ σ':St}{ix:List (Option Nat)}{fp ch ys wr:List k_}{R:Ox->i_->Prop}{elt tg iter e ex value ek ev e1 e2 e3 e4 e5:GI}{ifs es rest elts:List GI}{tt:TT}{te ta tb tv td:TE}{xs dvs:List V}{T B newId initId:String}{h h':FX}{cs:List (FU×k_)}{pl:OM Bool}{Q:Option h_->i_->Prop}{lo:Int}{O O2 OL O':List Nat}{ro bn hdct ab b1 b2 b3:Bool}{D:Ends}{α β κ:Type}{op op':CmpOp}{sts body suite:List GH}{s':i_}{k2 k0 k1 k3 k5:Option h_}{outer:List MT}{oe:JM}{ts:k_->Option k_->TS}{os:OsState}{tk:Tok}{col:Option Bool}{items:Array h_}{ord:List (Int×h_)}
theorem uT:∀{vs:aH} {ns:aG},Ih vs ns->B6 (ns.map V.int) vs
 |_,_,.nil=>.nil|_,_,.cons n t h=>.cons ⟨t,rfl⟩ (uT h)
def Only(H:Hp):Prop:=∀b,H b=g_\/∃o xs,H b=a_ (.frz o (.lst xs))
theorem law_call{A:Ld}{fa:k_}{J:i_}(O:K.In J.heap)(j:J.heap.Ns Gu mg)(f:J.heap.Ns PK A)(D:∀x:FU,x≠"__name__"->A x=Hi x)(l:J.heap.NoLimit)(hg:J.gens=#[])(E:J.heap.get? a=a_ {cls:=.type "list",data:=.seq vs.toArray})(hi:Ih vs ns)(hl:ns.length<=t_)(Z:gR k Mf)(F:∀base:FX,K.In base->base.Ns Gu mg->gQ P w K mg base CX k fa fd [x] sp)(c:∀(s:i_) (u:h_),LH s fd ⟨[u],[]⟩ [(x,u)])(B:∀H:Hp,Only H->SqL K H a (ns.map V.int)->sp [.ref a] H (λv _=>v=.bl f_) λ_ _ _=>False)(G:∀H e s',CX [] H J (λ_ _ _=>False) e s'->False):
  Jc (x_ P w) Mf (.call (.ref fa) ⟨[.ref a],[]⟩) (λr s'=>r=.ok (.ret (.bool f_))/\OldK J.heap s'.heap/\s'.os=J.os/\KG s'.gens) J:=by
 have T:=uT hi;have L:=hi.length;have Y:∀H:Hp,Only H->SqL K H a (ns.map V.int)->HOk H J.heap->(∀b,H b≠g_->b=a)->(H a≠g_->K.lookup a=g_) ->
   Jc (x_ P w) Mf (.call (.ref fa) ⟨[.ref a],[]⟩) (λr s'=>r=.ok (.ret (.bool f_))/\OldK J.heap s'.heap/\s'.os=J.os/\KG s'.gens) J:=by
  intro H N hS i hA hK;have S:∀{b:k_} {o:JM},J.heap.get? b=a_ o->H b=g_->(hidT J.heap H).get? b=a_ o:=λe n=>hidT_get e n;have y:∀{b:k_} {o:JM} {es:Array G5} {ep:Nat},J.heap.get? b=a_ o->o.data=.dict es ep->H b=g_:=λ{b o es ep} e d=>by grind
  have U:∀{b:k_} {m:Ld},J.heap.Ns b m->(hidT J.heap H).Ns b m:=λ{b m} ⟨o,es,ep,e,d,r⟩=>⟨o,es,ep,S e (y e d),d,r⟩
  have p:K.In (hidT J.heap H):=λb o e=>S (O b o e) am
  have hM:Mod K mg (hidT J.heap H):=⟨p,U j,⟨A,U f,D⟩,let ⟨mc,h1,h2⟩:=l;⟨mc,U h1,h2⟩⟩
  have e0:Env0 P w K mg (hidT J.heap H) Mf [] J H:=⟨rfl,hM,λb o e=>of_hidT e,LP (Er _ _),Pj,λb f=>FN (show b∈([]:List k_)from f) aj,i,.of_eq hg⟩
  refine HA ((F _ p (U j)).run Mf [] J H ⟨[.ref a],[]⟩ [.ref a] [.ref a] _ _ Z e0 (c J (.ref a)) (.cons rfl .nil) (B H N hS)) λr s' h=>?_;cases r with
  |error e=>exact(G H e s' h).elim|ok fl=>
   cases fl with
   |next=>exact Gh h|brk=>exact Gh h|cont=>exact Gh h|ret u=>
    obtain⟨v,H',os,t,I,g,r',q⟩:=h;have W:v=.bl f_:=q;subst W;obtain rfl:u=Mj f_:=r';refine⟨rfl,OldK.of_keep λb o e=>?_,os,t⟩
    cases q:H b with
    |none=>exact I.keep b o e q (by intro z;exact FN (show b∈([]:List k_)from z) aj) aj|some u=>
     rcases N b with z|⟨X,xs,z⟩
     .simp_all
     .have Q:=I.frzs b X _ z;obtain⟨e1,_⟩:=i b _ z;obtain⟨e2,_⟩:=g b _ Q
      simp_all
 cases C:K.lookup a with
 |some o=>have e:=O a o C;rw[E]at e;cases e;refine Y (λ_=>g_) (λ_=>.inl rfl) (.inr ⟨_,vs.toArray,_,C,rfl,rfl,rfl,as,as⟩) (λb u z=>by simp_all) (λb z=>FN rfl z) λz=>FN rfl z|none=>
  refine Y (λb=>if b=a then a_ (.frz {cls:=.type "list",data:=.seq vs.toArray} (.lst (ns.map V.int)))else g_) (λb=>?_) (.inl (.inr ⟨{cls:=.type "list",data:=.seq vs.toArray},p_ rfl⟩)) (λb u z=>?_) (λb z=>?_) λ_=>C
  .grind
  .by_cases f:b=a
   .have R:=(p_ f).symm.trans z;cases R;subst f;exact⟨E,as,vs,_,T,E⟩
   simp_all
  simp_all
def walk_of{l:Lz}{q:Gf}{S:List FU}{O:(Ld)->FX->Prop}{t:GS->FX->Prop}{d:DefRec}{K:Params->Pn}{CX:GS->CXT}{sp:GS->Sp}(A:l.most=a_ n)(i:n<=t_)(m:d.params.defaults=[])(z:gR k Mf)(E:∀(w:GS) (h:FX),t w h->(K w.params).In h)(F:∀(w:GS) (mg:Ld) (fa:k_) (h:FX),(K w.params).In h->h.Ns Gu mg->mg d.name=a_ (.ref fa) ->
   ∃fd:HN,(∀(s:i_) (u:h_),LH s fd ⟨[u],[]⟩ [(x,u)]) /\
    ∀base:FX,(K w.params).In base->base.Ns Gu mg->gQ l.prog w (K w.params) mg base (CX w) k fa fd [x] (sp w))(g:∀(w:GS) (H:Hp) (a:k_) (ns:aG),ns.length<=n->Only H->SqL (K w.params) H a (ns.map V.int)->sp w [.ref a] H (λv _=>v=.bl f_) λ_ _ _=>False)(p:∀(w:GS) (H:Hp) (s:i_) (e:h_) (s':i_),CX w [] H s (λ_ _ _=>False) e s'->False):
  NZ q S O t l.row.toRowW d [] (λf vs=>Jv f vs):=by
 refine Att.yZ A m λw r b mg P fa o pm cd doc a vs ns G Y Q hd C j c U J B=>?_;have y:=E w _ Y;obtain⟨fd,D,N⟩:=F w mg fa _ y G.T.g j;exact law_call y G.T.g G.T.b G.T.builtins G.T.nolimit B c U (Gg J i) z N D (λH L I=>g w H a ns J L I) λH e s'=>p w H b e s'
noncomputable def inClass(s:GH)(j:Nat):GH:=match s with
 |.ClassDef _ _ _ body _ _ _ _ _ _ _=>body.getD j (.Pass ⟨0,0,0,0⟩)|_=>.Pass ⟨0,0,0,0⟩
noncomputable def fm(s:GH):Arguments:=match s with
 |.FunctionDef _ a _ _ _ _ _ _ _ _=>a|_=>{posonlyargs:=[],args:=[],vararg:=g_,kwonlyargs:=[],kw_defaults:=[],kwarg:=g_,defaults:=[]}
noncomputable def cx(s:GH):List GH:=match s with
 |.FunctionDef _ _ b _ _ _ _ _ _ _=>b|_=>[]
noncomputable def aF(s:GH):Mm:=match s with
 |.FunctionDef _ _ _ _ _ _ sc _ _ _=>sc|_=>{kind:=.function,names:=[],isGenerator:=c_,isCoroutine:=c_}
noncomputable abbrev CX0:CXT:=λ_ _ _ _ _ _=>False
noncomputable abbrev E0:XK:=λ_ _ _=>False
def vI:Passes CX0 X E0:=λ_ _ _ _ _ _ _ h=>h.elim
structure Fun(K:Pn)(x qual:FU)(st:GH)(f:k_)(fd:HN):Prop where
 ex:∃(oc:h_) (od:Option k_) (kV doc pm:h_) (an:Option k_) (cdv ct:h_) (osl:Array (Option h_)),
  fd=MF x qual (fm st) (cx st) (aF st) .none kV doc pm an cdv ct/\K.lookup f=a_ ⟨oc,od,.func fd,osl⟩/\Nv K cdv qual=f_
 kp:IT K (.ref f)=f_
theorem Fun.binds{f:k_}(F:Fun K x qual st f fd)(h:∀(kV doc pm:h_) (an:Option k_) (cdv ct:h_) (us:aH),us.length=ps.length->Mg (MF x qual (fm st) (cx st) (aF st) .none kV doc pm an cdv ct) ⟨us,[]⟩=G2 (ps.zip us)):Binds K fd ps []:=by obtain⟨oc,od,kV,doc,pm,an,cdv,ct,osl,rfl,S,J⟩:=F.ex;exact .all (h kV doc pm an cdv ct)
def Aj{f:k_}(l:K.lookup f=a_ ⟨oc,od,.func (MF x qual (fm st) (cx st) (aF st) .none kV doc pm an cdv ct),osl⟩)(c:Nv K cdv qual=f_)(k:IT K (.ref f)=f_):Fun K x qual st f (MF x qual (fm st) (cx st) (aF st) .none kV doc pm an cdv ct):=⟨⟨oc,od,kV,doc,pm,an,cdv,ct,osl,rfl,l,c⟩,k⟩
def pv(i:Nat)(g: ~~~(X.N[i]?=a_ x))(hv:autoParam (Vis X.env.scope x) Jq5)(hd:((x==("__debug__":FU))=c_)⁻¹)(Y:((x==("__classdict__":FU))=c_)⁻¹):PE X (.Name x pos) (tVar i):=by
    intro B2 s σ H Q I h;obtain⟨v,e,h⟩:=h;obtain⟨m,b,f⟩:=I.loc;obtain⟨u,r,l⟩:=f i x v g e hv;have U:EP X B2 σ Q u s:=⟨v,H,I,r,h⟩
    rcases l with⟨S,d⟩|⟨S,c,a,J⟩
    .exact PC (wpAny_loadName_local I.ok.kind S b d U) hd
    .rcases S with S|S
     .exact PC (wpAny_loadName_cell I.ok.kind S a J U) hd
     .exact PC (wpAny_loadName_free I.ok.kind S a J U Y) hd
theorem iteNS{c A B:Prop}[Decidable c](J:c)(h:B):if (!decide c)=f_ then A else B:=by simp_all
def aU(H H':Hp):Prop:=∀b o,H b=a_ o->H' b=a_ o
def aU.refl(H:Hp):aU H H:=λ_ _ h=>h
def aU.trans(a:aU H H1)(b:aU H1 H2):aU H H2:=λc o h=>b c o (a c o h)
theorem aU.free(e:aU H H')(h:H' l=g_):H l=g_:=by
 cases q:H l with
 |none=>rfl|some o=>
  rw[e l o q]at h
  lia
noncomputable def uL(cells:List (FU×k_)):List (FU×IP)->List (FU×k_)->List (FU×k_)
 |[],J=>J|(x,k)::r,J=>uL cells r (if (k==Ga)=f_ then(x,(cells.lookup x).getD 0)::J else J)
theorem lt_ne(h1:a<n)(J:n<=b):a≠b:=ad
theorem rY{cells:List (FU×k_)}{x:FU}{c:k_}:∀(ns:List (FU×IP)) (J:List (FU×k_)),(uL cells ns J).lookup x=a_ c ->
  ((x,Ga)∈ns/\c=(cells.lookup x).getD 0)\/J.lookup x=a_ c
 |[],_,h=>.inr h|(y,k)::r,J,h=>by
  rcases rY r _ h with⟨m,e⟩|q
  .simp_all
  grind
theorem pJ{cells:List (FU×k_)}{x:FU}:∀(ns:List (FU×IP)) (J:List (FU×k_)),((x,Ga)∈ns\/(J.lookup x).isSome=f_)->((uL cells ns J).lookup x).isSome=f_
 |[],_,h=>h.elim (λz=>nomatch z) id
 |(y,k)::r,J,h=>by
  refine pJ r _ ?_
  grind
theorem kG{x:FU}{c:k_}:∀(ns:List (FU×IP)) (n:Nat) (J:List (FU×k_)),(Hb n ns J).lookup x=a_ c->(n<=c/\(x,HC)∈ns)\/J.lookup x=a_ c
 |[],_,_,h=>.inr h|(y,k)::r,n,J,h=>by
  unfold Hb at h;by_cases S:(k==HC)=f_
  .rw[p_ S]at h;rcases kG r _ _ h with⟨a,m⟩|q
   .grind
   grind
  .rw[q_ S]at h;rcases kG r n J h with⟨a,m⟩|q
   .simp_all
   .exact .inr q
theorem pK:∀(ns:List (FU×IP)) (n:Nat) (J:List (FU×k_)),(∀x y c,J.lookup x=a_ c->J.lookup y=a_ c->x=y)->(∀x c,J.lookup x=a_ c->c<n) ->
  ∀x y c,(Hb n ns J).lookup x=a_ c->(Hb n ns J).lookup y=a_ c->x=y
 |[],_,_,hi,_=>hi|(z,k)::r,n,J,hi,U=>by
  unfold Hb;by_cases S:(k==HC)=f_
  .rw[p_ S];refine pK r _ _ (λx y c h1 Y=>?_) (λx c h1=>?_)
   .grind
   grind
  .rw[q_ S];exact pK r n J hi U
theorem lV{x:FU}{c:k_}:∀(ns:List (FU×IP)) (h:FX) (J:List (FU×k_)),(Hb h.objs.size ns J).lookup x=a_ c ->
  J.lookup x=a_ c\/(h.objs.size<=c/\(pushCells h ns).IsCell c g_)
 |[],_,_,e=>.inl e|(y,k)::r,h,J,e=>by
  unfold Hb at e;unfold pushCells;by_cases S:(k==HC)=f_
  .rw[p_ S]at e ⊢;have q:=lV (x:=x) (c:=c) r (h.push {cls:=.type "cell",data:=.cell g_}) ((y,h.objs.size)::J) as;rcases q with q|⟨q1,q2⟩
   .rw[GU]at q;cases U:x==y with
    |true=>rw[U]at q;have e1:=GN q;subst e1;exact .inr ⟨o_ _,Heap.IsCell.keeps ⟨_,l_ _ rfl,rfl⟩ (MZ r _)⟩|false=>simp_all
   grind[Gi]
  .rw[q_ S]at e ⊢;exact lV r h J e
theorem mf{env:MT}(f:FU×IP->List (FU×k_)->OM (ForInStep (List (FU×k_))))(U:∀n k cs,f (n,k) cs=if (k==Ga)=f_ then(do let a <- cellOf env n;G2 (.yield ((n,a)::cs)))else G2 (.yield cs)):
  ∀(ns:List (FU×IP)) (J:List (FU×k_)),(∀x∈ns,x.2=Ga->∃c,env.cells.lookup x.1=a_ c)->forIn ns J f=(G2 (uL env.cells ns J):OM _)
 |[],J,_=>by rfl|(y,k)::r,J,b=>by
  have Y:=λx g=>b x (Hu _ g);rw[Ph,U];unfold uL;by_cases S:(k==Ga)=f_
  .rw[p_ S,p_ S];obtain⟨c,e⟩:=b (y,k) Hn (Ki S);have d:=e;have e2:cellOf env y=G2 c:=by unfold cellOf;rw[d]
   rw[e2,d];exact mf f U r _ Y
  .rw[q_ S,q_ S];exact mf f U r _ Y
def rX(J:∀x∈scope.names,x.2=Ga->∃c,env.cells.lookup x.1=a_ c):closureFor scope env=G2 (uL env.cells scope.names []):=by simp only[closureFor];rw[mf _ (λn k cs=>by rfl) scope.names [] J];rfl
theorem DU{M:MQ}{s:i_}{Y:k_}{S:List (FU×k_)}{J:MT}{Q:MT->i_->Prop}(a:∀h1:FX,(∀b o,s.heap.get? b=a_ o->h1.get? b=a_ o)->h1.Ns s.heap.objs.size (λ_=>g_) ->
   (∀x c,(Hb (s.heap.objs.size+1) scope.names S).lookup x=a_ c->S.lookup x=a_ c\/(s.heap.objs.size<c/\h1.IsCell c g_)) ->
   Q {scope:=scope,locals:=s.heap.objs.size,globals:=Y,cells:=Hb (s.heap.objs.size+1) scope.names S,qual:=qual,func:=g_,code:=J.code,frame:=J.frame,builtins:=J.builtins} {s with heap:=h1}):
  r_ M A (Nm scope Y S [] qual g_ .none (a_ J)) Q E s:=by
 simp only[Nm,Option.isSome_some,if_true];refine b_ (wpAny_alloc ?_);refine b_ (wpAny_layCells _ (λname U cells=>by rfl) _ _ _ _ ?_);rw[show({s with heap:=s.heap.push {cls:=.type "dict",data:=.dict #[]}}:i_).heap.objs.size=s.z+1 from Gi ..];refine b_ (e_ (e_ ?_));refine a _ (λb o e=>MZ _ _ b o (d_ _ e)) ((Heap.Ns.new s.heap _).keeps (MZ _ _)) λx c e=>?_;have q:=lV (x:=x) (c:=c) scope.names (s.heap.push {cls:=.type "dict",data:=.dict #[]}) S as
 grind[Gi]
theorem qX{env:MT}{x:FU}:∀{ns:List (FU×IP)},ns.lookup x=a_ .free ->
  (ns.map λ(n,k)=>if (k==Ga&&env.scope.kind==.function&&env.kindOf n==a_ .cell)then(n,HC)else(n,k)).lookup x=a_ .cell \/
  (ns.map λ(n,k)=>if (k==Ga&&env.scope.kind==.function&&env.kindOf n==a_ .cell)then(n,HC)else(n,k)).lookup x=a_ .free
 |[],h=>by simp at h|(n,k)::r,h=>by
  have S:=@qX env x r;rw[u_];dsimp only;by_cases U:(k==Ga&&env.scope.kind==.function&&env.kindOf n==a_ .cell)=f_
  .rw[p_ U,GU];cases J:x==n with
   |true=>simp|false=>rw[GU,J]at h;exact S h
  .rw[q_ U,GU];cases J:x==n with
   |true=>rw[GU,J]at h;have e:=GN h;subst e;simp|false=>rw[GU,J]at h;exact S h
theorem qY{env:MT}{x:FU}:∀{ns:List (FU×IP)},
  ((ns.map λ(n,k)=>if (k==Ga&&env.scope.kind==.function&&env.kindOf n==a_ .cell)then(n,HC)else(n,k)).lookup x=a_ .cell \/
  (ns.map λ(n,k)=>if (k==Ga&&env.scope.kind==.function&&env.kindOf n==a_ .cell)then(n,HC)else(n,k)).lookup x=a_ .free) ->
  ns.lookup x=a_ .cell\/ns.lookup x=a_ .free
 |[],h=>by simp at h|(n,k)::r,h=>by
  have J:=@qY env x r
  grind
noncomputable def b9(X:Cx)(N':List FU)(sc:Mm)(L:k_)(cs:List (FU×k_))(s:i_)(H:Hp)(fp:List k_):Cx:=
 {X with
  N:=N',s₀:=s,H₀:=H,outer:=X.stack,ex:=fp,pn:=[],xe:=λ_ _=>False
  fn:=λx=> !(sc.names.any λp=>p.1==x&&p.2==Ga)
  env:={scope:=relabel sc X.env,locals:=L,globals:=X.env.globals,cells:=cs,qual:=X.env.qual,func:=g_,code:=X.env.code,frame:=X.env.frame,builtins:=X.env.builtins}}
noncomputable def inS(ix:List (Option Nat))(σ:St):St:=ix.map λo=>match o with
 |none=>g_|some j=>(σ[j]?).join
noncomputable def bD(N:List FU)(J:Mm)(N':List FU)(sc:Mm)(ix:List (Option Nat)):Bool:=
 s_ (ix.length=N'.length) &&
 ((A1 ix.length).all λi=>match ix[i]? with
  |some (a_ j)=>(match N'[i]?,N[j]? with
   |some x,a_ y=>x==y&&sc.names.lookup x==a_ Ga|_,_=>c_)
  |_=>f_) &&
 (sc.names.all λp=>(p.2 != Ga||(J.names.lookup p.1==a_ HC||J.names.lookup p.1==a_ Ga))&&(p.2 != NameKind.local||sc.names.lookup p.1==a_ NameKind.local)) &&
 (sc.names.all λp=>sc.names.all λq=> !(p.1==q.1)||p.2==q.2)
section
variable{s:i_}
def bD.len(J:bD X.N X.env.scope N' sc ix=f_):ix.length=N'.length:=by unfold bD at J;rw[FH,FH,FH]at J;exact H9 J.1.1.1
theorem bD.at(J:bD X.N X.env.scope N' sc ix=f_){i j:Nat}{x:FU}(h:ix[i]?=a_ (a_ j))(S:N'[i]?=a_ x):X.N[j]?=a_ x/\sc.names.lookup x=a_ .free:=by
 unfold bD at J;rw[FH,FH,FH]at J;have q:=Gd.mp J.1.1.2 i (C_.mpr (v_.mp h).1);rw[h,S]at q;dsimp only at q;cases e:X.N[j]? with
 |none=>rw[e]at q;cases q|some y=>rw[e]at q;rw[FH]at q;exact⟨by rw[Ki q.1],Ki q.2⟩
theorem bD.fr(J:bD X.N X.env.scope N' sc ix=f_)(h:(x,Ga)∈sc.names):X.env.kindOf x=a_ .cell\/X.env.kindOf x=a_ .free:=by
 unfold bD at J;rw[FH,FH]at J;have q:=Gd.mp J.1.2 _ h;rw[FH]at q;have q1:=q.1;rw[L9]at q1;rcases q1 with z|z
 .simp_all
 .rw[L9]at z;exact z.imp (λe=>Ki e) λe=>Ki e
theorem bD.loc(J:bD X.N X.env.scope N' sc ix=f_):∀x∈sc.names,x.2=NameKind.local->sc.names.lookup x.1=a_ .local:=λx S e=>by
 unfold bD at J
 grind
def bD.apart(J:bD X.N X.env.scope N' sc ix=f_)(h1:(x,HC)∈sc.names)(S:(x,Ga)∈sc.names):False:=by unfold bD at J;rw[FH]at J;have q:=Gd.mp (Gd.mp J.2 _ h1) _ S;simp at q
def pI(I:B3 X B2 σ H s)(J:bD X.N X.env.scope N' sc ix=f_):∀x∈sc.names,x.2=Ga->∃c,X.env.cells.lookup x.1=a_ c:=λx S e=>by obtain⟨n,k⟩:=x;subst e;exact I.ok.has n (bD.fr J S)
theorem F7(I:B3 X B2 σ H s)(J:bD X.N X.env.scope N' sc ix=f_)(h:(uL X.env.cells sc.names []).lookup x=a_ c):(x,Ga)∈sc.names/\X.env.cells.lookup x=a_ c:=by
 rcases rY _ _ h with⟨m,e⟩|z
 .obtain⟨d,hd⟩:=pI I J _ m rfl
  simp_all
 simp_all
theorem comp_inv{h1:FX}(I:B3 X B2 σ H s)(g:∀b∈fp,Cr X B2 H b)(hb:∀b∈fp,∃o,s.heap.get? b=a_ o)(Y:bD X.N X.env.scope N' sc ix=f_)(Z:sc.kind=.function)(S:s.heap.objs.size<=L)(f:∀b o,s.heap.get? b=a_ o->h1.get? b=a_ o)(ns:h1.Ns L λ_=>g_)(a:∀x c,(Hb (L+1) sc.names (uL X.env.cells sc.names [])).lookup x=a_ c->(uL X.env.cells sc.names []).lookup x=a_ c\/(L<c/\h1.IsCell c g_)):
  B3 (b9 X N' sc L (Hb (L+1) sc.names (uL X.env.cells sc.names [])) s H fp) [] (inS ix σ) H {s with heap:=h1}:=by
 have U:∀x c,(uL X.env.cells sc.names []).lookup x=a_ c->(x,Ga)∈sc.names/\X.env.cells.lookup x=a_ c/\(∃v,s.heap.IsCell c v)/\c<s.z:=λx c e=>by obtain⟨m,N⟩:=F7 I Y e;obtain⟨v,z⟩:=I.cell x c N;exact⟨m,N,⟨v,z⟩,z.lt⟩
 have d:∀b∈fp,b<s.z:=λb z=>let ⟨o,e⟩:=hb b z;m_ e;have E:∀b∈fp,∀x c,(Hb (L+1) sc.names (uL X.env.cells sc.names [])).lookup x=a_ c->c≠b:=λb z x c e=>by
  have J:=d b z;rcases a x c e with q|⟨q,_⟩
  .exact(g b z).2.2.2.2.1 x c (U x c q).2.1
  .exact by
    have h1:=(FQ J S)
    lia
 have t:(b9 X N' sc L (Hb (L+1) sc.names (uL X.env.cells sc.names [])) s H fp).Ok:=by
  refine⟨I.ok.mod,Z,I.ok.glob,I.ok.blt,S,?_,?_,?_,I.ok.hd,I.ok.frames,.inl rfl,?_,I.bs,Gg I.ok.bsz I.sz,?_,?_,I.stack,I.CW⟩
  .refine pK sc.names (L+1) _ (λx y c e1 e2=>I.ok.inj x y c (U x c e1).2.1 (U y c e2).2.1) λx c e=>?_;exact Jx (FQ (U x c e).2.2.2 S)
  .intro x Q;have w:=qY (env:=X.env) (x:=x) (ns:=sc.names) Q;have q:((Hb (L+1) sc.names (uL X.env.cells sc.names [])).lookup x).isSome=f_:=by
    rcases w with z|z
    .exact Ip _ _ _ (.inl z)
    .exact Ip _ _ _ (.inr (pJ _ _ (.inl (GZ z))))
   exact Ic.mp q
  .intro x c C e;rcases a x c e with q|⟨q,_⟩
   .have G:(!(sc.names.any λp=>p.1==x&&p.2==Ga))=f_:=C
    grind
   .exact Gg S (HI q)
  .intro b z;have J:=d b z;exact⟨E_ (FQ J S),E b z⟩
  .intro b o e z;rcases(g b z).2.2.2.1 with q|q
   .exact I.ok.noex b o e q
   .exact FN (FQ (m_ e) (Gg I.ok.bsz q)) (Ii _)
  .intro b z R;rcases n_.mp (I.qQ b R)with q|q
   .exact(g b z).2.1 q
   .exact(g b z).2.2.1 q
 refine⟨t,rfl,I.bare,Un.kept f,⟨_,ns,λi x v D K h3=>?_⟩,λx c e=>?_,I.hok.fresh S,λx c e=>?_,λp T=>FN T (by simp[b9]),I.hok.kept f,?_⟩
 .have A:∃j,ix[i]?=a_ (a_ j)/\σ[j]?=a_ (a_ v):=by
   unfold inS at K;rw[FY]at K;cases e:ix[i]? with
   |none=>simp_all|some o=>grind
  obtain⟨j,e1,e2⟩:=A;obtain⟨e3,e4⟩:=bD.at Y e1 D;have B:=bD.fr Y (GZ e4);obtain⟨m,hn,W⟩:=I.loc;obtain⟨u,r,l⟩:=W j x v e3 e2 (B.elim (λz=>.inr (.inl z)) λz=>.inr (.inr z));refine⟨u,r,.inr ⟨qX (env:=X.env) (x:=x) (ns:=sc.names) e4,?_⟩⟩
  rcases l with⟨k,_⟩|⟨k,c,e,z⟩
  .simp_all
  .have q1:=pJ (cells:=X.env.cells) sc.names [] (.inl (GZ e4));obtain⟨c2,q2⟩:=Ic.mp q1;have F:=(U x c2 q2).2.1;rw[e]at F;cases F;have O:=Ip (x:=x) sc.names (L+1) (uL X.env.cells sc.names []) (.inr q1);obtain⟨c3,n⟩:=Ic.mp O;rcases a x c3 n with h|⟨h,q7⟩
   .rw[q2]at h;cases h;exact⟨c,n,z.keeps f⟩
   .exfalso;rcases kG _ _ _ n with⟨_,P⟩|q8
    .exact bD.apart Y P (GZ e4)
    grind
 .rcases a x c e with q|⟨_,q⟩
  .obtain⟨v,z⟩:=(U x c q).2.2.1;exact⟨v,z.keeps f⟩
  .exact⟨_,q⟩
 .rcases a x c e with q|⟨q,_⟩
  .exact I.freeC x c (U x c q).2.1
  .exact I.hok.fresh (Gg S (HI q))
 .show(inS ix σ).length=N'.length;unfold inS;rw[w_];exact bD.len Y
end
def PTs(X:Cx)(ifs:List GI)(t:TT):Prop:=
 ∀(B2:Vp) (s:i_) (σ:St) (H:Hp) (Q:Bool->Hp->Prop),B3 X B2 σ H s->t σ H Q ->
  r_ (x_ X.prog X.w) X.A (forIn ifs f_ λc r=>if r=f_ then do let J <- Ou c X.env (FL c X.env);G2 (Kj J)else G2 (Kj r)) (TP X B2 σ Q) X.xe s
noncomputable def tYes:TT:=λ_ H Q=>Q f_ H
def pts_nil:PTs X [] tYes:=λ_ _ _ H _ I h=>wpAny_tests_nil ⟨H,I,h⟩
def pts_one{c:GI}{t:TT}(h:PT X c t):PTs X [c] t:=λB2 s σ H Q I q=>wpAny_tests_one (h B2 s σ H Q I q)
def wZ{s:i_}{e a:h_}(J:Nat->i_->Prop)(S:∀n s,J n s->r_ (x_ prog w) A (Km e) (λr d=>match r with
   |none=>R (.ok .next) d|some v=>r_ (x_ prog w) A (M0 tg e v) (λ_ U=>r_ (x_ prog w) A (KL tg env v) (λ_ j=>
     r_ (x_ prog w) A (forIn ifs f_ λc r=>if r=f_ then do let Y <- Ou c env (FL c env);G2 (Kj Y)else G2 (Kj r)) (λY b=>
      if Y=f_ then r_ (x_ prog w) A (FL elt env) (λx i=>r_ (x_ prog w) A (Jv (.builtin "list.append") [a,x]) (λ_ g=>∃m,m<n/\J m g) (λ_ _=>False) i) (λ_ _=>False) b
      else ∃m,m<n/\J m b) (λ_ _=>False) j) (λ_ _=>False) U) (λ_ _=>False) d) (λ_ _=>False) s)(n:Nat)(h:J n s):Jc (x_ prog w) A (.compLoop (.ListComp elt [⟨tg,iter,ifs,0⟩] scope pos) 0 e a env) R s:=by
 refine codeAny_loop rfl J (λn s l=>?_) n h;refine wpAny_noted ?_;refine b_ (KI (b_ (Gx (S n s l) (λr d h1=>?_) λ_ _ z=>z.elim)));cases r with
 |none=>exact e_ h1|some v=>
  refine b_ (Gx h1 (λ_ U f=>?_) λ_ _ z=>z.elim);refine b_ (Gx f (λ_ j q=>b_ (Gx q (λY b k=>?_) λ_ _ z=>z.elim)) λ_ _ z=>z.elim);cases Y with
  |false=>exact e_ ⟨rfl,k⟩|true=>exact b_ (b_ (Gx k (λx i p=>b_ (Gx p (λ_ g o=>e_ (e_ ⟨rfl,o⟩)) λ_ _ z=>z.elim)) λ_ _ z=>z.elim))
def lE(J:It)(ix:List (Option Nat))(g:TG)(tt:TT)(te:TE)(σ:St)(F:a0->Hp->Prop)(H:Hp):Prop:=
 ∃W:Nat->Nat->a0->Hp->Prop,(∃m,W 0 m [] H)/\∀i m ys H,W i m ys H ->
  (J.stop i H/\ys.length<=t_/\F ys H)\/(J.go i H/\ys.length<=t_/\∃N:a0->Hp->Prop,(∀U H',N U H'->∃Y,Y<m/\W (i+1) Y U H') /\
   ∀x H',J.yld i H x H'->g x (inS ix σ) H' λS H2=>tt S H2 λb a=>if b=f_ then te S a λy c=>N (ys++[y]) c else N ys a)
section
variable{s:i_}
def B3.slots0(I:B3 X B2 σ' H s)(h:∀(i:Nat) v,(inS ix σ)[i]?=a_ (a_ v)->σ'[i]?=a_ (a_ v))(J:(inS ix σ).length=X.N.length):B3 X B2 (inS ix σ) H s:=
 I.weak (by rw[J,I.len]) h
inductive CEnd(X:Cx)(B2:Vp)(σ:St)(F:List V->Hp->Prop)(acc:h_)(L:k_):Ox->i_->Prop
 |mk {s':i_} {fl:Flow} {ys:List V} {H2:Hp} {m:Ld} (p:k_) (a:acc=.ref p) (I:B3 X B2 σ (upd H2 p (.lst ys)) s') (n:H2 p=g_) (f:F ys H2) (ns:s'.heap.Ns L m) (u:(upd H2 p (.lst ys)) L=g_) (l:L≠X.env.locals) (z:X.s₀.heap.objs.size<=L) (c:∀x c,X.env.cells.lookup x=a_ c->c≠L) (q:∀q∈X.pn++B2,q.1≠L):CEnd X B2 σ F acc L (.ok fl) s'
theorem wY{g:TG}{J:It}{it:k_}{tn:Nat->FX->Prop}{F:a0->Hp->Prop}{E:Mq}(hc:X.calm=f_)(I:B3 X B2 σ H s)(T:Turn X.prog X.w X.K tg J fp it tn)(st:tn 0 s.heap)(hf:∀b∈fp,Cr X B2 H b)(ok:bD X.N X.env.scope N' sc ix=f_)(hk:sc.kind=.function)(hg:∀L cs s H fp,PG (b9 X N' sc L cs s H fp) tg g)(hkeep:∀x σ' H' (Q:St->Hp->Prop),g x σ' H' Q->g x σ' H' λσ2 H2=>Q σ2 H2/\∀(i:Nat) v,σ'[i]?=a_ (a_ v)->(∃j,ix[i]?=a_ (a_ j))->σ2[i]?=a_ (a_ v))(ht:∀L cs s H fp,PTs (b9 X N' sc L cs s H fp) ifs tt)(he:∀L cs s H fp,PE (b9 X N' sc L cs s H fp) elt te)(tr:lE J ix g tt te σ F H):
  r_ (x_ X.prog X.w) X.A (newList []) (λacc s3=>r_ (x_ X.prog X.w) X.A (Nm sc X.env.globals (uL X.env.cells sc.names []) [] X.env.qual g_ .none (a_ X.env)) (λO s4=>Jc (x_ X.prog X.w) X.A (.compStart (.ListComp elt [⟨tg,iter,ifs,0⟩] sc pos) 0 (.ref it) acc {O with scope:=relabel sc X.env}) (CEnd X B2 σ F acc O.locals) s4) E s3) E s:=by
 obtain⟨W,⟨m0,w0⟩,turn⟩:=tr;refine FP (DU λh1 kp ns hcl=>?_);generalize hH2:s.heap.push {cls:=.type "list",dict:=g_,data:=.seq ([]:aH).toArray}=G at kp ns hcl ⊢;have eL:G.objs.size=s.z+1:=by rw[<- hH2,Gi]
 have kp0:∀b o,s.heap.get? b=a_ o->h1.get? b=a_ o:=λb o e=>kp b o (hH2▸d_ _ e);have hD0:h1.PlainList s.z #[]:=⟨_,kp _ _ (hH2▸l_ _ rfl)⟩
 have fpo:∀b∈fp,∃o,s.heap.get? b=a_ o:=λb z=>let ⟨o,e,_⟩:=T.obj 0 _ st b z;⟨o,e⟩;have fpl:∀b∈fp,b<s.z:=λb z=>let ⟨o,e⟩:=fpo b z;m_ e;have sL:s.z<=G.objs.size:=by rw[eL];exact Jk _
 have C:s.z<G.objs.size:=by rw[eL];exact IY _
 have I0:=comp_inv (h1:=h1) I hf fpo ok hk sL kp0 ns hcl;generalize S:b9 X N' sc G.objs.size (Hb (G.objs.size+1) sc.names (uL X.env.cells sc.names [])) s H fp=Y at I0;have t:Y.prog=X.prog:=by subst S;rfl
 have p:Y.w=X.w:=by subst S;rfl
 have eY3:Y.K=X.K:=by subst S;rfl
 have eY4:Y.calm=f_:=by subst S;exact hc
 have m:Y.A=X.A:=by subst S;rfl
 have U:Y.env={scope:=relabel sc X.env,locals:=G.objs.size,globals:=X.env.globals,cells:=Hb (G.objs.size+1) sc.names (uL X.env.cells sc.names []),qual:=X.env.qual,func:=g_,code:=X.env.code,frame:=X.env.frame,builtins:=X.env.builtins}:=by subst S;rfl
 have eY7:Y.xe=λ_ _=>False:=by subst S;rfl
 have eY8:Y.pn=[]:=by subst S;rfl
 have eY9:Y.fs=frs X.stack:=by subst S;rfl
 have N:Y.s₀=s:=by subst S;rfl
 have eY11:Y.H₀=H:=by subst S;rfl
 have eY12:Y.ex=fp:=by subst S;rfl
 have eY13:Y.N=N':=by subst S;rfl
 have hgY:PG Y tg g:=by subst S;exact hg _ _ _ _ _
 have htY:PTs Y ifs tt:=by subst S;exact ht _ _ _ _ _
 have heY:PE Y elt te:=by subst S;exact he _ _ _ _ _
 have lenI:(inS ix σ).length=Y.N.length:=by rw[eY13];unfold inS;rw[w_];exact bD.len ok
 have w:∀(b:k_),b<=G.objs.size->(∀x c,X.env.cells.lookup x=a_ c->c≠b)->∀x c,Y.env.cells.lookup x=a_ c->c≠b:=λb a hx x c e=>by
  rw[U]at e;rcases hcl x c e with q|⟨q,_⟩
  .exact hx x c (F7 I ok q).2
  lia
 have K:∀x c,X.env.cells.lookup x=a_ c->c<s.z:=λx c e=>let ⟨v,z⟩:=I.cell x c e;z.lt;have nfs:∀b,s.z<=b->b∉frs X.stack:=λb a z=>by
  rcases n_.mp (I.qQ b z)with q|q
  .exact lt_ne I.lt a q.symm
  .exact I.nofs a q
 have fpY:∀(pp:Vp) (H':Hp),(∀b∈fp,H' b=g_)->(∀q∈pp,q.1∉fp)->∀b∈fp,Cr Y pp H' b:=λpp H' hn hq b z=>by
  have hlt:=fpl b z;refine⟨hn b z,?_,?_,.inl as,w b (HI (NF hlt C)) ((hf b z).2.2.2.2.1),λq hq' e=>?_⟩
  .rw[U];exact lt_ne hlt sL
  .rw[eY9];intro hs;rcases n_.mp (I.qQ b hs)with q|q
   .exact(hf b z).2.1 q
   .exact(hf b z).2.2.1 q
  grind
 have Dfp:s.z∉fp:=λz=>FN (fpl _ z) (Ii _);have Dok:∀(pp:Vp) (H':Hp),H' s.z=g_->(∀q∈pp,q.1≠s.z)->Cr Y pp H' s.z:=λpp H' hn hq=>by
  refine⟨hn,?_,by rw[eY9];exact nfs _ (o_ _),.inr (by rw[N];exact o_ _),w _ sL (λx c e=>E_ (K x c e)),λq hq'=>?_⟩
  .rw[U];exact E_ C
  .rw[eY8]at hq';exact hq q (by simpa using hq')
 have f:Jc (x_ X.prog X.w) X.A (.compLoop (.ListComp elt [⟨tg,iter,ifs,0⟩] sc pos) 0 (.ref it) (.ref s.z) Y.env) (CEnd X B2 σ F (.ref s.z) G.objs.size) {s with heap:=h1}:=by
  refine wZ (λn s'=>∃i ys its H',B3 Y [] (inS ix σ) H' s'/\tn i s'.heap/\(∀b∈fp,H' b=g_)/\H' s.z=g_/\s'.heap.PlainList s.z its/\B6 ys its.toList/\W i n ys H') ?_ m0
   ⟨0,[],#[],H,I0,T.keep _ _ _ st λb _ o e=>kp0 b o e,λb z=>(hf b z).1,I.hok.fresh (o_ _),hD0,.nil,w0⟩
  rintro n s3 ⟨i,ys,its,Z,I3,st3,fr3,l,pl3,A,w3⟩;obtain⟨D,oD⟩:=pl3;have hpD:∀q∈[((s.z:k_),({cls:=.type "list",data:=.seq its D}:JM))],q.1∉fp:=λq hq=>by have:q=_:=HP.mp hq;rw[this];exact Dfp
  have I3':B3 Y [((s.z:k_),({cls:=.type "list",data:=.seq its D}:JM))] (inS ix σ) Z s3:=I3.sY λq hq=>by grind
  rcases turn i n ys Z w3 with⟨stop,ln,qn⟩|⟨go,ln,NN,hNN,step⟩
  .have h1:=T.done Y t p eY3 eY4 i _ s3 _ Z (λ_ _=>False) I3' (fpY _ Z fr3 hpD) st3 stop;rw[m]at h1;refine Gx h1 (λr s4 h=>?_) λ_ _ z=>z;obtain⟨hr,I4⟩:=h;subst hr;obtain⟨oD4,hD4,_⟩:=I4.pin ((s.z:k_),({cls:=.type "list",data:=.seq its D}:JM)) aj;obtain⟨m4,hn4,_⟩:=I4.loc;rw[U]at hn4;refine .mk s.z rfl ?_ l qn hn4 ?_ ?_ ?_ ?_ ?_
   .have B:Un (frs X.stack) fp H Z s.heap s4.heap:=by
     have:=I4.base;rw[eY9,N,eY11,eY12]at this;exact this
    have hok4:HOk Z s4.heap:=I4.hok;refine I.call' (ch:=fp) (by have:=I4.os;lia) ⟨B.keep,B.slot,λb o e nn hx=>?_,B.there,λb xs q=>?_,λb o u q=>?_,λb ps q=>?_⟩ (λb u e=>?_) I4.bare (λb a=>?_)
    .rw[aw (E_ (m_ e))];exact B.free b o e nn hx
    .rw[aw (aL (B.tups b xs q) l)];exact B.tups b xs q
    .rw[aw (aL (B.frzs b o u q) l)];exact B.frzs b o u q
    .obtain⟨more,z⟩:=B.tbls b ps q
     grind[aw]
    .by_cases a:b=s.z
     .subst a;rw[aq]at e;cases e;exact⟨ln,its.toList,D,A,by simpa using oD4⟩
     .rw[aw a]at e;exact(hok4 b u e).xA (λ_ _ _ q=>q) (λc q=>by rw[aw (aL q l)];exact q) λc xs q=>by rw[aw (aL q l)];exact q
    .obtain⟨f0,f1,f2,f3,f4,f5⟩:=hf b a;exact⟨f3,f1,f4,f5⟩
   .rw[aw (GP C)];have:=I4.free;rw[U]at this;exact this
   .exact GP (NF I.lt C)
   .exact Gg I.sz sL
   .exact λx c e=>lt_ne (K x c e) sL
   .exact λq hq=>lt_ne (m_ (I.pin q hq).1) sL
  .have h1:=T.item Y t p eY3 eY4 i _ s3 _ Z (λ_ _=>False) I3' (fpY _ Z fr3 hpD) st3 go;rw[m]at h1;refine Gx h1 (λr s4 h=>?_) λ_ _ z=>z;obtain⟨u,hr,h4⟩:=h;subst hr;refine Gx h4 (λ_ s5 h=>?_) λ_ _ z=>z;obtain⟨x,H5,I5,r5,y5,st5,fr5⟩:=h;have I5':=I5.pinned (fpY _ H5 fr5 hpD) (T.obj _ _ st5);have h5:=hgY _ s5 _ H5 x u _ I5' r5 (hkeep x _ H5 _ (step x H5 y5));rw[t,p,m,eY7]at h5;refine Gx h5 (λ_ s6 h=>?_) λ_ _ z=>z;obtain⟨σ6,H6,I6,q6,k6⟩:=h;have h6:=htY _ s6 σ6 H6 _ I6 q6;rw[t,p,m,eY7]at h6;refine Gx h6 (λb s7 h=>?_) λ_ _ z=>z;obtain⟨H7,I7,q7⟩:=h;have P:∀{s8:i_} {R:Hp},B3 Y ([((s.z:k_),({cls:=.type "list",data:=.seq its D}:JM))]++zP fp s5.heap) σ6 R s8->B3 Y [] (inS ix σ) R s8/\tn (i+1) s8.heap/\(∀b∈fp,R b=g_)/\R s.z=g_/\s8.heap.get? s.z=a_ {cls:=.type "list",data:=.seq its D}:=λ{s8 R} I8=>by
    obtain⟨a1,a2,_⟩:=I8.pin ((s.z:k_),({cls:=.type "list",data:=.seq its D}:JM)) aj;refine⟨(I8.sY (pins':=[]) λ_ z=>nomatch z).slots0 (λk v e=>?_) lenI,T.keep _ _ _ st5 λb a o e=>(I8.pin (b,o) (GC _ (GC _ (jM a e)))).1,λb a=>?_,a2,a1⟩
    .refine k6 k v e ?_;unfold inS at e;rw[FY]at e;cases e2:ix[k]? with
     |none=>rw[e2]at e;cases e|some o=>
      cases o with
      |none=>rw[e2]at e;cases e|some j=>exact⟨j,rfl⟩
    .obtain⟨o,e,d⟩:=T.obj _ _ st5 b a;exact(I8.pin (b,o) (GC _ (GC _ (jM a e)))).2.1
   cases b with
   |false=>rw[q_ HQ]at q7 ⊢;obtain⟨m',hm,w7⟩:=hNN _ _ q7;obtain⟨b1,b2,b3,b4,b5⟩:=P I7;exact⟨m',hm,i+1,ys,its,H7,b1,b2,b3,b4,⟨D,b5⟩,A,w7⟩
   |true=>
    rw[p_ rfl]at q7 ⊢;have h7:=heY _ s7 σ6 H7 _ I7 q7;rw[t,p,m,eY7,U]at h7;rw[U];refine Gx h7 (λuu s8 h=>?_) λ_ _ z=>z;obtain⟨y,R,I8,r8,q8⟩:=h;obtain⟨m',hm,w8⟩:=hNN _ _ q8;obtain⟨b1,b2,b3,b4,b5⟩:=P I8;have ez:its.size<=t_:=by
     have h1:=A.length;have h2:its.toList.length=its.size:=by simp
     lia
    refine wpAny_list_append_plain (hsz:=ez) ⟨D,b5⟩ λh9 pl9 sb9=>?_;obtain⟨d0,d1,d2,d3,d4,d5⟩:=Dok [] R b4 (λ_ z=>nomatch z);refine⟨m',hm,i+1,ys++[y],its.push uu,R,b1.turned (t':=s8.toks) (λb o a e=>(sb9.2 b a).trans e) d0 d1 d3 d4 d5,T.keep _ _ _ b2 λb a o e=>(sb9.2 b ?_).trans e,b3,b4,pl9,?_,w8⟩
    .lia
    .rw[LA];exact A.append (.cons r8 .nil)
 rw[U]at f;exact codeAny_compStart_list f (T.self X.A 0 _ _ _ (T.keep _ _ _ st λb _ o e=>kp0 b o e) f)
end
def tComp(wi:TI)(ix:List (Option Nat))(g:TG)(tt:TT)(te:TE):TE:=λσ H Q=>wi σ H λJ H1=>lE J ix g tt te σ (λys H2=>∀p,H2 p=g_->Q (.ref p) (upd H2 p (.lst ys))) H1
def pP(ix:List (Option Nat))(g:TG):Prop:=∀x σ' H' (Q:St->Hp->Prop),g x σ' H' Q->g x σ' H' λJ H2=>Q J H2/\∀(i:Nat) v,σ'[i]?=a_ (a_ v)->(∃j,ix[i]?=a_ (a_ j))->J[i]?=a_ (a_ v)
def aS(h:ix[k]?=a_ g_):pP ix (ph k):=λx σ' H' Q q=>⟨q,λi v e ⟨j,J⟩=>by
 have:k≠i:=by rintro rfl;rw[h]at J;cases J
 rw[z_ this];exact e⟩
section
variable{wi:TI}{g:TG}
def pe_comp(N':List FU)(ix:List (Option Nat))(w:X.calm=f_)(hi:PI X tg iter wi)(t:∀L cs s H fp,PG (b9 X N' sc L cs s H fp) tg g)(n:pP ix g)(i:∀L cs s H fp,PTs (b9 X N' sc L cs s H fp) ifs tt)(u:∀L cs s H fp,PE (b9 X N' sc L cs s H fp) elt te)(U: ~~~(bD X.N X.env.scope N' sc ix=f_))(Y: ~~~(sc.kind=.function))(j:autoParam (∀x,Ik iter X.env x=G2 x) Jq6):
  PE X (.ListComp elt [⟨tg,iter,ifs,0⟩] sc pos) (tComp wi ix g tt te):=by
 intro B2 s σ H Q I h;refine NT rfl j (rX (pI I U)) Y (bD.loc U) (B' (hi B2 s σ H _ I h) λv s1 h1=>B' h1 λf s2 B=>?_);obtain⟨it,fp,R,J,H2,e,P,T,S,C,c⟩:=B;subst e;refine B' (wY w P T S C U Y t n i u c) λN s3 A=>B' A λa Z z=>HA z λr W k=>?_;obtain⟨p,e2,O,l,q,m,K,G,F,E,D⟩:=k;subst e2;exact⟨_,m,λh' d=>⟨.ref p,_,O.turned (λb o y e=>(d.2 b y).trans e) K G (.inr F) E D,rfl,q p l⟩⟩
def zq(j:Nat)(wi:TI)(ix:List (Option Nat))(g:TG)(tt:TT)(te:TE):TS:=λD σ H=>wi σ H λJ H1=>lE J ix g tt te σ (λys H2=>∀p,H2 p=g_->D.nx (σ.set j (a_ (.ref p))) (upd H2 p (.lst ys))) H1
theorem qZ(N':List FU)(ix:List (Option Nat))(Q:X.N.Nodup)(F:X.N[j]?=a_ y)(i:X.env.scope.names.lookup y=a_ .local)(N:X.calm=f_)(hi:PI X tg iter wi)(G:∀L cs s H fp,PG (b9 X N' sc L cs s H fp) tg g)(E:pP ix g)(u:∀L cs s H fp,PTs (b9 X N' sc L cs s H fp) ifs tt)(K:∀L cs s H fp,PE (b9 X N' sc L cs s H fp) elt te)(d: ~~~(G0 (.ListComp elt [⟨tg,iter,ifs,0⟩] sc pos) (a_ (.Name y py)) spos.line X.env=G2 f_))(c: ~~~(bD X.N X.env.scope N' sc ix=f_))(k: ~~~(sc.kind=.function))(w:autoParam (∀x,Ik iter X.env x=G2 x) Jq6):
  PS X (.Assign [.Name y py] (.ListComp elt [⟨tg,iter,ifs,0⟩] sc pos) spos) (zq j wi ix g tt te):=by
 intro B2 s σ H D I h;rw[exec_Assign_Name_used _ _ _ _ d];refine b_ (KI (b_ ?_));refine b_ (Gx (NT rfl w (rX (pI I c)) k (bD.loc c) (B' (hi B2 s σ H _ I h) λv s1 h1=>B' h1 λt s2 Z=>?_)) (λ_ s' B=>e_ (e_ B)) λ_ _ z=>z);obtain⟨it,fp,tn,J,H2,e,I2,T,U,f2,m⟩:=Z;subst e;refine B' (wY N I2 T U f2 c k G E u K m) λacc s3 W=>B' W λS s4 R=>HA R λr s5 A=>?_;obtain⟨p,e2,I5,f,q,C,c0,c1,c2,l,c4⟩:=A;subst e2;refine PV (v8 (v:=.ref p) I5 Q F (.inl i) rfl (λs6 I6 f=>?_) (.inr i));obtain⟨a,n,P⟩:=f;have ea:S.locals≠a:=by
  rcases P with z|z
  .simp_all
  .exact λe=>l y a z e.symm
 refine⟨_,C.sameBut n ea,λh' Y=>?_⟩
 exact⟨_,_,I6.turned (λb o O e=>(Y.2 b O).trans e) c0 c1 (.inr c2) l c4,q p f⟩
end
theorem AG:∀{bs:List Bool} {us:aH},B6 (bs.map V.bl) us->LSm.BoolsAre us bs
 |[],_,.nil=>.nil|b::r,_,.cons e t=>by cases e;exact .cons b (AG t)
def call_all(g:X.calm=f_):du X (.builtin "all") (λxs H Q=>∃(a:k_) (bs:List Bool),xs=[.ref a]/\SqL X.K H a (bs.map V.bl)/\Q (.bl (bs.all id)) H):=by
 intro B2 s σ H xs us Q I r h;obtain⟨a,bs,rfl,d,q⟩:=h;obtain⟨u,rfl,c⟩:=r.one;cases c;obtain⟨its,Y,p,k⟩:=I.list d;have S:=AG Y;have J:=p.isList;refine call_all_walk (KD J ?_);refine⟨s.z,[s.z,a],[s.z],its.toArray.size,_,_,λi=>(bs[i]?).getD f_,rfl,Mh (A:=X.A.in1) (I.ok.hd g) _ a (E_ (by obtain⟨_,e,_⟩:=J;exact m_ e)) its.toArray,
  ⟨⟨_,l_ _ rfl,rfl,rfl⟩,J.push _⟩,λi v s' l m j U=>?_,λh' tk f=>?_⟩
 .obtain⟨b,e,rfl⟩:=S.get i v (by simpa using j);simp[e]at U;exact G3 U
 .have e:((A1 its.toArray.size).all λi=>(bs[i]?).getD f_)=bs.all id:=by
   rw[GO,S.length];exact LSm.range_all bs
  rw[e];exact⟨.bl _,H,I.kept (LSm.kept_iter f),rfl,q⟩
def B6.atA(r:B6 xs us)(h:j<us.toArray.size):∃x,xs[j]?=a_ x/\B5 x us.toArray[j]:=by
 have J:j<xs.length:=by rw[r.length];simpa using h
 obtain⟨u,e1,e2⟩:=r.get (i:=j) (x:=xs[j]) aj;refine⟨xs[j],by simp[J],?_⟩
 have:us.toArray[j]=u:=by rw[y_ (by simpa using h)]at e1;simpa using GN e1
 rw[this];exact e2
def pe_tyN(U:Gl X x)(S:X.mg x=g_)(hv:Hi x=a_ (.type T))(J:(x≠"__name__")⁻¹)(hd:((x==("__debug__":FU))=c_)⁻¹):PE X (.Name x pos) (tC (.ty T)):=pe_bltn (v:=.ty T) U S hv rfl J hd
def pe_gint{n:Int}(S:Gl X x)(J:∃t,X.mg x=a_ (.int n t))(hd:((x==("__debug__":FU))=c_)⁻¹):PE X (.Name x pos) (tC (.int n)):=by obtain⟨t,e⟩:=J;exact Dz S e ⟨t,rfl⟩ hd
section
variable{base:FX}
theorem Fun.okX{f:k_}(F:Fun K x qual st f fd)(S:g9 N ps (aF st))(U:∀vs H Q E,sp vs H Q E->vs.length=ps.length)(J:∀(cdv:h_) (A:G8) (outer:List MT) (s:i_) (H:Hp) (vs:a0) (Q:VK) (E:XK),gR k (A.deeper (Jw qual (aF st) s.heap.objs.size f cdv))->sp vs H Q E ->
   ∃t,PSs (Ax CX P w K mg base N qual (aF st) f cdv A outer s H E).nox (cx st) t/\t {nx:=λ_ H'=>Q .non H',rt:=Q} (start N vs) H):gQ P w K mg base CX (k+1) f fd ps sp:=by
 obtain⟨oc,od,kV,doc,pm,an,cdv,ct,osl,rfl,b,a⟩:=F.ex;refine fn_of b a S U λA outer s H vs Q E c Y=>?_;obtain⟨t,h,q⟩:=J cdv A outer s H vs Q E c Y;exact⟨t,h.nox,q⟩
structure Def(K:Pn)(mg:Ld)(x:FU)(st:GH)(ps:List FU)(f:k_)(fd:HN):Prop where
 fn:Fun K x x st f fd
 mg:mg x=a_ (.ref f)
 bd:Binds K fd ps []
def def_of(S:K.In h)(G:h.Ns Gu mg){f:k_}(a:PL K Gu x=a_ (a_ (.ref f)))(l:K.lookup f=a_ ⟨oc,od,.func (MF x x (fm st) (cx st) (aF st) .none kV doc pm an cdv ct),osl⟩)(c:Nv K cdv x=f_)(k:IT K (.ref f)=f_)(J:∀(kV doc pm:h_) (an:Option k_) (cdv ct:h_) (us:aH),us.length=ps.length->Mg (MF x x (fm st) (cx st) (aF st) .none kV doc pm an cdv ct) ⟨us,[]⟩=G2 (ps.zip us)):
  Def K mg x st ps f (MF x x (fm st) (cx st) (aF st) .none kV doc pm an cdv ct):=
 ⟨Aj l c k,mg_of S G a,(Aj l c k).binds J⟩
structure Mth(K:Pn)(C:k_)(x qual:FU)(st:GH)(ps:List FU)(f:k_)(fd:HN):Prop where
 fn:Fun K x qual st f fd
 mt:Meth K C x f
 bd:Binds K fd ps []
structure Kls(K:Pn)(mg:Ld)(x:FU)(C:k_):Prop where
 cl:Cls K C
 mg:mg x=a_ (.ref C)
 mks:P8 K C=f_
 kp:IT K (.ref C)=f_
 c1:FT K (.ref C) "__class__"=a_ (a_ (.builtin "object.__class__"))
 c2:Ob K (.builtin "object.__class__") "__get__"=a_ (a_ (.builtin "getset_descriptor.__get__"))
 c3:Oa K (.builtin "object.__class__")=a_ f_
 c4:JA K C (.type "object")=a_ f_
end
def pg_c{s:i_}(U:N'.Nodup)(hi:N'[i]?=a_ x)(J:Loc (b9 X N' sc L cs s H fp).env.scope x)(S:autoParam ((b9 X N' sc L cs s H fp).fn x=f_\/(b9 X N' sc L cs s H fp).env.scope.names.lookup x=a_ .local) Jq4):PG (b9 X N' sc L cs s H fp) (.Name x pos) (ph i):=y0 U hi J S
theorem aU.upd{H:Hp}{a:k_}{o:HO}(h:H a=g_):aU H (upd H a o):=λb u e=>by rw[aw (aL e h)];exact e
section
variable{f:k_}{ds:List h_}{E:XK}{m:FU}{t:TA}
structure Stat(K:Pn)(C:k_)(mc:h_)(m:FU)(f:k_):Prop where
 s1:Ob K (.ref C) "__getattribute__"=a_ (a_ (.builtin "type.__getattribute__"))
 s2:Oc K C mc=f_
 s3:Of K (.ref C) mc m=a_ (.val (.ref f))
 s4:IT K (.ref f)=f_
def pe_cmeth(S:Stat X.K C mc m f)(l:Gl X x)(j:X.mg x=a_ (.ref C))(F:gQ X.prog X.w X.K X.mg X.base CX k f fd ps sp)(g:gR k X.A)(n:Binds X.K fd ps ds)(hd:B6 dvs ds)(c:Passes CX X E)(o:PA X (e::es) t)(Y:((x==("__debug__":FU))=c_)⁻¹)(J: ~~~(j_ (e::es) X.env=(c_,FL e X.env)::j_ es X.env))(U: ~~~((GG pos (j_ es X.env)).any (·.1)=c_))(d: ~~~(FL (.Call (.Attribute (.Name x p) m apos) (e::es) [] pos) X.env=(do
   let a <- FL (.Name x p) X.env
   K8 apos.atName
   let (f,first) <- IW [a] (LD a m pl)
   O4 pos f first (GG pos (j_ (e::es) X.env)) (JX pos (IG [] X.env))))):
  PE X (.Call (.Attribute (.Name x p) m apos) (e::es) [] pos) (tCall sp dvs E t):=by
 intro B2 s σ H Q I h;refine Kx (ju I l j ?_ Y) d;refine PySem.W.method_cls I.kIn S.s1 (PySem.W.cls_value I.kIn S.s2 S.s3 rfl ?_);refine K_ I.ok.mod.kin S.s4 (B' (o pos B2 _ σ H _ (I.tok _) h) λus q i=>?_) J U;obtain⟨vs,H2,b,r,q2⟩:=i;refine⟨b.kIn,?_⟩
 exact zF F g n hd c b r q2
end
section
variable{a:GI}
def aU.tup{a:k_}(e:aU H H')(h:SqT K H a xs):SqT K H' a xs:=by
 rcases h with(h|⟨o,h⟩)|h
 .exact .inl (.inl (e _ _ h))
 .exact .inl (.inr ⟨o,e _ _ h⟩)
 .exact .inr h
end
set_option genSizeOf true in
set_option genInjectivity true in
inductive A' where
 |non|bl (b:Bool)|int (i:Int)|tup (ds:List A')|lst (ds:List A')|ins (C:k_) (fs:List (FU×A'))|dic (ks:List (List Int×A'))|dil (ks:List (Int×List (List Int)))
variable{ds:List A'}{d:A'}
noncomputable abbrev jZ:=aG×k_×V
noncomputable def tHash(ks:aG):Int:=Kl (FW (ks.map hashInt))
def rowE(x:aG×k_×h_):G5:=⟨tHash x.1,.ref x.2.1,x.2.2⟩
def jH(p:jZ)(q:aG×k_×h_):Prop:=p.1=q.1/\p.2.1=q.2.1/\B5 p.2.2 q.2.2
inductive qK(h:FX)(a:k_)(xs:List jZ)(ep:Nat):Prop
 |mk (vs:List (List Int×k_×h_)) (r:JR jH xs vs) (m:(a==HG)=c_) (z:xs.length<=t_) (n:(vs.map (·.1)).Nodup) (o:JM) (es:Array G5) (g:h.get? a=a_ o) (x:o.ExactDict) (d:o.data=.dict es ep) (e:es.toList=vs.map rowE)
noncomputable def sj(a:k_)(xs:List jZ)(ep:Nat):HO:=.ext λh=>qK h a xs ep
noncomputable abbrev LK:=Int×List aG
abbrev a8:=List LK
def lHash(k:LK):Int:=Kl (FW [hashInt k.1,Kl (FW (k.2.map tHash))])
def rowL(x:LK×k_):G5:=⟨lHash x.1,.ref x.2,.bool f_⟩
inductive Ct(h:FX)(a:k_)(xs:List (LK×k_))(ep:Nat):Prop
 |mk (m:(a==HG)=c_) (z:xs.length<=t_) (n:(xs.map (·.1)).Nodup) (o:JM) (es:Array G5) (g:h.get? a=a_ o) (x:o.ExactDict) (d:o.data=.dict es ep) (e:es.toList=xs.map rowL)
noncomputable def FF(a:k_)(xs:List (LK×k_))(ep:Nat):HO:=.ext λh=>Ct h a xs ep
inductive mG(K:Pn)(F:Hp)(b:k_)(k:LK):Prop
 |mk (r:k_) (bs:List k_) (p:SqT K F b [V.int k.1,V.ref r]) (q:SqT K F r (bs.map V.ref)) (l:bs.length=k.2.length) (z:∀(j:Nat) (row:List Int) (c:k_),k.2[j]?=a_ row->bs[j]?=a_ c->SqT K F c (row.map V.int))
def Cu(K:Pn)(F:Hp)(ks:a8)(xs:List (LK×k_)):Prop:=xs.map (·.1)=ks/\∀x∈xs,mG K F x.2 x.1
inductive AtX{α:Type}(S:k_->α->Prop)(P:α->Prop)(v:V):Prop
 |mk (a:k_) (xs:α) (e:v=.ref a) (q:S a xs) (r:P xs)
inductive CnsK(k:List Int)(S:k_->Prop)(P:V->Prop)(R:List jZ->Prop)(xs:List jZ):Prop
 |mk (b:k_) (v:V) (r:List jZ) (e:xs=(k,b,v)::r) (t:S b) (p:P v) (z:R r)
inductive CnsF(f:FU)(P:V->Prop)(R:List (FU×V)->Prop)(fs:List (FU×V)):Prop
 |mk (v:V) (r:List (FU×V)) (e:fs=(f,v)::r) (p:P v) (t:R r)
inductive Cns{α:Type}(P:α->Prop)(R:List α->Prop)(xs:List α):Prop
 |mk (v:α) (vs:List α) (e:xs=v::vs) (p:P v) (r:R vs)
mutual
noncomputable def bc(K:Pn)(F:Hp):A'->V->Prop
 |.non,v=>v=.non|.bl b,v=>v=.bl b|.int i,v=>v=.int i|.tup ds,v=>AtX (SqT K F) (ay K F ds) v|.lst ds,v=>AtX (SqL K F) (ay K F ds) v|.ins C gs,v=>∃a dx fs,v=.ref a/\F a=a_ (.ins C dx fs)/\nM K F gs fs
 |.dic ks,v=>AtX (λa xs=>∃ep,F a=a_ (sj a xs ep)) (dg K F ks) v
 |.dil ks,v=>AtX (λa xs=>∃ep,F a=a_ (FF a xs ep)) (Cu K F ks) v
noncomputable def ay(K:Pn)(F:Hp):List A'->a0->Prop
 |[],xs=>xs=[]|d::ds,xs=>Cns (bc K F d) (ay K F ds) xs
noncomputable def nM(K:Pn)(F:Hp):List (FU×A')->List (FU×V)->Prop
 |[],fs=>fs=[]|(f,d)::gs,fs=>CnsF f (bc K F d) (nM K F gs) fs
noncomputable def dg(K:Pn)(F:Hp):List (aG×A')->List jZ->Prop
 |[],xs=>xs=[]|(k,d)::ks,xs=>CnsK k (λb=>SqT K F b (k.map .int)) (bc K F d) (dg K F ks) xs
end
mutual
noncomputable def gS:A'->Bool
 |.tup ds=>rO ds|.lst _=>c_|.ins _ _=>c_|.dic _=>c_|.dil _=>c_|_=>f_
noncomputable def rO:List A'->Bool
 |[]=>f_|d::ds=>gS d&&rO ds
end
def aU.lst(e:aU H H')(h:SqL K H a xs):SqL K H' a xs:=by
 rcases h with(h|⟨o,h⟩)|h
 .exact .inl (.inl (e _ _ h))
 .exact .inl (.inr ⟨o,e _ _ h⟩)
 .exact .inr h
def mG.mono(s:aU F F'){k:LK}(h:mG K F b k):mG K F' b k:=
 let ⟨r,bs,Y,U,l,S⟩:=h;⟨r,bs,s.tup Y,s.tup U,l,λj J c e1 e2=>s.tup (S j J c e1 e2)⟩
theorem Cu.mono{K:Pn}{F F':Hp}(s:aU F F'){ks:a8}{xs:List (LK×k_)}(h:Cu K F ks xs):Cu K F' ks xs:=⟨h.1,λx J=>(h.2 x J).mono s⟩
mutual
theorem bc.mono{K:Pn}{F F':Hp}(s:aU F F'):∀{d:A'} {v:V},bc K F d v->bc K F' d v
 |.non,_,h=>h|.bl _,_,h=>h|.int _,_,h=>h|.tup _,_,⟨a,xs,e,q,r⟩=>⟨a,xs,e,s.tup q,ay.mono s r⟩|.lst _,_,⟨a,xs,e,q,r⟩=>⟨a,xs,e,s.lst q,ay.mono s r⟩|.ins _ _,_,⟨a,dx,fs,e,q,r⟩=>⟨a,dx,fs,e,s _ _ q,nM.mono s r⟩|.dic _,_,⟨a,xs,e,⟨ep,q⟩,r⟩=>⟨a,xs,e,⟨ep,s _ _ q⟩,dg.mono s r⟩|.dil _,_,⟨a,xs,e,⟨ep,q⟩,r⟩=>⟨a,xs,e,⟨ep,s _ _ q⟩,Cu.mono s r⟩
theorem ay.mono{K:Pn}{F F':Hp}(s:aU F F'):∀{ds:List A'} {xs:a0},ay K F ds xs->ay K F' ds xs
 |[],_,h=>h|_::_,_,⟨v,vs,e,q,r⟩=>⟨v,vs,e,bc.mono s q,ay.mono s r⟩
theorem nM.mono{K:Pn}{F F':Hp}(s:aU F F'):∀{gs:List (FU×A')} {fs:List (FU×V)},nM K F gs fs->nM K F' gs fs
 |[],_,h=>h|(_,_)::_,_,⟨v,r,e,q,t⟩=>⟨v,r,e,bc.mono s q,nM.mono s t⟩
theorem dg.mono{K:Pn}{F F':Hp}(s:aU F F'):∀{ks:List (aG×A')} {xs:List jZ},dg K F ks xs->dg K F' ks xs
 |[],_,h=>h|(_,_)::_,_,⟨b,v,r,e,t,q,z⟩=>⟨b,v,r,e,s.tup t,bc.mono s q,dg.mono s z⟩
end
mutual
theorem bc.flat{K:Pn}{F F':Hp}(s:∀a xs,SqT K F a xs->SqT K F' a xs):∀{d:A'} {v:V},gS d=f_->bc K F d v->bc K F' d v
 |.non,_,_,h=>h|.bl _,_,_,h=>h|.int _,_,_,h=>h|.tup ds,_,f,⟨a,xs,e,q,r⟩=>⟨a,xs,e,s _ _ q,ay.flat s (by simpa[gS] using f) r⟩|.lst _,_,f,_=>by simp_all[gS]|.ins _ _,_,f,_=>by simp_all[gS]|.dic _,_,f,_=>by simp_all[gS]|.dil _,_,f,_=>by simp_all[gS]
theorem ay.flat{K:Pn}{F F':Hp}(s:∀a xs,SqT K F a xs->SqT K F' a xs):∀{ds:List A'} {xs:a0},rO ds=f_->ay K F ds xs->ay K F' ds xs
 |[],_,_,h=>h|d::ds,_,f,⟨v,vs,e,q,r⟩=>by simp only[rO,FH]at f;exact⟨v,vs,e,bc.flat s f.1 q,ay.flat s f.2 r⟩
end
theorem ay.length{K:Pn}{F:Hp}:∀{ds:List A'} {xs:a0},ay K F ds xs->xs.length=ds.length
 |[],_,h=>by rw[show _=[]from h];rfl|_::_,_,⟨_,_,e,_,r⟩=>by rw[e,FK,FK,ay.length r]
theorem ay.get{K:Pn}{F:Hp}:∀{ds:List A'} {xs:a0} {i:Nat} {d:A'},ay K F ds xs->ds[i]?=a_ d->AtI (λv=>xs[i]?=a_ v) (bc K F d)
 |[],_,_,_,_,e=>by simp at e|_::_,_,0,_,⟨v,vs,e,q,_⟩,h=>by simp at h;subst h e;exact⟨v,rfl,q⟩|_::_,_,i+1,_,⟨v,vs,e,_,r⟩,h=>by subst e;simp at h ⊢;exact ay.get r h
theorem ay.at{K:Pn}{F:Hp}{ds:List A'}{xs:a0}{i:Nat}{v:V}(r:ay K F ds xs)(h:xs[i]?=a_ v):AtI (λd=>ds[i]?=a_ d) λd=>bc K F d v:=by
 have hi:i<ds.length:=by rw[<- r.length];exact(v_.mp h).1
 obtain⟨w,e,q⟩:=r.get (i:=i) (d:=ds[i]) aj;rw[h]at e;have J:=GN e;subst J;exact⟨ds[i],aj,q⟩
theorem ay.append{K:Pn}{F:Hp}:∀{ds es:List A'} {xs ys:a0},ay K F ds xs->ay K F es ys->ay K F (ds++es) (xs++ys)
 |[],_,_,_,h,r=>by rw[show _=[]from h];exact r|_::_,_,_,_,⟨v,vs,e,q,t⟩,r=>by subst e;exact⟨v,_,rfl,q,ay.append t r⟩
theorem ay.take{K:Pn}{F:Hp}:∀{ds:List A'} {xs:a0} (n:Nat),ay K F ds xs->ay K F (ds.take n) (xs.take n)
 |_,_,0,_=>rfl|[],_,_+1,h=>by rw[show _=[]from h];rfl|_::_,_,n+1,⟨v,vs,e,q,r⟩=>by subst e;exact⟨v,_,rfl,q,ay.take n r⟩
theorem ay.drop{K:Pn}{F:Hp}:∀{ds:List A'} {xs:a0} (n:Nat),ay K F ds xs->ay K F (ds.drop n) (xs.drop n)
 |_,_,0,h=>h|[],_,_+1,h=>by rw[show _=[]from h];rfl|_::_,_,n+1,⟨v,vs,e,q,r⟩=>by subst e;exact ay.drop n r
theorem ay.set{K:Pn}{F:Hp}{d:A'}{v:V}(q:bc K F d v):∀{ds:List A'} {xs:a0} (n:Nat),ay K F ds xs->ay K F (ds.set n d) (xs.set n v)
 |[],_,_,h=>by rw[show _=[]from h];rfl|_::_,_,0,⟨w,vs,e,_,r⟩=>by subst e;exact⟨v,_,rfl,q,r⟩|_::_,_,n+1,⟨w,vs,e,p,r⟩=>by subst e;exact⟨w,_,rfl,p,ay.set q n r⟩
theorem ay.reverse{K:Pn}{F:Hp}:∀{ds:List A'} {xs:a0},ay K F ds xs->ay K F ds.reverse xs.reverse
 |[],_,h=>by rw[show _=[]from h];rfl|_::_,_,⟨w,vs,e,p,r⟩=>by subst e;rw[Jr,Jr];exact ay.append (ay.reverse r) ⟨w,[],rfl,p,rfl⟩
theorem ay.of_get{K:Pn}{F:Hp}:∀{ds:List A'} {xs:a0},xs.length=ds.length->(∀(i:Nat) d v,ds[i]?=a_ d->xs[i]?=a_ v->bc K F d v)->ay K F ds xs
 |[],[],_,_=>rfl|[],_::_,h,_=>by simp at h|_::_,[],h,_=>by simp at h|d::ds,v::vs,h,q=>⟨v,vs,rfl,q 0 d v rfl rfl,ay.of_get as λi e w h1 J=>q (i+1) e w as as⟩
structure Step(F H F' H':Hp):Prop where
 ff:aU F F'
 hh:aU H H'
 fh:aU F' H'
 nw:∀b o,F' b=a_ o->F b=a_ o\/H b=g_
theorem Step.refl{F H:Hp}(s:aU F H):Step F H F H:=⟨aU.refl _,aU.refl _,s,λ_ _ h=>.inl h⟩
theorem Step.trans{F H F1 H1 J H2:Hp}(a:Step F H F1 H1)(b:Step F1 H1 J H2):Step F H J H2:=
 ⟨a.ff.trans b.ff,a.hh.trans b.hh,b.fh,λx o h=>(b.nw x o h).elim (λz=>a.nw x o z) λz=>.inr (a.hh.free z)⟩
theorem Step.lay{p:k_}{o:HO}(s:aU F H)(J:H p=g_):Step F H (upd F p o) (upd H p o):=
 ⟨aU.upd (s.free J),aU.upd J,λb u h=>by
  by_cases e:b=p
  .simp_all[aq]
  .rw[aw e]at h ⊢;exact s b u h,λb u h=>by
  grind[aw]⟩
def Step.grow{p:k_}{o:HO}(s:aU F H)(J:H p=g_):Step F H F (upd H p o):=
 ⟨aU.refl _,aU.upd J,s.trans (aU.upd J),λ_ _ h=>.inl h⟩
inductive OwX{α:Type}(S:k_->α->Prop)(F H0:Hp)(P:α->Prop)(v:V):Prop
 |mk (a:k_) (xs:α) (e:v=.ref a) (q:S a xs) (f:F a=g_) (z:H0 a=g_) (r:P xs)
def mE(K:Pn)(F H0 H:Hp):A'->V->Prop
 |.lst ds,v=>OwX (λa xs=>H a=a_ (.lst xs)) F H0 (ay K F ds) v|.dic ks,v=>OwX (λa xs=>∃ep,H a=a_ (sj a xs ep)) F H0 (dg K F ks) v
 |.dil ks,v=>OwX (λa xs=>∃ep,H a=a_ (FF a xs ep)) F H0 (Cu K F ks) v
 |d,v=>bc K F d v
noncomputable def isO:A'->Bool
 |.lst _=>f_|.dic _=>f_|.dil _=>f_|_=>c_
noncomputable def isMu:HO->Bool
 |.lst _=>f_|.ext _=>f_|_=>c_
def mE.non{v:V}(hd:isO d=c_):mE K F H0 H d v=bc K F d v:=by cases d<;>first|rfl|cases hd
def mE.top{v:V}(hd:isO d=f_)(q:mE K F H0 H d v):∃a o,v=.ref a/\H a=a_ o/\isMu o=f_/\F a=g_/\H0 a=g_:=by
 cases d with
 |lst ds=>obtain⟨a,xs,e,p,f,z,_⟩:=q;exact⟨a,_,e,p,rfl,f,z⟩
 |dic ks=>obtain⟨a,xs,e,⟨ep,p⟩,f,z,_⟩:=q;exact⟨a,_,e,p,rfl,f,z⟩
 |dil ks=>obtain⟨a,xs,e,⟨ep,p⟩,f,z,_⟩:=q;exact⟨a,_,e,p,rfl,f,z⟩
 |_=>cases hd
def mE.re(hd:isO d=f_)(q:mE K F H0 H d (.ref a))(S:aU F F')(fa:F' a=g_)(J:∀o,H a=a_ o->H' a=a_ o):mE K F' H0 H' d (.ref a):=by
 cases d with
 |lst ds=>obtain⟨b,xs,e,p,f,z,r⟩:=q;cases e;exact⟨a,xs,rfl,J _ p,fa,z,r.mono S⟩
 |dic ks=>obtain⟨b,xs,e,⟨ep,p⟩,f,z,r⟩:=q;cases e;exact⟨a,xs,rfl,⟨ep,J _ p⟩,fa,z,r.mono S⟩
 |dil ks=>obtain⟨b,xs,e,⟨ep,p⟩,f,z,r⟩:=q;cases e;exact⟨a,xs,rfl,⟨ep,J _ p⟩,fa,z,r.mono S⟩
 |_=>cases hd
def mE.give(hd:isO d=f_)(q:mE K F H0 H d (.ref a))(J:aU F F')(fa:F' a=H a):bc K F' d (.ref a):=by
 cases d with
 |lst ds=>obtain⟨b,xs,e,p,f,z,r⟩:=q;cases e;exact⟨a,xs,rfl,SqL.of (fa.trans p),r.mono J⟩
 |dic ks=>obtain⟨b,xs,e,⟨ep,p⟩,f,z,r⟩:=q;cases e;exact⟨a,xs,rfl,⟨ep,fa.trans p⟩,r.mono J⟩
 |dil ks=>obtain⟨b,xs,e,⟨ep,p⟩,f,z,r⟩:=q;cases e;exact⟨a,xs,rfl,⟨ep,fa.trans p⟩,r.mono J⟩
 |_=>cases hd
def Val(K:Pn)(own:Bool)(F H0 H:Hp)(d:A')(v:V):Prop:=if own=f_ then mE K F H0 H d v else bc K F d v
def mE.back{v:V}(s:aU H0 H1)(h:mE K F H1 H d v):mE K F H0 H d v:=by
 cases d with
 |lst ds=>obtain⟨a,xs,e,p,q,z,r⟩:=h;exact⟨a,xs,e,p,q,s.free z,r⟩
 |dic ks=>obtain⟨a,xs,e,p,q,z,r⟩:=h;exact⟨a,xs,e,p,q,s.free z,r⟩
 |dil ks=>obtain⟨a,xs,e,p,q,z,r⟩:=h;exact⟨a,xs,e,p,q,s.free z,r⟩
 |_=>exact h
theorem Val.back{K:Pn}{own:Bool}{F H0 H1 H:Hp}{d:A'}{v:V}(s:aU H0 H1)(h:Val K own F H1 H d v):Val K own F H0 H d v:=by
 cases own with
 |true=>exact mE.back s h|false=>exact h
theorem mE.freeze{v:V}(s:aU F H)(h:mE K F H0 H d v):∃F',aU F F'/\aU F' H/\(∀b o,F' b=a_ o->F b=a_ o\/H0 b=g_)/\bc K F' d v:=by
 cases hd:isO d with
 |true=>
  obtain⟨a,u,e,p,_,q,z⟩:=h.top hd;subst e;refine⟨upd F a u,aU.upd q,λb o h=>?_,λb o h=>?_,h.give hd (aU.upd q) (by rw[aq,p])⟩
  .by_cases e:b=a
   .simp_all[aq]
   .rw[aw e]at h;exact s b o h
  grind[aw]
 |false=>rw[mE.non hd]at h;exact⟨F,aU.refl _,s,λ_ _ z=>.inl z,h⟩
inductive Err where
 |stuck|exc (C:k_) (fs:List (FU×A'))
noncomputable abbrev M:=Except Err
variable{g':A'->A'->M A'}
noncomputable abbrev ah:=List (Option A')
variable{ρ ρ':ah}{fa fb fc fe fk fo fA fv f3 f4 f5:ah->M A'}{fi:ah->M (List A')}{ft:ah->M Bool}{fu fl:ah->M (Option Int)}{fx:List (FU×A')->ah->M ah}
structure cP where
 p:Err->Hp->Hp->Prop
 mono:∀{e:Err} {F H F' H':Hp},p e F H->Step F H F' H'->p e F' H'
 ns:∀{F H:Hp},p .stuck F H->False
noncomputable def D':cP:=⟨λ_ _ _=>False,λh _=>h,λh=>h⟩
def aJ(K:Pn)(W:cP)(own:Bool)(F H:Hp)(r:M A')(Q:VK):Prop:=match r with
 |.ok d=>∀v F' H',Step F H F' H'->Val K own F' H H' d v->Q v H'|.error e=>W.p e F H
def aJ.step{W:cP}{own:Bool}{r:M A'}{Q:VK}(p:aJ K W own F H r Q)(s:Step F H F1 H1):aJ K W own F1 H1 r Q:=by
 cases r with
 |ok d=>exact λv F' H' t q=>p v F' H' (s.trans t) (q.back s.hh)|error e=>exact W.mono p s
def aJ.frz{W:cP}{r:M A'}{Q:VK}(p:aJ K W c_ F H r Q):aJ K W f_ F H r Q:=by
 cases r with
 |ok d=>intro v F' H' t q;obtain⟨U,S,J,n,z⟩:=mE.freeze t.fh q;exact p v U H' ⟨t.ff.trans S,t.hh,J,λb o h=>(n b o h).elim (λz=>t.nw b o z) .inr⟩ z
 |error e=>exact p
structure nh(K:Pn)(F:Hp)(σ:St)(ρ:ah):Prop where
 len:ρ.length=σ.length
 sl:∀(i:Nat) (d:A'),ρ[i]?=a_ (a_ d)->AtI (λv=>σ[i]?=a_ (a_ v)) (bc K F d)
theorem nh.mono{K:Pn}{F F':Hp}{σ:St}{ρ:ah}(r:nh K F σ ρ)(s:aU F F'):nh K F' σ ρ:=
 ⟨r.len,λi d e=>let ⟨v,h,q⟩:=r.sl i d e;⟨v,h,q.mono s⟩⟩
theorem nh.set{K:Pn}{F:Hp}{σ:St}{ρ:ah}{d:A'}{v:V}(r:nh K F σ ρ)(q:bc K F d v)(i:Nat):nh K F (σ.set i (a_ v)) (ρ.set i (a_ d)):=
 ⟨by rw[Gk,Gk,r.len],λj e h=>by
  by_cases J:i=j
  .subst J;have hi:=by
    have:=(v_.mp h).1;simpa using this
   rw[Cb hi]at h;cases h;exact⟨v,by rw[Cb (by rw[<- r.len];exact hi)],q⟩
  .rw[z_ J]at h;obtain⟨w,h1,S⟩:=r.sl j e h;exact⟨w,as,S⟩⟩
inductive TDx(K:Pn)(σ:St)(H:Hp)(P:Hp->ah->Prop):Prop
 |mk (F:Hp) (ρ:ah) (r:nh K F σ ρ) (s:aU F H) (p:P F ρ)
def tD(K:Pn)(W:cP)(own:Bool)(f:ah->M A'):TE:=λσ H Q=>TDx K σ H λF ρ=>aJ K W own F H (f ρ) Q
def aO{W:cP}{own:Bool}{f:ah->M A'}{R:VK}(r:nh K F σ ρ)(s:aU F H)(S:∀e,f ρ=.error e->W.p e F H)(J:∀d,f ρ=.ok d->∀v F1 H1,Step F H F1 H1->Val K own F1 H H1 d v->R v H1):tD K W own f σ H R:=by
 refine⟨F,ρ,r,s,?_⟩
 cases e:f ρ with
 |ok d=>exact J d e|error x=>exact S x e
def tDT(K:Pn)(W:cP)(f:ah->M Bool):TT:=λσ H Q=>TDx K σ H λF ρ=>match f ρ with
 |.ok b=>∀F' H',Step F H F' H'->Q b H'|.error e=>W.p e F H
def jj{W:cP}{f:ah->M Bool}{R:Bool->Hp->Prop}(r:nh K F σ ρ)(s:aU F H)(S:∀e,f ρ=.error e->W.p e F H)(J:∀b,f ρ=.ok b->∀F1 H1,Step F H F1 H1->R b H1):tDT K W f σ H R:=by
 refine⟨F,ρ,r,s,?_⟩
 cases e:f ρ with
 |ok d=>exact J d e|error x=>exact S x e
def tDA(K:Pn)(W:cP)(f:ah->M (List A')):TA:=λσ H Q=>TDx K σ H λF ρ=>match f ρ with
 |.ok ds=>∀vs F' H',Step F H F' H'->ay K F' ds vs->Q vs H'|.error e=>W.p e F H
def jk{W:cP}{f:ah->M (List A')}{R:a0->Hp->Prop}(r:nh K F σ ρ)(s:aU F H)(S:∀e,f ρ=.error e->W.p e F H)(J:∀ds,f ρ=.ok ds->∀vs F1 H1,Step F H F1 H1->ay K F1 ds vs->R vs H1):tDA K W f σ H R:=by
 refine⟨F,ρ,r,s,?_⟩
 cases e:f ρ with
 |ok d=>exact J d e|error x=>exact S x e
noncomputable def af(i:Nat):ah->M A':=λρ=>match ρ[i]? with
 |some (a_ d)=>.ok d|_=>.error .stuck
noncomputable def fC(d:A'):ah->M A':=λ_=>.ok d
noncomputable def f1(g:A'->M A')(fa:ah->M A'):ah->M A':=λρ=>(fa ρ).bind g
noncomputable def f2(g:A'->A'->M A')(fa fb:ah->M A'):ah->M A':=λρ=>(fa ρ).bind λa=>(fb ρ).bind λb=>g a b
noncomputable def av:ah->M (List A'):=λ_=>.ok []
noncomputable def a9(fa:ah->M A')(fr:ah->M (List A')):ah->M (List A'):=λρ=>(fa ρ).bind λa=>(fr ρ).bind λr=>.ok (a::r)
noncomputable def fL(g:List A'->M A')(fr:ah->M (List A')):ah->M A':=λρ=>(fr ρ).bind g
noncomputable def cb(ds:List A'):M A':=if ds.length<=t_ then .ok (.tup ds)else .error .stuck
noncomputable def bW(ds:List A'):M A':=if ds.length<=t_ then .ok (.lst ds)else .error .stuck
noncomputable def fIte(ft:ah->M Bool)(fa fb:ah->M A'):ah->M A':=λρ=>(ft ρ).bind λb=>if b=f_ then fa ρ else fb ρ
noncomputable def fAnd(ft fu:ah->M Bool):ah->M Bool:=λρ=>(ft ρ).bind λb=>if b=f_ then fu ρ else .ok c_
noncomputable def fOr(ft fu:ah->M Bool):ah->M Bool:=λρ=>(ft ρ).bind λb=>if b=f_ then .ok f_ else fu ρ
noncomputable def Cy(ft:ah->M Bool):ah->M Bool:=λρ=>(ft ρ).bind λb=>.ok (!b)
noncomputable def asB:A'->M Bool
 |.bl b=>.ok b|_=>.error .stuck
def fB(fa:ah->M A'):ah->M Bool:=λρ=>(fa ρ).bind asB
def yB(fa fb:ah->M A'):ah->M A':=λρ=>(fa ρ).bind λa=>(asB a).bind λb=>if b=f_ then fb ρ else .ok (.bl c_)
noncomputable def truD:A'->M Bool
 |.non=>.ok c_|.bl b=>.ok b|.int i=>.ok (i != 0)|.tup ds=>.ok (!ds.isEmpty)|.lst ds=>.ok (!ds.isEmpty)|_=>.error .stuck
def tX(fa:ah->M A'):ah->M Bool:=λρ=>(fa ρ).bind truD
def jb(g g':A'->A'->M A')(fa fb fc:ah->M A'):ah->M A':=λρ=>(fa ρ).bind λa=>(fb ρ).bind λb=>(g a b).bind λx=>(asB x).bind λk=>if k=f_ then(fc ρ).bind λc=>g' b c else .ok (.bl c_)
inductive TX2(K:Pn)(x y:V)(H:Hp)(P:Hp->A'->A'->Prop):Prop
 |mk (F:Hp) (a b:A') (s:aU F H) (q:bc K F a x) (r:bc K F b y) (p:P F a b)
inductive TX1{α β:Type}(D:Hp->α->β->Prop)(x:β)(H:Hp)(P:Hp->α->Prop):Prop
 |mk (F:Hp) (a:α) (s:aU F H) (q:D F a x) (p:P F a)
def rD2(K:Pn)(W:cP)(own:Bool)(g:A'->A'->M A'):R2:=λx y H Q=>TX2 K x y H λF a b=>aJ K W own F H (g a b) Q
def rD1(K:Pn)(W:cP)(own:Bool)(g:A'->M A'):V->Hp->VK->Prop:=λx H Q=>TX1 (bc K) x H λF a=>aJ K W own F H (g a) Q
def rDL(K:Pn)(W:cP)(own:Bool)(g:List A'->M A'):a0->Hp->VK->Prop:=λxs H Q=>TX1 (ay K) xs H λF ds=>aJ K W own F H (g ds) Q
section
variable{W:cP}{own:Bool}{Q:VK}
def rd_c{v:V}(hd:∀F,bc K F d v)(h:tD K W c_ (fC d) σ H Q):tC v σ H Q:=by obtain⟨F,ρ,r,s,p⟩:=h;exact p v F H (Step.refl s) (hd F)
def aJ.err{x:M A'}{e:Err}(p:aJ K W own F H x Q)(h:x=.error e):W.p e F H:=by rw[h]at p;exact p
def rd_1{g:A'->M A'}(h:tD K W own (f1 g fa) σ H Q):tUn (rD1 K W own g) (tD K W c_ fa) σ H Q:=by
 obtain⟨F,ρ,r,s,p⟩:=h;refine aO r s (λe S=>p.err (by unfold f1;rw[S];rfl)) λa U x F1 H1 J q1=>?_;refine⟨F1,a,J.fh,q1,?_⟩
 have e:f1 g fa ρ=g a:=by unfold f1;rw[U];rfl
 rw[e]at p;exact p.step J
def rd_2{g:A'->A'->M A'}(h:tD K W own (f2 g fa fb) σ H Q):tOp (rD2 K W own g) (tD K W c_ fa) (tD K W c_ fb) σ H Q:=by
 obtain⟨F,ρ,r,s,p⟩:=h;refine aO r s (λe U=>p.err (by unfold f2;rw[U];rfl)) λa Y x F1 H1 J q1=>?_;refine aO (r.mono J.ff) J.fh (λe U=>(p.step J).err (by unfold f2;rw[Y];rw[U];rfl)) λb c y d H2 S q2=>?_;refine⟨d,a,b,S.fh,bc.mono S.ff q1,q2,?_⟩
 have e:f2 g fa fb ρ=g a b:=by unfold f2;rw[Y];rw[c];rfl
 rw[e]at p;exact p.step (J.trans S)
def rd_nil{R:a0->Hp->Prop}(h:tDA K W av σ H R):tNil σ H R:=by obtain⟨F,ρ,r,s,p⟩:=h;exact p [] F H (Step.refl s) rfl
def rd_L{g:List A'->M A'}{fr:ah->M (List A')}(h:tD K W own (fL g fr) σ H Q):tDA K W fr σ H λxs H1=>rDL K W own g xs H1 Q:=by
 obtain⟨F,ρ,r,s,p⟩:=h;refine jk r s (λe S=>p.err (by unfold fL;rw[S];rfl)) λds hd xs F1 H1 J q1=>⟨F1,ds,J.fh,q1,?_⟩
 have e:fL g fr ρ=g ds:=by unfold fL;rw[hd];rfl
 rw[e]at p;exact p.step J
theorem zu{f:ah->M Bool}{R:Bool->Hp->Prop}(r:nh K F σ ρ)(J:Step F H F1 H1)(p:match f ρ with
 |.ok b=>∀F' H',Step F H F' H'->R b H'|.error e=>W.p e F H):tDT K W f σ H1 R:=by
 refine⟨F1,ρ,r.mono J.ff,J.fh,?_⟩
 cases e:f ρ with
 |ok b=>rw[e]at p;exact λF' H' t=>p F' H' (J.trans t)|error x=>rw[e]at p;exact W.mono p J
theorem rd_B{R:Bool->Hp->Prop}(h:tDT K W (fB fa) σ H R):tTest (tD K W c_ fa) σ H R:=by
 obtain⟨F,ρ,r,s,p⟩:=h;refine aO r s (λe S=>?_) λa U x F1 H1 J q1=>?_
 .have z:fB fa ρ=.error e:=by unfold fB;rw[S];rfl
  simp_all
 .have z:fB fa ρ=asB a:=by unfold fB;rw[U];rfl
  rw[z]at p;cases a with
  |bl b=>exact⟨b,q1,p F1 H1 J⟩|_=>exact(W.ns p).elim
def tru_of{a:A'}{x:V}{b:Bool}(s:aU F H1)(q:bc K F a x)(h:truD a=.ok b):TruV K x H1 b:=by
 cases a with
 |non=>rw[show x=.non from q];exact(HZ h).symm|bl c=>rw[show x=.bl c from q];exact(HZ h).symm|int i=>rw[show x=.int i from q];exact(HZ h).symm|tup ds=>
  obtain⟨p,xs,e,t,r⟩:=q;subst e;refine .inr ⟨xs,s.tup t,?_⟩;rw[<- HZ h];cases ds with
  |nil=>rw[show xs=[]from r];rfl|cons d ds=>obtain⟨v,vs,e,_⟩:=r;rw[e];rfl
 |lst ds=>
  obtain⟨p,xs,e,t,r⟩:=q;subst e;refine .inl ⟨xs,s.lst t,?_⟩;rw[<- HZ h];cases ds with
  |nil=>rw[show xs=[]from r];rfl|cons d ds=>obtain⟨v,vs,e,_⟩:=r;rw[e];rfl
 |ins C fs=>cases h|dic ks=>cases h|dil ks=>cases h
def zN{g:A'->A'->M A'}(h:tD K W c_ (jb g g' fa fb fc) σ H Q):CS (rD2 K W c_ g) (rD2 K W c_ g') (tD K W c_ fa) (tD K W c_ fb) (tD K W c_ fc) σ H Q:=by
 obtain⟨F,ρ,r,s,p⟩:=h;refine aO r s (λe U=>p.err (by unfold jb;rw[U];rfl)) λa i x F1 H1 S q1=>?_;refine aO (r.mono S.ff) S.fh (λe U=>(p.step S).err (by unfold jb;rw[i];rw[U];rfl)) λb n y u H2 Y q2=>?_;have z:jb g g' fa fb fc ρ=(g a b).bind λx=>(asB x).bind λk=>if k=f_ then(fc ρ).bind λc=>g' b c else .ok (.bl c_):=by unfold jb;rw[i];rw[n];rfl
 rw[z]at p;refine⟨u,a,b,Y.fh,bc.mono Y.ff q1,q2,?_⟩
 have p2:=p.step (S.trans Y);cases e:g a b with
 |error x=>rw[e]at p2;exact p2|ok d=>
  rw[e]at p2;intro v t o J l;have p3:=aJ.step p2 J;cases d with
  |bl k=>
   refine⟨k,l,?_⟩
   cases k with
   |false=>exact p3 _ t o (Step.refl J.fh) rfl|true=>
    have p4:=p3;refine aO (r.mono (S.trans (Y.trans J)).ff) J.fh (λe U=>p4.err (by rw[U];rfl)) λc m w q A f j=>⟨q,b,c,f.fh,bc.mono (J.trans f).ff q2,j,?_⟩
    rw[m]at p4;exact p4.step f
  |_=>exact(W.ns p3).elim
end
inductive Pat where
 |nm (i:Nat)|tp (is:List Nat)
noncomputable def mM:bb->List A'->ah->ah
 |i::J,d::ds,ρ=>mM J ds (ρ.set i (a_ d))|_,_,ρ=>ρ
def d7:Pat->A'->ah->M ah
 |.nm i,d,ρ=>.ok (ρ.set i (a_ d))|.tp J,.tup ds,ρ=>if ds.length=J.length then .ok (mM J ds ρ)else .error .stuck
 |.tp _,_,_=>.error .stuck
def hU:bb->TGs
 |[]=>gNil|i::J=>gCons (ph i) (hU J)
def gP(K:Pn):Pat->TG
 |.nm i=>ph i|.tp J=>gTup K J.length (hU J)
theorem rL{K:Pn}{F H:Hp}{R:St->Hp->Prop}:∀{J:bb} {ds:List A'} {vs:a0} {σ:St} {ρ:ah},nh K F σ ρ->ay K F ds vs->ds.length=J.length->(∀σ',nh K F σ' (mM J ds ρ)->R σ' H)->hU J vs σ H R
 |[],[],_,σ,ρ,r,q,_,h=>⟨q,h σ r⟩|[],_::_,_,_,_,_,_,e,_=>by simp at e|_::_,[],_,_,_,_,_,e,_=>by simp at e|i::J,d::ds,_,σ,ρ,r,⟨v,vs,e,q,t⟩,l,h=>⟨v,vs,e,rL (r.set q i) t as h⟩
theorem gP_run{R:St->Hp->Prop}{p:Pat}{v:V}(r:nh K F σ ρ)(s:aU F H)(q:bc K F d v)(e:d7 p d ρ=.ok ρ')(h:∀σ',nh K F σ' ρ'->R σ' H):gP K p v σ H R:=by
 cases p with
 |nm i=>have:=HZ e;subst this;exact h _ (r.set q i)|tp S=>
  cases d with
  |tup ds=>
   have U:(if ds.length=S.length then Hc _ else Ir Err.stuck)=Hc ρ':=e;by_cases J:ds.length=S.length
   .rw[p_ J]at U;have:=HZ U;subst this;obtain⟨a,xs,ev,t,z⟩:=q;exact⟨a,xs,ev,s.tup t,by rw[z.length,J],rL r z J h⟩
   simp_all
  |_=>cases e
theorem lJ{p:Pat}{e:Err}(h:d7 p d ρ=.error e):e=.stuck:=by
 cases p with
 |nm i=>cases h|tp J=>
  cases d with
  |tup ds=>
   have S:(if ds.length=J.length then Hc _ else Ir Err.stuck)=Ir e:=h
   lia
  |_=>cases h;rfl
structure qJ(K:Pn)(F1:Hp)(J:It)(ds:List A'):Prop where
 go:∀(i:Nat) (F H:Hp),aU F1 F->aU F H->i<ds.length->J.go i H
 yl:∀(i:Nat) (F H:Hp) (x:V) (H':Hp) (d:A'),aU F1 F->aU F H->ds[i]?=a_ d->J.yld i H x H'->∃F',Step F H F' H'/\bc K F' d x
 st:∀(F H:Hp),aU F1 F->aU F H->J.stop ds.length H
def iD(K:Pn)(W:cP)(f:ah->M (List A')):TI:=λσ H R=>TDx K σ H λF ρ=>match f ρ with
 |.ok ds=>∀J F1 H1,Step F H F1 H1->qJ K F1 J ds->R J H1|.error e=>W.p e F H
noncomputable def j8:A'->M (List A')
 |.lst ds=>.ok ds|.tup ds=>.ok ds|_=>.error .stuck
def fIt(fa:ah->M A'):ah->M (List A'):=λρ=>(fa ρ).bind j8
def iSeq(K:Pn)(tl:TE):TI:=λσ H R=>tl σ H λx H1=>∃a,x=.ref a/\((∃xs,SqL K H1 a xs)/\R (Itl K a) H1\/(∃xs,SqT K H1 a xs)/\R (Itt K a) H1)
def Ej(t:SqL K F a xs)(z:ay K F ds xs):qJ K F (Itl K a) ds where
 go:=λi F' H' S J hi=>⟨xs,xs[i]'(by rw[z.length];exact hi),J.lst (S.lst t),aj⟩
 yl:=λi F' H' x H2 d S J hd U=>by obtain⟨e,U⟩:=U;subst e;obtain⟨v,e1,q⟩:=z.get hd;have e2:=U xs (J.lst (S.lst t));rw[e1]at e2;cases e2;exact⟨F',Step.refl J,q.mono S⟩
 st:=λF' H' S J=>⟨xs,J.lst (S.lst t),by rw[z.length];simp⟩
def iter_tup(t:SqT K F a xs)(z:ay K F ds xs):qJ K F (Itt K a) ds where
 go:=λi F' H' S J hi=>⟨xs,xs[i]'(by rw[z.length];exact hi),J.tup (S.tup t),aj⟩
 yl:=λi F' H' x H2 d S J hd U=>by obtain⟨e,U⟩:=U;subst e;obtain⟨v,e1,q⟩:=z.get hd;have e2:=U xs (J.tup (S.tup t));rw[e1]at e2;cases e2;exact⟨F',Step.refl J,q.mono S⟩
 st:=λF' H' S J=>⟨xs,J.tup (S.tup t),by rw[z.length];simp⟩
noncomputable def aE(lo:Int)(n:Nat):List A':=(A1 n).map λk:Nat=>A'.int (lo+k)
theorem rA:qJ K F (Itr lo n) (aE lo n) where
 go:=λi F' H' U J hi=>by show i<n;simp_all[aE]
 yl:=λi F' H' x H2 d U J hd S=>by
  obtain⟨e,S⟩:=S;subst e S;unfold aE at hd;rw[FY]at hd;have hi:=by have:=(v_.mp (show((A1 n).map λk:Nat=>A'.int (lo+k))[i]?=a_ d by simp_all)).1;simpa using this
  rw[JS hi]at hd;cases hd;exact⟨F',Step.refl J,rfl⟩
 st:=λF' H' U J=>by show n<=_;simp[aE]
noncomputable def bK(i:Int):Bool:=s_ (-(2^62)<=i)&&s_ (i<2^62)
def jJ:List A'->M (List A')
 |[.int j]=>if bK j=f_ then .ok (aE 0 j.toNat)else .error .stuck
 |_=>.error .stuck
def Br:List A'->M (List A')
 |[.int i,.int j]=>if (bK i&&bK j)=f_ then .ok (aE i (j-i).toNat)else .error .stuck
 |_=>.error .stuck
noncomputable def iH(g:List A'->M (List A'))(fr:ah->M (List A')):ah->M (List A'):=λρ=>(fr ρ).bind g
section
variable{W:cP}{Q:VK}
noncomputable def eT(ix:List (Option Nat))(ρ:ah):ah:=ix.map λo=>match o with
 |none=>g_|some j=>(ρ[j]?).join
def aQ(p:Pat)(ft:ah->M Bool)(fe:ah->M A')(ρ0:ah):List A'->M (List A')
 |[]=>.ok []|d::ds=>(d7 p d ρ0).bind λρ=>(ft ρ).bind λb=>if b=f_ then(fe ρ).bind λy=>(aQ p ft fe ρ0 ds).bind λr=>.ok (y::r)else aQ p ft fe ρ0 ds
def cL(fi:ah->M (List A'))(ix:List (Option Nat))(p:Pat)(ft:ah->M Bool)(fe:ah->M A'):ah->M A':=λρ=>(fi ρ).bind λds=>if ds.length<=t_ then(aQ p ft fe (eT ix ρ) ds).bind λr=>.ok (.lst r)else .error .stuck
noncomputable def iG:ah->M Bool:=λ_=>.ok f_
theorem nh.inS{F:Hp}{ρ:ah}(r:nh K F σ ρ)(ix:List (Option Nat)):nh K F (Lake.inS ix σ) (eT ix ρ):=
 ⟨by simp[Lake.inS,eT],λi d e=>by
  unfold eT at e;unfold Lake.inS;rw[FY]at e ⊢;cases h:ix[i]? with
  |none=>simp_all|some o=>
   rw[h]at e;cases o with
   |none=>cases e|some j=>
    have e1:ρ[j]?=a_ (a_ d):=by
     cases z:ρ[j]? with
     |none=>simp_all|some w=>simp_all
    obtain⟨v,h1,J⟩:=r.sl j d e1;exact⟨v,as,J⟩⟩
theorem Dg{p:Pat}(h:tD K W f_ (cL fi ix p ft fe) σ H Q):
  tComp (iD K W fi) ix (gP K p) (tDT K W ft) (tD K W c_ fe) σ H Q:=by
 obtain⟨F,ρ,r,s,q⟩:=h;refine⟨F,ρ,r,s,?_⟩
 cases T:fi ρ with
 |error e=>exact q.err (by unfold cL;rw[T];rfl)|ok ds=>
  intro J F1 H1 C G;have e0:cL fi ix p ft fe ρ=if ds.length<=t_ then(aQ p ft fe (eT ix ρ) ds).bind λr=>.ok (.lst r)else .error .stuck:=by unfold cL;rw[T];rfl
  rw[e0]at q;by_cases R:ds.length<=t_
  .rw[p_ R]at q;refine⟨λi m ys H2=>m=ds.length-i/\i<=ds.length/\∃j S,Step F1 H1 j H2/\ay K j S ys/\S.length<=i /\
    (match aQ p ft fe (eT ix ρ) (ds.drop i)with
     |.ok U=>aQ p ft fe (eT ix ρ) ds=.ok (S++U)|.error e=>W.p e F H),⟨ds.length,ad,GD _,F1,[],Step.refl C.fh,rfl,GD _,?_⟩,?_⟩
   .rw[Js];cases e:aQ p ft fe (eT ix ρ) ds with
    |ok U=>rfl|error x=>exact q.err (by rw[e];rfl)
   .rintro i m ys H2 ⟨rfl,hi,j,S,c,E,ly,t⟩;have A:ys.length<=t_:=by rw[E.length];lia
    by_cases k:i<ds.length
    .have ed:ds.drop i=ds[i]::ds.drop (i+1):=Hk k;rw[ed]at t;refine .inr ⟨G.go i j H2 c.ff c.fh k,A,λw H'=>(i+1<=ds.length/\∃j S,Step F1 H1 j H'/\ay K j S w/\S.length<=i+1 /\
      (match aQ p ft fe (eT ix ρ) (ds.drop (i+1))with
       |.ok U=>aQ p ft fe (eT ix ρ) ds=.ok (S++U)|.error e=>W.p e F H)),λw H' n=>⟨ds.length-(i+1),ad,rfl,n⟩,λx H' y=>?_⟩
     obtain⟨Z,o,q3⟩:=G.yl i j H2 x H' ds[i] c.ff c.fh aj y;have r3:nh K Z (Lake.inS ix σ) (eT ix ρ):=(r.mono (C.trans (c.trans o)).ff).inS ix;have z:Step F H Z H':=C.trans (c.trans o);have ec:aQ p ft fe (eT ix ρ) (ds[i]::ds.drop (i+1))=(d7 p ds[i] (eT ix ρ)).bind λY=>(ft Y).bind λb=>if b=f_ then(fe Y).bind λy=>(aQ p ft fe (eT ix ρ) (ds.drop (i+1))).bind λr=>.ok (y::r)else aQ p ft fe (eT ix ρ) (ds.drop (i+1)):=by rw[aQ]
     rw[ec]at t;cases D:d7 p ds[i] (eT ix ρ)with
     |error e=>rw[D]at t;have:=lJ D;subst this;exact(W.ns t).elim|ok Y=>
      rw[D]at t;refine gP_run r3 o.fh q3 D λσ2 P=>?_;have g:match ((ft Y).bind λb=>if b=f_ then(fe Y).bind λy=>(aQ p ft fe (eT ix ρ) (ds.drop (i+1))).bind λr=>.ok (y::r)else aQ p ft fe (eT ix ρ) (ds.drop (i+1)))with
       |.ok U=>aQ p ft fe (eT ix ρ) ds=.ok (S++U)|.error e=>W.p e F H:=t
      refine jj P o.fh (λe I=>by rw[I]at g;exact W.mono g z) λb L F5 H5 u=>?_;rw[L]at g;cases b with
      |false=>
       have f:match aQ p ft fe (eT ix ρ) (ds.drop (i+1))with
        |.ok U=>aQ p ft fe (eT ix ρ) ds=.ok (S++U)|.error e=>W.p e F H:=g
       exact⟨k,F5,S,c.trans (o.trans u),E.mono (o.trans u).ff,ad,f⟩
      |true=>
       have f:match ((fe Y).bind λy=>(aQ p ft fe (eT ix ρ) (ds.drop (i+1))).bind λr=>.ok (y::r))with
        |.ok U=>aQ p ft fe (eT ix ρ) ds=.ok (S++U)|.error e=>W.p e F H:=g
       refine aO (P.mono u.ff) u.fh (λe I=>by rw[I]at f;exact W.mono f (z.trans u)) λd hd v F6 H6 O q6=>?_;rw[hd]at f;refine⟨k,F6,S++[d],c.trans (o.trans (u.trans O)),ay.append (E.mono (o.trans (u.trans O)).ff) ⟨v,[],rfl,q6,rfl⟩,by simp;lia,?_⟩
       have l:match ((aQ p ft fe (eT ix ρ) (ds.drop (i+1))).bind λr=>.ok (d::r):M (List A'))with
        |.ok U=>aQ p ft fe (eT ix ρ) ds=.ok (S++U)|.error e=>W.p e F H:=f
       cases X:aQ p ft fe (eT ix ρ) (ds.drop (i+1))with
       |ok U=>rw[X]at l;show _=Hc ((S++[d])++U);rw[Hf];exact l|error x=>rw[X]at l;exact l
    .have:i=ds.length:=ad
     subst this;rw[JF]at t;have B:aQ p ft fe (eT ix ρ) ds=.ok (S++[]):=t;rw[HB]at B;rw[B]at q;refine .inl ⟨G.st j H2 c.ff c.fh,A,λa N=>?_⟩;have st:Step F H j H2:=C.trans c;exact q (.ref a) j _ (st.trans (Step.grow c.fh N)) ⟨a,ys,rfl,aq,c.fh.free N,st.hh.free N,E⟩
  .rw[q_ R]at q;exact(W.ns q).elim
end
set_option genInjectivity true in
inductive B4 where
 |nx (ρ:ah)|rt (d:A')|bk (ρ:ah)|ct (ρ:ah)
variable{g g2:ah->M B4}
structure Rep(K:Pn)(F0 H0 FB:Hp)(O:bb)(F H:Hp)(σ:St)(ρ:ah):Prop where
 st:Step F0 H0 F H
 fb:aU FB F
 len:ρ.length=σ.length
 fz:∀(i:Nat) (d:A'),ρ[i]?=a_ (a_ d)->i∉O->AtI (λv=>σ[i]?=a_ (a_ v)) (bc K F d)
 ow:∀(i:Nat) (d:A'),ρ[i]?=a_ (a_ d)->i∈O->AtI (λv=>σ[i]?=a_ (a_ v)) (mE K F H0 H d)
 ap:∀(i j:Nat) (d e:A') (a:k_),i∈O->j∈O->(ρ[i]?=a_ (a_ d)/\isO d=f_)->(ρ[j]?=a_ (a_ e)/\isO e=f_)->σ[i]?=a_ (a_ (.ref a))->σ[j]?=a_ (a_ (.ref a))->i=j
def kK(O O2:bb)(σ:St)(ρ:ah)(b:k_):Prop:=∃(i:Nat) (d:A'),i∈O/\i∉O2/\isO d=f_/\ρ[i]?=a_ (a_ d)/\σ[i]?=a_ (a_ (.ref b))
open Classical in
noncomputable def plus(F H:Hp)(A:Addr->Prop):Hp:=λb=>if A b then H b else F b
open Classical in
noncomputable def minus(F:Hp)(A:Addr->Prop):Hp:=λb=>if A b then none else F b
theorem jl{A:k_->Prop}(h:A b):plus F H A b=H b:=by simp_all[plus]
theorem fD{A:k_->Prop}(h:¬A b):plus F H A b=F b:=by simp_all[plus]
theorem tE{A:k_->Prop}(h:A b):minus F A b=g_:=by simp_all[minus]
theorem gD{A:k_->Prop}(h:¬A b):minus F A b=F b:=by simp_all[minus]
theorem Rep.own(r:Rep K F0 H0 FB O F H σ ρ)(h:kK O O2 σ ρ b):F b=g_/\H0 b=g_/\∃o,H b=a_ o/\isMu o=f_:=by
 obtain⟨i,d,hi,_,hd,e1,e2⟩:=h;obtain⟨v,e3,q⟩:=r.ow i _ e1 hi;rw[e2]at e3;obtain⟨a,o,e,p,m,f,z⟩:=q.top hd
 simp_all
theorem Rep.kq(r:Rep K F0 H0 FB O F H σ ρ):aU F (plus F H (kK O O2 σ ρ)):=λb o h=>by
 by_cases J:kK O O2 σ ρ b
 .rw[(r.own J).1]at h;cases h
 simp_all[fD]
theorem Rep.dZ(r:Rep K F0 H0 FB O F H σ ρ):aU (plus F H (kK O O2 σ ρ)) H:=λb o h=>by
 by_cases J:kK O O2 σ ρ b
 .simp_all[jl]
 .rw[fD J]at h;exact r.st.fh b o h
theorem Rep.freeze(r:Rep K F0 H0 FB O F H σ ρ)(J:∀i∈O2,i∈O):Rep K F0 H0 FB O2 (plus F H (kK O O2 σ ρ)) H σ ρ where
 st:=⟨r.st.ff.trans r.kq,r.st.hh,r.dZ,λb o h=>by
  by_cases c:kK O O2 σ ρ b
  .exact .inr (r.own c).2.1
  .rw[fD c]at h;exact r.st.nw b o h⟩
 fb:=r.fb.trans r.kq
 len:=r.len
 fz:=λi d e hi=>by
  by_cases S:i∈O
  .obtain⟨v,e3,q⟩:=r.ow i d e S;refine⟨v,e3,?_⟩
   cases hd:isO d with
   |true=>obtain⟨a,_,ev,_⟩:=q.top hd;subst ev;exact q.give hd r.kq (jl ⟨i,d,S,hi,hd,e,e3⟩)
   |false=>rw[mE.non hd]at q;exact q.mono r.kq
  .obtain⟨v,e3,q⟩:=r.fz i d e S;exact⟨v,e3,q.mono r.kq⟩
 ow:=λi d e hi=>by
  obtain⟨v,e3,q⟩:=r.ow i d e (J i hi);refine⟨v,e3,?_⟩
  cases hd:isO d with
  |true=>
   obtain⟨a,o,ev,p,_,f,z⟩:=q.top hd;subst ev;refine q.re hd r.kq ?_ λ_ h=>h;have:¬kK O O2 σ ρ a:=λ⟨j,l,U,g,Y,f1,k⟩=>by
    have:=r.ap i j d l a (J i hi) U ⟨e,hd⟩ ⟨f1,Y⟩ e3 k
    simp_all
   simp_all[fD]
  |false=>rw[mE.non hd]at q ⊢;exact q.mono r.kq
 ap:=λi j d e a hi U=>r.ap i j d e a (J i hi) (J j U)
def Rep.repE(r:Rep K F0 H0 FB [] F H σ ρ):nh K F σ ρ:=⟨r.len,λi d e=>r.fz i d e aj⟩
def Rep.ir(r:Rep K F0 H0 FB O F H σ ρ):nh K (plus F H (kK O [] σ ρ)) σ ρ:=(r.freeze aj).repE
noncomputable def erase:bb->ah->ah
 |[],ρ=>ρ|i::J,ρ=>erase J (ρ.set i g_)
theorem eB:∀(O:bb) (ρ:ah),(erase O ρ).length=ρ.length
 |[],_=>rfl|i::J,ρ=>by rw[erase,eB,Gk]
theorem wq:∀(O:bb) (ρ:ah) (i:Nat) (d:A'),(erase O ρ)[i]?=a_ (a_ d)->ρ[i]?=a_ (a_ d)/\i∉O
 |[],_,_,_,h=>⟨h,aj⟩|j::J,ρ,i,d,h=>by
  obtain⟨h1,U⟩:=wq J _ i d h;by_cases e:j=i
  .subst e;have S:=by
    have:=(v_.mp h1).1;simpa using this
   rw[Cb S]at h1;cases h1
  .rw[z_ e]at h1;exact⟨h1,by simp[U];lia⟩
def Rep.iQ(r:Rep K F0 H0 FB O F H σ ρ):nh K F σ (erase O ρ):=
 ⟨by rw[eB,r.len],λi d e=>let ⟨h1,J⟩:=wq O ρ i d e;r.fz i d h1 J⟩
theorem Rep.step(r:Rep K F0 H0 FB O F H σ ρ)(s:Step F H F1 H1):Rep K F0 H0 FB O F1 H1 σ ρ where
 st:=r.st.trans s
 fb:=r.fb.trans s.ff
 len:=r.len
 fz:=λi d e hi=>let ⟨v,e3,q⟩:=r.fz i d e hi;⟨v,e3,q.mono s.ff⟩
 ow:=λi d e hi=>by
  obtain⟨v,e3,q⟩:=r.ow i d e hi;refine⟨v,e3,?_⟩
  cases hd:isO d with
  |true=>
   obtain⟨a,u,ev,p,_,f,z⟩:=q.top hd;subst ev;refine q.re hd s.ff ?_ (s.hh a);cases e1:F1 a with
   |none=>rfl|some o=>
    rcases s.nw a o e1 with h|h
    .simp_all
    simp_all
  |false=>rw[mE.non hd]at q ⊢;exact q.mono s.ff
 ap:=r.ap
theorem Rep.fS(r:Rep K F0 H0 FB O F H σ ρ)(s:Step (plus F H (kK O [] σ ρ)) H F1 H1):Rep K F0 H0 FB O (minus F1 (kK O [] σ ρ)) H1 σ ρ:=by
 refine r.step ⟨λb o h=>?_,s.hh,λb o h=>?_,λb o h=>?_⟩
 .by_cases J:kK O [] σ ρ b
  .rw[(r.own J).1]at h;cases h
  .rw[gD J];exact s.ff b o (by simp_all[fD])
 .by_cases J:kK O [] σ ρ b
  .simp_all[tE]
  .rw[gD J]at h;exact s.fh b o h
 .by_cases J:kK O [] σ ρ b
  .simp_all[tE]
  .rw[gD J]at h;rcases s.nw b o h with z|z
   .simp_all[fD]
   simp_all
theorem Rep.kg(r:Rep K F0 H0 FB O F H σ ρ)(s:Step (plus F H (kK O [] σ ρ)) H F1 H1)(a:k_)(xs:a0)(h:SqT K F1 a xs):SqT K (minus F1 (kK O [] σ ρ)) a xs:=by
 have key:∀{b:k_} {o:HO},F1 b=a_ o->isMu o=c_->minus F1 (kK O [] σ ρ) b=a_ o:=λ{b o} h n=>by
  by_cases J:kK O [] σ ρ b
  .obtain⟨_,_,u,e,m⟩:=r.own J;have:=s.ff b u (by simp_all[jl])
   simp_all
  simp_all[gD]
 rcases h with(h|⟨o,h⟩)|h
 .exact .inl (.inl (key h rfl))
 .exact .inl (.inr ⟨o,key h rfl⟩)
 .exact .inr h
theorem Rep.set{d:A'}{v:V}(r:Rep K F0 H0 FB O F H σ ρ)(q:bc K F d v)(i:Nat):Rep K F0 H0 FB (O.filter (· != i)) F H (σ.set i (a_ v)) (ρ.set i (a_ d)) where
 st:=r.st
 fb:=r.fb
 len:=by rw[Gk,Gk,r.len]
 fz:=λj e h S=>by
  by_cases J:i=j
  .subst J;have hi:=by
    have:=(v_.mp h).1;simpa using this
   rw[Cb hi]at h;cases h;exact⟨v,by rw[Cb (by rw[<- r.len];exact hi)],q⟩
  .rw[z_ J]at h;rw[z_ J];exact r.fz j e h λz=>S (Gv.mpr ⟨z,by simpa using GX J⟩)
 ow:=λj e h S=>by obtain⟨h1,c⟩:=Gv.mp S;rw[z_ (λz=>by simp[z]at c)]at h ⊢;exact r.ow j e h h1
 ap:=λj k ds es a S b e1 e2 e3 e4=>by obtain⟨Y,U⟩:=Gv.mp S;obtain⟨k1,k2⟩:=Gv.mp b;rw[z_ (λz=>by simp[z]at U)]at e1 e3;rw[z_ (λz=>by simp[z]at k2)]at e2 e4;exact r.ap j k ds es a Y k1 e1 e2 e3 e4
theorem Rep.setOwn{v:V}(r:Rep K F0 H0 FB O F H σ ρ)(q:mE K F H0 H d v)(s:∀a,v=.ref a->isO d=f_->¬kK O [i] σ ρ a):Rep K F0 H0 FB (i::O.filter (· != i)) F H (σ.set i (a_ v)) (ρ.set i (a_ d)) where
 st:=r.st
 fb:=r.fb
 len:=by rw[Gk,Gk,r.len]
 fz:=λj e h U=>by simp only[n_,not_or]at U;have J:i≠j:=λz=>U.1 z.symm;rw[z_ J]at h ⊢;exact r.fz j e h λz=>U.2 (Gv.mpr ⟨z,by simpa using GX J⟩)
 ow:=λj e h U=>by
  by_cases J:i=j
  .subst J;have hi:=by
    have:=(v_.mp h).1;simpa using this
   rw[Cb hi]at h;cases h;exact⟨v,by rw[Cb (by rw[<- r.len];exact hi)],q⟩
  .rw[z_ J]at h ⊢;rcases n_.mp U with z|z
   .simp_all
   .exact r.ow j e h (Gv.mp z).1
 ap:=λj k ds es a U u e1 e2 e3 e4=>by
  have key:∀{k':Nat} {Y S:A'},k'∈O->k'≠i->((ρ.set i (a_ d))[i]?=a_ (a_ Y)/\isO Y=f_)->((ρ.set i (a_ d))[k']?=a_ (a_ S)/\isO S=f_)->(σ.set i (a_ v))[i]?=a_ (a_ (.ref a))->(σ.set i (a_ v))[k']?=a_ (a_ (.ref a))->False:=by
   intro k' Y S f c f1 l f3 f4;have hi:=by have:=(v_.mp f1.1).1;simpa using this
   rw[Cb hi]at f1;rw[Cb (by rw[<- r.len];exact hi)]at f3;rw[z_ (GX c)]at l f4;have p:=by simpa using f3
   have o:=by simpa using f1.1
   exact s a p (o▸f1.2) ⟨k',S,f,as,l.2,l.1,f4⟩
  rcases n_.mp U with m|m
  .grind
  .obtain⟨n,t⟩:=Gv.mp m;have J:i≠j:=λz=>by simp[z]at t
   rcases n_.mp u with b|b
   .subst b;exact(key n (GX J) e2 e1 e4 e3).elim
   .obtain⟨k1,k2⟩:=Gv.mp b;have g:i≠k:=λz=>by simp[z]at k2
    rw[z_ J]at e1 e3;rw[z_ g]at e2 e4;exact r.ap j k ds es a n k1 e1 e2 e3 e4
theorem Rep.eW(r:Rep K F0 H0 FB O F H σ ρ)(s:Step (plus F H (kK O [] σ ρ)) H F1 H1):aU F (minus F1 (kK O [] σ ρ)):=λb o h=>by
 by_cases J:kK O [] σ ρ b
 .rw[(r.own J).1]at h;cases h
 .rw[gD J];exact s.ff b o (by simp_all[fD])
theorem C0(h:i∉O):O.filter (· != i)=O:=by grind[List.filter_eq_self]
theorem Rep.set'{v:V}(r:Rep K F0 H0 FB O F H σ ρ)(q:bc K F d v)(hi:i∉O):Rep K F0 H0 FB O F H (σ.set i (a_ v)) (ρ.set i (a_ d)):=by
 have:=r.set q i
 simp_all[C0]
def Rep.base{J:Hp}(r:Rep K F0 H0 FB O F H σ ρ)(s:aU J FB):Rep K F0 H0 J O F H σ ρ:=⟨r.st,s.trans r.fb,r.len,r.fz,r.ow,r.ap⟩
theorem Rep.ze{n:A'}{u:HO}(r:Rep K F0 H0 FB O F H σ ρ)(hi:i∈O)(e1:ρ[i]?=a_ (a_ d))(hd:isO d=f_)(e2:σ[i]?=a_ (a_ (.ref a)))(q:F a=g_->H0 a=g_->mE K F H0 (upd H a u) n (.ref a)):Rep K F0 H0 FB O F (upd H a u) σ (ρ.set i (a_ n)):=by
 have Y:=r.own (O2:=[]) ⟨i,d,hi,aj,hd,e1,e2⟩;refine⟨⟨r.st.ff,λb o h=>?_,λb o h=>?_,r.st.nw⟩,r.fb,by rw[Gk,r.len],λj e h S=>?_,λj e h S=>?_,λj k es fs b S t f1 x f3 f4=>?_⟩
 .rw[aw (aL h Y.2.1)];exact r.st.hh b o h
 .rw[aw (aL h Y.1)];exact r.st.fh b o h
 .have J:i≠j:=λz=>S (z▸hi);rw[z_ J]at h;exact r.fz j e h S
 .by_cases J:i=j
  .subst J;rw[Cb ((v_.mp e1).1)]at h;cases h;exact⟨.ref a,e2,q Y.1 Y.2.1⟩
  .rw[z_ J]at h;obtain⟨v,e3,z⟩:=r.ow j e h S;refine⟨v,e3,?_⟩
   cases c:isO e with
   |true=>
    obtain⟨b,o,ev,p,_,f,_⟩:=z.top c;subst ev;have g:b≠a:=λz=>by subst z;exact J (r.ap i j d e b hi S ⟨e1,hd⟩ ⟨h,c⟩ e2 e3)
    exact z.re c (aU.refl _) f λo h=>by rw[aw g];exact h
   |false=>simp_all[mE.non]
 .have U:∀{j:Nat} {e:A'},((ρ.set i (a_ n))[j]?=a_ (a_ e)/\isO e=f_)->∃s,ρ[j]?=a_ (a_ s)/\isO s=f_:=λ{j e} f=>by
   grind[z_]
  obtain⟨m,w⟩:=U f1;obtain⟨l,g2⟩:=U x;exact r.ap j k m l b S t w g2 f3 f4
def Rep.write{S:List A'}{J:a0}(r:Rep K F0 H0 FB O F H σ ρ)(hi:i∈O)(e1:ρ[i]?=a_ (a_ (.lst ds)))(e2:σ[i]?=a_ (a_ (.ref a)))(q:ay K F S J):Rep K F0 H0 FB O F (upd H a (.lst J)) σ (ρ.set i (a_ (.lst S))):=
 r.ze hi e1 rfl e2 λf z=>⟨a,J,rfl,aq,f,z,q⟩
noncomputable def Pat.names:Pat->bb
 |.nm i=>[i]|.tp J=>J
theorem rM{R:St->Hp->Prop}:∀{J:bb} {ds:List A'} {vs:a0} {σ:St} {ρ:ah},Rep K F0 H0 FB O F H σ ρ->(∀i∈J,i∉O)->ay K F ds vs->ds.length=J.length->(∀σ',Rep K F0 H0 FB O F H σ' (mM J ds ρ)->R σ' H)->hU J vs σ H R
 |[],[],_,σ,ρ,r,_,q,_,h=>⟨q,h σ r⟩|[],_::_,_,_,_,_,_,_,e,_=>by simp at e|_::_,[],_,_,_,_,_,_,e,_=>by simp at e|i::J,d::ds,_,σ,ρ,r,n,⟨v,vs,e,q,t⟩,l,h=>⟨v,vs,e,rM (r.set' q (n i aj)) (λj S=>n j (by simp[S])) t as h⟩
theorem gP_rep{R:St->Hp->Prop}{p:Pat}{v:V}(r:Rep K F0 H0 FB O F H σ ρ)(n:∀i∈p.names,i∉O)(q:bc K F d v)(e:d7 p d ρ=.ok ρ')(h:∀σ',Rep K F0 H0 FB O F H σ' ρ'->R σ' H):gP K p v σ H R:=by
 cases p with
 |nm i=>have:=HZ e;subst this;exact h _ (r.set' q (n i (by simp[Pat.names])))|tp S=>
  cases d with
  |tup ds=>
   have U:(if ds.length=S.length then Hc _ else Ir Err.stuck)=Hc ρ':=e;by_cases J:ds.length=S.length
   .rw[p_ J]at U;have:=HZ U;subst this;obtain⟨a,xs,ev,t,z⟩:=q;exact⟨a,xs,ev,r.st.fh.tup t,by rw[z.length,J],rM r n z J h⟩
   simp_all
  |_=>cases e
def eQ(K:Pn)(W:cP)(ro:Bool)(F0 H0 FB:Hp)(OL O':bb)(D:Ends)(r:M B4):Prop:=match r with
 |.ok (.nx ρ)=>∀σ F H,Rep K F0 H0 FB O' F H σ ρ->D.nx σ H|.ok (.rt d)=>∀v F H,Step F0 H0 F H->Val K ro F H0 H d v->D.rt v H|.ok (.bk ρ)=>∀σ F H,Rep K F0 H0 FB OL F H σ ρ->D.bk σ H|.ok (.ct ρ)=>∀σ F H,Rep K F0 H0 FB OL F H σ ρ->D.ct σ H|.error e=>W.p e F0 H0
def tS(K:Pn)(W:cP)(ro:Bool)(F0 H0:Hp)(OL O O':bb)(g:ah->M B4):TS:=λD σ H=>∃FB F ρ,Rep K F0 H0 FB O F H σ ρ/\eQ K W ro F0 H0 FB OL O' D (g ρ)
noncomputable def bO:ah->M B4:=λρ=>.ok (.nx ρ)
noncomputable def sCont:ah->M B4:=λρ=>.ok (.ct ρ)
noncomputable def aM(g h:ah->M B4):ah->M B4:=λρ=>(g ρ).bind λfl=>match fl with
 |.nx ρ'=>h ρ'|fl=>.ok fl
noncomputable def sIf(ft:ah->M Bool)(g h:ah->M B4):ah->M B4:=λρ=>(ft ρ).bind λb=>if b=f_ then g ρ else h ρ
def mh:Bool->A'->Bool
 |true,.lst ds=>rO ds|_,d=>gS d
def xP(own:Bool)(i:Nat)(f:ah->M A'):ah->M B4:=λρ=>(f ρ).bind λd=>if mh own d=f_ then .ok (.nx (ρ.set i (a_ d)))else .error .stuck
def ax(O:bb)(i:Nat)(f:ah->M A'):ah->M B4:=λρ=>(f (erase O ρ)).bind λd=>.ok (.nx (ρ.set i (a_ d)))
def xN(O:bb)(p:Pat)(f:ah->M A'):ah->M B4:=λρ=>(f (erase O ρ)).bind λd=>(d7 p d ρ).bind λρ'=>.ok (.nx ρ')
noncomputable def k9(ρ:ah)(i:Nat):M (List A'):=match ρ[i]? with
 |some (a_ (.lst ds))=>.ok ds|_=>.error .stuck
noncomputable def put(ρ:ah)(i:Nat)(ds:List A'):M B4:=.ok (.nx (ρ.set i (a_ (.lst ds))))
def i7(O:bb)(i:Nat)(f:ah->M A'):ah->M B4:=λρ=>(k9 ρ i).bind λds=>(f (erase O ρ)).bind λd=>if ds.length<t_ then put ρ i (ds++[d])else .error .stuck
noncomputable def asI:A'->M Int
 |.int i=>.ok i|_=>.error .stuck
def xO(i:Nat)(fi f:ah->M A'):ah->M B4:=λρ=>(f ρ).bind λd=>(k9 ρ i).bind λds=>(fi ρ).bind λk=>(asI k).bind λk=>if gS d=f_ then(match ixN ds.length k with
 |some j=>put ρ i (ds.set j d)|none=>.error .stuck)else .error .stuck
noncomputable def cM(f:ah->M A'):ah->M B4:=λρ=>(f ρ).bind λd=>.ok (.rt d)
noncomputable def isL:A'->Bool
 |.lst _=>f_|_=>c_
def bG(p:Pat)(g:ah->M B4):List A'->ah->M B4
 |[],ρ=>.ok (.nx ρ)|d::ds,ρ=>(d7 p d ρ).bind λS=>(g S).bind λfl=>match fl with
  |.nx J=>bG p g ds J|.ct J=>bG p g ds J|.bk J=>.ok (.nx J)|.rt d=>.ok (.rt d)
def gB(O:bb)(fi:ah->M (List A'))(p:Pat)(g:ah->M B4):ah->M B4:=λρ=>(fi (erase O ρ)).bind λds=>bG p g ds ρ
noncomputable def j4(ft:ah->M Bool)(g:ah->M B4):Nat->ah->M B4
 |0,_=>.error .stuck|n+1,ρ=>(ft ρ).bind λb=>if b=f_ then(g ρ).bind λfl=>match fl with
  |.nx J=>j4 ft g n J|.ct J=>j4 ft g n J|.bk J=>.ok (.nx J)|.rt d=>.ok (.rt d)else .ok (.nx ρ)
section
variable{W:cP}{own:Bool}{h:ah->M B4}{f fi:ah->M A'}
def eQ.err{x:M B4}{e:Err}(p:eQ K W ro F0 H0 FB OL O' D x)(h:x=.error e):W.p e F0 H0:=by rw[h]at p;exact p
def eQ.gI{x:M B4}{e:Err}(p:eQ K W ro F0 H0 FB OL O' D x)(s:Step F0 H0 F H)(h:x=.error e):W.p e F H:=W.mono (p.err h) s
theorem eQ.stuck{x:M B4}{P:Prop}(p:eQ K W ro F0 H0 FB OL O' D x)(h:x=.error .stuck):P:=(W.ns (p.err h)).elim
noncomputable def aft(own:Bool)(i:Nat)(O:bb):bb:=if own=f_ then i::O.filter (· != i)else O.filter (· != i)
theorem Rep.bindV{v:V}(r:Rep K F0 H0 FB O F H σ ρ)(q:Val K own F H2 H d v)(J:aU H0 H2)(S:∀a,kK O [] σ ρ a->∃o,H2 a=a_ o):Rep K F0 H0 FB (aft own i O) F H (σ.set i (a_ v)) (ρ.set i (a_ d)):=by
 cases own with
 |false=>exact r.set q i|true=>
  refine r.setOwn (mE.back J q) λa g hd z=>?_;obtain⟨b,_,e,_,_,_,n⟩:=mE.top hd q;obtain⟨j,es,h1,J,c,Y,U⟩:=z;obtain⟨o,f⟩:=S a ⟨j,es,h1,aj,c,Y,U⟩
  simp_all
def xR(t:tS K W ro F0 H0 OL O (aft own i O) (ax O i f) D σ H):tAsg (tD K W own f) (ph i) D σ H:=by
 obtain⟨FB,F,ρ,r,p⟩:=t;refine aO r.iQ r.st.fh (λe S=>p.gI r.st (by unfold ax;rw[S];rfl)) λd hd v F1 H1 J q=>?_;have z:ax O i f ρ=.ok (.nx (ρ.set i (a_ d))):=by unfold ax;rw[hd];rfl
 rw[z]at p;exact p _ F1 H1 ((r.step J).bindV q r.st.hh λa U=>let ⟨_,_,_,e,_⟩:=r.own U;⟨_,e⟩)
theorem Rep.flatV{v:V}(r:Rep K F0 H0 FB O F H σ ρ)(s:Step (plus F H (kK O [] σ ρ)) H F1 H1)(q:Val K own F1 H H1 d v)(fl:mh own d=f_):Val K own (minus F1 (kK O [] σ ρ)) H H1 d v:=by
 have J:∀{a:k_},F1 a=g_->minus F1 _ a=g_:=λ{a} h=>by
  by_cases S:kK O [] σ ρ a
  .exact tE S
  simp_all[gD]
 cases own with
 |false=>exact bc.flat (r.kg s) (by cases d<;>exact fl) q
 |true=>
  cases d with
  |lst ds=>obtain⟨a,xs,e,p,n,z,t⟩:=q;exact⟨a,xs,e,p,J n,z,t.flat (r.kg s) fl⟩
  |non=>exact q|bl b=>exact q|int i=>exact q|tup ds=>exact bc.flat (r.kg s) fl q|ins C fs=>exact bc.flat (r.kg s) fl q|dic ks=>cases fl|dil ks=>cases fl
def jS(h:k9 ρ i=.ok ds):ρ[i]?=a_ (a_ (.lst ds)):=by
 unfold k9 at h;split at h
 .cases h;assumption
 .cases h
def oK{e:Err}(h:k9 ρ i=.error e):e=.stuck:=by
 unfold k9 at h;split at h
 .cases h
 .cases h;rfl
def Rep.E1(r:Rep K F0 H0 FB O F H σ ρ)(hi:i∈O)(e:ρ[i]?=a_ (a_ (.lst ds))):∃a xs,σ[i]?=a_ (a_ (.ref a))/\H a=a_ (.lst xs)/\ay K F ds xs:=by obtain⟨v,e3,a,xs,ev,p,_,_,t⟩:=r.ow i _ e hi;subst ev;exact⟨a,xs,e3,p,t⟩
def tApp(K:Pn)(i:Nat)(te:TE):TS:=tDrop (tBM K "list" Dh (tVar i) (ni te tNil))
def rs_setI(hi:i∈O)(t:tS K W ro F0 H0 OL O O (xO i fi f) D σ H):tAsg (tD K W c_ f) (gSub (tVar i) (tD K W c_ fi) rSetL) D σ H:=by
 obtain⟨FB,F,ρ,r,p⟩:=t;refine aO r.ir r.dZ (λe c=>p.gI (r.freeze aj).st (by unfold xO;rw[c];rfl)) λd hd v F1 H1 g q=>?_;have n:xO i fi f ρ=(k9 ρ i).bind λds=>(fi ρ).bind λk=>(asI k).bind λk=>if gS d=f_ then(match ixN ds.length k with
  |some j=>put ρ i (ds.set j d)|none=>.error .stuck)else .error .stuck:=by unfold xO;rw[hd];rfl
 rw[n]at p;cases S:k9 ρ i with
 |error e=>have:=oK S;subst this;exact p.stuck (by rw[S];rfl)|ok ds=>
  rw[S]at p;have J:=r.fS g;obtain⟨a,xs,e2,m,z⟩:=J.E1 hi (jS S);refine⟨.ref a,e2,?_⟩
  refine aO J.ir J.dZ (λe c=>p.gI (J.freeze aj).st (by rw[c];rfl)) λk l w o H2 U q2=>?_;rw[l]at p;cases k with
  |int k=>
   have p:eQ K W ro F0 H0 FB OL O D (if gS d=f_ then(match ixN ds.length k with
    |some j=>put ρ i _|none=>.error .stuck)else .error .stuck):=p
   by_cases b:gS d=f_
   .rw[p_ b]at p;cases Y:ixN ds.length k with
    |none=>rw[Y]at p;exact p.stuck rfl|some j=>
     rw[Y]at p;refine⟨a,xs,k,j,rfl,q2,U.hh _ _ m,by rw[z.length];exact Y,?_⟩
     have h:=bc.flat (r.kg g) b q;exact p σ _ _ ((J.fS U).write hi (jS S) e2 (ay.set (h.mono (J.eW U)) j (z.mono (J.eW U))))
   .rw[q_ b]at p;exact p.stuck rfl
  |_=>exact p.stuck rfl
end
noncomputable def stk:M α:=.error .stuck
def eU:A'->A'->M A'
 |.int i,.int j=>.ok (.int (i+j))|.lst xs,.lst ys=>if xs.length+ys.length<=t_ then .ok (.lst (xs++ys))else stk
 |.tup xs,.tup ys=>if xs.length+ys.length<=t_ then .ok (.tup (xs++ys))else stk
 |_,_=>stk
def CU:A'->A'->M A'
 |.int i,.int j=>.ok (.int (i-j))|_,_=>stk
noncomputable def dW(i:Int):Bool:=s_ (-(2^64)<i)&&s_ (i<2^64)
def pU:A'->A'->M A'
 |.int i,.int j=>if (dW i||dW j)=f_ then .ok (.int (i*j))else stk
 |_,_=>stk
def di:A'->A'->M A'
 |.int i,.int j=>if (s_ (0<j)&&s_ (j<18446744073709551616))=f_ then .ok (.int (i/j))else stk
 |_,_=>stk
def eS:A'->A'->M A'
 |.int i,.int j=>if 0<j then .ok (.int (i%j))else stk
 |_,_=>stk
def pS:A'->A'->M A'
 |.int i,.int j=>if (s_ (0<=j)&&s_ (j<=1000000)&&s_ (i.natAbs<2^64))=f_ then .ok (.int (i^j.toNat))else stk
 |_,_=>stk
def negD:A'->M A'
 |.int i=>.ok (.int (-i))|_=>stk
def ltD:A'->A'->M A'
 |.int i,.int j=>.ok (.bl (s_ (i<j)))|_,_=>stk
def leD:A'->A'->M A'
 |.int i,.int j=>.ok (.bl (s_ (i<=j)))|_,_=>stk
def gtD:A'->A'->M A'
 |.int i,.int j=>.ok (.bl (s_ (j<i)))|_,_=>stk
noncomputable def b2z(b:Bool):Int:=if b then 1 else 0
mutual
noncomputable def eqD:A'->A'->Bool
 |.non,.non=>f_|.bl a,.bl b=>a==b|.bl a,.int b=>b2z a==b|.int a,.bl b=>a==b2z b|.int a,.int b=>a==b|.tup xs,.tup ys=>uK xs ys|.lst xs,.lst ys=>uK xs ys|_,_=>c_
noncomputable def uK:List A'->List A'->Bool
 |[],[]=>f_|d::ds,e::es=>eqD d e&&uK ds es|_,_=>c_
end
mutual
noncomputable def C':A'->Nat->Bool
 |.tup ds,n=>(match n with
  |0=>c_|n+1=>iu ds n)
 |.lst ds,n=>(match n with
  |0=>c_|n+1=>iu ds n)
 |.ins _ _,_=>c_|.dic _,_=>c_|.dil _,_=>c_|.non,_=>f_|.bl _,_=>f_|.int _,_=>f_
noncomputable def iu:List A'->Nat->Bool
 |[],_=>f_|d::ds,n=>C' d n&&iu ds n
end
def eqM(a b:A'):M A':=if (C' a 40&&C' b 40)=f_ then .ok (.bl (eqD a b))else stk
def neM(a b:A'):M A':=if (C' a 40&&C' b 40)=f_ then .ok (.bl (!eqD a b))else stk
def inM(a b:A'):M A':=(j8 b).bind λds=>if (C' a 40&&iu ds 40)=f_ then .ok (.bl (ds.any λd=>eqD d a))else stk
def zX(a b:A'):M A':=(j8 b).bind λds=>if (C' a 40&&iu ds 40)=f_ then .ok (.bl (!ds.any λd=>eqD d a))else stk
def isND:A'->A'->M A'
 |.non,.non=>.ok (.bl f_)|_,.non=>.ok (.bl c_)|_,_=>stk
def yk:A'->A'->M A'
 |.non,.non=>.ok (.bl c_)|_,.non=>.ok (.bl f_)|_,_=>stk
def jW(ds:List A')(i:Int):M A':=match atI ds i with
 |some d=>.ok d|none=>stk
def ixD:A'->A'->M A'
 |.lst ds,.int i=>jW ds i|.tup ds,.int i=>jW ds i|_,_=>stk
def pV:List A'->M A'
 |[.lst ds]=>.ok (.int ds.length)|[.tup ds]=>.ok (.int ds.length)|_=>stk
def absD:List A'->M A'
 |[.int i]=>.ok (.int (if i<0 then -i else i))
 |_=>stk
def gN:List A'->M (List Bool)
 |[]=>.ok []|d::ds=>(asB d).bind λb=>(gN ds).bind λr=>.ok (b::r)
def bj:List A'->M aG
 |[]=>.ok []|d::ds=>(asI d).bind λb=>(bj ds).bind λr=>.ok (b::r)
def allD:List A'->M A'
 |[.lst ds]=>(gN ds).bind λbs=>.ok (.bl (bs.all id))|_=>stk
def sumD:List A'->M A'
 |[.lst ds]=>(bj ds).bind λJ=>.ok (.int J.sum)|_=>stk
def lb:List A'->M A'
 |[.lst ds]=>.ok (.lst ds)|[.tup ds]=>.ok (.lst ds)|_=>stk
def mJ:List A'->M A'
 |[.lst ds]=>.ok (.tup ds)|[.tup ds]=>.ok (.tup ds)|_=>stk
def intD:List A'->M A'
 |[.int i]=>.ok (.int i)|[.bl b]=>.ok (.int (b2z b))|_=>stk
noncomputable def eY(i j:Int):Int:=if j>i then j else i
noncomputable def ky(i j:Int):Int:=if j<i then j else i
def maxL:aG->M A'
 |[]=>stk|i::J=>.ok (.int (J.foldl eY i))
def minL:aG->M A'
 |[]=>stk|i::J=>.ok (.int (J.foldl ky i))
def maxD:List A'->M A'
 |[.int i,.int j]=>.ok (.int (eY i j))|[.lst ds]=>(bj ds).bind maxL|_=>stk
def minD:List A'->M A'
 |[.int i,.int j]=>.ok (.int (ky i j))|[.lst ds]=>(bj ds).bind minL|_=>stk
def nW:A'->M A'
 |.int _=>.ok (.bl f_)|.bl _=>.ok (.bl f_)|.ins _ _=>stk|.dic _=>stk|.dil _=>stk|_=>.ok (.bl c_)
def jw:A'->M A'
 |.bl _=>.ok (.bl f_)|.ins _ _=>stk|.dic _=>stk|.dil _=>stk|_=>.ok (.bl c_)
def lj:A'->M A'
 |.lst _=>.ok (.bl f_)|.ins _ _=>stk|.dic _=>stk|.dil _=>stk|_=>.ok (.bl c_)
def jU:A'->M A'
 |.tup _=>.ok (.bl f_)|.ins _ _=>stk|.dic _=>stk|.dil _=>stk|_=>.ok (.bl c_)
def fLR(fr:ah->M (List A')):ah->M A':=λρ=>(fr ρ).bind bW
noncomputable def eC:Nat->List A'->List A'
 |_,[]=>[]|k,d::ds=>.tup [.int k,d]::eC (k+1) ds
noncomputable def ki:A'->M (List A')
 |.lst ds=>.ok ds|_=>.error .stuck
def wo(fa:ah->M A'):ah->M (List A'):=λρ=>(fa ρ).bind λd=>(ki d).bind λds=>.ok (eC 0 ds)
noncomputable def k7:List A'->List A'->List A'
 |d::ds,e::es=>.tup [d,e]::k7 ds es|_,_=>[]
def fZip(fa fb:ah->M A'):ah->M (List A'):=λρ=>(fa ρ).bind λa=>(fb ρ).bind λb=>(ki a).bind λds=>(ki b).bind λes=>.ok (k7 ds es)
def bo(nN n:Nat)(g:ah->M B4)(ds:List A'):M A':=if ds.length=n then(g (ds.map a_++Gr (nN-ds.length) g_)).bind λfl=>match fl with
 |.nx _=>.ok .non|.rt d=>.ok d|_=>stk else stk
@[simp] theorem au{α β:Type}(a:α)(f:α->M β):PN (Hc a:M α) f=f a:=id rfl
@[simp]def bind_er{α β:Type}(e:Err)(f:α->M β):PN (Ir e:M α) f=.error e:=id rfl
@[simp] theorem cC:∀J:aG,bj (J.map A'.int)=.ok J
 |[]=>rfl|i::J=>by simp[bj,asI,cC J]
@[simp] theorem Ci:∀J:List Bool,gN (J.map A'.bl)=.ok J
 |[]=>rfl|i::J=>by simp[gN,asB,Ci J]
@[simp] theorem DL(n:Nat):∀J:aG,iu (J.map A'.int) n=f_
 |[]=>by rfl|i::J=>by simp[iu,C',DL n J]
@[simp] theorem wu:∀S J:aG,uK (S.map A'.int) (J.map A'.int)=s_ (S=J)
 |[],[]=>by rfl|[],_::_=>by rfl|_::_,[]=>by rfl|i::S,j::J=>by
  simp[u_,uK,eqD,wu S J]
  lia
theorem gZ(h:k<ds.length):jW ds (k:Int)=.ok ds[k]:=by simp_all[jW,atI,ixN]
theorem getI_int{J:aG}{k:Int}(U:0<=k)(h:k<J.length):jW (J.map A'.int) k=.ok (.int (J[k.toNat]' ac)):=by
 have S:k.toNat<(J.map A'.int).length:=by simp;lia
 have e:k=k.toNat:=ad
 have:=gZ S;rw[<- e]at this;rw[this];simp
theorem jX{p:Pat}{g:ah->M B4}(P:Nat->ah->Prop):∀(ds:List A') (k:Nat) (ρ:ah),P k ρ ->
  (∀(i:Nat) (d:A') (ρ:ah),ds[i]?=a_ d->P (k+i) ρ->∃S,d7 p d ρ=.ok S/\∃J,(g S=.ok (.nx J)\/g S=.ok (.ct J))/\P (k+i+1) J)->∃ρ',bG p g ds ρ=.ok (.nx ρ')/\P (k+ds.length) ρ'
 |[],k,ρ,h,_=>⟨ρ,rfl,h⟩|d::ds,k,ρ,h,st=>by
  obtain⟨S,e1,J,e2,U⟩:=st 0 d ρ rfl h;obtain⟨ρ',e3,c⟩:=jX P ds _ J U λi Y ρ b a=>by have:=st (i+1) Y ρ as ad;rw[show k+(i+1)+1=k+1+i+1 by lia]at this;exact this
  grind[bG,au]
theorem dC{p:Pat}{fe:ah->M A'}{ρ0:ah}(f:A'->A'):∀(ds:List A'),(∀d∈ds,∃ρ,d7 p d ρ0=.ok ρ/\fe ρ=.ok (f d))->aQ p iG fe ρ0 ds=.ok (ds.map f)
 |[],_=>rfl|d::ds,h=>by obtain⟨ρ,e1,e2⟩:=h d aj;rw[aQ,e1];simp only[au,iG,e2,dC f ds λx J=>h x (by simp[J])];simp
@[simp]def D1(i:Int):dW i=(s_ (-(2^64)<i)&&s_ (i<2^64)):=id rfl
@[simp]def small_def2(i:Int):bK i=(s_ (-(2^62)<=i)&&s_ (i<2^62)):=id rfl
@[simp]def eqDs_nilR(ds:List A'):uK ds []=ds.isEmpty:=by cases ds<;>rfl
section
variable{fr:ah->M (List A')}{fu:ah->M Bool}{h:ah->M B4}
@[simp]def e_var0(d:A')(r:ah):af 0 (a_ d::r)=.ok d:=id rfl
@[simp]def e_varS(i:Nat)(o:Option A')(r:ah):af (i+1) (o::r)=af i r:=by rfl
@[simp]def e_c(d:A'):fC d ρ=.ok d:=id rfl
@[simp]def e_1(k:A'->M A'):f1 k fa ρ=(fa ρ).bind k:=id rfl
@[simp]def e_2(k:A'->A'->M A'):f2 k fa fb ρ=(fa ρ).bind λa=>(fb ρ).bind λb=>k a b:=id rfl
@[simp]def e_nil:av ρ=.ok []:=id rfl
@[simp]def e_cons:a9 fa fr ρ=(fa ρ).bind λa=>(fr ρ).bind λr=>.ok (a::r):=id rfl
@[simp]def e_L(k:List A'->M A'):fL k fr ρ=(fr ρ).bind k:=id rfl
@[simp]def e_ite:fIte ft fa fb ρ=(ft ρ).bind λb=>if b=f_ then fa ρ else fb ρ:=id rfl
@[simp]def e_and:fAnd ft fu ρ=(ft ρ).bind λb=>if b=f_ then fu ρ else .ok c_:=id rfl
@[simp]def e_or:fOr ft fu ρ=(ft ρ).bind λb=>if b=f_ then .ok f_ else fu ρ:=id rfl
@[simp]def e_not:Cy ft ρ=(ft ρ).bind λb=>.ok (!b):=id rfl
@[simp]def e_B:fB fa ρ=(fa ρ).bind asB:=id rfl
@[simp]def e_andV:yB fa fb ρ=(fa ρ).bind λa=>(asB a).bind λb=>if b=f_ then fb ρ else .ok (.bl c_):=id rfl
@[simp]def e_tru:tX fa ρ=(fa ρ).bind truD:=id rfl
@[simp]def e_chain(k k':A'->A'->M A'):jb k k' fa fb fc ρ=(fa ρ).bind λa=>(fb ρ).bind λb=>(k a b).bind λx=>(asB x).bind λz=>if z=f_ then(fc ρ).bind λc=>k' b c else .ok (.bl c_):=id rfl
@[simp]def e_yes:iG ρ=.ok f_:=id rfl
@[simp]def e_it:fIt fa ρ=(fa ρ).bind j8:=id rfl
@[simp]def e_rng(k:List A'->M (List A')):iH k fr ρ=(fr ρ).bind k:=id rfl
@[simp]def e_enum:wo fa ρ=(fa ρ).bind λd=>(ki d).bind λds=>.ok (eC 0 ds):=id rfl
@[simp]def e_zip:fZip fa fb ρ=(fa ρ).bind λa=>(fb ρ).bind λb=>(ki a).bind λds=>(ki b).bind λes=>.ok (k7 ds es):=id rfl
@[simp]def e_comp(fi:ah->M (List A'))(ix:List (Option Nat))(p:Pat):cL fi ix p ft fa ρ=(fi ρ).bind λds=>if ds.length<=t_ then(aQ p ft fa (eT ix ρ) ds).bind λr=>.ok (.lst r)else .error .stuck:=id rfl
@[simp]def e_asB(b:Bool):asB (.bl b)=.ok b:=id rfl
@[simp]def e_asI(b:Int):asI (.int b)=.ok b:=id rfl
@[simp]def e_itemsL(ds:List A'):j8 (.lst ds)=.ok ds:=id rfl
@[simp]def e_itL(ds:List A'):ki (.lst ds)=.ok ds:=id rfl
@[simp]def e_itemsT(ds:List A'):j8 (.tup ds)=.ok ds:=id rfl
@[simp]def e_truB(b:Bool):truD (.bl b)=.ok b:=id rfl
@[simp]def e_truL(ds:List A'):truD (.lst ds)=.ok (!ds.isEmpty):=id rfl
@[simp]def e_addI(i j:Int):eU (.int i) (.int j)=.ok (.int (i+j)):=id rfl
@[simp]def e_subI(i j:Int):CU (.int i) (.int j)=.ok (.int (i-j)):=id rfl
@[simp]def e_negI(i:Int):negD (.int i)=.ok (.int (-i)):=id rfl
@[simp]def e_ltI(i j:Int):ltD (.int i) (.int j)=.ok (.bl (s_ (i<j))):=id rfl
@[simp]def e_leI(i j:Int):leD (.int i) (.int j)=.ok (.bl (s_ (i<=j))):=id rfl
@[simp]def e_gtI(i j:Int):gtD (.int i) (.int j)=.ok (.bl (s_ (j<i))):=id rfl
@[simp]def e_ixL(ds:List A')(i:Int):ixD (.lst ds) (.int i)=jW ds i:=id rfl
@[simp]def e_ixT(ds:List A')(i:Int):ixD (.tup ds) (.int i)=jW ds i:=id rfl
@[simp]def e_lenL(ds:List A'):pV [.lst ds]=.ok (.int ds.length):=id rfl
@[simp]def e_lenT(ds:List A'):pV [.tup ds]=.ok (.int ds.length):=id rfl
@[simp]def e_all(ds:List A'):allD [.lst ds]=(gN ds).bind λbs=>.ok (.bl (bs.all id)):=id rfl
@[simp]def e_sum(ds:List A'):sumD [.lst ds]=(bj ds).bind λJ=>.ok (.int J.sum):=id rfl
@[simp]def e_listL(ds:List A'):lb [.lst ds]=.ok (.lst ds):=id rfl
@[simp]def e_listT(ds:List A'):lb [.tup ds]=.ok (.lst ds):=id rfl
@[simp]def e_tupleL(ds:List A'):mJ [.lst ds]=.ok (.tup ds):=id rfl
@[simp]def e_intB(b:Bool):intD [.bl b]=.ok (.int (b2z b)):=id rfl
@[simp]def e_max2(i j:Int):maxD [.int i,.int j]=.ok (.int (eY i j)):=id rfl
@[simp]def e_min2(i j:Int):minD [.int i,.int j]=.ok (.int (ky i j)):=id rfl
@[simp]def An(ds:List A'):maxD [.lst ds]=(bj ds).bind maxL:=id rfl
@[simp]def e_minL(ds:List A'):minD [.lst ds]=(bj ds).bind minL:=id rfl
@[simp]def e_isiBI(i:Int):jw (.int i)=.ok (.bl c_):=id rfl
@[simp]def e_isiII(i:Int):nW (.int i)=.ok (.bl f_):=id rfl
@[simp]def e_isiLL(ds:List A'):lj (.lst ds)=.ok (.bl f_):=id rfl
@[simp]def e_isiTT(ds:List A'):jU (.tup ds)=.ok (.bl f_):=id rfl
@[simp]def e_isN(d:A'):isND d .non=.ok (.bl (match d with|.non=>f_|_=>c_)):=by cases d<;>rfl
@[simp]def e_notN(d:A'):yk d .non=.ok (.bl (match d with|.non=>c_|_=>f_)):=by cases d<;>rfl
@[simp]def e_next:bO ρ=.ok (.nx ρ):=id rfl
@[simp] theorem e_seq:aM g h ρ=(g ρ).bind λfl=>match fl with
 |.nx ρ'=>h ρ'|fl=>.ok fl:=id rfl
@[simp]def e_if:sIf ft g h ρ=(ft ρ).bind λb=>if b=f_ then g ρ else h ρ:=id rfl
@[simp]def e_setB(O:bb)(i:Nat):ax O i fa ρ=(fa (erase O ρ)).bind λd=>.ok (.nx (ρ.set i (a_ d))):=id rfl
@[simp]def e_setA(own:Bool)(i:Nat):xP own i fa ρ=(fa ρ).bind λd=>if mh own d=f_ then .ok (.nx (ρ.set i (a_ d)))else .error .stuck:=id rfl
@[simp]def e_ret:cM fa ρ=(fa ρ).bind λd=>.ok (.rt d):=id rfl
@[simp]def e_for(O:bb)(fi:ah->M (List A'))(p:Pat):gB O fi p g ρ=(fi (erase O ρ)).bind λds=>bG p g ds ρ:=id rfl
@[simp]def e_unpB(O:bb)(p:Pat):xN O p fa ρ=(fa (erase O ρ)).bind λd=>(d7 p d ρ).bind λρ'=>.ok (.nx ρ'):=id rfl
@[simp]def e_appB(O:bb)(i:Nat):i7 O i fa ρ=(k9 ρ i).bind λds=>(fa (erase O ρ)).bind λd=>if ds.length<t_ then put ρ i (ds++[d])else .error .stuck:=id rfl
@[simp] theorem e_setI(i:Nat):xO i fb fa ρ=(fa ρ).bind λd=>(k9 ρ i).bind λds=>(fb ρ).bind λk=>(asI k).bind λk=>if gS d=f_ then(match ixN ds.length k with
 |some j=>put ρ i (ds.set j d)|none=>.error .stuck)else .error .stuck:=id rfl
@[simp]def e_put(i:Nat)(ds:List A'):put ρ i ds=.ok (.nx (ρ.set i (a_ (.lst ds)))):=id rfl
@[simp]def e_lst0(ds:List A')(r:ah):k9 (a_ (.lst ds)::r) 0=.ok ds:=id rfl
@[simp]def e_lstS(i:Nat)(o:Option A')(r:ah):k9 (o::r) (i+1)=k9 r i:=by rfl
@[simp]def e_er0:erase [] ρ=ρ:=id rfl
@[simp]def e_erS(i:Nat)(O:bb):erase (i::O) ρ=erase O (ρ.set i g_):=id rfl
@[simp]def mq(i:Nat)(d:A'):d7 (.nm i) d ρ=.ok (ρ.set i (a_ d)):=id rfl
@[simp]def e_btp(J:bb)(ds:List A'):d7 (.tp J) (.tup ds) ρ=if ds.length=J.length then .ok (mM J ds ρ)else .error .stuck:=id rfl
@[simp]def e_sa0(ds:List A'):mM [] ds ρ=ρ:=by rfl
@[simp]def e_saS(i:Nat)(J:bb)(d:A')(ds:List A'):mM (i::J) (d::ds) ρ=mM J ds (ρ.set i (a_ d)):=id rfl
@[simp]def e_in0:eT [] ρ=[]:=id rfl
@[simp]def e_inN(ix:List (Option Nat)):eT (g_::ix) ρ=g_::eT ix ρ:=id rfl
@[simp]def e_inS(j:Nat)(ix:List (Option Nat)):eT (a_ j::ix) ρ=(ρ[j]?).join::eT ix ρ:=id rfl
@[simp]def e_tup(ds:List A'):cb ds=if ds.length<=t_ then .ok (.tup ds)else .error .stuck:=id rfl
@[simp]def e_lst(ds:List A'):bW ds=if ds.length<=t_ then .ok (.lst ds)else .error .stuck:=id rfl
@[simp]def e_line:t_=16777216:=G4
@[simp] theorem e_run(a b:Nat)(ds:List A'):bo a b g ds=if ds.length=b then(g (ds.map a_++Gr (a-ds.length) g_)).bind λfl=>match fl with
 |.nx _=>.ok .non|.rt d=>.ok d|_=>stk else stk:=id rfl
@[simp] theorem e_rng1{j:Int}(h:bK j=f_):jJ [.int j]=.ok (aE 0 j.toNat):=by show(if bK j=f_ then _ else _)=_;lia
@[simp]def yD{i j:Int}(h:0<j):eS (.int i) (.int j)=.ok (.int (i%j)):=by simp[eS,h]
@[simp] theorem e_fdiv{i j:Int}(h:0<j)(J:j<18446744073709551616):di (.int i) (.int j)=.ok (.int (i/j)):=by simp_all[di]
@[simp] theorem ED{i j:Int}(h:dW j=f_):pU (.int i) (.int j)=.ok (.int (i*j)):=by show(if (dW i||dW j)=f_ then _ else _)=_;lia
@[simp] theorem e_mulL{i j:Int}(h:dW i=f_):pU (.int i) (.int j)=.ok (.int (i*j)):=by show(if (dW i||dW j)=f_ then _ else _)=_;lia
end
section
variable{W:cP}{own:Bool}{a b c:GI}{f:ah->M A'}{fr:ah->M (List A')}{fu:ah->M Bool}
def PE.imp{t t':TE}(h:PE X e t)(q:∀σ H Q,t' σ H Q->t σ H Q):PE X e t':=λB2 s σ H Q I z=>h B2 s σ H Q I (q σ H Q z)
def PT.imp{t t':TT}(h:PT X e t)(q:∀σ H Q,t' σ H Q->t σ H Q):PT X e t':=λB2 s σ H Q I z=>h B2 s σ H Q I (q σ H Q z)
def PW.imp{t t':TT}(h:PW X e t)(q:∀σ H Q,t' σ H Q->t σ H Q):PW X e t':=λJ B2 s σ H Q I z=>h J B2 s σ H Q I (q σ H Q z)
def PA.imp{t t':TA}(h:PA X es t)(q:∀σ H Q,t' σ H Q->t σ H Q):PA X es t':=λps B2 s σ H Q I z=>h ps B2 s σ H Q I (q σ H Q z)
def PI.imp{t t':TI}(h:PI X tg e t)(q:∀σ H Q,t' σ H Q->t σ H Q):PI X tg e t':=λB2 s σ H Q I z=>h B2 s σ H Q I (q σ H Q z)
def PS.imp{t t':TS}(h:PS X st t)(q:∀D σ H,t' D σ H->t D σ H):PS X st t':=λB2 s σ H D I z=>h B2 s σ H D I (q D σ H z)
def PSs.imp{st:List GH}{t t':TS}(h:PSs X st t)(q:∀D σ H,t' D σ H->t D σ H):PSs X st t':=λB2 s σ H D I z=>h B2 s σ H D I (q D σ H z)
abbrev DE(K:Pn)(W:cP)(own:Bool)(X:Cx)(e:GI)(f:ah->M A'):Prop:=PE X e (tD K W own f)
abbrev DT(K:Pn)(W:cP)(X:Cx)(e:GI)(f:ah->M Bool):Prop:=PT X e (tDT K W f)
abbrev DW(K:Pn)(W:cP)(X:Cx)(e:GI)(f:ah->M Bool):Prop:=PW X e (tDT K W f)
abbrev DA(K:Pn)(W:cP)(X:Cx)(es:List GI)(f:ah->M (List A')):Prop:=PA X es (tDA K W f)
abbrev DI(K:Pn)(W:cP)(X:Cx)(tg e:GI)(f:ah->M (List A')):Prop:=PI X tg e (iD K W f)
abbrev DG(K:Pn)(X:Cx)(tg:GI)(p:Pat):Prop:=PG X tg (gP K p)
abbrev DS(K:Pn)(W:cP)(ro:Bool)(X:Cx)(OL O O':bb)(st:GH)(g:ah->M B4):Prop:=∀F0 H0:Hp,PS X st (tS K W ro F0 H0 OL O O' g)
abbrev DSs(K:Pn)(W:cP)(ro:Bool)(X:Cx)(OL O O':bb)(st:List GH)(g:ah->M B4):Prop:=∀F0 H0:Hp,PSs X st (tS K W ro F0 H0 OL O O' g)
abbrev Op2(K:Pn)(W:cP)(own:Bool)(X:Cx)(o:h_->h_->OM h_)(g:A'->A'->M A'):Prop:=OpR X o (rD2 K W own g)
abbrev lO(K:Pn)(W:cP)(own:Bool)(X:Cx)(v:h_)(g:List A'->M A'):Prop:=du X v (rDL K W own g)
def ag(i:Nat)(S: ~~~(X.N[i]?=a_ x))(hv:autoParam (Vis X.env.scope x) Jq5)(hd:((x==("__debug__":FU))=c_)⁻¹)(J:((x==("__classdict__":FU))=c_)⁻¹):DE K W c_ X (.Name x pos) (af i):=(pv i S hv hd J).imp λ_ H _=>by
    intro h;obtain⟨F,ρ,r,s,p⟩:=h;unfold af at p
    match e:ρ[i]? with
    |some (a_ d)=>rw[e]at p;obtain⟨v,e1,q⟩:=r.sl i d e;exact⟨v,e1,p v F H (Step.refl s) q⟩
    |some g_=>rw[e]at p;exact(W.ns p).elim|none=>rw[e]at p;exact(W.ns p).elim
def aa{i:Int}{j}:DE K W c_ X (.Constant (.int i) j pos) (fC (.int i)):=pe_int.imp λ_ _ _=>rd_c λ_=>rfl
def kE{k:Bool}{j}:DE K W c_ X (.Constant (.bool k) j pos) (fC (.bl k)):=pe_bl.imp λ_ _ _=>rd_c λ_=>rfl
def lC{j}:DE K W c_ X (.Constant .none j pos) (fC .non):=pe_non.imp λ_ _ _=>rd_c λ_=>rfl
def yL{n:Int}(J:∃t,X.mg x=a_ (.int n t))(S: ~~~(Gl X x))(hd:((x==("__debug__":FU))=c_)⁻¹):DE K W c_ X (.Name x pos) (fC (.int n)):=(pe_gint S J hd).imp λ_ _ _=>rd_c λ_=>rfl
def ar(h:DE K W f_ X e f):DE K W c_ X e f:=PE.imp h λ_ _ _ ⟨F,ρ,r,s,p⟩=>⟨F,ρ,r,s,p.frz⟩
def ao{op:Operator}{g:A'->A'->M A'}(J:Op2 K W own X (Hr op) g)(U:DE K W c_ X a fa)(S:DE K W c_ X b fb):DE K W own X (.BinOp a op b pos) (f2 g fa fb):=(pe_op J U S).imp λ_ _ _=>rd_2
def C1{op:UnaryOp}{g:A'->M A'}(J:UnR X (PY op) (rD1 K W own g))(S:DE K W c_ X a fa):DE K W own X (.UnaryOp op a pos) (f1 g fa):=(pe_un J S).imp λ_ _ _=>rd_1
def pD{g:A'->A'->M A'}(J:Op2 K W c_ X (Gy op) g)(Y:DE K W c_ X a fa)(U:DE K W c_ X b fb)(S:autoParam (JU op b=c_) Jq11):DE K W c_ X (.Compare a [op] [b] pos) (f2 g fa fb):=
 (pe_cmpR J Y U S).imp λ_ _ _=>rd_2
def aY{g:A'->A'->M A'}(J:Op2 K W c_ X (Gy op) g)(Y:DE K W c_ X a fa)(U:DE K W c_ X b fb)(S:autoParam (JU op b=c_) Jq11):DT K W X (.Compare a [op] [b] pos) (fB (f2 g fa fb)):=
 (Dl J Y U S).imp λσ H Q h=>by exact rd_2 (rd_B h)
def de_chain{g:A'->A'->M A'}(S:Op2 K W c_ X (Gy op) g)(J:Op2 K W c_ X (Gy op') g')(e:DE K W c_ X a fa)(d:DE K W c_ X b fb)(Y:DE K W c_ X c fc)(U:autoParam (N9 [op,op'] [b,c]=c_) Jq9):DE K W c_ X (.Compare a [op,op'] [b,c] pos) (jb g g' fa fb fc):=(pe_chain S J e d Y U).imp λ_ _ _=>zN
def u0{g:A'->A'->M A'}(S:Op2 K W c_ X (Gy op) g)(J:Op2 K W c_ X (Gy op') g')(e:DE K W c_ X a fa)(d:DE K W c_ X b fb)(Y:DE K W c_ X c fc)(U:autoParam (N9 [op,op'] [b,c]=c_) Jq9):DT K W X (.Compare a [op,op'] [b,c] pos) (fB (jb g g' fa fb fc)):=(pt_chain S J e d Y U).imp λσ H Q h=>by exact zN (rd_B h)
theorem iI(U:DE K W c_ X a fa)(c: ~~~(X.K=K))(S:autoParam (∀J,Ou a X.env J=(do let v <- J;K8 a.pos;IW [v] (truthy v))) Jq6):DT K W X a (tX fa):=by
 subst c;exact(pt_truth U S).imp λ_ _ H1=>by
   intro h;obtain⟨F,ρ,r,s,p⟩:=h;refine aO r s (λe S=>?_) λa U x F1 H1 Y q1=>?_
   .have z:tX fa ρ=.error e:=by unfold tX;rw[S];rfl
    simp_all
   .have z:tX fa ρ=truD a:=by unfold tX;rw[U];rfl
    rw[z]at p;cases e:truD a with
    |ok b=>rw[e]at p;exact⟨b,tru_of Y.fh q1 e,p F1 H1 Y⟩|error x=>
     rw[e]at p;have:x=.stuck:=by
      cases a with
      |ins C fs=>cases e;rfl|dic ks=>cases e;rfl|dil ks=>cases e;rfl|_=>cases e
     subst this;exact(W.ns p).elim
theorem rT(Y:DT K W X a ft):DT K W X (.UnaryOp .Not a pos) (Cy ft):=(pt_not Y).imp λ_ _ _=>by
  intro h;obtain⟨F,ρ,r,s,p⟩:=h;refine jj r s (λe S=>?_) λb U F1 H1 J=>?_
  .have z:Cy ft ρ=.error e:=by unfold Cy;rw[S];rfl
   simp_all
  .have z:Cy ft ρ=.ok (!b):=by unfold Cy;rw[U];rfl
   rw[z]at p;exact p F1 H1 J
def yF(J:DT K W X a ft):DW K W X (.BoolOp .And [a] pos) ft:=by
  intro S B2 s σ H Q I h;refine isTrue_and (B' (J B2 s σ H Q I h) λc U e=>?_);cases c with
  |true=>exact isTrue_and_nil e|false=>exact e
def wz(J:DT K W X a ft):DW K W X (.BoolOp .Or [a] pos) ft:=by
  intro S B2 s σ H Q I h;refine isTrue_or (B' (J B2 s σ H Q I h) λc U e=>?_);cases c with
  |false=>exact isTrue_or_nil e|true=>exact e
theorem EE(Y:DT K W X a ft)(J:DW K W X (.BoolOp .And (b::rest) pos) fu):DW K W X (.BoolOp .And (a::b::rest) pos) (fAnd ft fu):=(pw_and Y J).imp λ_ _ _=>by
  intro h;obtain⟨F,ρ,r,s,p⟩:=h;refine jj r s (λe U=>?_) λb J F1 H1 S=>?_
  .have z:fAnd ft fu ρ=.error e:=by unfold fAnd;rw[U];rfl
   simp_all
  .have z:fAnd ft fu ρ=if b=f_ then fu ρ else .ok c_:=by unfold fAnd;rw[J];rfl
   rw[z]at p;cases b with
   |true=>exact zu r S p|false=>exact p F1 H1 S
theorem yE(Y:DT K W X a ft)(J:DW K W X (.BoolOp .Or (b::rest) pos) fu):DW K W X (.BoolOp .Or (a::b::rest) pos) (fOr ft fu):=(pw_or Y J).imp λ_ _ _=>by
  intro h;obtain⟨F,ρ,r,s,p⟩:=h;refine jj r s (λe U=>?_) λb J F1 H1 S=>?_
  .have z:fOr ft fu ρ=.error e:=by unfold fOr;rw[U];rfl
   simp_all
  .have z:fOr ft fu ρ=if b=f_ then .ok f_ else fu ρ:=by unfold fOr;rw[J];rfl
   rw[z]at p;cases b with
   |false=>exact zu r S p|true=>exact p F1 H1 S
def de_one{op}(h:DE K W c_ X a f):DE K W c_ X (.BoolOp op [a] pos) f:=λB2 s σ H Q I hw=>BoolOp_one (h B2 s σ H Q I hw)
def de_and(S:DE K W c_ X a fa)(Y:DE K W c_ X (.BoolOp .And (b::rest) pos) fb):DE K W c_ X (.BoolOp .And (a::b::rest) pos) (yB fa fb):=(pe_and S Y).imp λ_ _ _=>by
  intro h;obtain⟨F,ρ,r,s,p⟩:=h;refine aO r s (λe U=>p.err (by unfold yB;rw[U];rfl)) λa S x F1 H1 J q1=>?_;have z:yB fa fb ρ=(asB a).bind λb=>if b=f_ then fb ρ else .ok (.bl c_):=by unfold yB;rw[S];rfl
  rw[z]at p;cases a with
  |bl b=>
   refine⟨b,q1,?_⟩
   cases b with
   |true=>exact⟨F1,ρ,r.mono J.ff,J.fh,aJ.step p J⟩|false=>exact p _ F1 H1 J rfl
  |_=>exact(W.ns p).elim
def de_ite(Y:DT K W X c ft)(d:DE K W own X a fa)(S:DE K W own X b fb):DE K W own X (.IfExp c a b pos) (fIte ft fa fb):=(pe_ifExp Y d S).imp λ_ _ _=>by
  intro h;obtain⟨F,ρ,r,s,p⟩:=h;refine jj r s (λe U=>p.err (by unfold fIte;rw[U];rfl)) λb S F1 H1 J=>?_;have e:fIte ft fa fb ρ=if b=f_ then fa ρ else fb ρ:=by unfold fIte;rw[S];rfl
  rw[e]at p;cases b with
  |true=>exact⟨F1,ρ,r.mono J.ff,J.fh,p.step J⟩|false=>exact⟨F1,ρ,r.mono J.ff,J.fh,p.step J⟩
def bz:DA K W X [] av:=cA.imp λ_ _ _=>rd_nil
theorem bC(S:DE K W c_ X e fa)(c:DA K W X es fr)(b: ~~~(j_ (e::es) X.env=(c_,FL e X.env)::j_ es X.env)):DA K W X (e::es) (a9 fa fr):=(aR S c b).imp λ_ _ _=>by
  intro h;obtain⟨F,ρ,r,s,p⟩:=h;refine aO r s (λe U=>?_) λa S x F1 H1 J q1=>jk (r.mono J.ff) J.fh (λe U=>?_) λds hd xs d H2 Y q2=>?_
  .have z:a9 fa fr ρ=.error e:=by unfold a9;rw[U];rfl
   simp_all
  .have z:a9 fa fr ρ=.error e:=by unfold a9;rw[S];rw[U];rfl
   rw[z]at p;exact W.mono p J
  .have z:a9 fa fr ρ=.ok (a::ds):=by unfold a9;rw[S];rw[hd];rfl
   rw[z]at p;exact p _ d H2 (J.trans Y) ⟨x,xs,rfl,bc.mono Y.ff q1,q2⟩
theorem cE{Y}(h:DA K W X es fr):DE K W own X (.Tuple es Y pos) (fL cb fr):=(pe_tup h).imp λ_ _ _=>by
  intro h;obtain⟨F,ρ,r,s,p⟩:=rd_L h;refine⟨F,ρ,r,s,?_⟩
  cases e:fr ρ with
  |error x=>simp_all|ok ds=>
   rw[e]at p;intro vs F' H' t q;obtain⟨F1,es,S,q1,z⟩:=p vs F' H' t q;unfold cb at z;by_cases J:es.length<=t_
   .rw[p_ J]at z;refine⟨by rw[q1.length];exact J,λa U=>z _ _ _ (Step.lay S U) ?_⟩
    have:bc K _ (.tup es) _:=⟨a,vs,rfl,SqT.of aq,q1.mono (aU.upd (S.free U))⟩
    cases own with
    |true=>exact this|false=>exact this
   .rw[q_ J]at z;exact(W.ns z).elim
theorem bq(h:DA K W X es fr):DE K W f_ X (.List es pos) (fL bW fr):=(pe_lst h).imp λ_ _ _=>by
  intro h;obtain⟨F,ρ,r,s,p⟩:=rd_L h;refine⟨F,ρ,r,s,?_⟩
  cases e:fr ρ with
  |error x=>simp_all|ok ds=>
   rw[e]at p;intro vs F' H' t q;obtain⟨F1,es,U,q1,z⟩:=p vs F' H' t q;unfold bW at z;by_cases J:es.length<=t_
   .rw[p_ J]at z;exact⟨by rw[q1.length];exact J,λa S=>z _ F1 _ (Step.grow U S) ⟨a,vs,rfl,aq,U.free S,S,q1⟩⟩
   .rw[q_ J]at z;exact(W.ns z).elim
def aA{id:String}{g:List A'->M A'}(c:lO K W own X (.builtin id) g)(a:X.mg x=g_)(hv:Hi x=a_ (.builtin id))(d:DA K W X (e::es) fr)(b: ~~~(Gl X x))(Y:(x≠"__name__")⁻¹)(U:((x==("__debug__":FU))=c_)⁻¹)(J: ~~~(j_ (e::es) X.env=(c_,FL e X.env)::j_ es X.env))(S: ~~~((GG pos (j_ es X.env)).any (·.1)=c_)):DE K W own X (.Call (.Name x p) (e::es) [] pos) (fL g fr):=
 (gV c b a hv d Y U J S).imp λ_ _ _=>rd_L
def dB{g:List A'->M A'}(c:lO K W own X (.type T) g)(a:X.mg x=g_)(hv:Hi x=a_ (.type T))(d:DA K W X (e::es) fr)(b: ~~~(Gl X x))(Y:(x≠"__name__")⁻¹)(U:((x==("__debug__":FU))=c_)⁻¹)(J: ~~~(j_ (e::es) X.env=(c_,FL e X.env)::j_ es X.env))(S: ~~~((GG pos (j_ es X.env)).any (·.1)=c_)):DE K W own X (.Call (.Name x p) (e::es) [] pos) (fL g fr):=
 (kW c b a hv d Y U J S).imp λ_ _ _=>rd_L
def aB{g:A'->A'->M A'}(S:IxR X (rD2 K W own g))(Y:DE K W c_ X a fa)(U:DE K W c_ X b fb)(J:autoParam (zb b) Jq12):DE K W own X (.Subscript a b pos) (f2 g fa fb):=(pe_ix S Y U J).imp λ_ _ _=>rd_2
def eD(U:X.N.Nodup)(hi: ~~~(X.N[i]?=a_ x))(J:autoParam (Loc X.env.scope x) Jq7)(S:autoParam (X.fn x=f_\/X.env.scope.names.lookup x=a_ .local) Jq4):DG K X (.Name x pos) (.nm i):=y0 U hi J S
theorem bx(i:DE K W c_ X e fa)(m: ~~~(X.K=K)):DI K W X tg e (fIt fa):=by
 subst m;refine PI.imp (t:=iSeq X.K (tD X.K W c_ fa)) ?_ λ_ _ _=>by
   intro h;obtain⟨F,ρ,r,s,p⟩:=h;refine aO r s (λe j=>?_) λa k x F1 H1 J q1=>?_
   .have z:fIt fa ρ=.error e:=by unfold fIt;rw[j];rfl
    simp_all
   .have z:fIt fa ρ=j8 a:=by unfold fIt;rw[k];rfl
    rw[z]at p;cases a with
    |lst ds=>obtain⟨b,xs,e,t,z⟩:=q1;exact⟨b,e,.inl ⟨⟨xs,J.fh.lst t⟩,p _ F1 H1 J (Ej t z)⟩⟩
    |tup ds=>obtain⟨b,xs,e,t,z⟩:=q1;exact⟨b,e,.inr ⟨⟨xs,J.fh.tup t⟩,p _ F1 H1 J (iter_tup t z)⟩⟩
    |_=>exact(W.ns p).elim
 intro B2 s σ H R I h;refine B' (i B2 s σ H _ I h) λv J g=>?_;obtain⟨y,H1,S,d,q1⟩:=g;obtain⟨l,e1,q⟩:=q1;subst e1;cases d;rcases q with⟨⟨xs,U⟩,q⟩|⟨⟨xs,U⟩,q⟩
 .obtain⟨its,c,p,f⟩:=S.list U;refine KD p.isList ?_;refine⟨J.z,[J.z],_,_,H1,rfl,S.kept (t':=J.toks) λb o e=>d_ _ e,CM l _,⟨_,l_ _ rfl,rfl,rfl⟩,λb Y=>?_,q⟩
  have e:b=J.z:=by simpa using Y
  subst e;exact S.fpOk (o_ _) (S.hok.fresh (o_ _))
 .obtain⟨its,c,p,f⟩:=S.tuple U;refine Ju (show J.heap.IsTuple l its.toArray from p) ?_;refine⟨J.z,[J.z],_,_,H1,rfl,S.kept (t':=J.toks) λb o e=>d_ _ e,Bb l _,⟨_,l_ _ rfl,rfl,rfl⟩,λb Y=>?_,q⟩
  have e:b=J.z:=by simpa using Y
  subst e;exact S.fpOk (o_ _) (S.hok.fresh (o_ _))
def cg(c:X.mg "range"=g_)(i:DA K W X [a] fr)(f: ~~~(Gl X "range"))(b: ~~~(j_ [a] X.env=[(c_,FL a X.env)])):DI K W X tg (.Call (.Name "range" p) [a] [] pos) (iH jJ fr):=(Dw f c i b).imp λ_ H R=>by
  intro h;obtain⟨F,ρ,r,s,p⟩:=h;refine jk r s (λe g=>?_) λds hd xs F1 H1 Y q1=>?_
  .have z:iH jJ fr ρ=.error e:=by unfold iH;rw[g];rfl
   rw[z]at p;exact p
  .have z:iH jJ fr ρ=jJ ds:=by unfold iH;rw[hd];rfl
   rw[z]at p;cases ds with
   |nil=>exact(W.ns p).elim|cons d ds=>
    cases d with
    |int j=>
     cases ds with
     |cons _ _=>exact(W.ns p).elim|nil=>
      obtain⟨v,vs,e,q,t⟩:=q1;have U:match (if bK j=f_ then Hc (aE 0 j.toNat)else Ir Err.stuck)with
       |.ok ds=>∀J F1 H1,Step F H F1 H1->qJ K F1 J ds->R J H1|.error e=>W.p e F H:=p
      by_cases S:bK j=f_
      .rw[p_ S]at U;unfold bK at S;simp at S;exact⟨j,by rw[e,show v=.int j from q,show vs=[]from t],S.1,S.2,U _ F1 H1 Y rA⟩
      .rw[q_ S]at U;exact(W.ns U).elim
    |_=>exact(W.ns p).elim
theorem di_rng2(l:X.mg "range"=g_)(o:DA K W X [a,b] fr)(m: ~~~(Gl X "range"))(k: ~~~(j_ [a,b] X.env=[(c_,FL a X.env),(c_,FL b X.env)]))(d: ~~~(j_ [b] X.env=[(c_,FL b X.env)])):
  DI K W X tg (.Call (.Name "range" p) [a,b] [] pos) (iH Br fr):=(Dv m l o k d).imp λ_ H R=>by
    intro h;obtain⟨F,ρ,r,s,p⟩:=h;refine jk r s (λe n=>?_) λds hd xs F1 H1 g q1=>?_
    .have z:iH Br fr ρ=.error e:=by unfold iH;rw[n];rfl
     simp_all
    .have z:iH Br fr ρ=Br ds:=by unfold iH;rw[hd];rfl
     rw[z]at p;by_cases U:∃i j,ds=[.int i,.int j]
     .obtain⟨i,j,rfl⟩:=U;obtain⟨v,vs,e,q,f,c,e2,q2,t⟩:=q1;have Y:match (if (bK i&&bK j)=f_ then Hc (aE i (j-i).toNat)else Ir Err.stuck)with
       |.ok ds=>∀J F1 H1,Step F H F1 H1->qJ K F1 J ds->R J H1|.error e=>W.p e F H:=p
      by_cases S:(bK i&&bK j)=f_
      .rw[p_ S]at Y;unfold bK at S;simp at S;exact⟨i,j,by rw[e,show v=.int i from q,e2,show f=.int j from q2,show c=[]from t],⟨S.1.1,S.1.2,S.2.1,S.2.2⟩,Y _ F1 H1 g rA⟩
      .rw[q_ S]at Y;exact(W.ns Y).elim
     .have:Br ds=.error .stuck:=by
       unfold Br;split
       .exact FN ⟨_,_,rfl⟩ U
       .rfl
      rw[this]at p;exact(W.ns p).elim
variable{h:ah->M B4}
def aX:DSs K W ro X OL O O [] bO:=λ_ _=>Dm.imp λ_ σ H=>by intro t;obtain⟨FB,F,ρ,r,p⟩:=t;exact p σ F H r
def ae(h1:DS K W ro X OL O O' st g)(J:DSs K W ro X OL O' O2 sts h):DSs K W ro X OL O O2 (st::sts) (aM g h):=λF0 H0=>(kU (h1 F0 H0) (J F0 H0)).imp λ_ _ _=>by
  intro t;obtain⟨FB,F,ρ,r,p⟩:=t;refine⟨FB,F,ρ,r,?_⟩
  unfold aM at p;cases e:g ρ with
  |error x=>exact p.err (by rw[e];rfl)|ok fl=>
   rw[e]at p;cases fl with
   |nx ρ'=>exact λσ' F' H' r'=>⟨FB,F',ρ',r',p⟩|rt d=>exact p|bk ρ'=>exact p|ct ρ'=>exact p
def ai(h1:DS K W ro X OL O O' st g):DSs K W ro X OL O O' [st] g:=λF0 H0=>oz (h1 F0 H0)
def ba(h1:DSs K W ro X OL O2 O' sts g)(J:(∀i∈O2,i∈O)⁻¹):DSs K W ro X OL O O' sts g:=λF0 H0=>PSs.imp (h1 F0 H0) λ_ _ _=>by intro t;obtain⟨FB,F,ρ,r,p⟩:=t;exact⟨FB,_,ρ,r.freeze J,p⟩
def ds_cont:DS K W ro X O O O' (.Continue pos) sCont:=λ_ _=>xZ.imp λ_ σ H=>by intro t;obtain⟨FB,F,ρ,r,p⟩:=t;exact p σ F H r
def bS{U S:List GH}(d:DT K W X c ft)(f:DSs K W ro X OL O O' U g)(J:DSs K W ro X OL O O' S h):DS K W ro X OL O O' (.If c U S pos) (sIf ft g h):=λF0 H0=>(ps_if d (f F0 H0) (J F0 H0)).imp λ_ _ _=>by
  intro t;obtain⟨FB,F,ρ,r,p⟩:=t;refine jj r.ir r.dZ (λe a=>p.gI (r.freeze aj).st (by unfold sIf;rw[a];rfl)) λb J F1 H1 Y=>?_;have z:sIf ft g h ρ=if b=f_ then g ρ else h ρ:=by unfold sIf;rw[J];rfl
  rw[z]at p;cases b with
  |true=>exact⟨FB,_,ρ,r.fS Y,p⟩|false=>exact⟨FB,_,ρ,r.fS Y,p⟩
def yG(a:X.N.Nodup)(Y:DE K W own X e f)(hi: ~~~(X.N[i]?=a_ x))(J:autoParam (Loc X.env.scope x) Jq7)(S: ~~~(G0 e (a_ (.Name x pos')) pos.line X.env=G2 c_))(U:autoParam (X.fn x=f_\/X.env.scope.names.lookup x=a_ .local) Jq4):
  DS K W ro X OL O (aft own i O) (.Assign [.Name x pos'] e pos) (ax O i f):=λF0 H0=>(Dn a hi J Y S U).imp λ_ _ _=>xR
def EG(g:X.N.Nodup)(S:DE K W own X e f)(hi: ~~~(X.N[i]?=a_ x))(Y:autoParam (Loc X.env.scope x) Jq7)(b: ~~~(G0 e (a_ (.Name x pos')) pos.line X.env=G2 c_))(J:autoParam (X.fn x=f_\/X.env.scope.names.lookup x=a_ .local) Jq4):
  DS K W ro X OL O (aft own i O) (.Assign [.Name x pos'] e pos) (xP own i f):=λF0 H0=>(Dn g hi Y S b J).imp λ_ _ _=>by
    intro t;obtain⟨FB,F,ρ,r,p⟩:=t;refine aO r.ir r.dZ (λe S=>p.gI (r.freeze aj).st (by unfold xP;rw[S];rfl)) λd hd v F1 H1 U q=>?_;have z:xP own i f ρ=if mh own d=f_ then .ok (.nx (ρ.set i (a_ d)))else .error .stuck:=by unfold xP;rw[hd];rfl
    rw[z]at p;by_cases J:mh own d=f_
    .rw[p_ J]at p;exact p _ _ H1 ((r.fS U).bindV (r.flatV U q J) r.st.hh λa c=>let ⟨_,_,_,e,_⟩:=r.own c;⟨_,e⟩)
    .rw[q_ J]at p;exact p.stuck rfl
def az(J:DE K W ro X e f):DS K W ro X OL O O' (.Return (a_ e) pos) (cM f):=λF0 H0=>(ps_ret J).imp λ_ _ _=>by
  intro t;obtain⟨FB,F,ρ,r,p⟩:=t;have S:=r.freeze (O2:=[]) aj;refine aO r.ir r.dZ (λe J=>p.gI S.st (by unfold cM;rw[J];rfl)) λd hd v F1 H1 U q=>?_;have z:cM f ρ=.ok (.rt d):=by unfold cM;rw[hd];rfl
  rw[z]at p;exact p v F1 H1 (S.st.trans U) (q.back r.st.hh)
theorem aW{fs:ah->M (List A')}{pt:Pat}(hi:DI K W X tg iter fs)(B:DG K X tg pt)(E:DSs K W ro X O O O body g)(n:(∀i∈pt.names,i∉O)⁻¹)(A:autoParam (Og (x_ X.prog X.w) X.A X.env X.xe) Jq13)(C: ~~~(X.calm=f_))(w:autoParam (∀x,Ik iter X.env x=G2 x) Jq6):DS K W ro X OL O O (.For tg iter body [] pos) (gB O fs pt g):=λF0 H0=>(ps_for A C hi B (E F0 H0) w).imp λD σ H=>by
    intro t;obtain⟨FB,F,ρ,r,p⟩:=t;refine⟨F,erase O ρ,r.iQ,r.st.fh,?_⟩
    cases e:fs _ with
    |error x=>exact p.gI r.st (by unfold gB;rw[e];rfl)|ok ds=>
     have z:gB O fs pt g ρ=bG pt g ds ρ:=by unfold gB;rw[e];rfl
     intro J F1 H1 k l;refine⟨λi m σ H=>∃F ρ,Rep K F0 H0 F1 O F H σ ρ/\i<=ds.length/\m=ds.length-i/\eQ K W ro F0 H0 FB OL O D (bG pt g (ds.drop i) ρ),⟨ds.length,F1,ρ,?_,GD _,ad,as⟩,?_⟩
     .have c:=r.step k;exact⟨c.st,aU.refl _,c.len,c.fz,c.ow,c.ap⟩
     .rintro i m h H2 ⟨f,S,Y,hi,rfl,p2⟩;by_cases b:i<ds.length
      .rw[(Hk b)]at p2;refine .inr ⟨l.go i f H2 Y.fb Y.st.fh b,λσ' H'=>(∃F ρ,Rep K F0 H0 F1 O F H' σ' ρ/\eQ K W ro F0 H0 FB OL O D _),λσ' H' ⟨F,ρ,r,p⟩=>⟨ds.length-(i+1),ad,F,ρ,r,b,rfl,p⟩,λx H' y=>?_⟩;obtain⟨I,s,v⟩:=l.yl i f H2 x H' ds[i] Y.fb Y.st.fh aj y;have G:bG pt g (ds[i]::ds.drop (i+1)) S=(d7 pt ds[i] S).bind λj=>(g j).bind λfl=>match fl with
        |.nx S=>bG pt g (ds.drop (i+1)) S|.ct S=>bG pt g (ds.drop (i+1)) S|.bk S=>.ok (.nx S)|.rt d=>.ok (.rt d):=by rw[bG]
       rw[G]at p2;cases eb:d7 pt ds[i] S with
       |error x=>have:=lJ eb;subst this;exact p2.stuck (by rw[eb];rfl)|ok a=>
        rw[eb]at p2;have p2:eQ K W ro F0 H0 FB OL O D ((g a).bind λfl=>match fl with
         |.nx S=>bG pt g _ S|.ct S=>bG pt g _ S|.bk S=>.ok _|.rt d=>.ok _):=p2
        refine gP_rep (Y.step s) n v eb λq u=>⟨F1,I,a,u,?_⟩
        cases o:g a with
        |error x=>exact p2.err (by rw[o];rfl)|ok fl=>
         rw[o]at p2;cases fl with
         |nx U=>exact λσ' F' H' r'=>⟨F',U,r',p2⟩|ct U=>exact λσ' F' H' r'=>⟨F',U,r',p2⟩|bk U=>exact λσ' F' H' r'=>p2 σ' F' H' (r'.base ((r.step k).fb))|rt d=>exact p2
      .have:i=ds.length:=ad
       subst this;rw[JF]at p2;exact .inl ⟨l.st f H2 Y.fb Y.st.fh,p2 h f H2 (Y.base (r.step k).fb)⟩
def ds_while(j:DT K W X c ft)(U:DSs K W ro X O O O body g)(h:autoParam (Og (x_ X.prog X.w) X.A X.env X.xe) Jq13):DS K W ro X OL O O (.While c body [] pos) (j4 ft g m):=λF0 H0=>(ps_while h j (U F0 H0)).imp λD σ H=>by
  intro t;refine⟨λm σ H=>tS K W ro F0 H0 OL O O (j4 ft g m) D σ H,⟨m,t⟩,?_⟩
  rintro m σ H ⟨FB,F,ρ,r,p⟩;cases m with
  |zero=>exact p.stuck rfl|succ m=>
   have k:j4 ft g (m+1) ρ=(ft ρ).bind λb=>if b=f_ then(g ρ).bind λfl=>match fl with
    |.nx J=>j4 ft g m J|.ct J=>j4 ft g m J|.bk J=>.ok (.nx J)|.rt d=>.ok (.rt d)else .ok (.nx ρ):=by rw[j4]
   rw[k]at p;refine jj r.ir r.dZ (λe i=>p.gI (r.freeze aj).st (by rw[i];rfl)) λb U F1 H1 f=>?_;rw[U]at p;have Y:=r.fS f;cases b with
   |false=>exact p σ _ H1 Y|true=>
    refine⟨λσ' H'=>tS K W ro F0 H0 OL O O _ D σ' H',λσ' H' n=>⟨m,IY _,n⟩,FB,_,ρ,Y,?_⟩
    cases a:g ρ with
    |error x=>exact p.err (by rw[a];rfl)|ok fl=>
     rw[a]at p;cases fl with
     |nx S=>exact λσ' F' H' r'=>⟨FB,F',S,r',p⟩|ct S=>exact λσ' F' H' r'=>⟨FB,F',S,r',p⟩|bk S=>exact λσ' F' H' r'=>p σ' F' H' r'|rt d=>exact p
def fj(k:DE K W c_ X e f)(m:(i∈O)⁻¹)(o: ~~~(X.N[i]?=a_ x))(hv:autoParam (Vis X.env.scope x) Jq5)(hd:((x==("__debug__":FU))=c_)⁻¹)(l:((x==("__classdict__":FU))=c_)⁻¹)(s: ~~~(X.K=K))(b: ~~~(j_ [e] X.env=[(c_,FL e X.env)]))(U: ~~~(HV (.Name x p) "append" X.env (FL (.Name x p) X.env)=FL (.Name x p) X.env))(c: ~~~(((GG q (j_ [e] X.env)).all (λx=> !x.1)&&(JX q (IG [] X.env)).all (λx=>x.1.isSome)&&s_ ([e].length+([]:List JV).length+(if ([]:List JV).isEmpty then 0 else 1)<30))=f_))(J: ~~~((GG q (j_ [] X.env)).any (·.1)=c_))(S: ~~~((apos.endLine==q.line)=f_))(h: ~~~(G0 (.Call (.Attribute (.Name x p) "append" apos) [e] [] q) g_ pos.line X.env=G2 c_)):
  DS K W ro X OL O O (.Expr (.Call (.Attribute (.Name x p) "append" apos) [e] [] q) pos) (i7 O i f):=λF0 H0=>by
 subst s;exact PS.imp (sV (pe_bm Kb Nz PySem.F.type_list_append DY (pv i o hv hd l) (aR k cA b) U c S b J) h) λ_ σ _=>by
   intro t;obtain⟨FB,F,ρ,r,p⟩:=t;cases Y:k9 ρ i with
   |error e=>have:=oK Y;subst this;exact p.stuck (by unfold i7;rw[Y];rfl)|ok ds=>
    obtain⟨a,xs,e2,n,z⟩:=r.E1 m (jS Y);refine⟨.ref a,e2,⟨rfl,_,_,rfl,SqL.of n⟩,?_⟩
    refine aO r.iQ r.st.fh (λe k=>p.gI r.st (by unfold i7;rw[Y];rw[k];rfl)) λd hd v F1 H1 g q=>?_;have u:i7 O i f ρ=if ds.length<t_ then put ρ i (ds++[d])else .error .stuck:=by unfold i7;rw[Y];rw[hd];rfl
    rw[u]at p;by_cases j:ds.length<t_
    .rw[p_ j]at p;exact⟨a,xs,v,rfl,rfl,g.hh _ _ n,by rw[z.length];exact j,p σ F1 _ ((r.step g).write m (jS Y) e2 (ay.append (z.mono g.ff) ⟨v,[],rfl,q,rfl⟩))⟩
    .rw[q_ j]at p;exact p.stuck rfl
end
section
variable{W:cP}{own:Bool}
def OpR.imp{f:h_->h_->OM h_}{r r':R2}(h:OpR X f r)(q:∀x y H Q,r' x y H Q->r x y H Q):OpR X f r':=λB2 s σ H x y v u Q I S J z=>h B2 s σ H x y v u Q I S J (q x y H Q z)
def UnR.imp{f:h_->OM h_}{r r':V->Hp->VK->Prop}(h:UnR X f r)(q:∀x H Q,r' x H Q->r x H Q):UnR X f r':=λB2 s σ H x v Q I J z=>h B2 s σ H x v Q I J (q x H Q z)
def du.imp{f:h_}{r r':a0->Hp->VK->Prop}(h:du X f r)(q:∀x H Q,r' x H Q->r x H Q):du X f r':=λB2 s σ H x v Q I J z=>h B2 s σ H x v Q I J (q x H Q z)
def IxR.imp{r r':R2}(h:IxR X r)(q:∀x y H Q,r' x y H Q->r x y H Q):IxR X r':=λJ sl B2 s σ H x y v u Q I U S z e=>h J sl B2 s σ H x y v u Q I U S (q x y H Q z) e
def aJ.stuck{Q:VK}{P:Prop}(p:aJ K W own F H (stk) Q):P:=(W.ns p).elim
theorem aJ.int{F H:Hp}{Q:VK}{i:Int}(p:aJ K W own F H (.ok (.int i)) Q)(s:aU F H):Q (.int i) H:=p _ F H (Step.refl s) (by cases own<;>rfl)
theorem aJ.bl{F H:Hp}{Q:VK}{b:Bool}(p:aJ K W own F H (.ok (.bl b)) Q)(s:aU F H):Q (.bl b) H:=p _ F H (Step.refl s) (by cases own<;>rfl)
theorem aJ.tup{F H:Hp}{Q:VK}{ds:List A'}{xs:a0}{a:k_}(p:aJ K W own F H (.ok (.tup ds)) Q)(s:aU F H)(q:ay K F ds xs)(J:H a=g_):Q (.ref a) (upd H a (.tup xs)):=
 p _ _ _ (Step.lay s J) (by
  have:bc K _ (.tup ds) _:=⟨a,xs,rfl,SqT.of aq,q.mono (aU.upd (s.free J))⟩
  cases own<;>exact this)
def aJ.same{Q:VK}{v:V}(p:aJ K W own F H (.ok (.tup ds)) Q)(s:aU F H)(q:bc K F (.tup ds) v):Q v H:=p _ F H (Step.refl s) (by cases own<;>exact q)
theorem aJ.lst{F H:Hp}{Q:VK}{ds:List A'}{xs:a0}{a:k_}(p:aJ K W f_ F H (.ok (.lst ds)) Q)(s:aU F H)(q:ay K F ds xs)(J:H a=g_):Q (.ref a) (upd H a (.lst xs)):=
 p _ F _ (Step.grow s J) ⟨a,xs,rfl,aq,s.free J,J,q⟩
def gh{g:A'->A'->M A'}(U:∀a b,(∃i j,a=.int i/\b=.int j)\/g a b=stk){x y:V}{Q:VK}(h:rD2 K W own g x y H Q):∃F i j,aU F H/\x=.int i/\y=.int j/\aJ K W own F H (g (.int i) (.int j)) Q:=by
 obtain⟨F,a,b,s,S,J,p⟩:=h;rcases U a b with⟨i,j,rfl,rfl⟩|e
 .exact⟨F,i,j,s,S,J,p⟩
 .rw[e]at p;exact p.stuck
def tw:Op2 K W own X (Hr .Sub) CU:=op_sub.imp λx y H Q h=>by obtain⟨F,i,j,s,e1,e2,p⟩:=gh (λa b=>by cases a<;>cases b<;>first|exact .inr rfl|simp) h;exact⟨i,j,e1,e2,p.int s⟩
def k8:Op2 K W own X (Hr .Mult) pU:=op_mul.imp λx y H Q h=>by
 obtain⟨F,i,j,s,e1,e2,p⟩:=gh (λa b=>by cases a<;>cases b<;>first|exact .inr rfl|simp) h;have S:aJ K W own F H (if (dW i||dW j)=f_ then .ok _ else stk) Q:=p;by_cases J:(dW i||dW j)=f_
 .rw[p_ J]at S;refine⟨i,j,e1,e2,?_,S.int s⟩
  unfold dW at J;simp at J;exact J
 .rw[q_ J]at S;exact S.stuck
theorem DJ:OpR X (Hr .FloorDiv) (rI (λ_ j=>0<j/\j<18446744073709551616) λi j=>.int (i/j)):=opI λi j _ _ _ _ _ J q=>by
 obtain⟨U,S⟩:=J;exact floordiv_int ad (by rw[MO i ad];exact q) (.inl (Ms (by
   have a:j.natAbs<2^64:=ad
   have b:=(Nat.log2_lt ad).mpr a;lia)))
def bJ:Op2 K W own X (Hr .FloorDiv) di:=DJ.imp λx y H Q h=>by
 obtain⟨F,i,j,s,e1,e2,p⟩:=gh (λa b=>by cases a<;>cases b<;>first|exact .inr rfl|simp) h;have J:aJ K W own F H (if (s_ _&&s_ _)=f_ then .ok _ else stk) Q:=p;by_cases S:(s_ (0<j)&&s_ (j<18446744073709551616))=f_
 .rw[p_ S]at J;simp at S;exact⟨i,j,e1,e2,S,J.int s⟩
 .rw[q_ S]at J;exact J.stuck
def bw:Op2 K W own X (Hr .Mod) eS:=op_mod.imp λx y H Q h=>by
 obtain⟨F,i,j,s,e1,e2,p⟩:=gh (λa b=>by cases a<;>cases b<;>first|exact .inr rfl|simp) h;have J:aJ K W own F H (if 0<j then .ok _ else stk) Q:=p;by_cases S:0<j
 .rw[p_ S]at J;exact⟨i,j,e1,e2,S,J.int s⟩
 .rw[q_ S]at J;exact J.stuck
def iw:Op2 K W own X (Hr .Pow) pS:=op_pow.imp λx y H Q h=>by
 obtain⟨F,i,j,s,e1,e2,p⟩:=gh (λa b=>by cases a<;>cases b<;>first|exact .inr rfl|simp) h;have S:aJ K W own F H (if (s_ _&&s_ _&&s_ _)=f_ then .ok _ else stk) Q:=p;by_cases J:(s_ (0<=j)&&s_ (j<=1000000)&&s_ (i.natAbs<2^64))=f_
 .rw[p_ J]at S;simp at J;exact⟨i,j,e1,e2,⟨J.1.1,J.1.2,J.2⟩,S.int s⟩
 .rw[q_ J]at S;exact S.stuck
def BF:UnR X (PY .USub) (rD1 K W own negD):=un_neg.imp λx H Q h=>by
 obtain⟨F,a,s,J,p⟩:=h;cases a with
 |int i=>exact⟨i,J,aJ.int p s⟩|_=>exact aJ.stuck p
def o_lt:Op2 K W own X (Gy .Lt) ltD:=op_lt.imp λx y H Q h=>by obtain⟨F,i,j,s,e1,e2,p⟩:=gh (λa b=>by cases a<;>cases b<;>first|exact .inr rfl|simp) h;exact⟨i,j,e1,e2,p.bl s⟩
def o_le:Op2 K W own X (Gy .LtE) leD:=op_le.imp λx y H Q h=>by obtain⟨F,i,j,s,e1,e2,p⟩:=gh (λa b=>by cases a<;>cases b<;>first|exact .inr rfl|simp) h;exact⟨i,j,e1,e2,p.bl s⟩
def Cw:Op2 K W own X (Gy .Gt) gtD:=op_gt.imp λx y H Q h=>by obtain⟨F,i,j,s,e1,e2,p⟩:=gh (λa b=>by cases a<;>cases b<;>first|exact .inr rfl|simp) h;exact⟨i,j,e1,e2,p.bl s⟩
theorem op_catL:OpR X (Hr .Add) (λx y H Q=>∃l b xs U,x=.ref l/\y=.ref b/\SqL X.K H l xs/\SqL X.K H b U/\xs.length+U.length<=t_/\∀p,H p=g_->Q (.ref p) (upd H p (.lst (xs++U)))):=by
 intro B2 s σ H x y v u Q I m k h;obtain⟨l,b,xs,U,rfl,rfl,w,z,D,q⟩:=h;cases m;cases k;obtain⟨its,r,p1,E⟩:=I.list w;obtain⟨J,f,p2,o⟩:=I.list z;have C:=r.length;have B:=f.length;obtain⟨⟨A,dd,i,sl⟩,g,t,n,hd⟩:=id p1.isList;obtain⟨⟨j,d,e,Y⟩,S,c,n2,a⟩:=id p2.isList;subst t hd c a;refine Me ⟨_,g,rfl⟩ ⟨_,S,rfl⟩ noFill_list_add seq_list_add PySem.F.slot_list_add PySem.F.entry_list_add (PySem.F.args_list_add_2 _ _) (list_addW l b its.toArray J.toArray n n2 dd d sl Y as) ⟨g,S,?_⟩;have ea:its.toArray++J.toArray=(its++J).toArray:=by simp
 rw[ea];exact⟨.ref _,_,I.lnew (r.append f) as,rfl,q _ I.fresh⟩
def op_cat3:OpR X (Hr .Add) (λx y H Q=>∃a b xs ys,x=.ref a/\y=.ref b/\SqT X.K H a xs/\SqT X.K H b ys/\xs.length+ys.length<=t_/\(xs=[]->Q (.ref b) H)/\(ys=[]->Q (.ref a) H)/\∀p,H p=g_->Q (.ref p) (upd H p (.tup (xs++ys)))):=by
 intro B2 s σ H x y v u Q I i g h;obtain⟨a,b,xs,ys,rfl,rfl,m,l,w,q1,q2,t⟩:=h;by_cases j:xs=[]
 .subst j;cases i;cases g;obtain⟨its,r,p1,_⟩:=I.tuple m;obtain⟨J,C,p2,_⟩:=I.tuple l;cases r;obtain⟨⟨B,dd,o,sl⟩,k,A,n,hd⟩:=id p1;obtain⟨⟨q,d,f,U⟩,S,c,n2,Y⟩:=id p2;subst A hd c Y;exact Me ⟨_,k,rfl⟩ ⟨_,S,rfl⟩ ME NU Kp Kc (J1 _ _)
   (tuple_addW0 a b #[] J.toArray n n2 dd d sl U rfl) ⟨k,S,⟨.ref b,H,I,rfl,q1 rfl⟩⟩
 .exact op_catT B2 s σ H _ _ v u Q I i g ⟨a,b,xs,ys,rfl,rfl,m,l,j,w,λe=>q2 e,λ_ p z=>t p z⟩
def bP(m: ~~~(X.K=K)):Op2 K W f_ X (Hr .Add) eU:=by
 subst m;refine(op_add.or (op_catL.or op_cat3)).imp λx y H Q h=>?_;obtain⟨F,a,b,s,g,f,p⟩:=h;cases a with
 |int i=>
  cases b with
  |int j=>exact .inl ⟨i,j,g,f,p.int s⟩|_=>exact aJ.stuck p
 |lst ds=>
  cases b with
  |lst es=>
   obtain⟨a,xs,e1,d,U⟩:=g;obtain⟨b,ys,e2,c,S⟩:=f;have J:aJ X.K W f_ F H (if ds.length+es.length<=t_ then .ok _ else stk) Q:=p;by_cases Y:ds.length+es.length<=t_
   .rw[p_ Y]at J;exact .inr (.inl ⟨a,b,xs,ys,e1,e2,s.lst d,s.lst c,by rw[U.length,S.length];exact Y,λl k=>J.lst s (U.append S) k⟩)
   .rw[q_ Y]at J;exact J.stuck
  |_=>exact aJ.stuck p
 |tup ds=>
  cases b with
  |tup es=>
   obtain⟨a,xs,e1,d,U⟩:=g;obtain⟨b,ys,e2,c,S⟩:=f;have J:aJ X.K W f_ F H (if ds.length+es.length<=t_ then .ok _ else stk) Q:=p;by_cases Y:ds.length+es.length<=t_
   .rw[p_ Y]at J;refine .inr (.inr ⟨a,b,xs,ys,e1,e2,s.tup d,s.tup c,by rw[U.length,S.length];exact Y,λe=>?_,λe=>?_,λl k=>J.tup s (U.append S) k⟩)
    .have z:=by have:=U.length;rw[e]at this;exact Jh.mp this.symm
     subst z;exact J.same s ⟨b,ys,rfl,c,S⟩
    .have z:=by have:=S.length;rw[e]at this;exact Jh.mp this.symm
     subst z;rw[HB]at J;exact J.same s ⟨a,xs,rfl,d,U⟩
   .rw[q_ Y]at J;exact J.stuck
  |_=>exact aJ.stuck p
 |_=>exact aJ.stuck p
def o_isN:Op2 K W own X (Gy .Is) isND:=op_isN.imp λx y H Q h=>by
 obtain⟨F,a,b,s,J,S,p⟩:=h;have key:∀{k:Bool},isND a b=.ok (.bl k)->b=.non->(s_ _=k)->y=V.non/\Q (.bl (s_ (x=V.non))) H:=λ{k} e1 e2 e3=>by subst e2;rw[e1]at p;rw[e3];exact⟨S,p.bl s⟩
 cases b with
 |non=>
  cases a with
  |non=>exact key rfl rfl (by rw[show x=.non from J];rfl)|bl k=>exact key rfl rfl (by rw[show x=.bl k from J];rfl)|int k=>exact key rfl rfl (by rw[show x=.int k from J];rfl)|tup ds=>obtain⟨l,xs,e,_⟩:=J;exact key rfl rfl (by rw[e];rfl)
  |lst ds=>obtain⟨l,xs,e,_⟩:=J;exact key rfl rfl (by rw[e];rfl)
  |ins C fs=>obtain⟨l,dx,xs,e,_⟩:=J;exact key rfl rfl (by rw[e];rfl)
  |dic ks=>obtain⟨l,xs,e,_⟩:=J;exact key rfl rfl (by rw[e];rfl)
  |dil ks=>obtain⟨l,xs,e,_⟩:=J;exact key rfl rfl (by rw[e];rfl)
 |_=>cases a<;>exact aJ.stuck p
def o_notN:Op2 K W own X (Gy .IsNot) yk:=op_notN.imp λx y H Q h=>by
 obtain⟨F,a,b,s,J,S,p⟩:=h;have key:∀{k:Bool},yk a b=.ok (.bl k)->b=.non->((!decide _)=k)->y=V.non/\Q (.bl (!decide (x=V.non))) H:=λ{k} e1 e2 e3=>by subst e2;rw[e1]at p;rw[e3];exact⟨S,p.bl s⟩
 cases b with
 |non=>
  cases a with
  |non=>exact key rfl rfl (by rw[show x=.non from J];rfl)|bl k=>exact key rfl rfl (by rw[show x=.bl k from J];rfl)|int k=>exact key rfl rfl (by rw[show x=.int k from J];rfl)|tup ds=>obtain⟨l,xs,e,_⟩:=J;exact key rfl rfl (by rw[e];rfl)
  |lst ds=>obtain⟨l,xs,e,_⟩:=J;exact key rfl rfl (by rw[e];rfl)
  |ins C fs=>obtain⟨l,dx,xs,e,_⟩:=J;exact key rfl rfl (by rw[e];rfl)
  |dic ks=>obtain⟨l,xs,e,_⟩:=J;exact key rfl rfl (by rw[e];rfl)
  |dil ks=>obtain⟨l,xs,e,_⟩:=J;exact key rfl rfl (by rw[e];rfl)
 |_=>cases a<;>exact aJ.stuck p
theorem Eu{Q:VK}{i:Int}(p:aJ K W c_ F H (jW ds i) Q)(s:aU F H)(r:ay K F ds xs):∃v,atI xs i=a_ v/\Q v H:=by
 unfold jW at p;cases e:atI ds i with
 |none=>rw[e]at p;exact aJ.stuck p|some d=>
  rw[e]at p;unfold atI at e;cases J:ixN ds.length i with
  |none=>simp_all|some j=>
   rw[J]at e;obtain⟨v,e1,q⟩:=r.get (show ds[j]?=a_ d from e);refine⟨v,?_,p v F H (Step.refl s) q⟩
   unfold atI;rw[r.length,J];exact e1
def bB(c: ~~~(X.K=K)):IxR X (rD2 K W c_ ixD):=by
 subst c;refine ix_seq.imp λx y H Q h=>?_;obtain⟨F,a,b,s,Y,U,p⟩:=h;cases a with
 |lst ds=>
  cases b with
  |int i=>obtain⟨a,xs,e1,J,S⟩:=Y;obtain⟨v,e2,q⟩:=Eu p s S;exact .inl ⟨a,xs,i,v,e1,U,s.lst J,e2,q⟩
  |_=>exact aJ.stuck p
 |tup ds=>
  cases b with
  |int i=>obtain⟨a,xs,e1,J,S⟩:=Y;obtain⟨v,e2,q⟩:=Eu p s S;exact .inr ⟨a,xs,i,v,e1,U,s.tup J,e2,q⟩
  |_=>exact aJ.stuck p
 |_=>exact aJ.stuck p
def iL(J: ~~~(X.K=K)):lO K W own X (.builtin "len") pV:=by
 subst J;refine jC.imp λxs H Q h=>?_;obtain⟨F,ds,s,q,p⟩:=h;cases ds with
 |nil=>exact aJ.stuck p|cons d ds=>
  cases ds with
  |cons _ _=>cases d<;>exact aJ.stuck p
  |nil=>
   obtain⟨v,vs,e,q,e2⟩:=q;cases d with
   |lst es=>
    obtain⟨a,ys,e1,t,r⟩:=q;refine⟨a,ys,by rw[e,e1,show vs=[]from e2],.inl (s.lst t),?_⟩
    rw[r.length];exact aJ.int p s
   |tup es=>
    obtain⟨a,ys,e1,t,r⟩:=q;refine⟨a,ys,by rw[e,e1,show vs=[]from e2],.inr (s.tup t),?_⟩
    rw[r.length];exact aJ.int p s
   |_=>exact aJ.stuck p
end
section
variable{W:cP}{own:Bool}
def jm{g:List A'->M A'}(J:∀ds,(∃d,ds=[d])\/g ds=stk){Q:VK}(h:rDL K W own g xs H Q):∃F d x,aU F H/\xs=[x]/\bc K F d x/\aJ K W own F H (g [d]) Q:=by
 obtain⟨F,ds,s,q,p⟩:=h;rcases J ds with⟨d,rfl⟩|e
 .obtain⟨v,vs,e,q1,e2⟩:=q;exact⟨F,d,v,s,by rw[e,show vs=[]from e2],q1,p⟩
 .rw[e]at p;exact p.stuck
def CJ{g:List A'->M A'}(S:∀ds,(∃d,ds=[d])\/(∃d e,ds=[d,e])\/g ds=stk){Q:VK}(h:rDL K W own g xs H Q):(∃F d x,aU F H/\xs=[x]/\bc K F d x/\aJ K W own F H (g [d]) Q)\/∃F d e x y,aU F H/\xs=[x,y]/\bc K F d x/\bc K F e y/\aJ K W own F H (g [d,e]) Q:=by
 obtain⟨F,ds,s,q,p⟩:=h;rcases S ds with⟨d,rfl⟩|⟨d,e,rfl⟩|e
 .obtain⟨v,vs,e,q1,e2⟩:=q;exact .inl ⟨F,d,v,s,by rw[e,show vs=[]from e2],q1,p⟩
 .obtain⟨v,vs,e1,q1,w,J,e2,q2,e3⟩:=q;exact .inr ⟨F,d,e,v,w,s,by rw[e1,e2,show J=[]from e3],q1,q2,p⟩
 .rw[e]at p;exact p.stuck
def c_abs:lO K W own X (.builtin "abs") absD:=call_abs.imp λxs H Q h=>by
 obtain⟨F,d,x,s,e,q,p⟩:=jm (λds=>by match ds with|[d]=>simp|[]=>exact .inr rfl|a::b::c=>exact .inr (by cases a<;>rfl)) h;cases d with
 |int i=>exact⟨i,by rw[e,show x=.int i from q],aJ.int p s⟩|_=>exact aJ.stuck p
theorem s9{F:Hp}:∀{ds:List A'} {xs:a0} {bs:List Bool},ay K F ds xs->gN ds=.ok bs->xs=bs.map V.bl
 |[],_,_,q,e=>by cases e;exact q|d::ds,_,bs,⟨v,vs,e1,q,r⟩,e=>by
  cases d with
  |bl b=>
   cases e2:gN ds with
   |error x=>simp_all[gN,]|ok cs=>simp[gN,e2]at e;cases e;rw[e1,show v=.bl b from q,s9 r e2];rfl
  |_=>cases e
theorem sd:∀{ds:List A'} {e:Err},gN ds=.error e->e=.stuck
 |[],_,h=>by cases h|d::ds,e,h=>by
  cases d with
  |bl b=>
   cases e2:gN ds with
   |error x=>simp[gN,e2]at h;cases h;exact sd e2|ok cs=>simp_all[gN,]
  |_=>cases h;rfl
theorem cS{F:Hp}:∀{ds:List A'} {xs:a0} {bs:aG},ay K F ds xs->bj ds=.ok bs->xs=bs.map V.int
 |[],_,_,q,e=>by cases e;exact q|d::ds,_,bs,⟨v,vs,e1,q,r⟩,e=>by
  cases d with
  |int b=>
   cases e2:bj ds with
   |error x=>simp_all[bj,]|ok cs=>simp[bj,e2]at e;cases e;rw[e1,show v=.int b from q,cS r e2];rfl
  |_=>cases e
theorem ee:∀{ds:List A'} {e:Err},bj ds=.error e->e=.stuck
 |[],_,h=>by cases h|d::ds,e,h=>by
  cases d with
  |int b=>
   cases e2:bj ds with
   |error x=>simp[bj,e2]at h;cases h;exact ee e2|ok cs=>simp_all[bj,]
  |_=>cases h;rfl
def c_all(S:X.calm=f_)(U: ~~~(X.K=K)):lO K W own X (.builtin "all") allD:=by
 subst U;refine(call_all S).imp λxs H Q h=>?_;obtain⟨F,d,x,s,e,q,p⟩:=jm (λds=>by match ds with|[d]=>simp|[]=>exact .inr rfl|a::b::c=>exact .inr (by cases a<;>rfl)) h;cases d with
 |lst ds=>
  obtain⟨a,ys,e1,t,r⟩:=q;have J:aJ X.K W own F H ((gN ds).bind λbs=>.ok _) Q:=p;cases eb:gN ds with
  |error z=>rw[eb]at J;have:=sd eb;subst this;exact aJ.stuck J|ok bs=>
   rw[eb]at J;refine⟨a,bs,by rw[e,e1],?_,aJ.bl J s⟩
   rw[<- s9 r eb];exact s.lst t
 |_=>exact aJ.stuck p
def AE(S: ~~~(X.K=K)):lO K W f_ X (.type "list") lb:=by
 subst S;refine nc.imp λxs H Q h=>?_;obtain⟨F,d,x,s,e,q,p⟩:=jm (λds=>by match ds with|[d]=>simp|[]=>exact .inr rfl|a::b::c=>exact .inr (by cases a<;>rfl)) h;cases d with
 |lst ds=>obtain⟨a,ys,e1,t,r⟩:=q;exact⟨a,ys,by rw[e,e1],.inl (s.lst t),λl J=>aJ.lst p s r J⟩
 |tup ds=>obtain⟨a,ys,e1,t,r⟩:=q;exact⟨a,ys,by rw[e,e1],.inr (s.tup t),λl J=>aJ.lst p s r J⟩
 |_=>exact aJ.stuck p
def uy(S: ~~~(X.K=K)):lO K W own X (.type "tuple") mJ:=by
 subst S;refine ur.imp λxs H Q h=>?_;obtain⟨F,d,x,s,e,q,p⟩:=jm (λds=>by match ds with|[d]=>simp|[]=>exact .inr rfl|a::b::c=>exact .inr (by cases a<;>rfl)) h;cases d with
 |lst ds=>obtain⟨a,ys,e1,t,r⟩:=q;exact⟨a,ys,by rw[e,e1],.inl ⟨s.lst t,λl J=>aJ.tup p s r J⟩⟩
 |tup ds=>obtain⟨a,ys,e1,t,r⟩:=q;subst e1;exact⟨a,ys,e,.inr ⟨s.tup t,aJ.same p s ⟨a,ys,rfl,t,r⟩⟩⟩
 |_=>exact aJ.stuck p
def c_int:lO K W own X (.type "int") intD:=Fl.imp λxs H Q h=>by
 obtain⟨F,d,x,s,e,q,p⟩:=jm (λds=>by match ds with|[d]=>simp|[]=>exact .inr rfl|a::b::c=>exact .inr (by cases a<;>rfl)) h;cases d with
 |int i=>exact .inl ⟨i,by rw[e,show x=.int i from q],aJ.int p s⟩|bl b=>exact .inr ⟨b,by rw[e,show x=.bl b from q],aJ.int p s⟩|_=>exact aJ.stuck p
theorem fold_max:∀(J:aG) (i:Int),(J.foldl eY i=i\/J.foldl eY i∈J)/\i<=J.foldl eY i/\∀a∈J,a<=J.foldl eY i
 |[],i=>⟨.inl rfl,Hw _,λ_ h=>nomatch h⟩
 |j::J,i=>by
  obtain⟨h1,U,S⟩:=fold_max J (eY i j);have z:(eY i j=i\/eY i j=j)/\i<=eY i j/\j<=eY i j:=by unfold eY;split<;>(refine⟨?_,?_,?_⟩<;>first|lia)
  grind
theorem fold_min:∀(J:aG) (i:Int),(J.foldl ky i=i\/J.foldl ky i∈J)/\J.foldl ky i<=i/\∀a∈J,J.foldl ky i<=a
 |[],i=>⟨.inl rfl,Hw _,λ_ h=>nomatch h⟩
 |j::J,i=>by
  obtain⟨h1,U,S⟩:=fold_min J (ky i j);have z:(ky i j=i\/ky i j=j)/\ky i j<=i/\ky i j<=j:=by unfold ky;split<;>(refine⟨?_,?_,?_⟩<;>first|lia)
  grind
theorem yA{J:aG}{i m:Int}(h1:m∈i::J)(S:∀a∈i::J,a<=m):J.foldl eY i=m:=by
 obtain⟨Y,g2,U⟩:=fold_max J i
 grind
theorem yz{J:aG}{i m:Int}(h1:m∈i::J)(S:∀a∈i::J,m<=a):J.foldl ky i=m:=by
 obtain⟨Y,g2,U⟩:=fold_min J i
 grind
theorem Fh(k:X.calm=f_):du X (.builtin "max") (λxs H Q=>∃a i S,xs=[.ref a]/\SqL X.K H a ((i::S).map V.int)/\Q (.int (S.foldl eY i)) H):=by
 intro B2 s σ H xs us Q I r h;obtain⟨a,i,S,rfl,d,q⟩:=h;obtain⟨u,rfl,c⟩:=r.one;cases c;obtain⟨its,b,p,o⟩:=I.list d;have hi:=intsAre_of b;obtain⟨xs,e⟩:=hi.allInts.items;have J:i::S=xs.toList.map (·.1):=by rw[<- hi.numsOf,<- NW,<- e]
 have hsz:0<xs.size:=by have l:=J0 L3 J;simp at l;lia
 have U:=p.isList;rw[e]at U;refine max_intList (I.ok.hd k) U hsz λv h' tk hv f=>?_;obtain⟨t,rfl⟩:=O1 hv;obtain⟨h1,n⟩:=argBest_gt (Nl xs) (xs.size-1);refine⟨.int _,H,I.kept f,⟨t,rfl⟩,?_⟩
 have:=yA (m:=Nl xs (J_ (λi j=>s_ (Nl xs i>Nl xs j)) (xs.size-1))) (by
   rw[J,O0];exact getD_mem (by rw[w_,Ge];lia)) (λa Y=>by
   rw[J]at Y;obtain⟨j,g,rfl⟩:=mem_getD Y;rw[w_,Ge]at g;rw[<- O0];exact n j ad)
 rw[<- this];exact q
theorem Ff(k:X.calm=f_):du X (.builtin "min") (λxs H Q=>∃a i S,xs=[.ref a]/\SqL X.K H a ((i::S).map V.int)/\Q (.int (S.foldl ky i)) H):=by
 intro B2 s σ H xs us Q I r h;obtain⟨a,i,S,rfl,d,q⟩:=h;obtain⟨u,rfl,c⟩:=r.one;cases c;obtain⟨its,b,p,o⟩:=I.list d;have hi:=intsAre_of b;obtain⟨xs,e⟩:=hi.allInts.items;have J:i::S=xs.toList.map (·.1):=by rw[<- hi.numsOf,<- NW,<- e]
 have hsz:0<xs.size:=by have l:=J0 L3 J;simp at l;lia
 have U:=p.isList;rw[e]at U;refine min_intList (I.ok.hd k) U hsz λv h' tk hv f=>?_;obtain⟨t,rfl⟩:=O1 hv;obtain⟨h1,n⟩:=argBest_lt (Nl xs) (xs.size-1);refine⟨.int _,H,I.kept f,⟨t,rfl⟩,?_⟩
 have:=yz (m:=Nl xs (J_ (λi j=>s_ (Nl xs i<Nl xs j)) (xs.size-1))) (by
   rw[J,O0];exact getD_mem (by rw[w_,Ge];lia)) (λa Y=>by
   rw[J]at Y;obtain⟨j,g,rfl⟩:=mem_getD Y;rw[w_,Ge]at g;rw[<- O0];exact n j ad)
 simp_all
def xb(U:X.calm=f_)(f: ~~~(X.K=K)):lO K W own X (.builtin "max") maxD:=by
 subst f;refine((Fi U).or (Fh U)).imp λxs H Q h=>?_;rcases CJ (λds=>by match ds with|[d]=>exact .inl ⟨d,rfl⟩|[d,e]=>exact .inr (.inl ⟨d,e,rfl⟩)|[]=>exact .inr (.inr rfl)|a::b::c::d=>exact .inr (.inr (by cases a<;>cases b<;>rfl))) h with⟨F,d,x,s,e,q,p⟩|⟨F,d,Y,x,y,s,e,q,q2,p⟩
 .cases d with
  |lst ds=>
   obtain⟨a,ys,e1,t,r⟩:=q;have J:aJ X.K W own F H ((bj ds).bind maxL) Q:=p;cases eb:bj ds with
   |error z=>rw[eb]at J;have:=ee eb;subst this;exact aJ.stuck J|ok S=>
    rw[eb]at J;cases S with
    |nil=>exact aJ.stuck J|cons i S=>refine .inr ⟨a,i,S,by rw[e,e1],?_,aJ.int J s⟩;rw[<- cS r eb];exact s.lst t
  |_=>exact aJ.stuck p
 .cases d with
  |int i=>
   cases Y with
   |int j=>exact .inl ⟨i,j,by rw[e,show x=.int i from q,show y=.int j from q2],aJ.int p s⟩|_=>exact aJ.stuck p
  |_=>cases Y<;>exact aJ.stuck p
def Fm(U:X.calm=f_)(f: ~~~(X.K=K)):lO K W own X (.builtin "min") minD:=by
 subst f;refine((Fg U).or (Ff U)).imp λxs H Q h=>?_;rcases CJ (λds=>by match ds with|[d]=>exact .inl ⟨d,rfl⟩|[d,e]=>exact .inr (.inl ⟨d,e,rfl⟩)|[]=>exact .inr (.inr rfl)|a::b::c::d=>exact .inr (.inr (by cases a<;>cases b<;>rfl))) h with⟨F,d,x,s,e,q,p⟩|⟨F,d,Y,x,y,s,e,q,q2,p⟩
 .cases d with
  |lst ds=>
   obtain⟨a,ys,e1,t,r⟩:=q;have J:aJ X.K W own F H ((bj ds).bind minL) Q:=p;cases eb:bj ds with
   |error z=>rw[eb]at J;have:=ee eb;subst this;exact aJ.stuck J|ok S=>
    rw[eb]at J;cases S with
    |nil=>exact aJ.stuck J|cons i S=>refine .inr ⟨a,i,S,by rw[e,e1],?_,aJ.int J s⟩;rw[<- cS r eb];exact s.lst t
  |_=>exact aJ.stuck p
 .cases d with
  |int i=>
   cases Y with
   |int j=>exact .inl ⟨i,j,by rw[e,show x=.int i from q,show y=.int j from q2],aJ.int p s⟩|_=>exact aJ.stuck p
  |_=>cases Y<;>exact aJ.stuck p
end
theorem SqL.inj{B2:Vp}{σ:St}{H:Hp}{s:i_}{a:k_}{xs ys:a0}(I:B3 X B2 σ H s)(h:SqL X.K H a xs)(h':SqL X.K H a ys):xs=ys:=by
 obtain⟨f,Y,p1,_⟩:=I.list h;obtain⟨c,U,p2,_⟩:=I.list h';obtain⟨o,n,e,_,_,d⟩:=p1;obtain⟨o',b,J,_,_,S⟩:=p2;rw[e]at J;cases J;rw[d]at S;injection S with d1 _
 have:=by simpa using J0 LB d1
 subst this;exact Y.inj U
theorem SqT.inj{B2:Vp}{σ:St}{H:Hp}{s:i_}{a:k_}{xs ys:a0}(I:B3 X B2 σ H s)(h:SqT X.K H a xs)(h':SqT X.K H a ys):xs=ys:=by
 obtain⟨f,Y,p1,_⟩:=I.tuple h;obtain⟨c,U,p2,_⟩:=I.tuple h';obtain⟨o,e,_,n,d⟩:=p1;obtain⟨o',J,_,b,S⟩:=p2;rw[e]at J;cases J;rw[d]at S;injection S with d1 _
 have:=by simpa using J0 LB d1
 subst this;exact Y.inj U
theorem ay.all_eq{F:Hp}(e:Nat->Bool):∀{ds es:List A'},ds.length=es.length->(∀(j:Nat) a b,ds[j]?=a_ a->es[j]?=a_ b->e j=eqD a b)->(A1 ds.length).all e=uK ds es:=by
 intro ds
 induction ds generalizing e with
 |nil=>intro es h _;cases es with
  |nil=>rfl|cons _ _=>simp at h
 |cons d ds J=>
  intro es h q;cases es with
  |nil=>simp at h|cons b es=>simp_all[KH,uK]
theorem nX:∀{ds es:List A'},ds.length≠es.length->uK ds es=c_
 |[],[],h=>FN rfl h|[],_::_,_=>rfl|_::_,[],_=>rfl|d::ds,e::es,h=>by rw[uK,nX (λz=>h (by simp[z])),Py]
theorem Al(e:Nat->Bool):∀{ds es:List A'},(∀(j:Nat) a b,ds[j]?=a_ a->es[j]?=a_ b->e j=eqD a b)->((A1 (min ds.length es.length)).all e&&ds.length==es.length)=uK ds es:=by
 intro ds es q;by_cases J:ds.length=es.length
 .have e1:min ds.length es.length=ds.length:=ad
  rw[e1,ay.all_eq (F:=λ_=>g_) e J q,J,beq_self_eq_true,PR]
 simp_all[nX]
mutual
theorem lA:∀{d:A'} {n:Nat},C' d n=f_->eqD d d=f_
 |.non,_,_=>rfl|.bl b,_,_=>by simp[eqD]|.int i,_,_=>by simp[eqD]|.tup ds,0,h=>by simp_all[C']|.tup ds,n+1,h=>by simp only[C']at h;simp only[eqD];exact pq h|.lst ds,0,h=>by simp_all[C']|.lst ds,n+1,h=>by simp only[C']at h;simp only[eqD];exact pq h|.ins _ _,_,h=>by simp_all[C']|.dic _,_,h=>by simp_all[C']|.dil _,_,h=>by simp_all[C']
theorem pq:∀{ds:List A'} {n:Nat},iu ds n=f_->uK ds ds=f_
 |[],_,_=>rfl|d::ds,n,h=>by simp only[iu,FH]at h;simp only[uK,lA h.1,pq h.2,Bool.and_self]
end
theorem tm:∀{ds:List A'} {n i:Nat} {d:A'},iu ds n=f_->ds[i]?=a_ d->C' d n=f_
 |[],_,_,_,_,h=>by simp at h|_::_,_,0,_,h,e=>by simp_all[iu]|_::_,_,i+1,_,h,e=>by simp[iu,FH]at h;exact tm h.2 (by simpa using e)
def kc(ds es:List A')(j:Nat):Bool:=match ds[j]?,es[j]? with
 |some a,a_ b=>eqD a b|_,_=>f_
inductive Sh(s:i_):A'->h_->Prop
 |non:Sh s .non .none
 |bl (b:Bool):Sh s (.bl b) (.bool b)
 |int (i:Int) (t:Nat):Sh s (.int i) (.int i t)
 |tup {ds:List A'} {l:k_} {is:Array h_} (p:s.heap.IsTuple l is):Sh s (.tup ds) (.ref l)
 |lst {ds:List A'} {l:k_} {is:Array h_} (p:s.heap.IsList l is):Sh s (.lst ds) (.ref l)
noncomputable def sq:A'->A'->Bool
 |.tup _,.tup _=>f_|.lst _,.lst _=>f_|_,_=>c_
def vc{a b:A'}(h:sq a b=f_):(∃ds es,a=.tup ds/\b=.tup es)\/∃ds es,a=.lst ds/\b=.lst es:=by
 unfold sq at h;split at h
 .exact .inl ⟨_,_,rfl,rfl⟩
 .exact .inr ⟨_,_,rfl,rfl⟩
 .cases h
def eqAt_U{s:i_}{a b:A'}(Y:Sh s a u)(U:Sh s b v)(J:A.units<GB):sq a b=f_\/Ky A s u v (eqD a b):=match Y,U with
 |.non,.non=>.inr (.same _)|.non,.bl b=>.inr (.none_bool b)|.non,.int b S=>.inr (.none_int b S)|.non,.tup q=>.inr (.none_tuple q J)|.non,.lst q=>.inr (.none_list q J)|.bl a,.non=>.inr (.bool_none a)|.bl a,.bl b=>.inr (.bool_bool a b)|.bl a,.int b S=>.inr (.bool_int a b S)|.bl a,.tup q=>.inr (.bool_tuple a q J)|.bl a,.lst q=>.inr (.bool_list a q J)|.int a t,.non=>.inr (.int_none a t)|.int a t,.bl b=>.inr (.int_bool a t b)|.int a t,.int b S=>.inr (.int_int a t b S)|.int a t,.tup q=>.inr (.int_tuple a t q J)|.int a t,.lst q=>.inr (.int_list a t q J)|.tup p,.non=>.inr (.tuple_none p J)|.tup p,.bl b=>.inr (.tuple_bool b p J)|.tup p,.int b S=>.inr (.tuple_int b S p J)|.tup _,.tup _=>.inl rfl|.tup p,.lst q=>.inr (.tuple_list p q J)|.lst p,.non=>.inr (.list_none p J)|.lst p,.bl b=>.inr (.list_bool b p J)|.lst p,.int b S=>.inr (.list_int b S p J)|.lst p,.tup q=>.inr (.list_tuple p q J)|.lst _,.lst _=>.inl rfl
def rcAt_U{s:i_}{a b:A'}(Y:Sh s a u)(U:Sh s b v)(J:A.units<GB):sq a b=f_\/N1 A s u v (eqD a b):=match Y,U with
 |.non,.non=>.inr (.none_none)|.non,.bl b=>.inr (.none_bool b)|.non,.int b S=>.inr (.none_int b S)|.non,.tup q=>.inr (.none_tuple q J)|.non,.lst q=>.inr (.none_list q J)|.bl a,.non=>.inr (.bool_none a)|.bl a,.bl b=>.inr (.bool_bool a b)|.bl a,.int b S=>.inr (.bool_int a b S)|.bl a,.tup q=>.inr (.bool_tuple a q J)|.bl a,.lst q=>.inr (.bool_list a q J)|.int a t,.non=>.inr (.int_none a t)|.int a t,.bl b=>.inr (.int_bool a t b)|.int a t,.int b S=>.inr (.int_int a t b S)|.int a t,.tup q=>.inr (.int_tuple a t q J)|.int a t,.lst q=>.inr (.int_list a t q J)|.tup p,.non=>.inr (.tuple_none p J)|.tup p,.bl b=>.inr (.tuple_bool b p J)|.tup p,.int b S=>.inr (.tuple_int b S p J)|.tup _,.tup _=>.inl rfl|.tup p,.lst q=>.inr (.tuple_list p q J)|.lst p,.non=>.inr (.list_none p J)|.lst p,.bl b=>.inr (.list_bool b p J)|.lst p,.int b S=>.inr (.list_int b S p J)|.lst p,.tup q=>.inr (.list_tuple p q J)|.lst _,.lst _=>.inl rfl
def rcNeAt_U{s:i_}{a b:A'}(Y:Sh s a u)(U:Sh s b v)(J:A.units<GB):sq a b=f_\/M5 A s u v (!eqD a b):=match Y,U with
 |.non,.non=>.inr (.none_none)|.non,.bl b=>.inr (.none_bool b)|.non,.int b S=>.inr (.none_int b S)|.non,.tup q=>.inr (.none_tuple q J)|.non,.lst q=>.inr (.none_list q J)|.bl a,.non=>.inr (.bool_none a)|.bl a,.bl b=>.inr (.bool_bool a b)|.bl a,.int b S=>.inr (.bool_int a b S)|.bl a,.tup q=>.inr (.bool_tuple a q J)|.bl a,.lst q=>.inr (.bool_list a q J)|.int a t,.non=>.inr (.int_none a t)|.int a t,.bl b=>.inr (.int_bool a t b)|.int a t,.int b S=>.inr (.int_int a t b S)|.int a t,.tup q=>.inr (.int_tuple a t q J)|.int a t,.lst q=>.inr (.int_list a t q J)|.tup p,.non=>.inr (.tuple_none p J)|.tup p,.bl b=>.inr (.tuple_bool b p J)|.tup p,.int b S=>.inr (.tuple_int b S p J)|.tup _,.tup _=>.inl rfl|.tup p,.lst q=>.inr (.tuple_list p q J)|.lst p,.non=>.inr (.list_none p J)|.lst p,.bl b=>.inr (.list_bool b p J)|.lst p,.int b S=>.inr (.list_int b S p J)|.lst p,.tup q=>.inr (.list_tuple p q J)|.lst _,.lst _=>.inl rfl
section
variable{s:i_}
def vh(I:B3 X B2 σ H s)(S:aU F H){x:V}(o:C' d n=f_)(q:bc X.K F d x)(r:B5 x u):Sh s d u:=by
 cases d with
 |non=>cases(show x=.non from q);cases r;exact .non|bl b=>cases(show x=.bl b from q);cases r;exact .bl b|int i=>cases(show x=.int i from q);obtain⟨t,rfl⟩:=r;exact .int i t
 |tup ds=>obtain⟨l,xs,e,t,_⟩:=q;subst e;cases r;obtain⟨J,_,p,_⟩:=I.tuple (S.tup t);exact .tup (show s.heap.IsTuple l J.toArray from p)
 |lst ds=>obtain⟨l,xs,e,t,_⟩:=q;subst e;cases r;obtain⟨J,_,p,_⟩:=I.list (S.lst t);exact .lst p.isList
 |_=>simp[C']at o
theorem pB{n:Nat}(U:∀(d e:A') {v:V},bc X.K F d v->bc X.K F e v->C' d n=f_->C' e n=f_->d=e):∀(ds es:List A') {xs:a0},ay X.K F ds xs->ay X.K F es xs->iu ds n=f_->iu es n=f_->ds=es
 |[],[],_,_,_,_,_=>rfl|[],_::_,_,q,⟨_,_,e,_,_⟩,_,_=>by rw[show _=[]from q]at e;cases e|_::_,[],_,⟨_,_,e,_,_⟩,q,_,_=>by rw[show _=[]from q]at e;cases e|d::ds,e::es,_,⟨v,vs,e1,q1,a⟩,⟨w,b,e2,q2,Y⟩,S,J=>by rw[e1]at e2;cases e2;simp[iu,FH]at S J;rw[U d e q1 q2 S.1 J.1,pB U ds es a Y S.2 J.2]
theorem u9{e:A'}{v:V}(hd:sq d d=c_)(q:bc X.K F d v)(r:bc X.K F e v)(S:C' d n=f_)(J:C' e n=f_):d=e:=by
 cases d<;>first|(cases hd;done)|(simp[C']at S;done)|(subst q)
 all_goals cases e<;>first|(simp[C']at J;done)|(first|(obtain⟨_,_,z,_⟩:=r;cases z)|(cases r<;>rfl))
theorem ua(I:B3 X B2 σ H s)(S:aU F H):∀(n:Nat) (d e:A') {v:V},bc X.K F d v->bc X.K F e v->C' d n=f_->C' e n=f_->d=e
 |n,.tup ds,e,v,⟨l,xs,e1,h1,b⟩,r,J,U=>by
  subst e1;cases n with
  |zero=>simp_all[C']|succ n=>
   cases e with
   |tup es=>obtain⟨c,ys,e2,Y,a⟩:=r;cases e2;cases SqT.inj I (S.tup h1) (S.tup Y);rw[pB (ua I S n) _ _ b a (by simp_all[C']) (by simp_all[C'])]
   |lst es=>obtain⟨c,ys,e2,Y,a⟩:=r;cases e2;obtain⟨g,_,p1,_⟩:=I.list (S.lst Y);obtain⟨f,_,p2,_⟩:=I.tuple (S.tup h1);exact FN rfl (M4 p1.isList (show s.heap.IsTuple l f.toArray from p2))
   |_=>first|(simp[C']at U;done)|(cases r)
 |n,.lst ds,e,v,⟨l,xs,e1,h1,b⟩,r,J,U=>by
  subst e1;cases n with
  |zero=>simp_all[C']|succ n=>
   cases e with
   |lst es=>obtain⟨c,ys,e2,Y,a⟩:=r;cases e2;cases SqL.inj I (S.lst h1) (S.lst Y);rw[pB (ua I S n) _ _ b a (by simp_all[C']) (by simp_all[C'])]
   |tup es=>obtain⟨c,ys,e2,Y,a⟩:=r;cases e2;obtain⟨g,_,p1,_⟩:=I.list (S.lst h1);obtain⟨f,_,p2,_⟩:=I.tuple (S.tup Y);exact FN rfl (M4 p1.isList (show s.heap.IsTuple l f.toArray from p2))
   |_=>first|(simp[C']at U;done)|(cases r)
 |_,.non,_,_,q,r,J,U=>u9 rfl q r J U|_,.bl _,_,_,q,r,J,U=>u9 rfl q r J U|_,.int _,_,_,q,r,J,U=>u9 rfl q r J U|_,.ins _ _,_,_,_,_,J,_=>by simp_all[C']|_,.dic _,_,_,_,_,J,_=>by simp_all[C']|_,.dil _,_,_,_,_,J,_=>by simp_all[C']
termination_by n=>n
theorem rcAt_S{a b:A'}{x y:V}(I:B3 X B2 σ H s)(h:aU F H)(P:sq a b=f_)(B:bc X.K F a x)(z:bc X.K F b y)(w:B5 x u)(t:B5 y v)(o:A.units<GB)(E:∀(ds es:List A') (j:Nat) (U S:A') (x y:V) (u v:h_),(a=.tup ds/\b=.tup es\/a=.lst ds/\b=.lst es)->ds[j]?=a_ U->es[j]?=a_ S->bc X.K F U x->bc X.K F S y->B5 x u->B5 y v->Ky A.in1 s u v (eqD U S)):N1 A s u v (eqD a b):=by
 rcases vc P with⟨ds,es,rfl,rfl⟩|⟨ds,es,rfl,rfl⟩
 .obtain⟨D,xs,e1,h1,f⟩:=B;subst e1;cases w;obtain⟨g,c,p1,_⟩:=I.tuple (h.tup h1);obtain⟨C,ys,e2,J,d⟩:=z;subst e2;cases t;obtain⟨n,Y,p2,_⟩:=I.tuple (h.tup J);have L:=c.length;have K:=Y.length;have O:=f.length;have N:=d.length;have q:=SeqAt.RcAt.tuples (A:=A) (e:=kc ds es) (show s.heap.IsTuple D g.toArray from p1) (show s.heap.IsTuple C n.toArray from p2) o (λj h1 J=>by
   obtain⟨k,f1,p⟩:=c.atA h1;obtain⟨i,r,g2⟩:=Y.atA J;obtain⟨U,k1,m⟩:=f.at f1;obtain⟨S,k2,l⟩:=d.at r;rw[show kc ds es j=eqD U S by simp only[kc,k1,k2]];exact E ds es j U S k i _ _ (.inl ⟨rfl,rfl⟩) k1 k2 m l p g2)
  rw[show g.toArray.size=ds.length by simp_all,show n.toArray.size=es.length by simp_all,Al _ (λj a b h1 J=>by simp_all[kc])]at q;exact q
 .obtain⟨D,xs,e1,h1,f⟩:=B;subst e1;cases w;obtain⟨g,c,p1,_⟩:=I.list (h.lst h1);obtain⟨C,ys,e2,J,d⟩:=z;subst e2;cases t;obtain⟨n,Y,p2,_⟩:=I.list (h.lst J);have L:=c.length;have K:=Y.length;have O:=f.length;have N:=d.length;by_cases G:ds.length=es.length
  .have q:=SeqAt.RcAt.lists (A:=A) (e:=kc ds es) p1.isList p2.isList as o (λj h1 J=>by
   obtain⟨k,f1,p⟩:=c.atA h1;obtain⟨i,r,g2⟩:=Y.atA J;obtain⟨U,k1,m⟩:=f.at f1;obtain⟨S,k2,l⟩:=d.at r;rw[show kc ds es j=eqD U S by simp only[kc,k1,k2]];exact E ds es j U S k i _ _ (.inr ⟨rfl,rfl⟩) k1 k2 m l p g2)
   rw[show g.toArray.size=ds.length by grind,ay.all_eq (F:=F) _ G (λj a b h1 J=>by simp_all[kc])]at q;exact q
  .rw[show eqD (.lst ds) (.lst es)=c_ from nX G];exact SeqAt.RcAt.lists_lengths (A:=A) p1.isList p2.isList as o
theorem rcNeAt_S{a b:A'}{x y:V}(I:B3 X B2 σ H s)(h:aU F H)(P:sq a b=f_)(B:bc X.K F a x)(z:bc X.K F b y)(w:B5 x u)(t:B5 y v)(o:A.units<GB)(E:∀(ds es:List A') (j:Nat) (U S:A') (x y:V) (u v:h_),(a=.tup ds/\b=.tup es\/a=.lst ds/\b=.lst es)->ds[j]?=a_ U->es[j]?=a_ S->bc X.K F U x->bc X.K F S y->B5 x u->B5 y v->Ky A.in1 s u v (eqD U S)):M5 A s u v (!eqD a b):=by
 rcases vc P with⟨ds,es,rfl,rfl⟩|⟨ds,es,rfl,rfl⟩
 .obtain⟨D,xs,e1,h1,f⟩:=B;subst e1;cases w;obtain⟨g,c,p1,_⟩:=I.tuple (h.tup h1);obtain⟨C,ys,e2,J,d⟩:=z;subst e2;cases t;obtain⟨n,Y,p2,_⟩:=I.tuple (h.tup J);have L:=c.length;have K:=Y.length;have O:=f.length;have N:=d.length;have q:=SeqAt.RcNeAt.tuples (A:=A) (e:=kc ds es) (show s.heap.IsTuple D g.toArray from p1) (show s.heap.IsTuple C n.toArray from p2) o (λj h1 J=>by
   obtain⟨k,f1,p⟩:=c.atA h1;obtain⟨i,r,g2⟩:=Y.atA J;obtain⟨U,k1,m⟩:=f.at f1;obtain⟨S,k2,l⟩:=d.at r;rw[show kc ds es j=eqD U S by simp only[kc,k1,k2]];exact E ds es j U S k i _ _ (.inl ⟨rfl,rfl⟩) k1 k2 m l p g2)
  rw[show g.toArray.size=ds.length by simp_all,show n.toArray.size=es.length by simp_all,Al _ (λj a b h1 J=>by simp_all[kc])]at q;exact q
 .obtain⟨D,xs,e1,h1,f⟩:=B;subst e1;cases w;obtain⟨g,c,p1,_⟩:=I.list (h.lst h1);obtain⟨C,ys,e2,J,d⟩:=z;subst e2;cases t;obtain⟨n,Y,p2,_⟩:=I.list (h.lst J);have L:=c.length;have K:=Y.length;have O:=f.length;have N:=d.length;by_cases G:ds.length=es.length
  .have q:=SeqAt.RcNeAt.lists (A:=A) (e:=kc ds es) p1.isList p2.isList (by simp;lia) o (λj h1 J=>by
   obtain⟨k,f1,p⟩:=c.atA h1;obtain⟨i,r,g2⟩:=Y.atA J;obtain⟨U,k1,m⟩:=f.at f1;obtain⟨S,k2,l⟩:=d.at r;rw[show kc ds es j=eqD U S by simp only[kc,k1,k2]];exact E ds es j U S k i _ _ (.inr ⟨rfl,rfl⟩) k1 k2 m l p g2)
   rw[show g.toArray.size=ds.length by simp;lia,ay.all_eq (F:=F) _ G (λj a b h1 J=>by simp_all[kc])]at q;exact q
  .rw[show eqD (.lst ds) (.lst es)=c_ from nX G];exact SeqAt.RcNeAt.lists_lengths (A:=A) p1.isList p2.isList (by simp;lia) o
theorem ok_sub{a b S J:A'}{es:List A'}(Y:C' a n=f_)(U:C' b n=f_)(h:a=.tup ds/\b=.tup es\/a=.lst ds/\b=.lst es)(k1:ds[j]?=a_ S)(k2:es[j]?=a_ J):∃m,n=m+1/\C' S m=f_/\C' J m=f_:=by
 cases n with
 |zero=>grind[C']|succ m=>exact⟨m,rfl,by rcases h with⟨rfl,rfl⟩|⟨rfl,rfl⟩<;>exact⟨tm Y k1,tm U k2⟩⟩
theorem eqAt_N(I:B3 X B2 σ H s)(d:aU F H):∀(n:Nat) (a b:A') {x y:V} {u v:h_} {A:G8},C' a n=f_->C' b n=f_->bc X.K F a x->bc X.K F b y->B5 x u->B5 y v->A.units+n<GB->Ky A s u v (eqD a b):=by
 intro n
 induction n with
 |zero=>intro a b x y u v A S f J c Y U k;refine(eqAt_U (vh I d S J Y) (vh I d f c U) ad).resolve_left λh=>?_;rcases vc h with⟨ds,es,rfl,rfl⟩|⟨ds,es,rfl,rfl⟩<;>simp[C']at S
 |succ n G=>
  intro a b x y u v A S f J c Y U k;rcases eqAt_U (A:=A) (vh I d S J Y) (vh I d f c U) ad with h|h
  .by_cases g:x=y
   .subst g;cases(show a=b from ua I d _ a b J c S f);rw[lA S];rcases vc h with⟨ds,es,rfl,_⟩|⟨ds,es,rfl,_⟩<;>(obtain⟨i,xs,e1,_⟩:=J;subst e1;cases Y;cases U;exact SeqAt.EqAt.same _)
   .have q:=rcAt_S (A:=A) I d h J c Y U ad λds es j N L p o t r l k1 k2 D C K g2=>by
     obtain⟨m,e,B,w⟩:=ok_sub S f l k1 k2
     grind
    rcases vc h with⟨ds,es,rfl,rfl⟩|⟨ds,es,rfl,rfl⟩<;>(obtain⟨i,xs,e1,_⟩:=J;obtain⟨E,ys,e2,_⟩:=c;subst e1;subst e2;cases Y;cases U;exact SeqAt.EqAt.of_refs (λz=>g (by rw[z])) q)
  simp_all
def Ez(I:B3 X B2 σ H s)(f:aU F H)(a b:A'){x y:V}(d:C' a n=f_)(c:C' b n=f_)(Y:bc X.K F a x)(U:bc X.K F b y)(S:B5 x u)(J:B5 y v)(e:A.units+n<GB):Ky A s u v (eqD a b):=eqAt_N I f n a b d c Y U S J e
theorem eqAt_I(I:B3 X B2 σ H s)(h:aU F H){a b:A'}(Y:C' a n=f_)(U:C' b n=f_)(k:A.units+n<GB)(ds es:List A')(j:Nat)(S J:A')(x y:V)(u v:h_)(g:a=.tup ds/\b=.tup es\/a=.lst ds/\b=.lst es)(k1:ds[j]?=a_ S)(k2:es[j]?=a_ J)(f:bc X.K F S x)(e:bc X.K F J y)(i:B5 x u)(g2:B5 y v):Ky A.in1 s u v (eqD S J):=by obtain⟨m,rfl,d,c⟩:=ok_sub Y U g k1 k2;exact Ez I h S J d c f e i g2 ad
theorem rcAt_D(I:B3 X B2 σ H s)(J:aU F H)(a b:A'){x y:V}(e:C' a n=f_)(d:C' b n=f_)(c:bc X.K F a x)(Y:bc X.K F b y)(U:B5 x u)(S:B5 y v)(f:A.units+n<GB):N1 A s u v (eqD a b):=
 (rcAt_U (vh I J e c U) (vh I J d Y S) ad).elim (λh=>rcAt_S I J h c Y U S ad (eqAt_I I J e d f)) id
theorem rcNeAt_D(I:B3 X B2 σ H s)(J:aU F H)(a b:A'){x y:V}(e:C' a n=f_)(d:C' b n=f_)(c:bc X.K F a x)(Y:bc X.K F b y)(U:B5 x u)(S:B5 y v)(f:A.units+n<GB):M5 A s u v (!eqD a b):=
 (rcNeAt_U (vh I J e c U) (vh I J d Y S) ad).elim (λh=>rcNeAt_S I J h c Y U S ad (eqAt_I I J e d f)) id
end
section
variable{W:cP}{own:Bool}
def aJ.blS{Q:VK}{s:i_}{b:Bool}(p:aJ K W own F H (.ok (.bl b)) Q)(J:aU F H)(I:B3 X B2 σ H s):EP X B2 σ Q (.bool b) s:=⟨.bl b,H,I,rfl,p.bl J⟩
theorem zV(f:X.A.units+64<GB)(e: ~~~(X.K=K)):Op2 K W own X (Gy .Eq) eqM:=by
 subst e;intro B2 s σ H x y v u Q I Y U h;obtain⟨F,a,b,S,d,c,p⟩:=h;unfold eqM at p;by_cases J:(C' a 40&&C' b 40)=f_
 .rw[p_ J]at p;simp at J;exact rcAt_D I S a b J.1 J.2 d c Y U ad _ _ _ _ (p.blS S I)
 .rw[q_ J]at p;exact p.stuck
theorem o_ne(f:X.A.units+64<GB)(e: ~~~(X.K=K)):Op2 K W own X (Gy .NotEq) neM:=by
 subst e;intro B2 s σ H x y v u Q I Y U h;obtain⟨F,a,b,S,d,c,p⟩:=h;unfold neM at p;by_cases J:(C' a 40&&C' b 40)=f_
 .rw[p_ J]at p;simp at J;exact rcNeAt_D I S a b J.1 J.2 d c Y U ad _ _ _ _ (p.blS S I)
 .rw[q_ J]at p;exact p.stuck
end
section
variable{s:i_}
theorem B3.su{t':Nat}{T:k_}(I:B3 X B2 σ H s)(d:∀b∈ch,Cr X B2 H b)(k:∀b o,b∉ch->s.heap.get? b=a_ o->h'.get? b=a_ o)(f:s.heap.objs.size<=T)(a:xs.length<=t_/\∃its:aH,B6 xs its/\Qe h' T its.toArray):B3 X B2 σ (upd H T (.tup xs)) {s with heap:=h',toks:=t'}:=by
 have J:=I.hok.fresh f;have g:∀b u,H b=a_ u->b∉ch:=λb u e z=>by rw[(d b z).1]at e;lia
 have Y:∀{b:k_} {o:JM},s.heap.get? b=a_ o->b≠T:=λ{b o} e=>E_ (FQ (m_ e) f);refine I.step (λb U=>?_) (λb o _ _ S e _=>k b o S e) (λb o _ _ S e _=>⟨o.slots,k b o S e⟩) (λb o _ e n=>by rw[aw (Y e)];exact n)
  (λb o S e=>⟨o,k b o S e⟩) (λb ys e=>by rw[aw (aL e J)];exact e) (λb o u e=>by rw[aw (aL e J)];exact e) (λb ps e=>⟨#[],by rw[aw (aL e J),e];simp⟩) (λm i=>?_) (λb u e=>?_) I.bare
 .obtain⟨l,f1,j,f3,f4,f5⟩:=d b U;exact⟨f3,f1,f4,f5⟩
 .obtain⟨o,es,ep,h,r⟩:=i;exact⟨o,es,ep,k _ o (λz=>(d _ z).2.1 rfl) h,r⟩
 .by_cases U:b=T
  .subst U;rw[aq]at e;cases e;exact a
  .rw[aw U]at e;refine(I.hok b u e).xA (λc v S q=>k c v ?_ q) (λc q=>?_) λc ys q=>?_
   .grind
   .rw[aw (aL q J)];exact q
   grind[aw]
theorem B3.sv{t':Nat}(I:B3 X B2 σ H s)(S:∀b∈ch,Cr X B2 H b)(k:∀b o,b∉ch->s.heap.get? b=a_ o->h'.get? b=a_ o):B3 X B2 σ H {s with heap:=h',toks:=t'}:=by
 have U:∀b u,H b=a_ u->b∉ch:=λb u e z=>by rw[(S b z).1]at e;lia
 refine I.step (λb d=>?_) (λb o _ _ J e _=>k b o J e) (λb o _ _ J e _=>⟨o.slots,k b o J e⟩) (λb o _ e n=>n)
  (λb o J e=>⟨o,k b o J e⟩) (λb ys e=>e) (λb o u e=>e) (λb ps e=>⟨#[],as⟩) (λm a=>?_) (λb u e=>?_) I.bare
 .obtain⟨g,f1,f,f3,f4,f5⟩:=S b d;exact⟨f3,f1,f4,f5⟩
 .obtain⟨o,es,ep,Y,r⟩:=a;exact⟨o,es,ep,k _ o (λz=>(S _ z).2.1 rfl) Y,r⟩
 .refine(I.hok b u e).xA (λc v J q=>k c v ?_ q) (λ_ q=>q) λ_ _ q=>q
  grind
end
noncomputable def Ite(K:Pn)(a:k_):It:=
 ⟨λi H=>∃xs x,SqL K H a xs/\xs[i]?=a_ x,λi H x H'=>∃T y,H T=g_/\x=.ref T/\H'=upd H T (.tup [.int i,y])/\∀xs,SqL K H a xs->xs[i]?=a_ y,λi H=>∃xs,SqL K H a xs/\xs.length<=i⟩
theorem uV(a e g:k_)(l:e≠g):Turn P w K (.Tuple elts k pos) (Ite K a) [e,g] e (λi h=>(∃J,IsEnum h e g i J)/\h.IsListIter g a i) where
 mem:=by simp
 obj:=λi h st b U=>by
  obtain⟨⟨J,Y⟩,o,e1,c,d⟩:=st
  grind
 keep:=λi h h' st F=>by obtain⟨⟨J,Y⟩,S⟩:=st;exact⟨⟨J,F e aj _ Y⟩,S.at λo x=>F g aj o x⟩
 item:=by
  intro X C hw D G i B2 s σ H E I r st A;subst C hw D;obtain⟨⟨J,Y⟩,S⟩:=st;obtain⟨xs,x,n,v⟩:=A;obtain⟨its,t,p,O⟩:=I.list n;obtain⟨u,hu,N⟩:=t.get v;refine wpAny_pyNext_enum_item Y S p.isList (x:=u) as l λh1 R j Z hsz T=>?_;refine⟨_,rfl,Nk R λL B f=>?_⟩
  have m:=GP (m_ Y);have I1:B3 X B2 σ (upd H s.z (.tup [.int i,x])) {s with heap:=L,toks:=s.toks+1}:=I.su r (λb o U q=>by exact(f.2 b (λz=>U (by simp[z]))).trans (T b o (λz=>U (by simp[z])) (λz=>U (by simp[z])) q)) (o_ _) ⟨aj,[.int i s.toks,u],.cons ⟨_,rfl⟩ (.cons N .nil),⟨_,(f.2 _ m).trans Z,rfl,0,rfl⟩⟩
  refine⟨.ref s.z,_,I1,rfl,⟨s.z,x,I.hok.fresh (o_ _),rfl,rfl,λys Q=>by rw[I.nQ Q n];exact v⟩,⟨⟨u,by simpa using B⟩,j.at λo y=>(f.2 g l.symm).trans y⟩,λb U=>?_⟩
  have W:=(r b U).1;have:b≠s.z:=by
   rcases n_.mp U with rfl|U
   .exact m.symm
   .have:=by simpa using U
    subst this;obtain⟨o,e1,_⟩:=S;exact E_ (m_ e1)
  simp_all[aw]
 done:=by intro X C hw D G i B2 s σ H E I r st A;subst C hw D;obtain⟨⟨J,Y⟩,S⟩:=st;obtain⟨xs,n,v⟩:=A;obtain⟨its,t,p,O⟩:=I.list n;have hl:=t.length;exact wpAny_pyNext_enum_end (I.ok.hd G) Y S p.isList (HE as) λL eb=>⟨rfl,I.sv r λb o U q=>eb b o (λz=>U (by simp[z])) q⟩
 self:=λ_ _ _ _ _ st h=>by obtain⟨⟨J,Y⟩,_⟩:=st;exact JG Y h
theorem pw:∀(ds:List A') (k i:Nat),(eC k ds)[i]?=(ds[i]?).map λd=>.tup [.int ((k+i:Nat):Int),d]
 |[],k,i=>by rfl|d::ds,k,0=>by rfl|d::ds,k,i+1=>by
  rw[eC,Io,pw ds _ i,Io]
  lia
theorem jA:∀(ds:List A') (k:Nat),(eC k ds).length=ds.length
 |[],_=>rfl|d::ds,k=>by rw[eC,FK,jA ds,FK]
theorem vY(t:SqL K F a xs)(z:ay K F ds xs):qJ K F (Ite K a) (eC 0 ds) where
 go:=λi F' H' S J hi=>⟨xs,xs[i]'(by rw[z.length];simp_all[jA]),J.lst (S.lst t),aj⟩
 yl:=λi F' H' x H2 d S J hd Y=>by
  obtain⟨T,y,b,ex,c,Y⟩:=Y;subst ex c;rw[pw]at hd;cases U:ds[i]? with
  |none=>simp_all|some e=>
   rw[U]at hd;simp at hd;subst hd;obtain⟨v,e1,q⟩:=z.get U;have e2:=Y xs (J.lst (S.lst t));rw[e1]at e2;cases e2;refine⟨upd F' T _,Step.lay J b,T,_,rfl,SqT.of aq,?_⟩
   exact⟨.int i,[y],rfl,rfl,y,[],rfl,(q.mono S).mono (aU.upd (J.free b)),rfl⟩
 st:=λF' H' S J=>⟨xs,J.lst (S.lst t),by rw[z.length,jA];simp⟩
section
variable{W:cP}{own:Bool}{a b:GI}{f:ah->M A'}{fr:ah->M (List A')}
def iEnum(K:Pn)(tl:TE):TI:=λσ H R=>tl σ H λx H1=>∃a,x=.ref a/\(∃xs,SqL K H1 a xs)/\R (Ite K a) H1
def pi_enum{tl:TE}(o:Gl X "enumerate")(j:X.mg "enumerate"=g_)(m:PE X a tl)(d: ~~~(j_ [a] X.env=[(c_,FL a X.env)])):
  PI X (.Tuple elts k q) (.Call (.Name "enumerate" p) [a] [] pos) (iEnum X.K tl):=by
 intro B2 s σ H R I h;refine MU (gH I o j boot_enumerate (FR (B' ((aR m cA d) pos B2 s σ H (λvs H1=>match vs with
  |[x]=>∃a,x=.ref a/\(∃xs,SqL X.K H1 a xs)/\R (Ite X.K a) H1
  |_=>False) I h) λus J ⟨vs,H1,U,g,q1⟩=>?_) d rfl))
 rcases vs with _|⟨x,_|⟨_,_⟩⟩
 .exact Gh q1
 rotate_left
 .exact Gh q1
 .obtain⟨l,e1,⟨xs,i⟩,q⟩:=q1;subst e1;obtain⟨u,rfl,f⟩:=g.one;cases f;obtain⟨its,r,pl,t⟩:=U.list i;refine Pm pl.isList λv e Y hsz n=>?_;refine JG e ?_;refine⟨J.z+1,[J.z+1,J.z],_,_,H1,rfl,(U.kept (t':=J.toks) n),uV l _ _ (KA _),⟨⟨_,e⟩,Y⟩,λb c=>?_,q⟩
  have S:J.z<=b:=by
   rcases n_.mp c with rfl|c
   .simp
   .have:=by simpa using c
    exact LP this.symm
  exact U.fpOk S (U.hok.fresh S)
theorem yI(U:X.mg "enumerate"=g_)(Y:DE K W c_ X a fa)(c: ~~~(Gl X "enumerate"))(S: ~~~(j_ [a] X.env=[(c_,FL a X.env)]))(f: ~~~(X.K=K)):
  DI K W X (.Tuple elts k q) (.Call (.Name "enumerate" p) [a] [] pos) (wo fa):=by
 subst f;exact(pi_enum c U Y S).imp λ_ _ _=>by
   intro h;obtain⟨F,ρ,r,s,p⟩:=h;refine aO r s (λe g=>?_) λd hd v F1 H1 J q1=>?_
   .simp_all[wo]
   .have z:wo fa ρ=(ki d).bind λds=>.ok (eC 0 ds):=by unfold wo;rw[hd];rfl
    rw[z]at p;cases d with
    |lst ds=>obtain⟨b,xs,e,t,z⟩:=q1;exact⟨b,e,⟨xs,J.fh.lst t⟩,p _ F1 H1 J (vY t z)⟩
    |_=>exact(W.ns p).elim
def bR:PTs X [] (tDT K W iG):=λB2 s σ H Q I h=>pts_nil B2 s σ H Q I (by obtain⟨F,ρ,r,J,q⟩:=h;exact q F H (Step.refl J))
def bT:PGs X [] (hU []):=by intro B2 s σ H vs us Q I r h;obtain⟨e,h⟩:=h;subst e;exact assignInOrder_nil ⟨σ,H,I,h⟩
def aP{J:bb}(a:X.N.Nodup)(b:PGs X es (hU J))(hi: ~~~(X.N[i]?=a_ x))(S:autoParam (Loc X.env.scope x) Jq7)(Y:autoParam (X.fn x=f_\/X.env.scope.names.lookup x=a_ .local) Jq4)(U: ~~~((Ia (.Name x p::es) X.env).map (·.2)=KL (.Name x p) X.env::(Ia es X.env).map (·.2))):PGs X (.Name x p::es) (hU (i::J)):=zQ (y0 a hi S Y) b U
theorem ie{J:bb}(i:X.calm=f_)(h:PGs X es (hU J))(f: ~~~((Ia es X.env).length=J.length))(S: ~~~((Ia es X.env).findIdx? (·.1)=g_))(j: ~~~(X.K=K)):DG K X (.Tuple es k pos) (.tp J):=by subst j;intro B2 s σ H v u Q I r hw;obtain⟨a,xs,e1,d,g,hw⟩:=hw;subst e1;cases r;obtain⟨its,U,c,l⟩:=I.tuple d;refine assign_Tuple_tuple (I.ok.hd i) c (by simp[f,<- g,U.length]) S λh' Y=>?_;exact h B2 _ σ H xs _ Q (I.kept (t':=s.toks) λb o e=>Y b o (E_ (m_ e)) e) as hw
theorem mW{ix:List (Option Nat)}:∀{S:bb},(∀i∈S,ix[i]?=a_ g_)->∀vs σ' H' (Q:St->Hp->Prop),hU S vs σ' H' Q->hU S vs σ' H' λJ H2=>Q J H2/\∀(i:Nat) v,σ'[i]?=a_ (a_ v)->(∃j,ix[i]?=a_ (a_ j))->J[i]?=a_ (a_ v)
 |[],_,vs,σ',H',Q,⟨e,q⟩=>⟨e,q,λ_ _ h _=>h⟩|i::S,d,vs,σ',H',Q,⟨v,r,e,q⟩=>by
  refine⟨v,r,e,?_⟩
  have:=mW (λj g=>d j (by simp[g])) r _ H' Q q;have Y:∀{S:bb} {vs:a0} {U:St} {H1:Hp} {Q a:St->Hp->Prop},(∀J H2,Q J H2->a J H2)->hU S vs U H1 Q->hU S vs U H1 a:=by
   intro S
   induction S with
   |nil=>rintro vs U H1 Q a m ⟨e,q⟩;exact⟨e,m _ _ q⟩
   |cons i S c=>rintro vs U H1 Q a m ⟨v,r,e,q⟩;exact⟨v,r,e,c m q⟩
  refine Y (λJ H2 b=>?_) this;obtain⟨q1,q2⟩:=b;refine⟨q1,λj w h b=>?_⟩
  obtain⟨l,f⟩:=b;refine q2 j w ?_ ⟨l,f⟩
  grind
def iz{J:bb}(h:∀i∈J,ix[i]?=a_ g_):pP ix (gP K (.tp J)):=λx σ' H' Q ⟨a,xs,e,t,l,q⟩=>⟨a,xs,e,t,l,mW h xs σ' H' Q q⟩
def gc{s:i_}(U:N'.Nodup)(hi: ~~~(N'[i]?=a_ x))(J:autoParam (Loc (b9 X N' sc L cs s H fp).env.scope x) Jq7)(S:autoParam ((b9 X N' sc L cs s H fp).fn x=f_\/(b9 X N' sc L cs s H fp).env.scope.names.lookup x=a_ .local) Jq4):DG K (b9 X N' sc L cs s H fp) (.Name x pos) (.nm i):=pg_c U hi J S
variable{pt:Pat}
def cy(N':List FU)(ix:List (Option Nat))(hi:DI K W X tg iter fi)(b:∀L cs s H fp,DG K (b9 X N' sc L cs s H fp) tg pt)(Y:pP ix (gP K pt))(S:∀L cs s H fp,PTs (b9 X N' sc L cs s H fp) ifs (tDT K W ft))(c:∀L cs s H fp,DE K W c_ (b9 X N' sc L cs s H fp) elt fe)(d: ~~~(X.calm=f_))(J: ~~~(bD X.N X.env.scope N' sc ix=f_))(a: ~~~(sc.kind=.function))(U:autoParam (∀x,Ik iter X.env x=G2 x) Jq6):
  DE K W f_ X (.ListComp elt [⟨tg,iter,ifs,0⟩] sc pos) (cL fi ix pt ft fe):=(pe_comp N' ix d hi b Y S c J a U).imp λ_ _ _=>Dg
def tD_fr{Q:VK}(h:tD K W own f σ H Q):tD K W f_ f σ H Q:=by
 cases own with
 |true=>exact h|false=>obtain⟨F,ρ,r,s,p⟩:=h;exact⟨F,ρ,r,s,p.frz⟩
def Aq(own:Bool)(N':List FU)(ix:List (Option Nat))(h:X.N.Nodup)(hi:DI K W X tg iter fi)(e:∀L cs s H fp,DG K (b9 X N' sc L cs s H fp) tg pt)(b:pP ix (gP K pt))(Y:∀L cs s H fp,PTs (b9 X N' sc L cs s H fp) ifs (tDT K W ft))(f:∀L cs s H fp,DE K W c_ (b9 X N' sc L cs s H fp) elt fe)(d: ~~~(X.N[i]?=a_ x))(U: ~~~(X.env.scope.names.lookup x=a_ .local))(g: ~~~(X.calm=f_))(J: ~~~(G0 (.ListComp elt [⟨tg,iter,ifs,0⟩] sc pos) (a_ (.Name x py)) spos.line X.env=G2 f_))(S: ~~~(bD X.N X.env.scope N' sc ix=f_))(c: ~~~(sc.kind=.function))(a:autoParam (∀x,Ik iter X.env x=G2 x) Jq6):
  DS K W ro X OL O (aft own i O) (.Assign [.Name x py] (.ListComp elt [⟨tg,iter,ifs,0⟩] sc pos) spos) (ax O i (cL fi ix pt ft fe)):=λF0 H0=>
 (qZ N' ix h d U g hi e b Y f J S c a).imp λD σ H t=>Dg (tD_fr (xR t))
def ds_setI{r:Qr}(d:DE K W c_ X e f)(c:DE K W c_ X b fk)(a:(i∈O)⁻¹)(h: ~~~(X.N[i]?=a_ x))(hv:autoParam (Vis X.env.scope x) Jq5)(hd:((x==("__debug__":FU))=c_)⁻¹)(U:((x==("__classdict__":FU))=c_)⁻¹)(g:autoParam (∀v,KL (.Subscript (.Name x p) b q) X.env v=(do
   let J <- IW [v] (FL (.Name x p) X.env)
   let S <- IW [v,J] (FL b X.env)
   K8 q
   IW [v,J,S] (P2 J S v)
   release [v,J,S] [])) Jq6)(Y: ~~~(LU [.Subscript (.Name x p) b q] e r.line X.env=G2 c_))(hw: ~~~(LV [.Subscript (.Name x p) b q] e X.env=G2 g_))(h1: ~~~((Ia [.Subscript (.Name x p) b q] X.env).map (·.2)=[KL (.Subscript (.Name x p) b q) X.env])):
  DS K W ro X OL O O (.Assign [.Subscript (.Name x p) b q] e r) (xO i fk f):=λF0 H0=>(Dq d (pg_sub (pv i h hv hd U) c set_list g) Y hw h1).imp λ_ _ _=>rs_setI a
def EF{pt:Pat}(J:DE K W c_ X e f)(Y:DG K X tg pt)(n:(∀i∈pt.names,i∉O)⁻¹)(U: ~~~(LU [tg] e pos.line X.env=G2 c_))(hw: ~~~(LV [tg] e X.env=G2 g_))(h1: ~~~((Ia [tg] X.env).map (·.2)=[KL tg X.env])):DS K W ro X OL O O (.Assign [tg] e pos) (xN O pt f):=λF0 H0=>(Dq J Y U hw h1).imp λ_ _ _=>by
    intro t;obtain⟨FB,F,ρ,r,p⟩:=t;refine aO r.iQ r.st.fh (λe J=>p.gI r.st (by unfold xN;rw[J];rfl)) λd hd v F1 H1 S q=>?_;have z:xN O pt f ρ=(d7 pt d ρ).bind λρ'=>.ok (.nx ρ'):=by unfold xN;rw[hd];rfl
    rw[z]at p;cases e:d7 pt d ρ with
    |error x=>have:=lJ e;subst this;exact p.stuck (by rw[e];rfl)|ok ρ'=>rw[e]at p;exact gP_rep (r.step S) n q e λσ' r'=>p σ' F1 H1 r'
inductive SpD(K:Pn)(vs:List V)(H:Hp)(n:Nat)(P:Hp->List A'->Prop):Prop
 |mk (F:Hp) (ds:List A') (s:aU F H) (q:ay K F ds vs) (l:ds.length=n) (p:P F ds)
def spF(K:Pn)(ro:Bool)(g:List A'->M A')(n:Nat):Sp:=λvs H Q _=>SpD K vs H n λF ds=>aJ K D' ro F H (g ds) Q
theorem sP(h:ds.length≠n):bo nN n g ds=stk:=by simp_all[]
theorem ER(F:gQ X.prog X.w X.K X.mg X.base CX0 k fad fd ps (spF K ro (bo nN n g) n))(c:gR k X.A)(d:X.mg x=a_ (.ref fad))(f:IT X.K (.ref fad)=f_)(j:Binds X.K fd ps [])(l:DA K D' X (e::es) fr)(i: ~~~(Gl X x))(Y:((x==("__debug__":FU))=c_)⁻¹)(S: ~~~(j_ (e::es) X.env=(c_,FL e X.env)::j_ es X.env))(U: ~~~((GG pos (j_ es X.env)).any (·.1)=c_)):
  DE K D' ro X (.Call (.Name x p) (e::es) [] pos) (fL (bo nN n g) fr):=by
 refine PE.imp (ya F c i d f j .nil vI l Y S U) λσ H Q h=>?_;obtain⟨F,ρ,r,s,p⟩:=rd_L h;refine⟨F,ρ,r,s,?_⟩
 cases e1:fr ρ with
 |error z=>simp_all|ok ds=>
  rw[e1]at p;intro vs F' H' st q;obtain⟨F1,J,b,q1,z⟩:=p vs F' H' st q;rw[HB];by_cases a:J.length=n
  .exact⟨F1,J,b,q1,a,z⟩
  .rw[sP a]at z;exact aJ.stuck z
end
section
variable{base:FX}
theorem v9{vs:a0}(q:ay K F ds vs)(h:(ds.map a_++Gr (N.length-ds.length) g_)[i]?=a_ (a_ d)):AtI (λv=>(start N vs)[i]?=a_ (a_ v)) (bc K F d):=by
 have hi:i<ds.length:=by
  by_cases hi:i<ds.length
  .exact hi
  .simp_all[MA,M9]
 rw[GY as,FY]at h;cases e:ds[i]? with
 |none=>rw[e]at h;cases h|some J=>
  rw[e]at h;cases h;obtain⟨v,e1,q1⟩:=q.get e;refine⟨v,?_,q1⟩
  unfold start;rw[GY (by rw[w_,q.length];exact hi),FY,e1];rfl
theorem fn_D{f:k_}(F:Fun K x qual st f fd)(S:g9 N ps (aF st))(ro:Bool)(g:ah->M B4)(b:∀(cdv:h_) (A:G8) (outer:List MT) (s:i_) (H:Hp) (E:XK),gR k (A.deeper (Jw qual (aF st) s.heap.objs.size f cdv)) ->
   DSs K D' ro (Ax CX0 P w K mg base N qual (aF st) f cdv A outer s H E).nox [] [] O' (cx st) g):gQ P w K mg base CX0 (k+1) f fd ps (spF K ro (bo N.length ps.length g) ps.length):=by
 refine F.okX S (λvs H Q E ⟨F,ds,s,q,l,p⟩=>by rw[q.length,l]) λcdv A outer s H vs Q E U Y=>?_;obtain⟨F1,ds,J,q,l,p⟩:=Y;refine⟨_,b cdv A outer s H E U F1 H,F1,F1,ds.map a_++Gr (N.length-ds.length) g_,?_,?_⟩
 .refine⟨Step.refl J,aU.refl _,?_,λi d e _=>v9 q e,(λi d e h=>nomatch h),(λi j ds es a h=>nomatch h)⟩
  unfold start;rw[Gs,Gs,w_,w_,JD,JD,q.length]
 .have e1:bo N.length ps.length g ds=(g (ds.map a_++Gr (N.length-ds.length) g_)).bind λfl=>match fl with
   |.nx _=>.ok .non|.rt d=>.ok d|_=>stk:=by exact p_ l
  rw[e1]at p;cases e2:g _ with
  |error z=>rw[e2]at p;exact p|ok fl=>
   rw[e2]at p;cases fl with
   |nx ρ=>exact λσ F H r=>p .non F H r.st (by cases ro<;>rfl)
   |rt d=>exact λv F H st q=>p v F H st q|bk ρ=>exact aJ.stuck p|ct ρ=>exact aJ.stuck p
def spLaw(K:Pn):Sp:=λvs H Q _=>∃(a:k_) (ns:aG),vs=[.ref a]/\SqL K H a (ns.map V.int)/\ns.length<=63/\∀H',Q (.bl f_) H'
theorem mv{F:Hp}:∀J:aG,ay K F (J.map A'.int) (J.map V.int)
 |[]=>rfl|i::J=>⟨.int i,J.map V.int,rfl,rfl,mv J⟩
theorem law_ok{f:k_}{J:Nat->List A'->M A'}(F:∀n,gQ P w K mg base CX0 k f fd [x] (spF K ro (J n) 1))(h:∀ns:aG,ns.length<=63->∃n,J n [.lst (ns.map .int)]=.ok (.bl f_)):gQ P w K mg base CX0 k f fd [x] (spLaw K):=by
 refine⟨λvs H Q E ⟨a,ns,e,_⟩=>by rw[e];rfl,λA outer s H S us vs Q E U d g hv ⟨a,ns,e,Y,c,q⟩=>?_⟩
 obtain⟨n,b⟩:=h ns c;refine(F n).run A outer s H S us vs Q E U d g hv ⟨H,[.lst _],aU.refl _,⟨.ref a,[],e,⟨a,_,rfl,Y,mv ns⟩,rfl⟩,rfl,?_⟩;rw[b];intro v F' H' st z;have:v=.bl f_:=by cases ro<;>exact z
 simp_all
end
structure Kit(K:Pn):Prop where
 Di:Hq K (.type "int") (.type "int")=a_ f_
 Bw:Hq K (.type "bool") (.type "int")=a_ f_
 Bt:Hq K (.type "list") (.type "int")=a_ c_
 xT:Hq K (.type "tuple") (.type "int")=a_ c_
 qg:Hq K (.type "NoneType") (.type "int")=a_ c_
 Bv:Hq K (.type "int") (.type "bool")=a_ c_
 xY:Hq K (.type "bool") (.type "bool")=a_ f_
 xV:Hq K (.type "list") (.type "bool")=a_ c_
 vA:Hq K (.type "tuple") (.type "bool")=a_ c_
 ox:Hq K (.type "NoneType") (.type "bool")=a_ c_
 Bu:Hq K (.type "int") (.type "list")=a_ c_
 xX:Hq K (.type "bool") (.type "list")=a_ c_
 xU:Hq K (.type "list") (.type "list")=a_ f_
 vz:Hq K (.type "tuple") (.type "list")=a_ c_
 ou:Hq K (.type "NoneType") (.type "list")=a_ c_
 xW:Hq K (.type "int") (.type "tuple")=a_ c_
 vC:Hq K (.type "bool") (.type "tuple")=a_ c_
 vB:Hq K (.type "list") (.type "tuple")=a_ c_
 sS:Hq K (.type "tuple") (.type "tuple")=a_ f_
 nu:Hq K (.type "NoneType") (.type "tuple")=a_ c_
section
variable{W:cP}{own:Bool}{a b:GI}{fr:ah->M (List A')}
def isi_D{s:i_}{x:V}{U Y bl bt:Bool}{Q:Mq}(I:B3 X B2 σ H s)(S:aU F H)(q:bc X.K F d x)(r:B5 x u)(hi:Hq X.K (.type "int") (.type T)=a_ U)(m:Hq X.K (.type "bool") (.type T)=a_ Y)(j:Hq X.K (.type "list") (.type T)=a_ bl)(f:Hq X.K (.type "tuple") (.type T)=a_ bt)(g:Hq X.K (.type "NoneType") (.type T)=a_ bn)(h:∀k tk,(match d with|.int _=>k=U|.bl _=>k=Y|.lst _=>k=bl|.tup _=>k=bt|.non=>k=bn|.ins _ _=>False|.dic _=>False|.dil _=>False)->Q (.bool k) {s with toks:=tk})(a:∀C fs,d≠.ins C fs)(c:∀ks,d≠.dic ks)(b:∀ks,d≠.dil ks):
  r_ (x_ X.prog X.w) X.A (Jv (.builtin "isinstance") [u,.type T]) Q X.xe s:=by
 cases d with
 |non=>cases(show x=.non from q);cases r;exact Nb PySem.W.kitx_none I.kIn JE g (λz=>nomatch z) λtk=>h _ tk rfl
 |bl y=>cases(show x=.bl y from q);cases r;exact Nb PySem.W.kitx_bool I.kIn JE m (λz=>nomatch z) λtk=>h _ tk rfl
 |int i=>cases(show x=.int i from q);obtain⟨t,rfl⟩:=r;exact Nb PySem.W.kitx_int I.kIn JE hi (λz=>nomatch z) λtk=>h _ tk rfl
 |lst ds=>obtain⟨l,xs,e,t,_⟩:=q;subst e;cases r;obtain⟨its,_,pl,_⟩:=I.list (S.lst t);obtain⟨o,h1,J,_⟩:=pl.isList;exact Nb PySem.W.kitx_list I.kIn ⟨o,h1,J⟩ j (λz=>nomatch z) λtk=>h _ tk rfl
 |tup ds=>obtain⟨l,xs,e,t,_⟩:=q;subst e;cases r;obtain⟨its,_,pl,_⟩:=I.tuple (S.tup t);obtain⟨o,h1,J,_⟩:=pl;exact Nb PySem.W.kitx_tuple I.kIn ⟨o,h1,J⟩ f (λz=>nomatch z) λtk=>h _ tk rfl
 |ins C fs=>exact FN rfl (a C fs)|dic ks=>exact FN rfl (c ks)|dil ks=>exact FN rfl (b ks)
theorem Aw{g:A'->M A'}(j:du X (.builtin "isinstance") (λxs H Q=>∃v,xs=[v,.ty T]/\rD1 K W own g v H Q))(f:X.mg "isinstance"=g_)(Y:X.mg y=g_)(S:Hi y=a_ (.type T))(k:DE K W c_ X a fa)(i: ~~~(Gl X "isinstance"))(b: ~~~(Gl X y))(e:(y≠"__name__")⁻¹)(hd:((y==("__debug__":FU))=c_)⁻¹)(c: ~~~(j_ [a,.Name y p2] X.env=[(c_,FL a X.env),(c_,FL (.Name y p2) X.env)]))(J: ~~~(j_ [.Name y p2] X.env=[(c_,FL (.Name y p2) X.env)]))(U: ~~~((GG pos (j_ [.Name y p2] X.env)).any (·.1)=c_)):
  DE K W own X (.Call (.Name "isinstance" p) [a,.Name y p2] [] pos) (f1 g fa):=
 (gV j i f Lg (aR k (aR (pe_tyN b Y S e hd) cA J) as) al al as U).imp λσ H Q h=>by
  obtain⟨F,ρ,r,s,q⟩:=rd_1 h;refine⟨F,ρ,r,s,?_⟩
  cases e1:fa ρ with
  |error z=>rw[e1]at q;exact q|ok d=>rw[e1]at q;exact λv F' H' st z=>⟨v,rfl,q v F' H' st z⟩
theorem Fq(J:Kit K)(b: ~~~(X.K=K)):du X (.builtin "isinstance") (λxs H Q=>∃v,xs=[v,.ty "int"]/\rD1 K W own nW v H Q):=by
 subst b;intro B2 s σ H xs us Q I r h;obtain⟨v,rfl,F,d,U,q,p⟩:=h;obtain⟨u,w,rfl,Y,S⟩:=r.two;cases(show w=HL "int" from S);by_cases hi:(∃C fs,d=.ins C fs)\/(∃ks,d=.dic ks)\/∃ks,d=.dil ks
 .rcases hi with⟨C,fs,rfl⟩|⟨ks,rfl⟩|⟨ks,rfl⟩<;>exact aJ.stuck p
 .refine isi_D I U q Y J.Di J.Bw J.Bt J.xT J.qg (λk tk a=>⟨.bl k,H,I.tok tk,rfl,?_⟩) (λC fs e=>hi (.inl ⟨C,fs,e⟩)) (λks e=>hi (.inr (.inl ⟨ks,e⟩))) (λks e=>hi (.inr (.inr ⟨ks,e⟩)));cases d<;>first|(subst a;exact aJ.bl p U)|simp_all
def C3(S:Kit K)(d:X.mg "isinstance"=g_)(b:X.mg "int"=g_)(f:DE K W c_ X a fa)(g: ~~~(X.K=K))(e: ~~~(Gl X "isinstance"))(c: ~~~(Gl X "int"))(U: ~~~(j_ [a,.Name "int" p2] X.env=[(c_,FL a X.env),(c_,FL (.Name "int" p2) X.env)]))(J: ~~~(j_ [.Name "int" p2] X.env=[(c_,FL (.Name "int" p2) X.env)]))(Y: ~~~((GG pos (j_ [.Name "int" p2] X.env)).any (·.1)=c_)):
  DE K W own X (.Call (.Name "isinstance" p) [a,.Name "int" p2] [] pos) (f1 nW fa):=Aw (Fq S g) d b (by rfl) f e c al al U J Y
theorem Cg(J:Kit K)(b: ~~~(X.K=K)):du X (.builtin "isinstance") (λxs H Q=>∃v,xs=[v,.ty "bool"]/\rD1 K W own jw v H Q):=by
 subst b;intro B2 s σ H xs us Q I r h;obtain⟨v,rfl,F,d,U,q,p⟩:=h;obtain⟨u,w,rfl,Y,S⟩:=r.two;cases(show w=HL "bool" from S);by_cases hi:(∃C fs,d=.ins C fs)\/(∃ks,d=.dic ks)\/∃ks,d=.dil ks
 .rcases hi with⟨C,fs,rfl⟩|⟨ks,rfl⟩|⟨ks,rfl⟩<;>exact aJ.stuck p
 .refine isi_D I U q Y J.Bv J.xY J.xV J.vA J.ox (λk tk a=>⟨.bl k,H,I.tok tk,rfl,?_⟩) (λC fs e=>hi (.inl ⟨C,fs,e⟩)) (λks e=>hi (.inr (.inl ⟨ks,e⟩))) (λks e=>hi (.inr (.inr ⟨ks,e⟩)));cases d<;>first|(subst a;exact aJ.bl p U)|simp_all
def pC(S:Kit K)(d:X.mg "isinstance"=g_)(b:X.mg "bool"=g_)(f:DE K W c_ X a fa)(g: ~~~(X.K=K))(e: ~~~(Gl X "isinstance"))(c: ~~~(Gl X "bool"))(U: ~~~(j_ [a,.Name "bool" p2] X.env=[(c_,FL a X.env),(c_,FL (.Name "bool" p2) X.env)]))(J: ~~~(j_ [.Name "bool" p2] X.env=[(c_,FL (.Name "bool" p2) X.env)]))(Y: ~~~((GG pos (j_ [.Name "bool" p2] X.env)).any (·.1)=c_)):
  DE K W own X (.Call (.Name "isinstance" p) [a,.Name "bool" p2] [] pos) (f1 jw fa):=Aw (Cg S g) d b (by rfl) f e c al al U J Y
theorem Cf(J:Kit K)(b: ~~~(X.K=K)):du X (.builtin "isinstance") (λxs H Q=>∃v,xs=[v,.ty "list"]/\rD1 K W own lj v H Q):=by
 subst b;intro B2 s σ H xs us Q I r h;obtain⟨v,rfl,F,d,U,q,p⟩:=h;obtain⟨u,w,rfl,Y,S⟩:=r.two;cases(show w=HL "list" from S);by_cases hi:(∃C fs,d=.ins C fs)\/(∃ks,d=.dic ks)\/∃ks,d=.dil ks
 .rcases hi with⟨C,fs,rfl⟩|⟨ks,rfl⟩|⟨ks,rfl⟩<;>exact aJ.stuck p
 .refine isi_D I U q Y J.Bu J.xX J.xU J.vz J.ou (λk tk a=>⟨.bl k,H,I.tok tk,rfl,?_⟩) (λC fs e=>hi (.inl ⟨C,fs,e⟩)) (λks e=>hi (.inr (.inl ⟨ks,e⟩))) (λks e=>hi (.inr (.inr ⟨ks,e⟩)));cases d<;>first|(subst a;exact aJ.bl p U)|simp_all
def yK(S:Kit K)(d:X.mg "isinstance"=g_)(b:X.mg "list"=g_)(f:DE K W c_ X a fa)(g: ~~~(X.K=K))(e: ~~~(Gl X "isinstance"))(c: ~~~(Gl X "list"))(U: ~~~(j_ [a,.Name "list" p2] X.env=[(c_,FL a X.env),(c_,FL (.Name "list" p2) X.env)]))(J: ~~~(j_ [.Name "list" p2] X.env=[(c_,FL (.Name "list" p2) X.env)]))(Y: ~~~((GG pos (j_ [.Name "list" p2] X.env)).any (·.1)=c_)):
  DE K W own X (.Call (.Name "isinstance" p) [a,.Name "list" p2] [] pos) (f1 lj fa):=Aw (Cf S g) d b (by rfl) f e c al al U J Y
theorem yX(J:Kit K)(b: ~~~(X.K=K)):du X (.builtin "isinstance") (λxs H Q=>∃v,xs=[v,.ty "tuple"]/\rD1 K W own jU v H Q):=by
 subst b;intro B2 s σ H xs us Q I r h;obtain⟨v,rfl,F,d,U,q,p⟩:=h;obtain⟨u,w,rfl,Y,S⟩:=r.two;cases(show w=HL "tuple" from S);by_cases hi:(∃C fs,d=.ins C fs)\/(∃ks,d=.dic ks)\/∃ks,d=.dil ks
 .rcases hi with⟨C,fs,rfl⟩|⟨ks,rfl⟩|⟨ks,rfl⟩<;>exact aJ.stuck p
 .refine isi_D I U q Y J.xW J.vC J.vB J.sS J.nu (λk tk a=>⟨.bl k,H,I.tok tk,rfl,?_⟩) (λC fs e=>hi (.inl ⟨C,fs,e⟩)) (λks e=>hi (.inr (.inl ⟨ks,e⟩))) (λks e=>hi (.inr (.inr ⟨ks,e⟩)));cases d<;>first|(subst a;exact aJ.bl p U)|simp_all
def wG(S:Kit K)(d:X.mg "isinstance"=g_)(b:X.mg "tuple"=g_)(f:DE K W c_ X a fa)(g: ~~~(X.K=K))(e: ~~~(Gl X "isinstance"))(c: ~~~(Gl X "tuple"))(U: ~~~(j_ [a,.Name "tuple" p2] X.env=[(c_,FL a X.env),(c_,FL (.Name "tuple" p2) X.env)]))(J: ~~~(j_ [.Name "tuple" p2] X.env=[(c_,FL (.Name "tuple" p2) X.env)]))(Y: ~~~((GG pos (j_ [.Name "tuple" p2] X.env)).any (·.1)=c_)):
  DE K W own X (.Call (.Name "isinstance" p) [a,.Name "tuple" p2] [] pos) (f1 jU fa):=Aw (yX S g) d b (by rfl) f e c al al U J Y
def tRng(ta:TA)(lo hi:a0->Option Int):TE:=λσ H Q=>ta σ H λvs H1=>∃i j,lo vs=a_ i/\hi vs=a_ j/\(-(2^62)<=i/\i<2^62/\ -(2^62)<=j/\j<2^62)/\∀r,H1 r=g_->Q (.ref r) (upd H1 r (.rng i j))
noncomputable def lo1:a0->Option Int
 |[.int _]=>a_ 0|_=>g_
noncomputable def hi1:a0->Option Int
 |[.int j]=>a_ j|_=>g_
noncomputable def lo2:a0->Option Int
 |[.int i,.int _]=>a_ i|_=>g_
noncomputable def hi2:a0->Option Int
 |[.int _,.int j]=>a_ j|_=>g_
def zK{s:i_}{hi:Int}{t u v:Tok}{tk:Nat}(I:B3 X B2 σ H s):B3 X B2 σ (upd H s.heap.objs.size (.rng lo hi)) {s with heap:=s.heap.push {cls:=.type "range",data:=.fields #[.int lo t,.int hi u,.int 1 v]},toks:=tk}:=
 I.laid (λb o e=>d_ _ e) (o_ _) ⟨t,u,v,l_ _ rfl⟩
def pe_rng1{ta:TA}(c:Gl X "range")(b:X.mg "range"=g_)(d:PA X [a] ta)(U: ~~~(j_ [a] X.env=[(c_,FL a X.env)])):PE X (.Call (.Name "range" p) [a] [] pos) (tRng ta lo1 hi1):=by
 intro B2 s σ H Q I h;refine MU (gH I c b NC (FR (B' (d pos B2 s σ H _ I h) λus e Y=>?_) U rfl));obtain⟨vs,H1,S,J,q1⟩:=Y;obtain⟨i,j,e1,e2,f,q⟩:=q1
 match vs,J,e1,e2 with
 |[.int k],J,e1,e2=>cases e1;cases e2;obtain⟨u,rfl,t,rfl⟩:=J.one;exact call_range_1 ⟨.ref _,_,zK S,rfl,q _ S.fresh⟩
theorem pe_rng2{ta:TA}(d:Gl X "range")(c:X.mg "range"=g_)(e:PA X [a,b] ta)(g: ~~~(j_ [a,b] X.env=[(c_,FL a X.env),(c_,FL b X.env)]))(S: ~~~(j_ [b] X.env=[(c_,FL b X.env)])):PE X (.Call (.Name "range" p) [a,b] [] pos) (tRng ta lo2 hi2):=by
 intro B2 s σ H Q I h;refine MU (gH I d c NC (FR (B' (e pos B2 s σ H _ I h) λus f Y=>?_) as (by rw[S];rfl)));obtain⟨vs,H1,U,J,q1⟩:=Y;obtain⟨i,j,e1,e2,l,q⟩:=q1
 match vs,J,e1,e2 with
 |[.int k,.int m],J,e1,e2=>cases e1;cases e2;obtain⟨u,w,rfl,⟨t,rfl⟩,t',rfl⟩:=J.two;exact call_range_2 ⟨.ref _,_,zK U,rfl,q _ U.fresh⟩
theorem B6.of_get:∀{xs:a0} {us:aH},xs.length=us.length->(∀(i:Nat) v u,xs[i]?=a_ v->us[i]?=a_ u->B5 v u)->B6 xs us
 |[],[],_,_=>.nil|[],_::_,h,_=>by simp at h|_::_,[],h,_=>by simp at h|x::xs,u::us,h,q=>.cons (q 0 x u rfl rfl) (B6.of_get as λi v w h1 J=>q (i+1) v w as as)
def rB:∀{n:Nat} {J:aH},J.length=n->(∀(i:Nat) v,J[i]?=a_ v->∃t,v=.int (lo+i) t)->B6 ((A1 n).map λk:Nat=>V.int (lo+k)) J:=by
 intro n J S h;refine B6.of_get (by simp[S]) λi v u e1 e2=>?_;obtain⟨t,rfl⟩:=h i u e2;have hi:=by have:=(v_.mp e1).1;simpa using this
 rw[FY,JS hi]at e1;cases e1;exact⟨t,rfl⟩
theorem uw(b:X.calm=f_):du X (.type "list") (λxs H Q=>∃r lo hi,xs=[.ref r]/\H r=a_ (.rng lo hi)/\(-(2^62)<=lo/\lo<2^62/\ -(2^62)<=hi/\hi<2^62)/\(hi-lo).toNat<=t_/\∀l,H l=g_->Q (.ref l) (upd H l (.lst ((A1 (hi-lo).toNat).map λk:Nat=>V.int (lo+k))))):=by
 intro B2 s σ H xs us Q I Y h;obtain⟨r,lo,hi,rfl,c,⟨b1,b2,b3,f⟩,g,q⟩:=h;obtain⟨u,rfl,U⟩:=Y.one;cases U;obtain⟨t,u,v,e⟩:=(show ∃t u v,s.heap.get? r=a_ {cls:=.type "range",data:=.fields #[.int lo t,.int hi u,.int 1 v]}from I.hok r _ c)
 refine call_list_range (n:=(hi-lo).toNat) (I.ok.hd b) e (Qk b1 b2 b3 f) (by grind[NV]) as λh' tk J d a e2 S=>?_;have hv:B6 ((A1 (hi-lo).toNat).map λk:Nat=>V.int (lo+k)) J.toList:=rB (by exact S.1) λi v hi=>by
  obtain⟨t,e⟩:=S.2 i v (by simpa using hi)
  simp_all
 exact⟨.ref _,_,I.laid a (o_ _) (show dq _ h' _ (.lst _)from⟨as,J.toList,d,hv,as⟩),rfl,q _ I.fresh⟩
def pA(lo:Int)(n:Nat):ay K F (aE lo n) ((A1 n).map λk:Nat=>V.int (lo+k)):=by
 refine ay.of_get (by simp[aE]) λi d v h1 J=>?_;have hi:=by have:=(v_.mp J).1;simpa using this
 unfold aE at h1;rw[FY,JS hi]at h1 J;cases h1;cases J;rfl
theorem lrng_end{Q:VK}{i j:Int}(p:aJ K W f_ F H1 (bW (aE i (j-i).toNat)) Q)(s:aU F H1)(Y:H1 r=g_):
  (j-i).toNat<=t_/\∀l,upd H1 r (.rng i j) l=g_->Q (.ref l) (upd (upd H1 r (.rng i j)) l (.lst ((A1 (j-i).toNat).map λk:Nat=>V.int (i+k)))):=by
 unfold bW at p;by_cases U:(aE i (j-i).toNat).length<=t_
 .rw[p_ U]at p;refine⟨by simp_all[aE],λl J=>?_⟩
  have S:Step F H1 F (upd H1 r (.rng i j)):=Step.grow s Y;have e:=S.hh.free J;exact p _ F _ (S.trans (Step.grow S.fh J)) ⟨l,_,rfl,aq,s.free e,e,pA i _⟩
 .rw[q_ U]at p;exact(W.ns p).elim
theorem de_lrng2(f:X.mg "list"=g_)(u:X.mg "range"=g_)(y:DA K W X [a,b] fr)(x: ~~~(X.calm=f_))(w: ~~~(Gl X "range"))(g: ~~~(Gl X "list"))(t: ~~~(j_ [a,b] X.env=[(c_,FL a X.env),(c_,FL b X.env)]))(c: ~~~(j_ [b] X.env=[(c_,FL b X.env)]))(S: ~~~(j_ [.Call (.Name "range" q1) [a,b] [] q2] X.env=[(c_,FL (.Call (.Name "range" q1) [a,b] [] q2) X.env)])):DE K W f_ X (.Call (.Name "list" p) [.Call (.Name "range" q1) [a,b] [] q2] [] pos) (fLR (iH Br fr)):=by
 refine PE.imp (kW (uw x) g f G6 (aR (pe_rng2 w u y t c) cA S) al al S rfl) λσ H Q h=>?_;obtain⟨F,ρ,r,s,p⟩:=h;refine jk r s (λe z=>p.err (by simp_all[fLR])) λds hd xs F1 H1 k q1=>?_;have e1:fLR (iH Br fr) ρ=(Br ds).bind bW:=by unfold fLR iH;rw[hd];rfl
 rw[e1]at p;have p1:=p.step k;by_cases U:∃i j,ds=[.int i,.int j]
 .obtain⟨i,j,rfl⟩:=U;obtain⟨v,vs,e2,q2,n,Y,e3,q,e4⟩:=q1;have p2:aJ K W f_ F1 H1 ((if (bK i&&bK j)=f_ then Hc (aE i (j-i).toNat)else Ir Err.stuck).bind bW) Q:=p1;by_cases J:(bK i&&bK j)=f_
  .rw[p_ J]at p2;unfold bK at J;simp at J;have e5:xs=[.int i,.int j]:=by rw[e2,show v=.int i from q2,e3,show n=.int j from q,show Y=[]from e4]
   subst e5;refine⟨i,j,rfl,rfl,⟨J.1.1,J.1.2,J.2.1,J.2.2⟩,λo d=>?_⟩
   obtain⟨m,l⟩:=lrng_end p2 k.fh d;exact⟨o,i,j,rfl,aq,⟨J.1.1,J.1.2,J.2.1,J.2.2⟩,m,l⟩
  .rw[q_ J]at p2;exact(W.ns p2).elim
 .have:Br ds=.error .stuck:=by
   unfold Br;split
   .exact FN ⟨_,_,rfl⟩ U
   .rfl
  rw[this]at p1;exact(W.ns p1).elim
end
def cD{s:i_}{J:bb}(a:N'.Nodup)(b:PGs (b9 X N' sc L cs s H fp) es (hU J))(hi: ~~~(N'[i]?=a_ x))(S:autoParam (Loc (b9 X N' sc L cs s H fp).env.scope x) Jq7)(Y:autoParam ((b9 X N' sc L cs s H fp).fn x=f_\/(b9 X N' sc L cs s H fp).env.scope.names.lookup x=a_ .local) Jq4)(U: ~~~((Ia (.Name x p::es) (b9 X N' sc L cs s H fp).env).map (·.2)=KL (.Name x p) (b9 X N' sc L cs s H fp).env::(Ia es (b9 X N' sc L cs s H fp).env).map (·.2))):PGs (b9 X N' sc L cs s H fp) (.Name x p::es) (hU (i::J)):=zQ (pg_c a hi S Y) b U
open PySem.W in
noncomputable def dG{α:Type}(lt:Nat->Nat->Bool):KasT α->α
 |.ret a=>a|.ask i j k=>dG lt (k (lt i j))
section
open PySem.W
variable{lt:Nat->Nat->Bool}
theorem ip(f:α->KasT β):∀t:KasT α,dG lt (t.bind f)=dG lt (f (dG lt t))
 |.ret _=>rfl|.ask i j k=>ip f (k _)
variable{key:Nat->Int}{p:Array Nat}
noncomputable def kAt(key:Nat->Int)(p:Array Nat)(i:Nat):Int:=key (p.getD i 0)
def Up(key:Nat->Int)(p:Array Nat)(k:Nat):Prop:=∀i j,i<=j->j<k->kAt key p i<=kAt key p j
def Down(key:Nat->Int)(p:Array Nat)(k:Nat):Prop:=∀i j,i<=j->j<k->kAt key p j<=kAt key p i
theorem jv{p q:Array Nat}(h:p[i]?=q[j]?):kAt key p i=kAt key q j:=by simp_all[kAt]
def oV(J:j<=p.size)(k:Nat):kAt key (K9 p i j) k=if i<=k/\k<j then kAt key p (i+j-1-k)else kAt key p k:=by
 have e:=getElem?_mirror_all (i:=i) J k;split
 .rename_i h;rw[p_ h]at e;exact jv e
 .rename_i h;rw[q_ h]at e;exact jv e
def kAt_bub{src d:Nat}(S:src<p.size)(hd:d<=src)(k:Nat):kAt key (bubble p src d) k=if k=src-d then kAt key p src else if src-d<k/\k<=src then kAt key p (k-1)else kAt key p k:=by
 have e:=getElem?_bubble S d hd k;split
 .rename_i h;rw[p_ h]at e;exact jv e
 .rename_i h;rw[q_ h]at e;split
  .rename_i J;rw[p_ J]at e;exact jv e
  .rename_i J;rw[q_ J]at e;exact jv e
theorem iP:(K9 p i j).size=p.size:=mirror_size _ _ _ _
def gi:(K9 p i j).Perm p:=mirror_perm _ _ _ _
noncomputable def ltK(key:Nat->Int)(i j:Nat):Bool:=s_ (key i<key j)
theorem Fy(p:Array Nat):∀(f n:Nat),1<=n->Up key p n->n<=dG (ltK key) (Ka p f n)/\dG (ltK key) (Ka p f n)<=n+f/\Up key p (dG (ltK key) (Ka p f n)) /\
  (dG (ltK key) (Ka p f n)<n+f->kAt key p (dG (ltK key) (Ka p f n))<kAt key p (dG (ltK key) (Ka p f n)-1))
 |0,n,h1,h=>⟨o_ _,o_ _,h,λz=>FN z (Ii _)⟩|f+1,n,h1,h=>by
  have e:dG (ltK key) (Ka p (f+1) n)=if kAt key p n<kAt key p (n-1)then n else dG (ltK key) (Ka p f (n+1)):=by
   show dG _ (if ltK key _ _=f_ then LF n else Ka p f _)=_;by_cases J:kAt key p n<kAt key p (n-1)
   .rw[p_ (show ltK key _ _=f_ from HU J),p_ J];rfl
   .rw[q_ (show ¬ltK key _ _=f_ from λz=>J (H9 z)),q_ J]
  rw[e];by_cases J:kAt key p n<kAt key p (n-1)
  .simp_all
  .obtain⟨g,d,c,b⟩:=Fy p f (n+1) ad (λi j U a=>by
    by_cases S:j<n
    .exact h i j U S
    .have:j=n:=ad
     subst this;by_cases Y:i=j
     .simp_all
     .have:=h i (j-1) ad ad;lia)
   lia
def Alike(key:Nat->Int)(p:Array Nat)(n q:Nat):Prop:=∀i,n-(q+1)<=i->i<n->kAt key p i=kAt key p (n-1)
theorem FA:Alike key p (n+1) 0:=λi h1 J=>by grind
theorem vx{q:Nat}(S:n<=p.size)(J:Alike key p n q)(U:q+1<=n)(k:Nat):kAt key (K9 p (n-(q+1)) n) k=kAt key p k:=by
 rw[oV S];split
 .rename_i h;rw[J _ ad ad,J k h.1 h.2]
 .rfl
theorem u7:∀(f:Nat) (p:Array Nat) (n q:Nat),1<=n->q+1<=n->n+f<=p.size->Down key p n->Alike key p n q->∀Y U a,dG (ltK key) (JH f p n q)=(Y,U,a) ->
  Y.Perm p/\Y.size=p.size/\n<=U/\U<=n+f/\a+1<=U/\Down key Y U/\Alike key Y U a
 |0,p,n,q,h1,v,x,hd,o,Y,U,a,e=>by
  cases e
  simp_all
 |f+1,p,n,q,h1,v,x,hd,o,Y,U,a,e=>by
  have A:dG (ltK key) (JH (f+1) p n q)=if kAt key p n<kAt key p (n-1)then(if q>0 then dG (ltK key) (JH f (K9 p (n-(q+1)) n) (n+1) 0)else dG (ltK key) (JH f p (n+1) 0))
    else if kAt key p (n-1)<kAt key p n then(p,n,q)else dG (ltK key) (JH f p (n+1) (q+1)):=by
   show dG (ltK key) (if ltK key (p.getD n 0) (p.getD (n-1) 0)=f_ then(if q>0 then JH f (K9 p (n-(q+1)) n) (n+1) 0 else JH f p (n+1) 0)
    else KasT.ask (p.getD (n-1) 0) (p.getD n 0) λd=>if d=f_ then .ret (p,n,q)else JH f p (n+1) (q+1))=_
   by_cases b:kAt key p n<kAt key p (n-1)
   .rw[p_ (show ltK key (p.getD n 0) (p.getD (n-1) 0)=f_ from HU b),p_ b]
    lia
   .rw[q_ (show ¬ltK key (p.getD n 0) (p.getD (n-1) 0)=f_ from λz=>b (H9 z)),q_ b];show dG (ltK key) (if ltK key (p.getD (n-1) 0) (p.getD n 0)=f_ then LF (p,n,q)else JH f p (n+1) (q+1))=_;by_cases S:kAt key p (n-1)<kAt key p n
    .rw[p_ (show ltK key (p.getD (n-1) 0) (p.getD n 0)=f_ from HU S),p_ S];rfl
    .rw[q_ (show ¬ltK key (p.getD (n-1) 0) (p.getD n 0)=f_ from λz=>S (H9 z)),q_ S]
  rw[A]at e;have J:∀{r:Array Nat},(∀k,kAt key r k=kAt key p k)->kAt key p n<=kAt key p (n-1)->Down key r (n+1):=λ{r} h y i j m B=>by
   rw[h,h];by_cases l:j<n
   .exact hd i j m l
   .have:j=n:=ad
    subst this;by_cases g:i=j
    .simp_all
    .have:=hd i (j-1) ad ad;lia
  by_cases b:kAt key p n<kAt key p (n-1)
  .rw[p_ b]at e;by_cases c:q>0
   .rw[p_ c]at e;have h:=vx (key:=key) (p:=p) (n:=n) (q:=q) ad o v;obtain⟨b1,b2,b3,w,u,t,s⟩:=u7 f _ (n+1) 0 ad ad (by grind[iP]) (J h ad) FA Y U a e;exact⟨b1.trans gi,by rw[b2,iP],ad,ad,u,t,s⟩
   .rw[q_ c]at e;obtain⟨b1,b2,b3,w,u,t,s⟩:=u7 f _ (n+1) 0 ad ad ad (J (λ_=>rfl) ad) FA Y U a e
    lia
  .rw[q_ b]at e;by_cases S:kAt key p (n-1)<kAt key p n
   .simp_all
   .rw[q_ S]at e;obtain⟨b1,b2,b3,w,u,t,s⟩:=u7 f _ (n+1) (q+1) ad ad ad (J (λ_=>rfl) ad) (λi h1 C=>by
     rw[Nat.add_sub_cancel];by_cases g:i=n
     .rw[g]
     .have:=o i ad ad;lia) Y U a e
    lia
theorem zp(h1:1<=n)(b:n<=nrem)(a:nrem<=p.size)(hd:Down key p n):∀m J,dG (ltK key) (Qp n nrem p)=(m,J)->J.Perm p/\J.size=p.size/\1<=m/\m<=nrem/\Up key J m:=by
 intro m J e;unfold Qp at e;rw[ip]at e;cases e;have S:Up key (K9 p 0 n) n:=λi j U c=>by rw[oV ad,oV ad,p_ ⟨GD _,ad⟩,p_ ⟨GD _,ad⟩];exact hd _ _ ad ad
 obtain⟨f,d,Y,_⟩:=Fy _ _ n h1 S;exact⟨gi,iP,ad,ad,Y⟩
theorem pz(h1:1<=n)(u:n+1<=nrem)(t:nrem<=p.size)(g:∀i,i<n->kAt key p i=kAt key p (n-1))(l:kAt key p n<kAt key p (n-1)):∀m J,dG (ltK key) (Mi n nrem p)=(m,J)->J.Perm p/\J.size=p.size/\1<=m/\m<=nrem/\Up key J m:=by
 intro m J e;unfold Mi at e;rw[ip]at e;obtain⟨r,n2,q2⟩:∃r n2 q2,dG (ltK key) (JH (nrem-(n+1)) p (n+1) 0)=(r,n2,q2):=⟨_,_,_,rfl⟩
 obtain⟨q2,h⟩:=q2;rw[h]at e;obtain⟨b1,b2,b3,v,s,k,q⟩:=u7 _ p _ 0 ad ad ad (λi j S f=>by grind) FA r n2 q2 h
 by_cases d:q2>0
 .simp[p_ d]at e;have c:=vx ad q s;obtain⟨b,o,a,Y,U⟩:=zp ad ad (by simp_all[iP]) (λi j S f=>by rw[c,c];exact k i j S f) m J e;exact⟨b.trans (gi.trans b1),by simp_all[iP],a,Y,U⟩
 .simp[q_ d]at e;obtain⟨b,o,a,Y,U⟩:=zp ad ad ad k m J e;exact⟨b.trans b1,as,a,Y,U⟩
theorem count_ok(h1:1<=nrem)(f:nrem<=p.size):∀m J,dG (ltK key) (Od nrem p)=(m,J)->J.Perm p/\J.size=p.size/\1<=m/\m<=nrem/\Up key J m:=by
 intro m J e;unfold Od at e;rw[ip]at e;obtain⟨d,w,a,c⟩:=Fy p (nrem-1) 1 (o_ _) (λi j k A=>by simp_all);obtain⟨n,o⟩:∃n,dG (ltK key) (Ka p (nrem-1) 1)=n:=⟨_,rfl⟩
 rw[o]at e d w a c;by_cases Y:(n==nrem)=f_
 .simp only[p_ Y]at e;cases e
  simp_all
 .simp only[q_ Y]at e;have h:n≠nrem:=λz=>Y (by simp[z]);have S:=c ad;by_cases l:n>1
  .simp only[p_ l]at e;have U:dG (ltK key) (if ltK key (p.getD 0 0) (p.getD (n-1) 0)=f_ then LF (n,p)else Mi n nrem (K9 p 0 n))=(m,J):=e;by_cases b:kAt key p 0<kAt key p (n-1)
   .rw[p_ (show ltK key (p.getD 0 0) (p.getD (n-1) 0)=f_ from HU b)]at U;cases U
    simp_all
   .rw[q_ (show ¬ltK key (p.getD 0 0) (p.getD (n-1) 0)=f_ from λz=>b (H9 z))]at U;have v:∀i,i<n->kAt key p i=kAt key p (n-1):=λi hi=>by
     have y:=a 0 i ad hi;have x:=a i (n-1) ad ad;lia
    have g:∀i,i<n->kAt key (K9 p 0 n) i=kAt key p (n-1):=λi hi=>by
     rw[oV ad]
     grind
    obtain⟨u,t,s,r,q⟩:=pz (nrem:=nrem) d ad (by simp_all[iP]) (λi hi=>by grind) (by rw[g (n-1) ad,oV ad,q_ ad];exact S) m J U
    exact⟨u.trans gi,by rw[t,iP],s,r,q⟩
  .have:n=1:=ad
   subst this;exact pz (key:=key) (o_ _) ad f (λi hi=>by simp_all) S m J e
theorem sX{k:Nat}(U:Up key p k):∀(f l r:Nat),r<=k->r-l<=f->l<=r->(∀i,i<l->kAt key p i<=kAt key p k)->(∀i,r<=i->i<k->kAt key p k<kAt key p i) ->
  dG (ltK key) (HX p k f l r)<=k/\(∀i,i<dG (ltK key) (HX p k f l r)->kAt key p i<=kAt key p k)/\∀i,dG (ltK key) (HX p k f l r)<=i->i<k->kAt key p k<kAt key p i
 |0,l,r,Y,g,a,h1,d=>by
  have:l=r:=ad
  subst this;exact⟨Y,h1,d⟩
 |f+1,l,r,Y,g,a,h1,d=>by
  by_cases S:l>=r
  .have:l=r:=ad
   subst this;have e:dG (ltK key) (HX p k (f+1) l l)=l:=by show dG _ (if l>=l then LF l else _)=l;rw[p_ S];rfl
   simp_all
  .have e:dG (ltK key) (HX p k (f+1) l r)=if kAt key p k<kAt key p ((l+r)/2)then dG (ltK key) (HX p k f l ((l+r)/2))else dG (ltK key) (HX p k f ((l+r)/2+1) r):=by
    show dG _ (if l>=r then LF l else .ask _ _ λc=>if c=f_ then HX p k f l _ else HX p k f _ r)=_;rw[q_ S];show dG _ (if ltK key _ _=f_ then HX p k f l _ else HX p k f _ r)=_;by_cases J:kAt key p k<kAt key p ((l+r)/2)
    .rw[p_ (show ltK key _ (p.getD ((l+r)/2) 0)=f_ from HU J),p_ J]
    .rw[q_ (show ¬ltK key (p.getD k 0) (p.getD ((l+r)/2) 0)=f_ from λz=>J (H9 z)),q_ J]
   rw[e];by_cases J:kAt key p k<kAt key p ((l+r)/2)
   .rw[p_ J];exact sX U f l ((l+r)/2) ad ad ad h1 λi hi b=>by have:=U ((l+r)/2) i hi b;lia
   .rw[q_ J];exact sX U f ((l+r)/2+1) r Y ad ad (λi hi=>by have:=U i ((l+r)/2) ad ad;lia) d
theorem bin_ok:∀(f:Nat) (p:Array Nat) (k:Nat),k+f<=p.size->Up key p k->(dG (ltK key) (Nc f p k)).Perm p/\Up key (dG (ltK key) (Nc f p k)) (k+f)
 |0,p,k,b,J=>⟨Array.Perm.refl _,J⟩|f+1,p,k,b,J=>by
  have e:dG (ltK key) (Nc (f+1) p k)=dG (ltK key) (Nc f (bubble p k (k-dG (ltK key) (HX p k k 0 k))) (k+1)):=by show dG _ ((HX p k k 0 k).bind λl=>Nc f _ _)=_;rw[ip]
  rw[e];obtain⟨o,n,m⟩:=sX J k 0 k (o_ _) ad (GD _) (λi hi=>FN hi (Mu _)) (λi h1 r=>by lia);obtain⟨l,g⟩:∃l,dG (ltK key) (HX p k k 0 k)=l:=⟨_,rfl⟩
  rw[g]at o n m ⊢;have a:=kAt_bub (key:=key) (p:=p) (src:=k) (d:=k-l) ad ad;obtain⟨h,s⟩:=bin_ok f (bubble p k _) (k+1) (by grind[bubble_size]) (λi j c q=>by
   have e1:k-(k-l)=l:=ad
   rw[a,a,e1];by_cases hi:i=l
   .grind
   .rw[q_ hi];by_cases Y:j=l
    .grind
    .rw[q_ Y];by_cases S:l<i/\i<=k
     .rw[p_ S,p_ ad];exact J _ _ ad ad
     .rw[q_ S];by_cases U:l<j/\j<=k
      .grind
      .rw[q_ U];exact J _ _ ad ad)
  exact⟨h.trans (bubble_perm _ _ _),ad⟩
theorem oh(h1:1<=n):(dG (ltK key) (Hj n)).toList.Perm (A1 n)/\Up key (dG (ltK key) (Hj n)) n:=by
 unfold Hj;rw[ip];obtain⟨m,J,U⟩:∃m J,dG (ltK key) (Od n (Qg (A1 n)))=(m,J):=⟨_,_,rfl⟩
 rw[U];obtain⟨b1,b2,b3,d,Y⟩:=count_ok (key:=key) (p:=Qg (A1 n)) h1 aj m J U;have hsz:J.size=n:=by rw[b2];simp
 by_cases S:m<n
 .simp only[p_ S];have a:max m 1=m:=ad
  rw[a];obtain⟨b,c⟩:=bin_ok (key:=key) (n-m) J m ad Y;refine⟨?_,as⟩
  have:=JY.mp (b.trans b1)
  simp_all
 .simp only[q_ S];have:m=n:=ad
  subst this;refine⟨?_,Y⟩
  have:=JY.mp b1;show J.toList.Perm _
  simp_all
end
section
open PySem.W
def AV(n:Nat)(R:α->Prop):KasT α->Prop
 |.ret a=>R a|.ask i j k=>i<n/\j<n/\∀b,AV n R (k b)
theorem iM{R:α->Prop}{S:β->Prop}{f:α->KasT β}(J:∀a,R a->AV n S (f a)):∀t:KasT α,AV n R t->AV n S (t.bind f)
 |.ret a,h=>J a h|.ask i j k,h=>⟨h.1,h.2.1,λb=>iM J (k b) (h.2.2 b)⟩
theorem rq{lt:Nat->Nat->Bool}{R:α->Prop}{J:Nat->Nat->(Bool->i_->Prop)->i_->Prop}{s:i_}(S:∀i j (C:Bool->i_->Prop),i<n->j<n->C (lt i j) s->J i j C s){Q:α->i_->Prop}:∀t:KasT α,AV n R t->Q (dG lt t) s->t.kasWp J Q s
 |.ret _,_,h=>h|.ask i j k,r,h=>S i j _ r.1 r.2.1 (rq S _ (r.2.2 _) h)
def InB(n:Nat)(p:Array Nat):Prop:=∀x,p.getD x 0<n
theorem jV{p q:Array Nat}(U:0<n)(S:InB n p)(h:q.Perm p):InB n q:=λx=>by
 rw[IH];cases e:q[x]? with
 |none=>exact U|some v=>
  have hv:=by rw[<- HR]at e;exact G9 e
  obtain⟨y,J,Y⟩:=Lh ((JY.mp h).mem_iff.mp hv);have:=S y;rw[IH,<- HR,y_ J]at this
  simp_all
variable{p:Array Nat}
theorem uF(J:InB n p):∀f m,AV n (λ_=>True) (Ka p f m)
 |0,_=>Pj|f+1,m=>⟨J _,J _,λb=>by
  (try dsimp only)
  split
  .trivial
  .exact uF J f _⟩
theorem lM(S:0<n):∀(f:Nat) (p:Array Nat) (m q:Nat),InB n p->AV n (λr=>InB n r.1) (JH f p m q)
 |0,p,_,_,J=>J|f+1,p,m,q,J=>⟨J _,J _,λb=>by
  (try dsimp only)
  split
  .split
   .exact lM S f _ _ _ (jV S J gi)
   .exact lM S f _ _ _ J
  .refine⟨J _,J _,λc=>?_⟩
   (try dsimp only)
   split
   .exact J
   .exact lM S f _ _ _ J⟩
def se(S:0<n)(J:InB n p)(m r:Nat):AV n (λr=>InB n r.2) (Qp m r p):=by refine iM (λa _=>?_) _ (uF (jV S J gi) _ _);exact jV S J gi
def lL(J:0<n)(U:InB n p)(m r:Nat):AV n (λr=>InB n r.2) (Mi m r p):=by
 refine iM (λa S=>?_) _ (lM J _ _ _ _ U);split
 .exact se J (jV J S gi) _ _
 .exact se J S _ _
def Co(S:0<n)(J:InB n p)(r:Nat):AV n (λr=>InB n r.2) (Od r p):=by
 refine iM (λa _=>?_) _ (uF J _ _);split
 .exact J
 .split
  .refine⟨J _,J _,λb=>?_⟩
   (try dsimp only)
   split
   .exact J
   .exact lL S (jV S J gi) _ _
  .exact lL S J _ _
theorem mC(J:InB n p)(k:Nat):∀f l r,AV n (λ_=>True) (HX p k f l r)
 |0,_,_=>Pj|f+1,l,r=>by
  show AV n (λ_=>True) (if l>=r then LF l else _);split
  .trivial
  .refine⟨J _,J _,λb=>?_⟩
   (try dsimp only)
   split
   .exact mC J k f _ _
   .exact mC J k f _ _
theorem AK(S:0<n):∀(f:Nat) (p:Array Nat) (k:Nat),InB n p->AV n (λ_=>True) (Nc f p k)
 |0,_,_,_=>Pj|f+1,p,k,J=>iM (λl _=>AK S f _ _ (jV S J (bubble_perm _ _ _))) _ (mC J k _ _ _)
def Fx(J:0<n):AV n (λ_=>True) (Hj n):=by
 refine iM (λa S=>?_) _ (Co J (λx=>?_) _)
 .split
  .exact AK J _ _ _ S
  .trivial
 .rw[IH];simp only[NH];cases e:(A1 n)[x]? with
  |none=>exact J|some v=>exact C_.mp (G9 e)
end
section
open PySem.W
variable{s:i_}{key:Nat->Int}
def jg(key:Nat->Int)(vs:aH):aH:=if vs.length<2 then vs else(dG (ltK key) (Hj vs.length)).toList.map λi=>vs.getD i GR
def Asks(prog:Gf)(w:GS)(A:G8)(key:Nat->Int)(vs:aH)(s':i_):Prop:=
 r_ (x_ prog w) A (keyKind' vs.toArray) (fun κ J=>J=s'/\∀i j (C:Bool->i_->Prop),i<vs.length->j<vs.length->C (ltK key i j) s'->P9 prog w A κ vs i j C s') (λ_ _=>False) s'
theorem oM{P:N2->i_->Prop}(m:s.heap.get? a=a_ (Ib "list" vs.toArray n))(v:vs.length<64)(I:2<=vs.length->∀h1:FX,(∀b o,b≠a->s.heap.get? b=a_ o->h1.get? b=a_ o)->Asks prog w A key vs {s with heap:=h1})(h:∀(h':FX) (c:Nat),(∀b o,b≠a->s.heap.get? b=a_ o->h'.get? b=a_ o)->h'.get? a=a_ (Ib "list" (jg key vs).toArray c)->P (.done (.ret .none)) {s with heap:=h'}):
  r_ (x_ prog w) A (Builtin.«list.sort» ⟨[.ref a],[]⟩) P E s:=by
 have t:=G4;obtain⟨e1,d⟩:∃e1,(s.heap.update a (GL λ_=>(#[]:Array h_))).get? a=a_ (Ib "list" #[] e1):=⟨_,get?_update_seq m λ_=>#[]⟩
 rw[list_sort_plain];refine b_ (listItems_at m rfl (b_ (N3 m rfl (b_ (Pd d rfl (b_ (Ni (b_ (LS (Gq ?_) (GD _))) ad)))) am (GD _))));have U:∀b o,b≠a->s.heap.get? b=a_ o->(((s.heap.update a (GL λ_=>(#[]:Array h_))).push (Ib "tuple" vs.toArray 0)).push (Ib "list" #[] 0)).get? b=a_ o:=λb o l q=>d_ _ (d_ _ ((A_ _ _ (GX l)).trans q))
 have S:(((s.heap.update a (GL λ_=>(#[]:Array h_))).push (Ib "tuple" vs.toArray 0)).push (Ib "list" #[] 0)).get? a=a_ (Ib "list" #[] e1):=d_ _ (d_ _ d);dsimp only;have g:∀(Y:aH),Y=jg key vs->P (.done (.ret .none)) {s with heap:=(((s.heap.update a (GL λ_=>(#[]:Array h_))).push (Ib "tuple" vs.toArray 0)).push (Ib "list" #[] 0)).update a (GL λ_=>Y.toArray)}:=λY k=>by subst k;exact h _ _ (λb o l q=>(A_ _ _ (GX l)).trans (U b o l q)) (get?_update_seq S λ_=>(jg key vs).toArray)
 by_cases f:vs.toArray.size<2
 .rw[p_ f,p_ f];refine b_ (e_ ?_);refine b_ (e_ ?_);have k:(arrOf (Qd general' (vs.toArray.zip vs.toArray) #[] 7 g_)).map (·.2)=vs.toArray:=by
   show(vs.toArray.zip vs.toArray).map (·.2)=vs.toArray;apply Array.toList_inj.mp;simp only[Array.toList_map,Array.toList_zip];exact List.map_snd_zip (o_ _)
  rw[k];refine b_ (Pd S rfl (b_ (N3 S rfl ?_ (GD _) ad)));have e3:failedOf (Qd general' (vs.toArray.zip vs.toArray) #[] 7 g_)=g_:=rfl;simp only[e3,NR,Ho,LN];exact e_ (g vs (by simp_all[jg,p_]))
 .rw[q_ f,q_ f];have e:2<=vs.length:=by rw[GO]at f;lia
  refine b_ (Gx (I e _ U) (fun κ O F=>?_) λ_ _ x=>x.elim);obtain⟨es,z⟩:=F;subst es;refine b_ (Gx (kat_run (ks:=vs) (vs:=vs) (Q:=λJ s'=>s'={s with heap:=((s.heap.update a (GL λ_=>(#[]:Array h_))).push (Ib "tuple" vs.toArray 0)).push (Ib "list" #[] 0)}/\(arrOf J).map (·.2)=(jg key vs).toArray/\failedOf J=g_)
   (G:=λp s'=>s'={s with heap:=((s.heap.update a (GL λ_=>(#[]:Array h_))).push (Ib "tuple" vs.toArray 0)).push (Ib "list" #[] 0)}/\p=dG (ltK key) (Hj vs.length)) rfl e v (λp J s' _ u L B=>⟨B.1,?_,L⟩) (rq (n:=vs.length) (R:=λ_=>True) (λi j C hi K N=>z i j C hi K N) _ (Fx ad) ⟨rfl,rfl⟩)) (λr s' D=>?_) λ_ _ x=>x)
  .rw[kat_snds rfl u,B.2];unfold jg;rw[q_ ad]
  .obtain⟨⟨⟩,J⟩:=r;obtain⟨es,k,y⟩:=D;subst es;have y:failedOf J=g_:=y;dsimp only;rw[k];have H:(jg key vs).length=vs.length:=by
    unfold jg;split
    .rfl
    .rw[w_,(oh (key:=key) (n:=vs.length) ad).1.length_eq,He]
   refine b_ (Pd S rfl (b_ (N3 S rfl ?_ (GD _) (by show(jg key vs).length<=_;lia))));simp only[y,NR,Ho,LN];exact e_ (g _ rfl)
theorem Bh{Q:Mq}(f:s.heap.IsList l vs.toArray)(a:vs.length<64)(g:2<=vs.length->∀h1:FX,(∀b o,s.heap.get? b=a_ o->h1.get? b=a_ o)->Asks prog w A.in1.in1 key vs {s with heap:=h1})(h:∀(h':FX) (D:k_) (c:Nat),s.heap.objs.size<=D->(∀b o,s.heap.get? b=a_ o->h'.get? b=a_ o)->h'.get? D=a_ (Ib "list" (jg key vs).toArray c)->Q (.ref D) {s with heap:=h'}):
  r_ (x_ prog w) A (Jv (.builtin "sorted") [.ref l]) Q E s:=by
 have U:=G4;refine J5 Pe OB OC (OD _) ?_;refine b_ (e_ (b_ (collect_list f (b_ (LS ?_ ad)) ad)));have d:((s.heap.push (Ib "list" #[] 0)).update s.z (GL (·++vs.toArray))).objs.size=s.z+1:=by rw[ON,size_push']
 have e:(((s.heap.push (Ib "list" #[] 0)).update s.z (GL (·++vs.toArray))).push (Ib "list" vs.toArray 0)).get? (s.z+1)=a_ (Ib "list" vs.toArray 0):=by rw[<- d];exact l_ _ rfl
 have J:∀b o,s.heap.get? b=a_ o->(((s.heap.push (Ib "list" #[] 0)).update s.z (GL (·++vs.toArray))).push (Ib "list" vs.toArray 0)).get? b=a_ o:=λb o q=>d_ _ ((A_ _ _ (GP (m_ q))).trans (d_ _ q))
 rw[d];have S:∀b o,s.heap.get? b=a_ o->b≠s.z+1:=λb o q=>E_ (Jx (m_ q));refine b_ (Gq (FO NB ⟨_,e,rfl⟩ M7 (oM e a (λi h1 Y=>g i h1 λb o q=>Y b o (S b o q) (J b o q)) λh' c k' j=>⟨_,rfl,?_⟩) (ND _)));exact e_ ⟨_,rfl,h h' _ c (Jk _) (λb o q=>k' b o (S b o q) (J b o q)) j⟩
end
noncomputable def insL{α:Type}(lt:α->α->Bool)(x:α):List α->List α
 |[]=>[x]|y::ys=>if lt y x=f_ then y::insL lt x ys else x::y::ys
def dK{α:Type}(lt:α->α->Bool):List α->List α
 |[]=>[]|x::xs=>insL lt x (dK lt xs)
noncomputable def ltZ(a b:Int):Bool:=s_ (a<b)
noncomputable def vS:aG->aG->Bool
 |[],[]=>c_|[],_::_=>f_|_::_,[]=>c_|a::J,b::bs=>if a=b then vS J bs else s_ (a<b)
noncomputable def cK(t:aG):A':=.tup (t.map .int)
def tupD:A'->M aG
 |.tup ds=>bj ds|_=>stk
def ik:List A'->M (List aG)
 |[]=>.ok []|d::ds=>(tupD d).bind λt=>(ik ds).bind λr=>.ok (t::r)
def vd(ds:List A'):M A':=if ds.length<64 then(match bj ds with
 |.ok J=>.ok (.lst ((dK ltZ J).map .int))|.error _=>(ik ds).bind λts=>if (ts.all λt=> !t.isEmpty)=f_ then .ok (.lst ((dK vS ts).map cK))else stk)else stk
def lQ:List A'->M A'
 |[.lst ds]=>vd ds|_=>stk
section
variable{lt:α->α->Bool}
structure Ord(lt:α->α->Bool):Prop where
 irr:∀a,lt a a=c_
 tr:∀a b c,lt a b=f_->lt b c=f_->lt a c=f_
 tot:∀a b,lt a b=c_->lt b a=c_->a=b
theorem ordZ:Ord ltZ:=⟨λa=>by simp[ltZ],λa b c h1 J=>by grind[ltZ],λa b h1 J=>by grind[ltZ]⟩
theorem DH:Ord vS:=by
 refine⟨λa=>?_,λa b c=>?_,λa b=>?_⟩
 .induction a with
  |nil=>rfl|cons x xs S=>simp[vS,S]
 .induction a generalizing b c with
  |nil=>
   cases b with
   |nil=>simp|cons y ys=>
    intro _ J;cases c with
    |nil=>simp_all[vS]|cons z U=>rfl
  |cons x xs S=>
   intro h1 J;cases b with
   |nil=>simp_all[vS]|cons y ys=>
    cases c with
    |nil=>simp_all[vS]|cons z U=>
     simp[vS]at h1 J ⊢
     grind
 .induction a generalizing b with
  |nil=>
   cases b with
   |nil=>simp|cons y ys=>simp[vS]
  |cons x xs S=>
   cases b with
   |nil=>simp[vS]|cons y ys=>
    intro h1 J;simp[vS]at h1 J
    grind
theorem oY(x:α):∀l:List α,(insL lt x l).Perm (x::l)
 |[]=>HD _|y::ys=>by
  rw[insL];split
  .exact((oY x ys).cons y).trans (LR x y ys)
  rfl
theorem bp:∀l:List α,(dK lt l).Perm l
 |[]=>HD _|x::xs=>(oY x _).trans ((bp xs).cons x)
theorem Ord.le_trans(o:Ord lt){a b c:α}(h1:lt b a=c_)(S:lt c b=c_):lt c a=c_:=by
 cases h:lt c a with
 |false=>rfl|true=>
  cases J:lt b c with
  |true=>rw[o.tr b c a J h]at h1;lia|false=>
   have:=o.tot c b S J
   simp_all
theorem Ord.asym(o:Ord lt){a b:α}(h:lt a b=f_):lt b a=c_:=by
 cases J:lt b a with
 |false=>rfl|true=>have:=o.tr a b a h J;rw[o.irr]at this;simp_all
theorem oX(o:Ord lt)(x:α):∀l:List α,l.Pairwise (λa b=>lt b a=c_)->(insL lt x l).Pairwise (λa b=>lt b a=c_)
 |[],_=>by simp[insL]|y::ys,h=>by
  rw[insL];rw[Hm]at h;split
  .rename_i J;rw[Hm];refine⟨λb S=>?_,oX o x ys h.2⟩
   rcases n_.mp ((oY x ys).mem_iff.mp S)with e|e
   .rw[e];exact o.asym J
   simp_all
  .rename_i J;rw[Hm,Hm];refine⟨λb S=>?_,h⟩
   rcases n_.mp S with e|e
   .simp_all
   .exact o.le_trans (by simpa using J) (h.1 b e)
theorem dQ(o:Ord lt):∀l:List α,(dK lt l).Pairwise (λa b=>lt b a=c_)
 |[]=>IZ|x::xs=>oX o x _ (dQ o xs)
theorem kr(o:Ord lt):∀{l m:List α},l.Perm m->l.Pairwise (λa b=>lt b a=c_)->m.Pairwise (λa b=>lt b a=c_)->l=m
 |[],m,h,_,_=>(List.Perm.nil_eq h)|a::l,m,h,h1,J=>by
  cases m with
  |nil=>simp_all|cons b m=>
   rw[Hm]at h1 J;have e:a=b:=by
    rcases n_.mp (h.mem_iff.mp Hn)with e|e
    .exact e
    .rcases n_.mp (h.mem_iff.mpr Hn)with e2|e2
     .simp_all
     .exact o.tot a b (J.1 a e) (h1.1 b e2)
   subst e;rw[kr o (List.Perm.cons_inv h) h1.2 J.2]
end
section
open PySem.W
variable{lt:α->α->Bool}
def getD_get{l:List α}{d:α}(h:i<l.length):l.getD i d=l[i]:=by simp[h]
noncomputable def rk(lt:α->α->Bool)(J:List α)(d:α)(i:Nat):Int:=((J.filter λz=>lt z (J.getD i d)).length:Int)
theorem filter_lt{p q:α->Bool}(h:∀z,p z=f_->q z=f_):∀l:List α,(l.filter p).length<=(l.filter q).length/\((∃z∈l,p z=c_/\q z=f_)->(l.filter p).length<(l.filter q).length)
 |[]=>⟨o_ _,λ⟨_,h,_⟩=>nomatch h⟩
 |x::xs=>by
  obtain⟨S,J⟩:=filter_lt h xs
  grind[]
theorem rk_lt(o:Ord lt){J:List α}{d:α}(hi:i<J.length)(Y:j<J.length):ltK (rk lt J d) i j=lt (J.getD i d) (J.getD j d):=by
 unfold ltK rk;cases h:lt _ _ with
 |true=>refine HU ?_;have:=(filter_lt (q:=λz=>lt z _) (λz S=>o.tr _ _ _ S h) J).2 ⟨_,(by rw[getD_get hi];exact Gm hi),o.irr _,h⟩;lia|false=>
  refine JL ?_;have:=(filter_lt (p:=λz=>lt z (J.getD j d)) (q:=λz=>lt z _) (λz S=>by
   cases U:lt z _ with
   |true=>rfl|false=>
    have e:=o.le_trans h U
    lia) J).1
  lia
theorem oF(o:Ord lt)(J:List α)(d:α)(h:2<=J.length):(dG (ltK (rk lt J d)) (Hj J.length)).toList.map (λi=>J.getD i d)=dK lt J:=by
 obtain⟨h1,a⟩:=oh (n:=J.length) ad;refine kr o ?_ ?_ (dQ o J)
 .refine(h1.map _).trans ?_;have:(A1 J.length).map (λi=>J.getD i d)=J:=by
   apply OV
   .simp
   .intro i f c;simp[c]
  rw[this];exact(bp J).symm
 .rw[LJ,J7];intro i j hi Y b;have e:(dG (ltK (rk lt J d)) (Hj J.length)).toList.length=J.length:=by rw[h1.length_eq,He]
  have S:∀k (U:k<(dG _ (Hj J.length)).toList.length),(dG _ (Hj J.length)).toList[k]<J.length:=λk U=>C_.mp (h1.mem_iff.mp (Gm U));have:=a i j ad ad;unfold kAt at this;have g:∀k (U:k<(dG _ (Hj J.length)).toList.length),(dG _ (Hj J.length)).getD k 0=(dG (ltK (rk lt J d)) (Hj J.length)).toList[k]:=λk U=>by rw[IH,<- HR,y_ U];rfl
  rw[g i hi,g j Y]at this;rw[<- rk_lt o (S j Y) (S i hi)];exact JL ad
theorem kA:∀{J:List α},J.length<2->dK lt J=J
 |[],_=>rfl|[x],_=>rfl|_::_::_,h=>by grind
variable{W:cP}
theorem zg(r:B6 xs us)(ps:bb)(S:∀i∈ps,i<xs.length):B6 (ps.map λi=>xs.getD i .non) (ps.map λi=>us.getD i .none):=by
 refine B6.of_get aj λk v u h1 J=>?_;rw[FY]at h1 J;cases e:ps[k]? with
 |none=>simp_all|some i=>rw[e]at h1 J;simp only[LX,MV]at h1 J;have hi:=S i (G9 e);obtain⟨U,e1,q⟩:=r.get (i:=i) (x:=xs[i]) aj;rw[getD_get hi]at h1;rw[B_,e1]at J;rw[<- h1,<- J];exact q
theorem zy(o:Ord lt){s:i_}{Q:VK}{J:List α}{d0:α}{S:α->A'}(I:B3 X B2 σ H s)(u:aU F H)(t:SqL X.K F a xs)(r:ay X.K F (J.map S) xs)(B:J.length<64)(A:∀its:aH,B6 xs its->2<=its.length->∀h1:FX,(∀b o,s.heap.get? b=a_ o->h1.get? b=a_ o)->Asks X.prog X.w X.A.in1.in1 (rk lt J d0) its {s with heap:=h1})(p:aJ X.K W f_ F H (.ok (.lst ((dK lt J).map S))) Q):r_ (x_ X.prog X.w) X.A (Jv (.builtin "sorted") [.ref a]) (EP X B2 σ Q) X.xe s:=by
 obtain⟨its,f,pl,z⟩:=I.list (u.lst t);have C:=f.length;have y:=r.length;rw[w_]at y;refine Bh pl.isList ad (λg h1 h=>A its f g h1 h) λh' D c x h e=>?_;have key:∃ys,ys.length<=t_/\B6 ys (jg (rk lt J d0) its)/\ay X.K F ((dK lt J).map S) ys:=by
  unfold jg;by_cases g:its.length<2
  .rw[p_ g,kA ad];exact⟨xs,z,f,r⟩
  .rw[q_ g,show its.length=J.length by lia];obtain⟨h1,_⟩:=oh (key:=rk lt J d0) (n:=J.length) ad;have Y:∀i∈(dG (ltK (rk lt J d0)) (Hj J.length)).toList,i<xs.length:=λi hi=>by
    grind
   refine⟨(dG _ (Hj J.length)).toList.map λi=>xs.getD i .non,?_,zg f _ Y,?_⟩
   .rw[w_,h1.length_eq,He];lia
   .rw[<- oF o J d0 ad,FJ];refine ay.of_get aj λk dd v U g2=>?_;rw[FY]at U g2;cases ek:(dG _ (Hj J.length)).toList[k]? with
    |none=>rw[ek]at U;cases U|some i=>
     rw[ek]at U g2;simp only[LX,L8]at U g2;have hi:=Y i (G9 ek);obtain⟨w,e1,q⟩:=r.get (i:=i) (d:=S (J[i]' ac)) (by simp[show i<J.length by lia]);rw[getD_get (show i<J.length by lia)]at U
     simp_all
 obtain⟨ys,m,l,j⟩:=key;exact⟨.ref D,_,(I.laid (t':=s.toks) h x (show dq _ h' D (.lst ys)from⟨m,_,c,l,e⟩)),rfl,p.lst u j (I.hok.fresh x)⟩
def rk_ints(J:aG)(i j:Nat)(hi:i<J.length)(S:j<J.length):ltK (rk ltZ J 0) i j=s_ (J.getD i 0<J.getD j 0):=rk_lt ordZ hi S
theorem xo{Y:aG}(hi:Ih its Y)(a:2<=its.length):Asks prog w A (rk ltZ Y 0) its s':=by
 have f:=hi.length;obtain⟨U,S,rest,rfl⟩:∃U S rest,its=U::S::rest:=by
  match its,a with
  |U::S::rest,_=>lia
 unfold Asks;rw[keyKind_ints hi];refine e_ ⟨rfl,λi j C h1 a b=>?_⟩;unfold P9;obtain⟨d,e1⟩:=J hi i h1;obtain⟨c,e2⟩:=J hi j a;rw[e1,e2];rw[rk_ints Y i j ad ad]at b;exact kat_lt_int b
where
 J {vs:aH} {ns:aG} (h:Ih vs ns) (i:Nat) (hi:i<vs.length):∃t,vs.getD i GR=.int (ns.getD i 0) t:=by
  induction h generalizing i with
  |nil=>simp_all|cons n t r e=>
   cases i with
   |zero=>exact⟨t,rfl⟩|succ i=>simp_all
noncomputable def lexF(f:Bool):aG->aG->Bool
 |a::J,b::bs=>if a=b then lexF f J bs else s_ (a<b)
 |_,_=>f
theorem A0:∀J bs:aG,lexF (s_ (J.length<bs.length)) J bs=vS J bs
 |[],[]=>rfl|[],_::_=>by rfl|_::_,[]=>by rfl|a::J,b::bs=>by
  have:=A0 J bs
  simp_all[lexF,vS,]
theorem oU{prog:Gf}{w:GS}{A:G8}{s':i_}{f:Bool}{Q:Bool->i_->Prop}:∀{us vs:aH} {J bs:aG} (i:Nat),Ih us J->Ih vs bs->Q (lexF f J bs) s'->KatLex prog w A f_ f Q (us.zip vs) i s'
 |_,_,_,bs,_,.nil,_,h=>kat_nil (by cases bs<;>exact h)
 |_,_,_,_,_,.cons a t r,.nil,h=>kat_nil h|_,_,_,_,i,.cons a t r,.cons b u r',h=>by
  refine kat_cons (SeqAt.EqAt.int_int a t b u _ _ _ _ ?_);by_cases e:a=b
  .rw[show(a==b)=f_ by simpa using e];rw[lexF,p_ e]at h;exact kat_yes (oU _ r r' h)
  .rw[show(a==b)=c_ by simp_all];rw[lexF,q_ e]at h;refine kat_no ?_;cases S:(f_&&i==0)with
   |true=>exact oneLt_int h|false=>exact kat_one _ _ (Oi h)
theorem zm{F:Hp}{t:aG}(h:tupD d=.ok t):d=cK t:=by
 cases d with
 |tup ds=>
  have:∀{ds:List A'} {t:aG},bj ds=.ok t->ds=t.map .int:=by
   intro ds
   induction ds with
   |nil=>intro t h;cases h;rfl|cons d ds J=>
    intro t h;cases d with
    |int i=>
     cases e:bj ds with
     |error x=>simp_all[bj,]|ok r=>grind[bj,asI,au]
    |_=>cases h
  unfold cK;rw[this h]
 |_=>cases h
theorem Ep:∀{ds:List A'} {t:aG},bj ds=.ok t->ds=t.map .int:=λ{ds t} h=>by
 have:=zm (F:=λ_=>g_) (d:=.tup ds) h
 simp_all[cK]
theorem o9:∀{ds:List A'} {ts:List aG},ik ds=.ok ts->ds=ts.map cK
 |[],_,h=>by cases h;rfl|d::ds,ts,h=>by
  cases e:tupD d with
  |error x=>simp_all[ik]|ok t=>
   cases e2:ik ds with
   |error x=>simp_all[ik,]|ok r=>simp[ik,e,e2]at h;cases h;rw[zm (F:=λ_=>g_) e,o9 e2];rfl
theorem og:∀{ds:List A'} {e:Err},ik ds=.error e->e=.stuck
 |[],_,h=>by cases h|d::ds,e,h=>by
  cases e1:tupD d with
  |error x=>
   simp[ik,e1]at h;cases h;cases d with
   |tup ds=>exact ee e1|_=>cases e1;rfl
  |ok t=>
   cases e2:ik ds with
   |error x=>simp[ik,e1,e2]at h;cases h;exact og e2|ok r=>simp_all[ik]
theorem c_sorted(hK: ~~~(X.K=K)):lO K W f_ X (.builtin "sorted") lQ:=by
 subst hK;intro B2 s σ H xs us Q I E h;obtain⟨F,d,x,D,e,q,p⟩:=jm (λds=>by match ds with|[d]=>simp|[]=>exact .inr rfl|a::b::c=>exact .inr (by cases a<;>rfl)) h;subst e;obtain⟨u,rfl,Y⟩:=E.one;cases d with
 |lst ds=>
  obtain⟨a,ys,e1,t,r⟩:=q;subst e1;cases Y;have J:aJ X.K W f_ F H (vd ds) Q:=p;unfold vd at J;by_cases w:ds.length<64
  .rw[p_ w]at J;cases B:bj ds with
   |ok is=>rw[B]at J;have L:=Ep B;subst L;refine zy ordZ (d0:=0) I D t r as (λits y P h1 N=>?_) J;have e2:=cS r B;subst e2;exact xo (intsAre_of y) P|error z=>
    rw[B]at J;have p2:=J;cases A:ik ds with
    |error z2=>rw[A]at p2;have:=og A;subst this;exact aJ.stuck p2|ok ts=>
     rw[A]at p2;have L:=o9 A;subst L;have p3:aJ X.K W f_ F H (if (ts.all λt=> !t.isEmpty)=f_ then .ok _ else stk) Q:=p2;by_cases S:(ts.all λt=> !t.isEmpty)=f_
     .rw[p_ S]at p3;exact zy DH I D t r as (λits y P h1 N=>by
        have l1:=y.length;have l2:=r.length;rw[w_]at l2;have U:∀i,i<its.length->∃(l:k_) (g:JM) (us:aH) (n:Nat),its.getD i GR=.ref l/\h1.get? l=a_ g/\g.cls=.type "tuple"/\g.data=.seq us.toArray n/\Ih us (ts.getD i []):=λi hi=>by obtain⟨v,e1,l,ys,e2,tq,E⟩:=r.get (i:=i) (d:=cK (ts[i]' ac)) (by simp[show i<ts.length by lia]);subst e2;obtain⟨u,e3,Y⟩:=y.get e1;cases Y;obtain⟨us,Y,pl,_⟩:=I.tuple (D.tup tq);obtain⟨g,h3,h4,n,h5⟩:=pl;have e4:ys=(ts[i]' ac).map V.int:=cS E (cC _);rw[e4]at Y;exact⟨l,g,us,n,as,N _ _ h3,h4,h5,by rw[getD_get (show i<ts.length by lia)];exact intsAre_of Y⟩
        have o:∀(k:Nat),k<=its.length->∃fs,KatTups h1 (its.drop (its.length-k)) fs/\fs.length=k/\∀v∈fs,∃i t,v=Je i t:=by
         intro k
         induction k with
         |zero=>intro _;exact⟨[],by rw[Qv,JF];exact Pp,rfl,λ_ h=>nomatch h⟩
         |succ k ih=>
          intro hk;obtain⟨fs,q1,q2,G⟩:=ih ad;have hi:its.length-(k+1)<its.length:=ad
          obtain⟨l,g,us,n,e1,e2,e3,e4,e5⟩:=U _ hi;have hn:(ts.getD (its.length-(k+1)) [])≠[]:=by rw[getD_get (show its.length-(k+1)<ts.length by lia)];have:=Gd.mp S _ (Gm (show its.length-(k+1)<ts.length by lia));simpa using this
          obtain⟨z,ez⟩:∃z,ts.getD (its.length-(k+1)) []=z:=⟨_,rfl⟩
          rw[ez]at e5 hn;obtain⟨f,fr,ef,hf⟩:∃f fr,us=f::fr/\∃i t,f=Je i t:=by
           cases e5 with
           |nil=>simp_all|cons m t r=>exact⟨_,_,rfl,_,_,rfl⟩
          refine⟨f::fs,?_,by simp[q2],λv hv=>?_⟩
          .rw[Hk hi];rw[show its.length-(k+1)+1=its.length-k by lia];rw[getD_get hi]at e1;rw[e1];exact O8 e2 e3 e4 (by rw[ef];rfl) q1
          .rcases n_.mp hv with e|e
           .rw[e];exact hf
           .exact G v e
        obtain⟨fs,q1,q2,G⟩:=o its.length (o_ _);rw[Qw,Js]at q1;refine kat_kind (s:={s with heap:=h1}) (T:=.type "int") q1 ad (λv hv=>?_) rfl ⟨rfl,λi j C hi hj O=>?_⟩
        .obtain⟨i,t,e⟩:=G v hv;rw[e];exact Po rfl
        .unfold P9;obtain⟨x1,o1,us,n1,e1,g1,_,d1,Z⟩:=U i hi;obtain⟨x2,o2,vs,n2,e2,g2,_,d2,R⟩:=U j hj;rw[e1,e2];rw[rk_lt DH (show i<ts.length by lia) (show j<ts.length by lia)]at O;refine kat_lt (s:={s with heap:=h1}) g1 d1 g2 d2 (oU 0 Z R ?_);rw[GO,GO,Z.length,R.length,A0];exact O) p3
     .rw[q_ S]at p3;exact aJ.stuck p3
  .rw[q_ w]at J;exact aJ.stuck J
 |_=>exact aJ.stuck p
end
noncomputable def cX(n d:Nat):Option Int->Nat
 |none=>d|some v=>if v<0 then(v+(n:Int)).toNat else min v.toNat n
def cutL(xs:List α)(lo hi:Option Int):List α:=(xs.drop (cX xs.length 0 lo)).take (cX xs.length xs.length hi-cX xs.length 0 lo)
def j6:A'->Option Int->Option Int->M A'
 |.lst ds,lo,hi=>.ok (.lst (cutL ds lo hi))|.tup ds,lo,hi=>if (s_ (cX ds.length 0 lo=0)&&s_ (cX ds.length ds.length hi=ds.length))=f_ then stk else .ok (.tup (cutL ds lo hi))
 |_,_,_=>stk
noncomputable def vK:ah->M (Option Int):=λ_=>.ok g_
def oE(f:ah->M A'):ah->M (Option Int):=λρ=>(f ρ).bind λd=>(asI d).bind λi=>.ok (a_ i)
noncomputable def fSl(g:A'->Option Int->Option Int->M A')(fa:ah->M A')(fl fu:ah->M (Option Int)):ah->M A':=λρ=>(fa ρ).bind λa=>(fl ρ).bind λl=>(fu ρ).bind λu=>g a l u
def extD(ρ:ah)(i:Nat)(ds:List A'):A'->M B4
 |.lst es=>if ds.length+es.length<=t_ then put ρ i (ds++es)else stk
 |_=>stk
def sExt(O:bb)(i:Nat)(f:ah->M A'):ah->M B4:=λρ=>(k9 ρ i).bind λds=>(f (erase O ρ)).bind λd=>extD ρ i ds d
section
variable{W:cP}{own:Bool}{a b d:GI}{lo hi:Option GI}{r t u:Qr}{f:ah->M A'}
def tDO(K:Pn)(W:cP)(f:ah->M (Option Int)):TO:=λσ H Q=>TDx K σ H λF ρ=>match f ρ with
 |.ok o=>∀F' H',Step F H F' H'->Q o H'|.error e=>W.p e F H
def CQ{R:Option Int->Hp->Prop}(r:nh K F σ ρ)(s:aU F H)(S:∀e,fl ρ=.error e->W.p e F H)(J:∀o,fl ρ=.ok o->∀F1 H1,Step F H F1 H1->R o H1):tDO K W fl σ H R:=by
 refine⟨F,ρ,r,s,?_⟩
 cases e:fl ρ with
 |ok d=>exact J d e|error x=>exact S x e
abbrev DP(K:Pn)(W:cP)(X:Cx)(e:Option GI)(f:ah->M (Option Int)):Prop:=PO X e (tDO K W f)
def PO.imp{t t':TO}(h:PO X lo t)(q:∀σ H Q,t' σ H Q->t σ H Q):PO X lo t':=λB2 s σ H Q I z=>h B2 s σ H Q I (q σ H Q z)
def u5:DP K W X g_ vK:=po_none.imp λσ H Q ⟨F,ρ,r,s,p⟩=>p F H (Step.refl s)
theorem u4(h:DE K W c_ X e f):DP K W X (a_ e) (oE f):=(po_some h).imp λσ H Q ⟨F,ρ,r,s,p⟩=>by
 refine aO r s (λe S=>?_) λd hd v F1 H1 J q1=>?_
 .simp_all[oE]
 .have z:oE f ρ=(asI d).bind λi=>.ok (a_ i):=by unfold oE;rw[hd];rfl
  rw[z]at p;cases d with
  |int i=>exact⟨i,q1,p F1 H1 J⟩|_=>exact(W.ns p).elim
def rDS(K:Pn)(W:cP)(own:Bool)(g:A'->Option Int->Option Int->M A'):V->Option Int->Option Int->Hp->VK->Prop:=λx lo hi H Q=>TX1 (bc K) x H λF a=>aJ K W own F H (g a lo hi) Q
theorem de_sl{g:A'->Option Int->Option Int->M A'}(f:SlR X (rDS K W own g))(c:DE K W c_ X a fa)(b:DP K W X lo fl)(Y:DP K W X hi fu):DE K W own X (.Subscript a (.Slice lo hi g_ p2) pos) (fSl g fa fl fu):=(pe_slice f c b Y).imp λ_ _ _=>by
  intro h;obtain⟨F,ρ,r,s,p⟩:=h;refine aO r s (λe d=>p.err (by simp_all[fSl])) λa c x F1 H1 J q1=>?_;refine CQ (r.mono J.ff) J.fh (λe d=>(p.step J).err (by simp_all[fSl])) λl b k H2 S=>?_;refine CQ ((r.mono J.ff).mono S.ff) S.fh (λe d=>(p.step (J.trans S)).err (by simp_all[fSl])) λu Y i j U=>?_;refine⟨i,a,U.fh,bc.mono (S.trans U).ff q1,?_⟩
  have e:fSl g fa fl fu ρ=g a l u:=by unfold fSl;rw[c];rw[b];rw[Y];rfl
  rw[e]at p;exact p.step ((J.trans S).trans U)
def cX_sIx(n d:Nat)(o:Option Int):cX n d o=HT.sIx n d o:=by rfl
def ay.cut{l u:Option Int}(h:ay K F ds xs):ay K F (cutL ds l u) (cutV xs l u):=by unfold cutL cutV;rw[h.length];exact ay.take _ (ay.drop _ h)
theorem x_sl(j: ~~~(X.K=K)):SlR X (rDS K W f_ j6):=by
 subst j;intro B2 s σ H x v d c lo hi sl Q I f i pl g h;refine(SlR.or sl_list sl_tup) B2 s σ H x v d c lo hi sl Q I f i pl g ?_;obtain⟨F,a,J,b,p⟩:=h;cases a with
 |lst ds=>obtain⟨l,xs,e,t,z⟩:=b;exact .inl ⟨l,xs,e,J.lst t,λr U=>aJ.lst p J z.cut U⟩
 |tup ds=>
  obtain⟨l,xs,e,t,z⟩:=b;have S:aJ X.K W f_ F H (if (s_ _&&s_ _)=f_ then stk else .ok _) Q:=p;by_cases Y:(s_ (cX ds.length 0 lo=0)&&s_ (cX ds.length ds.length hi=ds.length))=f_
  .rw[p_ Y]at S;exact S.stuck
  .rw[q_ Y]at S;refine .inr ⟨l,xs,e,J.tup t,λhw=>Y ?_,λr U=>aJ.tup S J z.cut U⟩;rw[cX_sIx,cX_sIx,<- z.length]
   simp_all
 |_=>exact aJ.stuck p
theorem ds_ext(o:DE K W f_ X e f)(n:(i∈O)⁻¹)(y: ~~~(X.N[i]?=a_ x))(hv:autoParam (Vis X.env.scope x) Jq5)(hd:((x==("__debug__":FU))=c_)⁻¹)(l:((x==("__classdict__":FU))=c_)⁻¹)(A: ~~~(X.K=K))(Y: ~~~(j_ [e] X.env=[(c_,FL e X.env)]))(U: ~~~(HV (.Name x p) "extend" X.env (FL (.Name x p) X.env)=FL (.Name x p) X.env))(c: ~~~(((GG q (j_ [e] X.env)).all (λx=> !x.1)&&(JX q (IG [] X.env)).all (λx=>x.1.isSome)&&s_ ([e].length+([]:List JV).length+(if ([]:List JV).isEmpty then 0 else 1)<30))=f_))(J: ~~~((GG q (j_ [] X.env)).any (·.1)=c_))(S: ~~~((apos.endLine==q.line)=f_))(j: ~~~(G0 (.Call (.Attribute (.Name x p) "extend" apos) [e] [] q) g_ pos.line X.env=G2 c_)):
  DS K W ro X OL O O (.Expr (.Call (.Attribute (.Name x p) "extend" apos) [e] [] q) pos) (sExt O i f):=λF0 H0=>by
 subst A;exact PS.imp (sV (pe_bm Kb Ny PySem.F.type_list_extend DX (pv i y hv hd l) (aR o cA Y) U c S Y J) j) λ_ σ _=>by
   intro t;obtain⟨FB,F,ρ,r,p⟩:=t;cases g:k9 ρ i with
   |error e=>have:=oK g;exact p.stuck (by simp_all[sExt])|ok ds=>
    obtain⟨a,xs,e2,s,z⟩:=r.E1 n (jS g);refine⟨.ref a,e2,⟨rfl,_,_,rfl,SqL.of s⟩,?_⟩
    refine aO r.iQ r.st.fh (λe o=>p.gI r.st (by simp_all[sExt])) λd hd v F1 H1 h q=>?_;have B:sExt O i f ρ=extD ρ i ds d:=by unfold sExt;rw[g];rw[hd];rfl
    rw[B]at p;cases d with
    |lst es=>
     obtain⟨b,u,e3,w,_,_,m⟩:=q;by_cases k:ds.length+es.length<=t_
     .have ep:extD ρ i ds (.lst es)=put ρ i _:=p_ k;rw[ep]at p;exact⟨a,b,xs,u,rfl,by rw[e3],h.hh _ _ s,w,by rw[z.length,m.length];exact k,p σ F1 _ ((r.step h).write n (jS g) e2 (ay.append (z.mono h.ff) m))⟩
     .exact p.stuck (q_ k)
    |_=>exact p.stuck rfl
end
@[simp]def e_pNone:vK ρ=.ok g_:=id rfl
@[simp]def e_pSome:oE fa ρ=(fa ρ).bind λd=>(asI d).bind λi=>.ok (a_ i):=id rfl
@[simp]def e_slF(k:A'->Option Int->Option Int->M A'):fSl k fa fl fu ρ=(fa ρ).bind λa=>(fl ρ).bind λl=>(fu ρ).bind λu=>k a l u:=id rfl
@[simp] theorem e_pow{i j:Int}(S:0<=j)(h1:j<=1000000)(J:i.natAbs<2^64):pS (.int i) (.int j)=.ok (.int (i^j.toNat)):=by
 show(if (s_ _&&s_ _&&s_ _)=f_ then _ else _)=_
 simp_all
@[simp]def e_eqII(i j:Int):eqM (.int i) (.int j)=.ok (.bl (s_ (i=j))):=by rfl
@[simp]def e_neII(i j:Int):neM (.int i) (.int j)=.ok (.bl (!decide (i=j))):=by rfl
@[simp] theorem cut_take{α:Type}(xs:List α){j:Int}(h:0<=j):cutL xs g_ (a_ j)=xs.take j.toNat:=by
 unfold cutL cX
 simp_all[q_,]
@[simp] theorem cut_drop{α:Type}(xs:List α){j:Int}(h:0<=j):cutL xs (a_ j) g_=xs.drop j.toNat:=by simp_all[cutL,cX,q_,Iu,]
def revD:A'->M A'
 |.lst ds=>.ok (.lst ds.reverse)|_=>stk
def pO(Cs:List k_)(x:FU):A'->M A'
 |.ins C fs=>if Cs.contains C=f_ then(match fs.lookup x with
  |some d=>.ok d|none=>stk)else stk
 |_=>stk
noncomputable def isC(C:k_)(m:FU):A'->Bool
 |.ins D fs=>(D==C)&&(fs.lookup m).isNone|_=>c_
def ml(C:k_)(m:FU)(g:List A'->M A')(fo:ah->M A')(fr:ah->M (List A')):ah->M A':=λρ=>(fo ρ).bind λo=>if isC C m o=f_ then(fr ρ).bind λJ=>g (o::J)else stk
def cf(C C2:k_)(m:FU)(g g2:List A'->M A')(fo:ah->M A')(fr:ah->M (List A')):ah->M A':=λρ=>(fo ρ).bind λo=>if isC C m o=f_ then(fr ρ).bind λJ=>g (o::J)else if isC C2 m o=f_ then(fr ρ).bind λJ=>g2 (o::J)else stk
def newR(C:k_)(g:List A'->M A'):List A'->M A'
 |[d]=>(g [d]).bind λr=>.ok (.ins C [("gaps",r)])|_=>stk
noncomputable def twoL:A'->A'->Bool
 |.lst xs,.lst ys=>s_ (xs.length=ys.length)|_,_=>c_
def newP(C:k_)(g:List A'->M A'):List A'->M A'
 |[d,e]=>(g [d]).bind λr=>(g [e]).bind λJ=>if twoL r J=f_ then .ok (.ins C [("gaps",r),("beside",J)])else stk
 |_=>stk
def sStk:ah->M B4:=λ_=>stk
section
variable{W:cP}{own:Bool}{o a b c d:GI}{m:FU}{f:ah->M A'}{fr:ah->M (List A')}{C2:k_}{Cs:List k_}
def Ao:DS K W ro X OL O O' st sStk:=λF0 H0 B2 s σ H D I h=>by obtain⟨FB,F,ρ,r,p⟩:=h;exact p.stuck rfl
theorem nM.at{F:Hp}{x:FU}:∀{gs:List (FU×A')} {fs:List (FU×V)},nM K F gs fs->(∀d,gs.lookup x=a_ d->∃v,fs.lookup x=a_ v/\bc K F d v)/\(gs.lookup x=g_->fs.lookup x=g_)
 |[],fs,h=>by cases(show fs=[]from h);simp|(g,d)::gs,fs,h=>by
  obtain⟨v,r,rfl,h1,J⟩:=h;rw[GU,GU];cases e:x==g with
  |true=>exact⟨λS h'=>by cases h';exact⟨v,rfl,h1⟩,λh'=>by cases h'⟩|false=>exact(nM.at (x:=x) J)
theorem wH(i:∀C∈Cs,Cls K C/\jf K C y)(Y:DE K W c_ X e fa)(c: ~~~(HV e y X.env (FL e X.env)=FL e X.env))(g: ~~~(X.K=K)):DE K W c_ X (.Attribute e y pos) (f1 (pO Cs y) fa):=by
 subst g;refine(DB Y c).imp λσ H Q h=>?_;obtain⟨F,ρ,r,s,p⟩:=h;refine aO r s (λe Y=>p.err (by simp_all[f1])) λa f x F1 H1 S q1=>?_;have k:f1 (pO Cs y) fa ρ=pO Cs y a:=by unfold f1;rw[f];rfl
 rw[k]at p;cases a with
 |ins C gs=>
  obtain⟨l,dx,fs,e1,ea,m⟩:=q1;have J:aJ X.K W c_ F H (if Cs.contains C=f_ then(match gs.lookup y with
   |some d=>.ok d|none=>stk)else stk) Q:=p
  by_cases b:Cs.contains C=f_
  .rw[p_ b]at J;obtain⟨h1,j⟩:=i C as;cases U:gs.lookup y with
   |none=>rw[U]at J;exact aJ.stuck J|some d=>rw[U]at J;obtain⟨v,hv,hd⟩:=m.at.1 d U;exact⟨l,C,dx,fs,v,e1,S.fh _ _ ea,h1,j,hv,(J.step S) v F1 H1 (Step.refl S.fh) hd⟩
  .rw[q_ b]at J;exact aJ.stuck J
 |_=>exact aJ.stuck p
def PE.or{S J:TE}(h1:PE X e S)(U:PE X e J):PE X e (λσ H Q=>S σ H Q\/J σ H Q):=λB2 s σ H Q I h=>h.elim (h1 B2 s σ H Q I) (U B2 s σ H Q I)
def Df{Q:VK}(h:tD K D' ro (ml C m (bo nN n g) fo fr) σ H Q):tMeth C m (spF K ro (bo nN n g) n) [] E0 (tD K D' c_ fo) (tDA K D' fr) σ H Q:=by
 obtain⟨F,ρ,r,s,p⟩:=h;refine aO r s (λe b=>p.err (by unfold ml;rw[b];rfl)) λo j x F1 H1 S q1=>?_;have q:ml C m (bo nN n g) fo fr ρ=if isC C m o=f_ then(fr ρ).bind λY=>bo nN n g (o::Y)else stk:=by unfold ml;rw[j];rfl
 rw[q]at p;by_cases U:isC C m o=f_
 .rw[p_ U]at p;cases o with
  |ins D gs=>
   obtain⟨l,dx,fs,e1,ea,t⟩:=id q1;have J:((D==C)&&(gs.lookup m).isNone)=f_:=U;rw[FH]at J;obtain⟨d,k⟩:=J;have d:=by simpa using d
   subst d;refine⟨l,dx,fs,e1,S.fh _ _ ea,t.at.2 (by simpa using k),?_⟩
   have p:=p.step S;refine jk (r.mono S.ff) S.fh (λe b=>p.err (by rw[b];rfl)) λY c vs u H2 a i=>?_;rw[c]at p;have p:aJ K D' ro F1 H1 (bo nN n g _) Q:=p;have p:=p.step a;rw[HB];by_cases f:(A'.ins D gs::Y).length=n
   .exact⟨u,.ins D gs::Y,a.fh,⟨x,vs,rfl,bc.mono a.ff q1,i⟩,f,p⟩
   .rw[sP f]at p;exact aJ.stuck p
  |_=>cases U
 .rw[q_ U]at p;exact aJ.stuck p
theorem zM{Q:VK}(h:tD K D' ro (cf C C2 m (bo nN n g) (bo nN2 n2 g2) fo fr) σ H Q):
  tD K D' ro (ml C m (bo nN n g) fo fr) σ H Q\/tD K D' ro (ml C2 m (bo nN2 n2 g2) fo fr) σ H Q:=by
 obtain⟨F,ρ,r,s,p⟩:=h;cases S:fo ρ with
 |error e=>
  refine .inl ⟨F,ρ,r,s,?_⟩
  simp_all[cf,ml]
 |ok o=>
  have e1:cf C C2 m (bo nN n g) (bo nN2 n2 g2) fo fr ρ=if isC C m o=f_ then(fr ρ).bind λJ=>bo nN n g (o::J)else if isC C2 m o=f_ then(fr ρ).bind λJ=>bo nN2 n2 g2 (o::J)else stk:=by unfold cf;rw[S];rfl
  have e2:ml C m (bo nN n g) fo fr ρ=if isC C m o=f_ then(fr ρ).bind λJ=>bo nN n g (o::J)else stk:=by unfold ml;rw[S];rfl
  have e3:ml C2 m (bo nN2 n2 g2) fo fr ρ=if isC C2 m o=f_ then(fr ρ).bind λJ=>bo nN2 n2 g2 (o::J)else stk:=by unfold ml;rw[S];rfl
  rw[e1]at p;by_cases U:isC C m o=f_
  .rw[p_ U]at p e2;exact .inl ⟨F,ρ,r,s,by rw[e2];exact p⟩
  .rw[q_ U]at p;exact .inr ⟨F,ρ,r,s,by rw[e3];exact p⟩
def AU(X:Cx)(o:GI)(m:FU)(apos:Qr)(es:List GI)(pos:Qr)(pl:OM Bool):Prop:=FL (.Call (.Attribute o m apos) es [] pos) X.env=(do let J <- FL o X.env;K8 apos.atName;let (f,first) <- IW [J] (LD J m pl);O4 pos f first (GG pos (j_ es X.env)) (JX pos (IG [] X.env)))
section
variable{fad2:k_}{fd2:HN}
def zR(c:Cls X.K C)(M:Meth X.K C m fad)(F:gQ X.prog X.w X.K X.mg X.base CX0 k fad fd ps (spF X.K ro (bo nN n g) n))(Y:gR k X.A)(b:Binds X.K fd ps [])(a:DE X.K D' c_ X o fo)(d:DA X.K D' X (e::es) fr)(J:j_ (e::es) X.env=(c_,FL e X.env)::j_ es X.env)(S:(GG pos (j_ es X.env)).any (·.1)=c_)(U:AU X o m apos (e::es) pos pl):DE X.K D' ro X (.Call (.Attribute o m apos) (e::es) [] pos) (ml C m (bo nN n g) fo fr):=
 (pe_meth a c M F Y b .nil vI d J S U).imp λ_ _ _=>Df
def vG(c:Cls X.K C)(M:Meth X.K C m fad)(F:gQ X.prog X.w X.K X.mg X.base CX0 k fad fd ps (spF X.K ro (bo nN n g) n))(S:gR k X.A)(Y:Binds X.K fd ps [])(U:DE X.K D' c_ X o fo)(J:AU X o m apos [] pos pl):DE X.K D' ro X (.Call (.Attribute o m apos) [] [] pos) (ml C m (bo nN n g) fo av):=
 (pe_meth0 U c M F S Y .nil vI J).imp λσ H Q h=>by
  obtain⟨F,ρ,r,s,z⟩:=Df h;refine⟨F,ρ,r,s,?_⟩
  cases e1:fo ρ with
  |error e=>rw[e1]at z;exact z|ok od=>rw[e1]at z;intro v F' H' st q;obtain⟨l,dx,fs,h1,d,b,a⟩:=z v F' H' st q;exact⟨l,dx,fs,h1,d,b,rd_nil a⟩
def uc{k2:Nat}(c:Cls K C)(M:Meth K C m fad)(F:gQ X.prog X.w X.K X.mg X.base CX0 k fad fd ps (spF K ro (bo nN n g) n))(f:gR k X.A)(h:Binds X.K fd ps [])(j:Cls K C2)(l:Meth K C2 m fad2)(p:gQ X.prog X.w X.K X.mg X.base CX0 k2 fad2 fd2 ps2 (spF K ro (bo nN2 n2 g2) n2))(U:gR k2 X.A)(Y:Binds X.K fd2 ps2 [])(b:DE K D' c_ X o fo)(d:DA K D' X (e::es) fr)(i: ~~~(X.K=K))(J: ~~~(j_ (e::es) X.env=(c_,FL e X.env)::j_ es X.env))(S: ~~~((GG pos (j_ es X.env)).any (·.1)=c_))(a: ~~~(AU X o m apos (e::es) pos pl)):
  DE K D' ro X (.Call (.Attribute o m apos) (e::es) [] pos) (cf C C2 m (bo nN n g) (bo nN2 n2 g2) fo fr):=by
 subst i;exact(PE.or (zR c M F f h b d J S a) (zR j l p U Y b d J S a)).imp λ_ _ _=>zM
def iJ{k2:Nat}(c:Cls K C)(M:Meth K C m fad)(F:gQ X.prog X.w X.K X.mg X.base CX0 k fad fd ps (spF K ro (bo nN n g) n))(a:gR k X.A)(b:Binds X.K fd ps [])(e:Cls K C2)(f:Meth K C2 m fad2)(h:gQ X.prog X.w X.K X.mg X.base CX0 k2 fad2 fd2 ps2 (spF K ro (bo nN2 n2 g2) n2))(J:gR k2 X.A)(S:Binds X.K fd2 ps2 [])(Y:DE K D' c_ X o fo)(d: ~~~(X.K=K))(U: ~~~(AU X o m apos [] pos pl)):
  DE K D' ro X (.Call (.Attribute o m apos) [] [] pos) (cf C C2 m (bo nN n g) (bo nN2 n2 g2) fo av):=by
 subst d;exact(PE.or (vG c M F a b Y U) (vG e f h J S Y U)).imp λ_ _ _=>zM
end
def spI1(K:Pn)(C:k_)(g:List A'->M A'):Sp:=λvs H Q _=>∃p dx v F d,vs=[.ref p,v]/\H p=a_ (.ins C dx [])/\F p=g_/\aU F H/\bc K F d v/\(match g [d]with
 |.ok r=>∀w F' H',aU F F'->aU F' H'->F' p=g_->(∀b o,F' b=a_ o->F b=a_ o\/H b=g_)->(∀c o,H c=a_ o->c≠p->H' c=a_ o)->H' p=a_ (.ins C dx [("gaps",w)])->bc K F' r w->Q .non H'|.error e=>D'.p e F H)
def spI2(K:Pn)(C:k_)(g:List A'->M A'):Sp:=λvs H Q _=>∃p dx v U F d Y,vs=[.ref p,v,U]/\H p=a_ (.ins C dx [])/\F p=g_/\aU F H/\bc K F d v/\bc K F Y U/\(match (g [d]).bind λr=>(g [Y]).bind λJ=>if twoL r J=f_ then .ok (r,J)else stk with
 |.ok (r,J)=>∀w S F' H',aU F F'->aU F' H'->F' p=g_->(∀b o,F' b=a_ o->F b=a_ o\/H b=g_)->(∀c o,H c=a_ o->c≠p->H' c=a_ o)->H' p=a_ (.ins C dx [("gaps",w),("beside",S)])->bc K F' r w->bc K F' J S->Q .non H'|.error e=>D'.p e F H)
theorem Step.born{x dx:k_}{fs:List (FU×V)}(s:aU F H)(d:H x=g_)(S:H dx=g_)(J:dx≠x)(h1:aU F F')(a:aU F' H')(Y:F' x=g_)(h:∀b o,F' b=a_ o->F b=a_ o\/upd (upd H dx (.own x)) x (.ins C dx []) b=g_)(g:∀c o,upd (upd H dx (.own x)) x (.ins C dx []) c=a_ o->c≠x->H' c=a_ o)(f:H' x=a_ (.ins C dx fs)):Step F H (upd F' x (.ins C dx fs)) H' where
 ff:=h1.trans (aU.upd Y)
 hh:=λc o e=>by grind[aw]
 fh:=λc o e=>by
  by_cases U:c=x
  .simp_all[aq]
  .rw[aw U]at e;exact a _ _ e
 nw:=λc o e=>by grind[aw]
theorem de_newR{g:List A'->M A'}(m:Mk X.K C fI)(R:gQ X.prog X.w X.K X.mg X.base CX0 k fI fdI ps (spI1 K C g))(y:gR (k+1) X.A)(B:X.mg x=a_ (.ref C))(E:Binds X.K fdI ps [])(G:DA K D' X [e] fr)(D: ~~~(Gl X x))(j:((x==("__debug__":FU))=c_)⁻¹)(b: ~~~(j_ [e] X.env=(c_,FL e X.env)::j_ [] X.env))(f: ~~~((GG pos (j_ [] X.env)).any (·.1)=c_)):
  DE K D' c_ X (.Call (.Name x p) [e] [] pos) (fL (newR C g) fr):=by
 refine PE.imp (Dy m R y D B E .nil vI G j b f) λσ H Q h=>?_;obtain⟨F,ρ,r,s,p⟩:=rd_L h;refine⟨F,ρ,r,s,?_⟩
 cases e1:fr ρ with
 |error z=>simp_all|ok ds=>
  rw[e1]at p;intro vs F1 H1 st q;obtain⟨t,l,J,q1,z⟩:=p vs F1 H1 st q;rcases l with _|⟨d,_|⟨_,_⟩⟩
  .exact aJ.stuck z
  rotate_left
  .exact aJ.stuck z
  .obtain⟨v,Y,rfl,u,A⟩:=q1;cases(show Y=[]from A);intro x dx a U i;refine⟨x,dx,v,t,d,rfl,aq,J.free a,λc o e=>?_,u,?_⟩
   .rw[aw (λh=>by rw[h,J.free a]at e;lia),aw (λh=>by rw[h,J.free U]at e;lia)];exact J _ _ e
   .have z:aJ K D' c_ t H1 ((g [d]).bind λr=>.ok _) Q:=z;cases S:g [d]with
    |error e=>rw[S]at z;exact Gh z|ok r=>
     rw[S]at z;intro w F' H' h1 P n O N L I;refine⟨rfl,z _ _ H' (Step.born J a U i h1 P n O N L) ?_⟩
     exact⟨x,dx,_,rfl,aq,w,[],rfl,bc.mono (aU.upd n) I,rfl⟩
theorem de_newP{g:List A'->M A'}(D:Mk X.K C fI)(FI:gQ X.prog X.w X.K X.mg X.base CX0 k fI fdI ps (spI2 K C g))(O:gR (k+1) X.A)(R:X.mg x=a_ (.ref C))(W:Binds X.K fdI ps [])(Z:DA K D' X [e,a] fr)(T: ~~~(Gl X x))(u:((x==("__debug__":FU))=c_)⁻¹)(m: ~~~(j_ [e,a] X.env=(c_,FL e X.env)::j_ [a] X.env))(n: ~~~((GG pos (j_ [a] X.env)).any (·.1)=c_)):
  DE K D' c_ X (.Call (.Name x p) [e,a] [] pos) (fL (newP C g) fr):=by
 refine PE.imp (Dy D FI O T R W .nil vI Z u m n) λσ H Q h=>?_;obtain⟨F,ρ,r,s,p⟩:=rd_L h;refine⟨F,ρ,r,s,?_⟩
 cases e1:fr ρ with
 |error z=>simp_all|ok ds=>
  rw[e1]at p;intro vs F1 H1 st q;obtain⟨E,A,S,q1,z⟩:=p vs F1 H1 st q;rcases A with _|⟨d,_|⟨B,_|⟨_,_⟩⟩⟩
  .exact aJ.stuck z
  .exact aJ.stuck z
  rotate_left
  .exact aJ.stuck z
  .obtain⟨v,I,rfl,N,L,b,rfl,i,P⟩:=q1;cases(show b=[]from P);intro x dx j Y t;refine⟨x,dx,v,L,E,d,B,rfl,aq,S.free j,λc o e=>?_,N,i,?_⟩
   .rw[aw (λh=>by rw[h,S.free j]at e;lia),aw (λh=>by rw[h,S.free Y]at e;lia)];exact S _ _ e
   .have z:aJ K D' c_ E H1 ((g [d]).bind λr=>(g [B]).bind λf=>if twoL r f=f_ then .ok _ else stk) Q:=z;cases U:g [d]with
    |error e=>rw[U]at z;exact Gh z|ok r=>
     rw[U,au]at z;cases J:g [B]with
     |error e=>rw[J]at z;exact Gh z|ok f=>
      rw[J,au]at z;by_cases l:twoL r f=f_
      .rw[p_ l]at z;rw[au,au,p_ l];intro w G F' H' h1 h2 y h4 h5 h6 h7 h8;refine⟨rfl,z _ _ H' (Step.born S j Y t h1 h2 y h4 h5 h6) ?_⟩
       exact⟨x,dx,_,rfl,aq,w,_,rfl,bc.mono (aU.upd y) h7,G,[],rfl,bc.mono (aU.upd y) h8,rfl⟩
      .rw[q_ l]at z;exact aJ.stuck z
end
section
variable{W:cP}{own:Bool}
theorem Fe(n:X.calm=f_):du X (.builtin "sum") (λxs H Q=>∃(a:k_) (J:aG),xs=[.ref a]/\SqL X.K H a (J.map V.int)/\Q (.int J.sum) H):=by
 intro B2 s σ H xs us Q I r h;obtain⟨a,J,rfl,k,q⟩:=h;obtain⟨u,rfl,i⟩:=r.one;cases i;obtain⟨its,g,p,v⟩:=I.list k;have hi:=intsAre_of g;obtain⟨xs,e⟩:=hi.allInts.items;have l:J=xs.toList.map (·.1):=by rw[<- hi.numsOf,<- NW,<- e]
 have d:=p.isList;rw[e]at d;refine P6 (iter_intList d λc e2 st Y U=>?_);subst e2;refine⟨_,_,_,_,_,_,_,Nl xs,rfl,(Mh (A:=X.A.in1) (I.ok.hd n) _ a U _).toS,st,Y,(λ_ _=>O1),λs' t' S=>?_⟩
 obtain⟨h',g',w,f,j⟩:=s';have e1:=S.gens;have e2:=S.drawn;have e3:=S.os;subst e1 e2 e3;have m:=old_kept λb o t e=>S.heap b o t e;refine⟨.int _,H,I.kept m,⟨t',rfl⟩,?_⟩
 simp_all[preSum_eq,Iu,intItems]
def c_sum(c:X.calm=f_)(f: ~~~(X.K=K)):lO K W own X (.builtin "sum") sumD:=by
 subst f;refine(Fe c).imp λxs H Q h=>?_;obtain⟨F,ds,s,q,p⟩:=h;rcases ds with _|⟨d,_|⟨_,_⟩⟩
 .exact aJ.stuck p
 .obtain⟨v,vs,rfl,U,b⟩:=q;cases(show vs=[]from b);cases d with
  |lst ds=>
   obtain⟨a,xs,e,t,z⟩:=U;have J:aJ X.K W own F H ((bj ds).bind λS=>.ok _) Q:=p;cases hi:bj ds with
   |error e=>rw[hi]at J;have:=ee hi;subst this;exact aJ.stuck J|ok S=>rw[hi]at J;have Y:=cS z hi;subst Y;exact⟨a,S,by rw[e],s.lst t,aJ.int J s⟩
  |_=>exact aJ.stuck p
 .cases d<;>exact aJ.stuck p
end
noncomputable def Itz(K:Pn)(a b:k_):It:=
 ⟨λi H=>∃xs ys x y,SqL K H a xs/\SqL K H b ys/\xs[i]?=a_ x/\ys[i]?=a_ y,λi H v H'=>∃T x y,H T=g_/\v=.ref T/\H'=upd H T (.tup [x,y])/\(∀xs,SqL K H a xs->xs[i]?=a_ x)/\∀ys,SqL K H b ys->ys[i]?=a_ y,λi H=>∃xs ys,SqL K H a xs/\SqL K H b ys/\(xs.length<=i\/ys.length<=i)⟩
theorem turn_zip{Y g f d G F:k_}(D:Jl z Y g f d G F):
  Turn P w K (.Tuple elts k pos) (Itz K G F) [z,Y,g,f,d] z (λi h=>IsZip h z Y g .none/\La h Y (.ref f) (.ref d)/\(∃a b,La h g a b)/\h.IsListIter f G i/\h.IsListIter d F i) where
 mem:=by simp
 obj:=λi h st b U=>by
  obtain⟨l,J,⟨a,c,S⟩,⟨o1,e1,c1,d1⟩,⟨o2,e2,c2,d2⟩⟩:=st
  grind
 keep:=λi h h' st n=>by obtain⟨l,J,⟨a,c,S⟩,h1,m⟩:=st;exact⟨n z aj _ l,n Y aj _ J,⟨a,c,n g aj _ S⟩,h1.at λo x=>n f aj o x,m.at λo x=>n d aj o x⟩
 item:=by
  intro X O hw Q Z i B2 s σ H E I A st N;subst O hw Q;obtain⟨l,J,⟨a,c,S⟩,h1,m⟩:=st;obtain⟨xs,ys,x,y,v,t,gx,gy⟩:=N;obtain⟨its,B,p,_⟩:=I.list v;obtain⟨r,j,p2,_⟩:=I.list t;obtain⟨u,hu,ru⟩:=B.get gx;obtain⟨T,hu2,C⟩:=j.get gy;refine wpAny_pyNext_zip_item D l J S h1 m p.isList p2.isList (x:=u) (y:=T) as as λh' a1 a2 a3 a4 a5 a6 a7=>?_;refine⟨_,rfl,NI a1 λR b1 b2=>?_⟩
  have lz:z<s.z:=m_ l;have lTI:Y<s.z:=m_ J;have lTO:g<s.z:=m_ S;have li1:f<s.z:=by obtain⟨o,e,_⟩:=h1;exact m_ e
  have li2:d<s.z:=by obtain⟨o,e,_⟩:=m;exact m_ e
  have I1:B3 X B2 σ (upd H s.z (.tup [x,y])) {s with heap:=R,toks:=s.toks}:=I.su (ch:=[z,Y,g,f,d]) A (λb o U q=>by simp only[n_,HJ,MB,not_or]at U;exact(b2.2 b U.1).trans (a7 b o U.1 U.2.2.1 U.2.2.2.1 U.2.2.2.2 q)) (o_ _) ⟨aj,[u,T],.cons ru (.cons C .nil),⟨_,(b2.2 _ (GP lz)).trans a5,rfl,0,rfl⟩⟩
  refine⟨.ref s.z,_,I1,rfl,⟨s.z,x,y,I.hok.fresh (o_ _),rfl,rfl,λzs L=>by rw[I.nQ L v];exact gx,λzs L=>by rw[I.nQ L t];exact gy⟩,
   ⟨b1,(b2.2 _ D.TIz).trans (a7 Y _ D.TIz D.TITO D.TIi1 D.TIi2 J),⟨_,_,(b2.2 _ D.TOz).trans a2⟩,a3.at λo q=>(b2.2 _ D.i1z).trans q,a4.at λo q=>(b2.2 _ D.i2z).trans q⟩,λb U=>?_⟩
  have hbn:=(A b U).1;have:b≠s.z:=by simp only[n_,HJ,MB]at U;rcases U with rfl|rfl|rfl|rfl|rfl<;>exact E_ (by assumption)
  simp_all[aw]
 done:=by
  intro X O hw Q Z i B2 s σ H E I A st N;subst O hw Q;obtain⟨l,J,⟨a,c,S⟩,h1,m⟩:=st;obtain⟨xs,ys,v,t,W⟩:=N;obtain⟨its,B,p,_⟩:=I.list v;obtain⟨r,j,p2,_⟩:=I.list t;have e1:=B.length;have e2:=j.length;refine wpAny_pyNext_zip_end (I.ok.hd Z) D l J S h1 m p.isList p2.isList ?_ λh' hk=>⟨rfl,I.sv (t':=s.toks) (ch:=[z,Y,g,f,d]) A λb o U q=>?_⟩
  .simp_all
  simp_all
 self:=λ_ _ _ _ _ st h=>KV st.1 h
theorem sk:∀(ds es:List A') (i:Nat),(k7 ds es)[i]?=(ds[i]?).bind λd=>(es[i]?).map λe=>.tup [d,e]
 |[],es,i=>by rfl|d::ds,[],i=>by simp[k7]|d::ds,e::es,0=>by rfl|d::ds,e::es,i+1=>by rw[k7,Io,sk ds es i,Io,Io]
theorem kL:∀(ds es:List A'),(k7 ds es).length=min ds.length es.length
 |[],es=>by rfl|d::ds,[]=>by rfl|d::ds,e::es=>by rw[k7,FK,kL ds es,FK,FK];lia
theorem iter_zip{ys:a0}{es:List A'}(t:SqL K F a xs)(z:ay K F ds xs)(e:SqL K F b ys)(c:ay K F es ys):qJ K F (Itz K a b) (k7 ds es) where
 go:=λi F' H' S J hi=>by rw[kL]at hi;exact⟨xs,ys,xs[i]'(by rw[z.length];lia),ys[i]'(by rw[c.length];lia),J.lst (S.lst t),J.lst (S.lst e),y_ _,y_ _⟩
 yl:=λi F' H' x H2 d S J hd j=>by
  obtain⟨T,h,g,f,ex,l,h1,k⟩:=j;subst ex l;rw[sk]at hd;cases Y:ds[i]? with
  |none=>simp_all|some o=>
   cases U:es[i]? with
   |none=>simp_all|some n=>
    rw[Y,U]at hd;simp at hd;subst hd;obtain⟨v,e1,q⟩:=z.get Y;obtain⟨m,e2,q2⟩:=c.get U;have e3:=h1 xs (J.lst (S.lst t));have e4:=k ys (J.lst (S.lst e));rw[e1]at e3;rw[e2]at e4;cases e3;cases e4;refine⟨upd F' T _,Step.lay J f,T,_,rfl,SqT.of aq,?_⟩
    exact⟨h,[g],rfl,(q.mono S).mono (aU.upd (J.free f)),g,[],rfl,(q2.mono S).mono (aU.upd (J.free f)),rfl⟩
 st:=λF' H' S J=>⟨xs,ys,J.lst (S.lst t),J.lst (S.lst e),by rw[z.length,c.length,kL];lia⟩
section
variable{W:cP}{a b:GI}
def iZip(K:Pn)(ta tb:TE):TI:=λσ H R=>ta σ H λx H1=>tb σ H1 λy H2=>∃a b,x=.ref a/\y=.ref b/\(∃xs,SqL K H2 a xs)/\(∃ys,SqL K H2 b ys)/\R (Itz K a b) H2
theorem pi_zip(C:Gl X "zip")(A:X.mg "zip"=g_)(D:PE X a ta)(d:PE X b tb)(K:j_ [a,b] X.env=[(c_,FL a X.env),(c_,FL b X.env)])(U:j_ [b] X.env=[(c_,FL b X.env)]):
  PI X (.Tuple elts k q) (.Call (.Name "zip" p) [a,b] [] pos) (iZip X.K ta tb):=by
 intro B2 s σ H R I h;refine MU (gH I C A boot_zip (FR (B' ((aR D (aR d cA U) as) pos B2 s σ H (λvs H1=>match vs with
  |[x,y]=>∃a b,x=.ref a/\y=.ref b/\(∃xs,SqL X.K H1 a xs)/\(∃ys,SqL X.K H1 b ys)/\R (Itz X.K a b) H1
  |_=>False) I h) λus J ⟨vs,H1,c,w,q1⟩=>?_) as (by rw[U];rfl)))
 rcases vs with _|⟨x,_|⟨y,_|⟨_,_⟩⟩⟩
 .exact Gh q1
 .exact Gh q1
 rotate_left
 .exact Gh q1
 .obtain⟨l,G,e1,e2,⟨xs,z⟩,⟨ys,g⟩,q⟩:=q1;subst e1 e2;obtain⟨u,E,rfl,v,f⟩:=w.two;cases v;cases f;obtain⟨its,F,pl,_⟩:=c.list z;obtain⟨o,t,S,_⟩:=c.list g;refine call_zip_2 pl.isList S.isList λh' r n m j i hsz B=>?_;refine KV r ?_;refine⟨J.z+4,[J.z+4,J.z+2,J.z+3,J.z,J.z+1],_,_,H1,rfl,(c.kept (t':=J.toks) B),turn_zip (zipApart_new (by obtain⟨_,e,_⟩:=pl.isList;exact m_ e) (by obtain⟨_,e,_⟩:=S.isList;exact m_ e)),⟨r,n,⟨_,_,m⟩,j,i⟩,λb d=>?_,q⟩
  have Y:J.z<=b:=by
   simp at d;rcases d with rfl|rfl|rfl|rfl|rfl
   .simp
   .simp
   .simp
   .simp
   .simp
  exact c.fpOk Y (c.hok.fresh Y)
theorem di_zip(m:X.mg "zip"=g_)(u:DE K W c_ X a fa)(o:DE K W c_ X b fb)(n: ~~~(Gl X "zip"))(l: ~~~(j_ [a,b] X.env=[(c_,FL a X.env),(c_,FL b X.env)]))(Y: ~~~(j_ [b] X.env=[(c_,FL b X.env)]))(w: ~~~(X.K=K)):
  DI K W X (.Tuple elts k q) (.Call (.Name "zip" p) [a,b] [] pos) (fZip fa fb):=by
 subst w;exact(pi_zip n m u o l Y).imp λ_ _ _=>by
   intro h;obtain⟨F,ρ,r,s,p⟩:=h;refine aO r s (λe g=>?_) λd hd v F1 H1 S q1=>?_
   .simp_all[fZip]
   .refine aO (r.mono S.ff) S.fh (λe g=>?_) λi c y x H2 J q2=>?_
    .have z:fZip fa fb ρ=.error e:=by unfold fZip;rw[hd,g];rfl
     rw[z]at p;exact W.mono p S
    .have z:fZip fa fb ρ=(ki d).bind λds=>(ki i).bind λes=>.ok (k7 ds es):=by unfold fZip;rw[hd,au,c,au]
     rw[z]at p;cases d with
     |lst ds=>
      cases i with
      |lst es=>obtain⟨b,xs,e,t,j⟩:=q1;obtain⟨b2,ys,e2,f,U⟩:=q2;have t':=J.ff.lst t;exact⟨b,b2,e,e2,⟨xs,J.fh.lst t'⟩,⟨ys,J.fh.lst f⟩,p _ x H2 (S.trans J) (iter_zip t' (j.mono J.ff) f U)⟩
      |_=>exact(W.ns p).elim
     |_=>exact(W.ns p).elim
end
section
variable{s:i_}
noncomputable abbrev newL:JM:={cls:=.type "list",data:=.seq ([]:aH).toArray}
def yU{Q:aH->i_->Prop}{a b:Int}{t u v:Tok}(y:A.handled=g_)(p:IsRange s.heap r a b 1 t u v)(d:Kq a b 1=f_)(x:IS a b 1=n)(U:n<=2^24)(B:∀g tk (J:Array h_),(∀c o,s.heap.get? c=a_ o->g.get? c=a_ o)->Oy (λi v=>∃t,v=.int (a+i*1) t) J n->Q J.toList {s with heap:=g,toks:=tk}):r_ (x_ prog w) A (collect (.ref r)) Q E s:=by
 refine b_ (Lr (GK Lb ?_));refine b_ (FP (e_ ⟨Hz Ks _,GK LZ ?_⟩))
 (rw[Ng Ks _])
 refine Gx (wpAny_extend_range (R:=λS z=>S=.ok (.ret (.ref s.z))/\∃(J:Array h_) (c:Nat),z.heap.get? s.z=a_ {cls:=.type "list",dict:=g_,data:=.seq J c,slots:=#[]}/\Q J.toList z) y (d_ _ p) d x U s.z _ 0 (l_ _ rfl) λg tk J c k Y l=>?_) (λj z h=>?_) λe z h=>FN h.1 aj
 .exact⟨rfl,J,c,Y,B g tk J (λz o e=>k z o (E_ (m_ e)) (d_ _ e)) l⟩
 .cases j with
  |done f=>obtain⟨e,J,c,Y,q⟩:=h;cases e;exact b_ (K6 Y (e_ q))
  |again C=>
   refine⟨h.1,HA h.2 λS z m=>?_⟩
   obtain⟨rfl,J,c,Y,q⟩:=m;exact b_ (K6 Y (e_ q))
theorem sx{a b:Int}{t u v:Tok}(Y:Kq a b 1=f_)(q:IS a b 1=n)(S:n<=2^24):
  MeetsIn prog w (Builtin.«tuple.__new__» ⟨[.type "tuple",.ref r],[]⟩)
   (λA R s=>A.handled=g_/\IsRange s.heap r a b 1 t u v/\∀(g:FX) (tk:Nat) (J:Array h_),(∀c o,s.heap.get? c=a_ o->g.get? c=a_ o)->Oy (λi v=>∃t,v=.int (a+i*1) t) J n->R (.ok (.ret (.ref g.objs.size))) {s with heap:=g.push {cls:=.type "tuple",data:=.seq J},toks:=tk}):=
 .of_wp λA R s h=>by
  obtain⟨z,g,d,tk,os⟩:=s;obtain⟨y,l,h⟩:=h;have k:=sub_tuple_self;have f:=init_tuple_lookup;have x:=madeHere_tuple
  wp_walk using wpAny_loadPart' l,J9 hT,yU (A:=A.in1) (n:=n) y l Y q S
  intro g2 U J m j;show r_ _ _ (Qs J.toList.toArray >>=λv=>ret v) _ _ _;have p:J.toList.toArray.size<=t_:=by rw[G4];have:=j.1;simp;lia
  refine b_ (FP (e_ ⟨_,rfl,?_⟩) p);have e:J.toList.toArray=J:=by simp
  rw[e];exact h g2 U J m j
end
section
variable{s:i_}
theorem nK{Q:Mq}{a b:Int}{t u v:Tok}(j:A.handled=g_)(f:IsRange s.heap r a b 1 t u v)(Y:Kq a b 1=f_)(h:IS a b 1=n)(S:n<=2^24)(k:∀(g:FX) (tk:Nat) (J:Array h_),(∀c o,s.heap.get? c=a_ o->g.get? c=a_ o)->Oy (λi v=>∃t,v=.int (a+i*1) t) J n->Q (.ref g.objs.size) {s with heap:=g.push {cls:=.type "tuple",data:=.seq J},toks:=tk}):
  r_ (x_ prog w) A (Jv (.type "tuple") [.ref r]) Q E s:=
 callType_newIn F.called_tuple al (F.typeCall_tuple_1 _) (F.newCall_tuple_1 _) (λU=>M6 U _) F.entry_tuple_new
  (sx Y h S) ⟨j,f,λg tk J d e=>⟨⟨_,l_ _ rfl,rfl⟩,k g tk J d e⟩⟩
end
section
variable{W:cP}{own:Bool}{a b:GI}{fr:ah->M (List A')}
theorem qB(d:X.calm=f_):du X (.type "tuple") (λxs H Q=>∃r lo hi,xs=[.ref r]/\H r=a_ (.rng lo hi)/\(-(2^62)<=lo/\lo<2^62/\ -(2^62)<=hi/\hi<2^62)/\(hi-lo).toNat<=t_/\∀l,H l=g_->Q (.ref l) (upd H l (.tup ((A1 (hi-lo).toNat).map λk:Nat=>V.int (lo+k))))):=by
 intro B2 s σ H xs us Q I a h;obtain⟨r,lo,hi,rfl,f,⟨b1,b2,b3,j⟩,m,q⟩:=h;obtain⟨u,rfl,Y⟩:=a.one;cases Y;obtain⟨t,u,v,e⟩:=(show ∃t u v,s.heap.get? r=a_ {cls:=.type "range",data:=.fields #[.int lo t,.int hi u,.int 1 v]}from I.hok r _ f)
 refine nK (n:=(hi-lo).toNat) (I.ok.hd d) e (Qk b1 b2 b3 j) (by grind[NV]) as λg tk J c S=>?_;have hv:B6 ((A1 (hi-lo).toNat).map λk:Nat=>V.int (lo+k)) J.toList:=rB (by exact S.1) λi v hi=>by
  obtain⟨t,e⟩:=S.2 i v (by simpa using hi)
  simp_all
 have U:B3 X B2 σ H {s with heap:=g,toks:=tk}:=I.kept c;exact⟨.ref _,_,U.laid (λb o e=>d_ _ e) (o_ _) (show dq _ _ _ (.tup _)from⟨as,J.toList,hv,⟨_,l_ _ rfl,rfl,0,aj⟩⟩),rfl,q _ U.fresh⟩
def fTR(fr:ah->M (List A')):ah->M A':=λρ=>(fr ρ).bind cb
theorem trng_end{Q:VK}{i j:Int}(p:aJ K W own F H1 (cb (aE i (j-i).toNat)) Q)(s:aU F H1)(Y:H1 r=g_):
  (j-i).toNat<=t_/\∀l,upd H1 r (.rng i j) l=g_->Q (.ref l) (upd (upd H1 r (.rng i j)) l (.tup ((A1 (j-i).toNat).map λk:Nat=>V.int (i+k)))):=by
 unfold cb at p;by_cases U:(aE i (j-i).toNat).length<=t_
 .rw[p_ U]at p;refine⟨by simp_all[aE],λl J=>?_⟩
  have S:Step F H1 F (upd H1 r (.rng i j)):=Step.grow s Y;refine p _ _ _ (S.trans (Step.lay (o:=.tup ((A1 (j-i).toNat).map λk:Nat=>V.int (i+k))) S.fh J)) ?_;cases own<;>exact⟨l,_,rfl,SqT.of aq,pA i _⟩
 .rw[q_ U]at p;exact(W.ns p).elim
theorem Av(Y:X.mg "tuple"=g_)(l:X.mg "range"=g_)(o:DA K W X [a] fr)(n: ~~~(X.calm=f_))(m: ~~~(Gl X "range"))(b: ~~~(Gl X "tuple"))(k: ~~~(j_ [a] X.env=[(c_,FL a X.env)]))(S: ~~~(j_ [.Call (.Name "range" q1) [a] [] q2] X.env=[(c_,FL (.Call (.Name "range" q1) [a] [] q2) X.env)])):DE K W own X (.Call (.Name "tuple" p) [.Call (.Name "range" q1) [a] [] q2] [] pos) (fTR (iH jJ fr)):=by
 refine PE.imp (kW (qB n) b Y H_ (aR (pe_rng1 m l o k) cA S) al al S rfl) λσ H Q h=>?_;obtain⟨F,ρ,r,s,p⟩:=h;refine jk r s (λe q=>p.err (by simp_all[fTR])) λds hd xs F1 H1 d q1=>?_;have e1:fTR (iH jJ fr) ρ=(jJ ds).bind cb:=by unfold fTR iH;rw[hd];rfl
 rw[e1]at p;have p1:=p.step d;by_cases c:∃j,ds=[.int j]
 .obtain⟨j,rfl⟩:=c;obtain⟨v,vs,e2,q2,e3⟩:=q1;have p2:aJ K W own F1 H1 ((if bK j=f_ then Hc (aE 0 j.toNat)else Ir Err.stuck).bind cb) Q:=p1;by_cases J:bK j=f_
  .rw[p_ J]at p2;unfold bK at J;simp at J;have e4:xs=[.int j]:=by rw[e2,show v=.int j from q2,show vs=[]from e3]
   subst e4;refine⟨0,j,rfl,rfl,⟨al,al,J.1,J.2⟩,λi U=>?_⟩
   obtain⟨g,f⟩:=trng_end (by rw[Int.sub_zero];exact p2) d.fh U;exact⟨i,0,j,rfl,aq,⟨al,al,J.1,J.2⟩,g,f⟩
  .rw[q_ J]at p2;exact(W.ns p2).elim
 .have:jJ ds=.error .stuck:=by
   unfold jJ;split
   .lia
   .rfl
  rw[this]at p1;exact(W.ns p1).elim
@[simp]def e_TR{ρ:ah}:fTR fr ρ=(fr ρ).bind cb:=id rfl
end
def fn_stk{base:FX}{f:k_}:gQ P w K mg base CX0 k f fd ps (spF K ro (bo nN ps.length λ_=>stk) ps.length) where
 len:=λvs H Q E ⟨F,ds,s,q,l,p⟩=>by rw[q.length,l]
 run:=λA outer s H J us vs Q E U Y a hv ⟨F,ds,S,q,l,p⟩=>by
  have e:bo nN ps.length (λ_=>stk) ds=stk:=by unfold bo;rw[p_ l];rfl
  rw[e]at p;exact aJ.stuck p
theorem zU{n:Nat}:∀{ds:List A'} {d:A'},iu ds n=f_->d∈ds->C' d n=f_
 |[],d,_,h=>by simp at h|a::ds,d,h,hd=>by
  unfold iu at h;simp at h;rcases n_.mp hd with e|e
  .simp_all
  .exact zU h.2 e
section
variable{W:cP}{own:Bool}
open Classical in
theorem has_D{s:Shared}(I:B3 X B2 σ H s)(hF:aU F H){a:A'}{x:V}(od:iu ds 40=true)(oa:C' a 40=true)(qs:ay X.K F ds xs)(rv:B6 xs its)(qa:bc X.K F a x)(ra:B5 x u)(hu:A.units+40<cLine):
  ∃e:Value->Bool,(∀y,y∈its.toArray->SeqAt.EqAt A s y u (e y))/\its.toArray.any e=ds.any λd=>eqD d a:=by
 have each:∀(i:Nat) (y:Value),its[i]?=some y->∃d,ds[i]?=some d/\SeqAt.EqAt A s y u (eqD d a):=λi y hy=>by
  have hi:i<its.length:=(List.getElem?_eq_some_iff.mp hy).1;have h1:i<xs.length:=by rw[rv.length];exact hi
  have h2:i<ds.length:=by rw[<- qs.length];exact h1
  obtain⟨v,e1,q1⟩:=qs.get (List.getElem?_eq_getElem h2);obtain⟨w,e2,r2⟩:=rv.get e1;rw[hy]at e2;cases e2;exact⟨_,List.getElem?_eq_getElem h2,Ez I hF _ a (zU od (List.getElem_mem h2)) oa q1 qa r2 ra hu⟩
 refine⟨λy=>decide (∃(i:Nat) (d:A'),its[i]?=some y/\ds[i]?=some d/\eqD d a=true),λy hy=>?_,?_⟩
 .by_cases h:∃(i:Nat) (d:A'),its[i]?=some y/\ds[i]?=some d/\eqD d a=true
  .obtain⟨i,d,h1,h2,h3⟩:=h;obtain⟨d',h4,h5⟩:=each i y h1;rw[h2]at h4;cases h4;rw[h3]at h5;have:decide (∃(i:Nat) (d:A'),its[i]?=some y/\ds[i]?=some d/\eqD d a=true)=true:=decide_eq_true ⟨i,d,h1,h2,h3⟩
   simp_all
  .have hm:y∈its:=by simpa using hy
   obtain⟨i,hi⟩:=List.getElem?_of_mem hm
   grind[decide_eq_false]
 .rw[Bool.eq_iff_iff];simp only[List.any_toArray,List.any_eq_true,decide_eq_true_eq];constructor
  .rintro⟨y,hy,i,d,h1,h2,h3⟩;exact⟨d,List.mem_of_getElem? h2,h3⟩
  .rintro⟨d,hd,h3⟩;obtain⟨i,hi⟩:=List.getElem?_of_mem hd;have h2:i<ds.length:=(List.getElem?_eq_some_iff.mp hi).1;have h4:i<its.length:=by rw[<- rv.length,qs.length];exact h2
   exact⟨its[i],List.getElem_mem h4,i,d,List.getElem?_eq_getElem h4,hi,h3⟩
theorem o_in(o:X.A.units+64<GB)(n: ~~~(X.K=K)):Op2 K W own X (Gy .In) inM:=by
 subst n;intro B2 s σ H x y v u Q I j i h;obtain⟨F,a,b,U,m,k,p⟩:=h;have Y:=by show X.A.units+1+40<GB;lia
 cases b with
 |lst ds=>
  obtain⟨l,xs,e,t,z⟩:=k;subst e;cases i;have S:aJ X.K W own F H (if (C' a 40&&iu ds 40)=f_ then .ok (.bl (ds.any λd=>eqD d a))else stk) Q:=p;by_cases J:(C' a 40&&iu ds 40)=f_
  .rw[p_ J]at S;simp at J;obtain⟨its,c,pl,_⟩:=I.list (U.lst t);obtain⟨e,f,g⟩:=has_D (A:=X.A.in1) I U J.2 J.1 z c m j Y;refine SeqAt.in_listAt e pl.isList f ?_;rw[g];exact S.blS U I
  .rw[q_ J]at S;exact S.stuck
 |tup ds=>
  obtain⟨l,xs,e,t,z⟩:=k;subst e;cases i;have S:aJ X.K W own F H (if (C' a 40&&iu ds 40)=f_ then .ok (.bl (ds.any λd=>eqD d a))else stk) Q:=p;by_cases J:(C' a 40&&iu ds 40)=f_
  .rw[p_ J]at S;simp at J;obtain⟨its,c,pl,_⟩:=I.tuple (U.tup t);obtain⟨e,f,g⟩:=has_D (A:=X.A.in1) I U J.2 J.1 z c m j Y;refine SeqAt.in_tupleAt e (show s.heap.IsTuple l its.toArray from pl) f ?_;rw[g];exact S.blS U I
  .rw[q_ J]at S;exact S.stuck
 |_=>exact aJ.stuck p
theorem o_notIn(o:X.A.units+64<GB)(n: ~~~(X.K=K)):Op2 K W own X (Gy .NotIn) zX:=by
 subst n;intro B2 s σ H x y v u Q I j i h;obtain⟨F,a,b,U,m,k,p⟩:=h;have Y:=by show X.A.units+1+40<GB;lia
 cases b with
 |lst ds=>
  obtain⟨l,xs,e,t,z⟩:=k;subst e;cases i;have S:aJ X.K W own F H (if (C' a 40&&iu ds 40)=f_ then .ok (.bl (!ds.any λd=>eqD d a))else stk) Q:=p;by_cases J:(C' a 40&&iu ds 40)=f_
  .rw[p_ J]at S;simp at J;obtain⟨its,c,pl,_⟩:=I.list (U.lst t);obtain⟨e,f,g⟩:=has_D (A:=X.A.in1) I U J.2 J.1 z c m j Y;refine SeqAt.notIn_listAt e pl.isList f ?_;rw[g];exact S.blS U I
  .rw[q_ J]at S;exact S.stuck
 |tup ds=>
  obtain⟨l,xs,e,t,z⟩:=k;subst e;cases i;have S:aJ X.K W own F H (if (C' a 40&&iu ds 40)=f_ then .ok (.bl (!ds.any λd=>eqD d a))else stk) Q:=p;by_cases J:(C' a 40&&iu ds 40)=f_
  .rw[p_ J]at S;simp at J;obtain⟨its,c,pl,_⟩:=I.tuple (U.tup t);obtain⟨e,f,g⟩:=has_D (A:=X.A.in1) I U J.2 J.1 z c m j Y;refine SeqAt.notIn_tupleAt e (show s.heap.IsTuple l its.toArray from pl) f ?_;rw[g];exact S.blS U I
  .rw[q_ J]at S;exact S.stuck
 |_=>exact aJ.stuck p
end
abbrev ZRec(h:FX)(z p q:k_)(m k:h_):Prop:=h.get? z=a_ {cls:=.type "zip",dict:=g_,data:=.fields #[m,k,.bool c_,.ref p,.ref q],slots:=#[]}
def Off(z q u v:k_)(h h':FX):Prop:=∀c o,c≠z->c≠q->c≠u->c≠v->h.get? c=a_ o->h'.get? c=a_ o
section
variable{q u v:k_}{a b:h_}{g:FX}
def Off.then(A:Off z q u v h h')(B:Off z q u v h' g):Off z q u v h g:=λc o a b d e x=>B c o a b d e (A c o a b d e x)
def Off.byZ(A:GJ z h h'):Off z q u v h h':=λc o a _ _ _ x=>A c o a x
def Off.byQ(A:GJ q h h'):Off z q u v h h':=λc o _ a _ _ x=>A c o a x
def Off.byU(A:GJ u h h'):Off z q u v h h':=λc o _ _ a _ x=>A c o a x
def Off.byV(A:GJ v h h'):Off z q u v h h':=λc o _ _ _ a x=>A c o a x
def Off.new{o:JM}:Off z q u v h (h.push o):=λ_ _ _ _ _ _ x=>d_ _ x
end
section
variable{s:i_}{p q:k_}{r k:h_}
def Cz{T:Unit->i_->Prop}(S:ZRec s.heap z p q r k)(Y:∃o,s.heap.get? c=a_ o/\o.cls=.type "StopIteration")(a:∀h',GJ z s.heap h'->(∃o,h'.get? c=a_ o/\o.cls=.type "StopIteration")->T () {s with heap:=h'}):r_ (x_ P w) A (Lv (.ref z) 0 .none) T E s:=by
 obtain⟨o,e,t⟩:=Y;have U:c≠z:=by intro J;rw[GN (e.symm.trans (J▸S))]at t;exact FN t aj
 exact PB S (show 0<5 by decide) λh' _ B=>a h' B.extBut ⟨o,B.extBut _ _ U e,t⟩
end
theorem Step.stays{o:HO}(s:Step F H F' H')(n:F a=g_)(h:H a=a_ o):F' a=g_:=by
 cases e:F' a with
 |none=>rfl|some u=>
  rcases s.nw a u e with z|z
  .simp_all
  simp_all
structure xu(K:Pn)(F G H:Hp)(ds:List A')(vs:a0):Prop where
 len:vs.length=ds.length
 get:∀(k:Nat) (d:A'),ds[k]?=a_ d->∃a xs es,vs[k]?=a_ (.ref a)/\d=.lst es/\H a=a_ (.lst xs)/\F a=g_/\G a=g_/\ay K F es xs
 ap:∀(j k:Nat) (a:k_),vs[j]?=a_ (.ref a)->vs[k]?=a_ (.ref a)->j=k
section
variable{G:Hp}{vs:List V}
def xu.nil:xu K F G H [] []:=⟨rfl,λk d e=>by simp at e,λj k a e=>by simp⟩
def xu.step(o:xu K F G H ds vs)(s:Step F H F' H'):xu K F' G H' ds vs where
 len:=o.len
 get:=λk d e=>by obtain⟨a,xs,es,h1,b,J,Y,U,S⟩:=o.get k d e;exact⟨a,xs,es,h1,b,s.hh _ _ J,s.stays Y J,U,S.mono s.ff⟩
 ap:=o.ap
def xu.back{J:Hp}(o:xu K F G H ds vs)(s:aU J G):xu K F J H ds vs where
 len:=o.len
 get:=λk d e=>by obtain⟨a,xs,es,h1,c,b,Y,U,S⟩:=o.get k d e;exact⟨a,xs,es,h1,c,b,Y,s.free U,S⟩
 ap:=o.ap
theorem xu.at(o:xu K F G H ds vs)(h:vs[k]?=a_ (.ref a)):∃xs es,ds[k]?=a_ (.lst es)/\H a=a_ (.lst xs)/\F a=g_/\G a=g_/\ay K F es xs:=by
 have J:k<ds.length:=by rw[<- o.len];exact(v_.mp h).1
 obtain⟨b,xs,es,h1,d,c,Y,U,S⟩:=o.get k ds[k] aj
 simp_all
theorem xu.add(o:xu K F G H ds vs){es:List A'}(U:∀k:Nat,vs[k]?≠a_ (.ref a))(g:H a=a_ (.lst xs))(f:F a=g_)(c:G a=g_)(Y:ay K F es xs):xu K F G H (ds++[.lst es]) (vs++[.ref a]) where
 len:=by simp[o.len]
 get:=λk d e=>by
  rcases LO k ds.length with z|z|z
  .rw[GY z]at e;obtain⟨b,ys,fs,h,g2⟩:=o.get k d e;exact⟨b,ys,fs,by rw[GY (by rw[o.len];exact z)];exact h,g2⟩
  .subst z;simp at e;refine⟨a,xs,es,?_,e.symm,g,f,c,Y⟩
   rw[<- o.len];simp
  .have:=(v_.mp e).1;simp at this;lia
 ap:=λj k b e1 e2=>by
  have key:∀m,(vs++[V.ref a])[m]?=a_ _->(m<vs.length/\vs[m]?=a_ (.ref b))\/(m=vs.length/\b=a):=λm e=>by
   rcases LO m vs.length with z|z|z
   .rw[GY z]at e;exact .inl ⟨z,e⟩
   .subst z;simp at e;exact .inr ⟨rfl,e.symm⟩
   .have:=(v_.mp e).1;simp at this;lia
  rcases key j e1 with⟨_,S⟩|⟨S,l⟩<;>rcases key k e2 with⟨_,J⟩|⟨J,i⟩
  .exact o.ap j k b S J
  .grind
  .grind
  lia
end
section
variable{W:cP}
theorem rd_turns{p:Pat}{R:a0->Hp->Prop}(r:nh K F σ ρ)(s:aU F H)(hL:∀ρ d,fe ρ=.ok d->∃es,d=.lst es)(E:∀e,cL fi ix p ft fe ρ=.error e->W.p e F H)(hO:∀Q,cL fi ix p ft fe ρ=.ok (.lst Q)->∀ys f H2,Step F H f H2->xu K f H H2 Q ys->R ys H2):iD K W fi σ H λJ H1=>lE J ix (gP K p) (tDT K W ft) (tD K W f_ fe) σ R H1:=by
 refine⟨F,ρ,r,s,?_⟩
 cases Z:fi ρ with
 |error e=>exact E e (by unfold cL;rw[Z];rfl)|ok ds=>
  intro J F1 H1 A L;have G:cL fi ix p ft fe ρ=if ds.length<=t_ then(aQ p ft fe (eT ix ρ) ds).bind λr=>.ok (.lst r)else .error .stuck:=by unfold cL;rw[Z];rfl
  by_cases X:ds.length<=t_
  .rw[p_ X]at G;rw[G]at E hO;refine⟨λi m ys H2=>m=ds.length-i/\i<=ds.length/\∃f S,Step F1 H1 f H2/\xu K f H1 H2 S ys/\S.length<=i /\
    (match aQ p ft fe (eT ix ρ) (ds.drop i)with
     |.ok U=>aQ p ft fe (eT ix ρ) ds=.ok (S++U)|.error e=>W.p e F H),⟨ds.length,ad,GD _,F1,[],Step.refl A.fh,xu.nil,GD _,?_⟩,?_⟩
   .rw[Js];cases e:aQ p ft fe (eT ix ρ) ds with
    |ok U=>rfl|error x=>exact E x (by rw[e];rfl)
   .rintro i m ys H2 ⟨rfl,hi,f,S,g,I,ly,t⟩;have B:ys.length<=t_:=by rw[I.len];lia
    by_cases l:i<ds.length
    .have ed:ds.drop i=ds[i]::ds.drop (i+1):=Hk l;rw[ed]at t;refine .inr ⟨L.go i f H2 g.ff g.fh l,B,λu H'=>(i+1<=ds.length/\∃f S,Step F1 H1 f H'/\xu K f H1 H' S u/\S.length<=i+1 /\
      (match aQ p ft fe (eT ix ρ) (ds.drop (i+1))with
       |.ok U=>aQ p ft fe (eT ix ρ) ds=.ok (S++U)|.error e=>W.p e F H)),λu H' n=>⟨ds.length-(i+1),ad,rfl,n⟩,λx H' y=>?_⟩
     obtain⟨F3,j,q3⟩:=L.yl i f H2 x H' ds[i] g.ff g.fh aj y;have r3:nh K F3 (Lake.inS ix σ) (eT ix ρ):=(r.mono (A.trans (g.trans j)).ff).inS ix;have w:Step F H F3 H':=A.trans (g.trans j);have ec:aQ p ft fe (eT ix ρ) (ds[i]::ds.drop (i+1))=(d7 p ds[i] (eT ix ρ)).bind λY=>(ft Y).bind λb=>if b=f_ then(fe Y).bind λy=>(aQ p ft fe (eT ix ρ) (ds.drop (i+1))).bind λr=>.ok (y::r)else aQ p ft fe (eT ix ρ) (ds.drop (i+1)):=by rw[aQ]
     rw[ec]at t;cases D:d7 p ds[i] (eT ix ρ)with
     |error e=>rw[D]at t;have:=lJ D;subst this;exact(W.ns t).elim|ok Y=>
      rw[D]at t;refine gP_run r3 j.fh q3 D λσ2 T=>?_;have h:match ((ft Y).bind λb=>if b=f_ then(fe Y).bind λy=>(aQ p ft fe (eT ix ρ) (ds.drop (i+1))).bind λr=>.ok (y::r)else aQ p ft fe (eT ix ρ) (ds.drop (i+1)))with
       |.ok U=>aQ p ft fe (eT ix ρ) ds=.ok (S++U)|.error e=>W.p e F H:=t
      refine jj T j.fh (λe N=>by rw[N]at h;exact W.mono h w) λb O F5 H5 q=>?_;rw[O]at h;cases b with
      |false=>
       have c:match aQ p ft fe (eT ix ρ) (ds.drop (i+1))with
        |.ok U=>aQ p ft fe (eT ix ρ) ds=.ok (S++U)|.error e=>W.p e F H:=h
       exact⟨l,F5,S,g.trans (j.trans q),I.step (j.trans q),ad,c⟩
      |true=>
       have c:match ((fe Y).bind λy=>(aQ p ft fe (eT ix ρ) (ds.drop (i+1))).bind λr=>.ok (y::r))with
        |.ok U=>aQ p ft fe (eT ix ρ) ds=.ok (S++U)|.error e=>W.p e F H:=h
       refine aO (T.mono q.ff) q.fh (λe N=>by rw[N]at c;exact W.mono c (w.trans q)) λd hd v F6 H6 P q6=>?_;rw[hd]at c;obtain⟨es,rfl⟩:=hL _ _ hd;obtain⟨a,xs,ev,g1,g2,g3,g4⟩:=q6;subst ev;have d5:=I.step (j.trans q);refine⟨l,F6,S++[.lst es],g.trans (j.trans (q.trans P)),(d5.step P).add (λk hk=>?_) g1 g2 ((g.trans (j.trans q)).hh.free g3) g4,by simp;lia,?_⟩
       .obtain⟨_,_,_,z,_⟩:=d5.at hk;rw[g3]at z;cases z
       .have o:match ((aQ p ft fe (eT ix ρ) (ds.drop (i+1))).bind λr=>.ok (A'.lst es::r):M (List A'))with
         |.ok U=>aQ p ft fe (eT ix ρ) ds=.ok (S++U)|.error e=>W.p e F H:=c
        cases e7:aQ p ft fe (eT ix ρ) (ds.drop (i+1))with
        |ok U=>rw[e7]at o;show _=Hc ((S++[A'.lst es])++U);rw[Hf];exact o|error x=>rw[e7]at o;exact o
    .have:i=ds.length:=ad
     subst this;rw[JF]at t;have C:aQ p ft fe (eT ix ρ) ds=.ok (S++[]):=t;rw[HB]at C;exact .inl ⟨L.st f H2 g.ff g.fh,B,hO S (by rw[C];rfl) ys f H2 (A.trans g) (I.back A.hh)⟩
  .rw[q_ X]at G;exact(W.ns (E .stuck G)).elim
end
noncomputable def lstOf:A'->M (List A')
 |.lst ds=>.ok ds|_=>.error .stuck
def rowAt(J:List A')(a:Int):M (Nat×List A'):=match ixN J.length a with
 |some j=>(match J[j]? with
  |some (.lst es)=>.ok (j,es)|_=>.error .stuck)
 |none=>.error .stuck
def qU(S:List A')(J:Nat×List A')(b:Int)(x:A'):M (List A'):=match ixN J.2.length b with
 |some k=>.ok (S.set J.1 (.lst (J.2.set k x)))|none=>.error .stuck
def vw(i:Nat)(S:List A')(x:A')(U:Nat×List A')(fB:ah->M A')(ρ:ah):M B4:=(fB (ρ.set i g_)).bind λb=>(asI b).bind λb=>(qU S U b x).bind λJ=>.ok (.nx (ρ.set i (a_ (.lst J))))
def nt(i:Nat)(J:List A')(x:A')(fA fB:ah->M A')(ρ:ah):M B4:=(fA (ρ.set i g_)).bind λa=>(asI a).bind λa=>(rowAt J a).bind λS=>vw i J x S fB ρ
def Dc(i:Nat)(J:List A')(fx fA fB:ah->M A')(ρ:ah):M B4:=(fx (ρ.set i g_)).bind λx=>nt i J x fA fB ρ
def xQ(i:Nat)(fc fx fA fB:ah->M A'):ah->M B4:=λρ=>(fc ρ).bind λd=>(lstOf d).bind λJ=>Dc i J fx fA fB ρ
noncomputable def wW(g:ah->M B4)(m:M B4):M B4:=m.bind λfl=>match fl with
 |.nx ρ'=>g ρ'|fl=>.ok fl
def fK{m:M B4}{e:Err}(h:m=.error e):wW g m=.error e:=by rw[h];rfl
section
variable{W:cP}
theorem rs_rows{p:Pat}{fx fB:ah->M A'}(hL:∀ρ d,fe ρ=.ok d->∃es,d=.lst es)(hi:i<σ.length)(t:tS K W ro F0 H0 OL [] O' (aM (xQ i (cL fi ix p ft fe) fx fA fB) g) D σ H):
  tSeq (zq i (iD K W fi) ix (gP K p) (tDT K W ft) (tD K W f_ fe)) (tSeq (tAsg (tD K W c_ fx) (gSub (tOp (rIx K) (tVar i) (tD K W c_ fA)) (tD K W c_ fB) rSetL)) (tS K W ro F0 H0 OL [] O' g)) D σ H:=by
 obtain⟨FB,F,ρ,r,q⟩:=t;have rE:=r.repE;have q0:eQ K W ro F0 H0 FB OL O' D (wW g (xQ i (cL fi ix p ft fe) fx fA fB ρ)):=q;refine rd_turns rE r.st.fh hL (λe he=>q0.gI r.st (fK (by unfold xQ;rw[he];rfl))) λJ hrs ys F2 H2 N ow a ha=>?_;have q1:eQ K W ro F0 H0 FB OL O' D (wW g (Dc i J fx fA fB ρ)):=by unfold xQ at q0;rw[hrs]at q0;exact q0
 have r2:nh K F2 (σ.set i (a_ (.ref a))) (ρ.set i g_):=⟨by rw[Gk,Gk,r.len],λj d e=>by
  by_cases T:i=j
  .subst T;rw[Cb (by rw[r.len];exact hi)]at e;cases e
  .rw[z_ T]at e;obtain⟨v,h1,h2⟩:=rE.sl j d e;exact⟨v,as,h2.mono N.ff⟩⟩
 have sg:Step F2 H2 F2 (upd H2 a (.lst ys)):=Step.grow N.fh ha;have l:=N.trans sg;refine aO r2 sg.fh (λe he=>q1.gI (r.st.trans l) (fK (by simp_all[Dc]))) λx hx v F3 H3 Y qx=>?_;have q2:eQ K W ro F0 H0 FB OL O' D (wW g (nt i J x fA fB ρ)):=by unfold Dc at q1;rw[hx]at q1;exact q1
 refine⟨.ref a,as,?_⟩
 refine aO (r2.mono Y.ff) Y.fh (λe he=>q2.gI (r.st.trans (l.trans Y)) (fK (by simp_all[nt]))) λda Z va F4 H4 s qa=>?_;cases da with
 |int ka=>
  have y:eQ K W ro F0 H0 FB OL O' D (wW g ((rowAt J ka).bind λje=>vw i J x je fB ρ)):=by unfold nt at q2;rw[Z]at q2;exact q2
  have h3a:H3 a=a_ (.lst ys):=Y.hh _ _ aq;have h4a:=s.hh _ _ h3a;have P:=((ow.step sg).step Y).step s;have L:=l.trans (Y.trans s);cases hj:ixN J.length ka with
  |none=>exact y.stuck (fK (by simp_all[rowAt]))|some j=>
   have Q:=(yt hj).2.1;obtain⟨b,xs,es,g1,g2,g3,g4,g5,g6⟩:=P.get j J[j] aj;have erj:J[j]?=a_ (.lst es):=by rw[<- g2];simp[Q]
   have O:eQ K W ro F0 H0 FB OL O' D (wW g (vw i J x (j,es) fB ρ)):=by
    unfold rowAt at y;rw[hj]at y;have y:eQ K W ro F0 H0 FB OL O' D (wW g (((match J[j]? with
     |some (.lst es)=>.ok (j,es)|_=>.error .stuck):M (Nat×List A')).bind λje=>vw i J x je fB ρ)):=y
    rw[erj]at y;exact y
   refine .inl ⟨a,ys,ka,.ref b,rfl,qa,SqL.of h4a,?_,?_⟩
   .unfold atI;rw[ow.len,hj];exact g1
   refine aO (r2.mono (Y.trans s).ff) s.fh (λe he=>O.gI (r.st.trans L) (fK (by simp_all[vw]))) λdb X vb S G U qb=>?_;cases db with
   |int kb=>
    have q5:eQ K W ro F0 H0 FB OL O' D (wW g ((qU J (j,es) kb x).bind λrs'=>.ok (.nx (ρ.set i (a_ (.lst rs')))))):=by unfold vw at O;rw[X]at O;exact O
    cases hk:ixN es.length kb with
    |none=>exact q5.stuck (fK (by simp_all[qU]))|some k=>
     have q6:eQ K W ro F0 H0 FB OL O' D (g (ρ.set i (a_ (.lst (J.set j (.lst (es.set k x))))))):=by unfold qU at q5;rw[show((j,es):Nat×List A').2=es from rfl,hk]at q5;exact q5
     have h5a:=U.hh _ _ h4a;have h5b:=U.hh _ _ g3;have A:=P.step U;have st:Step F H S G:=L.trans U;refine⟨b,xs,kb,k,rfl,qb,h5b,by rw[g6.length];exact hk,?_⟩
     have ma:H a=g_:=N.hh.free ha;have fa2:F2 a=g_:=N.fh.free ha;have f5a:S a=g_:=(Y.trans (s.trans U)).stays fa2 (aq (H:=H2) (a:=a) (o:=.lst ys));have nab:a≠b:=λz=>by
      obtain⟨_,_,_,w,_⟩:=ow.at (k:=j) (a:=b) g1
      simp_all
     have inA:∀c,(c=a\/∃m:Nat,ys[m]?=a_ (.ref c))->S c=g_/\H c=g_:=λc h=>by
      rcases h with z|⟨m,z⟩
      .simp_all
      .obtain⟨_,_,_,_,z1,z2,_⟩:=A.at z;exact⟨z1,z2⟩
     have Ab:b=a\/∃m:Nat,ys[m]?=a_ (.ref b):=.inr ⟨j,g1⟩;have I:aU S (plus S (upd G b (.lst (xs.set k v))) λc=>c=a\/∃m:Nat,ys[m]?=a_ (.ref c)):=λc o h=>by grind[fD]
     have fh:aU (plus S (upd G b (.lst (xs.set k v))) λc=>c=a\/∃m:Nat,ys[m]?=a_ (.ref c)) (upd G b (.lst (xs.set k v))):=λc o h=>by
      by_cases hc:c=a\/∃m:Nat,ys[m]?=a_ (.ref c)
      .simp_all[jl]
      .rw[fD hc]at h;have:c≠b:=λz=>hc (by rw[z];exact Ab);rw[aw this];exact U.fh c o h
     have C:aU F3 (plus S (upd G b (.lst (xs.set k v))) λc=>c=a\/∃m:Nat,ys[m]?=a_ (.ref c)):=(s.trans U).ff.trans I;have B:aU F4 (plus S (upd G b (.lst (xs.set k v))) λc=>c=a\/∃m:Nat,ys[m]?=a_ (.ref c)):=U.ff.trans I;refine⟨FB,plus S (upd G b (.lst (xs.set k v))) (λc=>c=a\/∃m:Nat,ys[m]?=a_ (.ref c)),ρ.set i (a_ (.lst (J.set j (.lst (es.set k x))))),?_,q6⟩
     have f:=r.st.trans st;refine⟨⟨f.ff.trans I,λc o h=>?_,fh,λc o h=>?_⟩,r.fb.trans (st.ff.trans I),by rw[Gk,Gk,r.len],λm d e _=>?_,(λm d e h=>nomatch h),(λm n d1 d2 c h=>nomatch h)⟩
     .have:c≠b:=λz=>by
       rw[z]at h;have:=r.st.hh _ _ h
       lia
      rw[aw this];exact f.hh c o h
     .by_cases hc:c=a\/∃m:Nat,ys[m]?=a_ (.ref c)
      .exact .inr (r.st.hh.free (inA c hc).2)
      .rw[fD hc]at h;exact f.nw c o h
     .by_cases R:i=m
      .subst R;rw[Cb (by rw[r.len];exact hi)]at e;cases e;refine⟨.ref a,as,a,ys,rfl,SqL.of ?_,?_⟩
       .simp_all[jl,aw]
       .refine ay.of_get (by rw[Gk];exact ow.len) λm d u e1 e2=>?_;by_cases E:j=m
        .subst E;rw[Cb Q]at e1;cases e1;rw[g1]at e2;cases e2;exact⟨b,xs.set k v,rfl,SqL.of (by rw[jl Ab,aq]),ay.set (bc.mono C qx) k (g6.mono B)⟩
        .rw[z_ E]at e1;obtain⟨c,ws,fs,k1,k2,k3,k4,k5,k6⟩:=A.get m d e1;rw[k1]at e2;cases e2;subst k2;have ncb:c≠b:=λz=>E (A.ap j m b g1 as);exact⟨c,ws,rfl,SqL.of (by rw[jl (.inr ⟨m,k1⟩),aw ncb];exact k3),k6.mono I⟩
      .rw[z_ R]at e;obtain⟨u,h1,h2⟩:=rE.sl m d e;exact⟨u,as,h2.mono (st.ff.trans I)⟩
   |_=>exact O.stuck (fK (by unfold vw;rw[X];rfl))
 |_=>exact q2.stuck (fK (by unfold nt;rw[Z];rfl))
end
theorem E3{fr:ah->M (List A')}:∀ρ d,fL lb fr ρ=.ok d->∃es,d=.lst es:=λρ d h=>by
 unfold fL at h;cases e:fr ρ with
 |error x=>simp_all|ok ds=>
  rw[e]at h;have h:lb ds=.ok d:=h;unfold lb at h
  all_goals first
   |(split at h<;>first|(cases h;done)|(cases h;exact⟨_,rfl⟩))
section
variable{W:cP}{ea eb:GI}{pt:Pat}{fx fB:ah->M A'}{p3 p4:Qr}
def ds_rows(N':List FU)(ix:List (Option Nat))(u:X.N.Nodup)(hi:DI K W X tg iter fi)(p:∀L cs s H fp,DG K (b9 X N' sc L cs s H fp) tg pt)(n:pP ix (gP K pt))(k:∀L cs s H fp,PTs (b9 X N' sc L cs s H fp) ifs (tDT K W ft))(q:∀L cs s H fp,DE K W f_ (b9 X N' sc L cs s H fp) elt fe)(w:∀ρ d,fe ρ=.ok d->∃es,d=.lst es)(j:DE K W c_ X ex fx)(B:DE K W c_ X ea fA)(A:DE K W c_ X eb fB)(m:DSs K W ro X OL [] O' sts g)(b: ~~~(X.N[i]?=a_ x))(h: ~~~(X.env.scope.names.lookup x=a_ .local))(r: ~~~(X.calm=f_))(y: ~~~(X.K=K))(U: ~~~(G0 (.ListComp elt [⟨tg,iter,ifs,0⟩] sc pos) (a_ (.Name x py)) spos.line X.env=G2 f_))(f: ~~~(bD X.N X.env.scope N' sc ix=f_))(o: ~~~(sc.kind=.function))(l:autoParam (∀x,Ik iter X.env x=G2 x) Jq6)(hv:autoParam (Vis X.env.scope x) Jq5)(hd:((x==("__debug__":FU))=c_)⁻¹)(e:((x==("__classdict__":FU))=c_)⁻¹)(a:autoParam (zb ea) Jq12)(t:autoParam (∀v,KL (.Subscript (.Subscript (.Name x p1) ea p2) eb p3) X.env v=(do
   let J <- IW [v] (FL (.Subscript (.Name x p1) ea p2) X.env)
   let S <- IW [v,J] (FL eb X.env)
   K8 p3
   IW [v,J,S] (P2 J S v)
   release [v,J,S] [])) Jq6)(Y: ~~~(LU [.Subscript (.Subscript (.Name x p1) ea p2) eb p3] ex p4.line X.env=G2 c_))(hw: ~~~(LV [.Subscript (.Subscript (.Name x p1) ea p2) eb p3] ex X.env=G2 g_))(h1: ~~~((Ia [.Subscript (.Subscript (.Name x p1) ea p2) eb p3] X.env).map (·.2)=[KL (.Subscript (.Subscript (.Name x p1) ea p2) eb p3) X.env])):
  DSs K W ro X OL [] O' (.Assign [.Name x py] (.ListComp elt [⟨tg,iter,ifs,0⟩] sc pos) spos::.Assign [.Subscript (.Subscript (.Name x p1) ea p2) eb p3] ex p4::sts) (aM (xQ i (cL fi ix pt ft fe) fx fA fB) g):=by
 subst y;intro F0 H0 B2 s σ H D I z;have c:i<σ.length:=by rw[I.len];exact(v_.mp b).1
 refine kU (qZ N' ix u b h r hi p n k q U f o l) (kU (Dq j (pg_sub (pe_ix ix_seq (pv i b hv hd e) B a) A set_list t) Y hw h1) (m F0 H0)) B2 s σ H D I ?_;exact rs_rows w c z
end
section
variable{s:i_}
theorem jL{q:k_}{xs:Array h_}{Q:Mq}(st:s.heap.IsTupleIter q a i)(J:s.heap.IsTuple a xs)(hv:xs[i]?=a_ v)(k:∀h',h'.IsTupleIter q a (i+1)->Hd q s.heap h'->Q v {s with heap:=h'}):r_ (x_ prog w) A (K1 (.ref q)) Q E s:=by obtain⟨S,e1,e2,e3⟩:=id st;obtain⟨U,f1,_,Y,f3⟩:=J;have ty:=st.typeIs;refine b_ (F_ ty HY (FO HY ty Lf ?_ (Lc _)));show r_ _ _ (field _ 0 >>= _) _ _ s;refine b_ (GQ e1 e3 rfl ?_);refine b_ (GQ e1 e3 rfl ?_);refine b_ (GF f1 f3 ?_);simp[Hh,hv];refine b_ (Gz e1 e3 aj (e_ ⟨v,rfl,e_ (k _ ?_ (Gb ..))⟩));exact⟨_,FV _ e1 (HW (G7 e3 _)),(Ke ..).trans e2,by simp_all[G7,Hg]⟩
def oJ{q:k_}{xs:Array h_}{Q:Mq}(S:A.handled=g_)(st:s.heap.IsTupleIter q a i)(J:s.heap.IsTuple a xs)(hv:xs[i]?=g_)(k:∀h' e,GJ q s.heap h'->(∃o,h'.get? e=a_ o/\o.cls=.type "StopIteration")->E (.ref e) {s with heap:=h'}):r_ (x_ prog w) A (K1 (.ref q)) Q E s:=by
 obtain⟨U,e1,e2,e3⟩:=id st;obtain⟨Y,f1,_,b,f3⟩:=J;have ty:=st.typeIs;refine b_ (F_ ty HY (FO HY ty Lf ?_ (Lc _)));show r_ _ _ (field _ 0 >>= _) _ _ s;refine b_ (GQ e1 e3 rfl ?_);refine b_ (GQ e1 e3 rfl ?_);refine b_ (GF f1 f3 ?_);simp[Hh,hv];refine b_ (II (b_ (Gz e1 e3 aj (b_ ?_))));refine b_ (m:=Np _ _) (Ij (by rfl) ?_);refine FP ?_ (by size_fits);refine b_ (KJ ?_);first|rw[S]
 exact b_ (e_ (Lq (k _ _ (((Gb ..).extBut.push _).push _) ⟨_,l_ _ rfl,rfl⟩)))
end
def wA(Y:A.handled=g_)(q a:k_)(J:a≠q)(xs:Array h_):Draws prog w A q [q,a] xs.size (λi v=>xs[i]?=a_ v) (λi h=>h.IsTupleIter q a i/\h.IsTuple a xs) where
 live:=λ_ _ st=>let ⟨o,e,_⟩:=st.1;⟨o,e⟩
 frame:=λ_ _ _ st k=>⟨st.1.at λo e=>k q aj o e,let ⟨o,e,r⟩:=st.2;⟨o,k a aj o e,r⟩⟩
 item:=λi s Q E hi st k=>jL st.1 st.2 (v:=xs[i]) aj λh' U S=>k _ h' s.toks aj ⟨U,let ⟨o,e,r⟩:=st.2;⟨o,S.extBut a o J e,r⟩⟩ S
 done:=λs Q E st k=>oJ Y st.1 st.2 aj k
def EA(a:k_)(xs:Array h_)(n:Nat)(dd:Option k_)(sl:Array (Option h_)):Meets (Builtin.«enumerate.__new__» ⟨[.type "enumerate",.ref a],[]⟩) (λ_ R s=>s.heap.get? a=a_ {cls:=.type "tuple",dict:=dd,data:=.seq xs n,slots:=sl}/\R (.ok (.ret (.ref (s.heap.push {cls:=.type "tuple_iterator",data:=.fields #[.ref a,.int 0 0]}).objs.size))) {s with heap:=(s.heap.push {cls:=.type "tuple_iterator",data:=.fields #[.ref a,.int 0 0]}).push {cls:=.type "enumerate",data:=.fields #[.none,.bool c_,.ref s.heap.objs.size,Hg 0,.none,.none]}}):=
 .of_wp λprog w A R s h=>by
  obtain⟨U,g,d,tk,os⟩:=s;obtain⟨ea,h⟩:=h;have J:=sub_enumerate;have S:Nf (Nd ⟨U,g,d,tk,os⟩) a xs:=⟨_,ea,rfl,n,rfl⟩
  wp_walk using JZ ea
  refine wpAny_stack_any λz=>e_ ?_;split
  .rename_i c _ _ _ _ _;cases(c==HL "enumerate")<;>(wp_walk using JZ ea,Ju S;exact⟨_,rfl,h⟩)
  .wp_walk using JZ ea,Ju S
   exact⟨_,rfl,h⟩
section
variable{s:i_}
def Cd{xs:Array h_}{Q:Mq}(Y:s.heap.IsTuple a xs)(k:∀h',IsEnum h' (s.heap.objs.size+1) s.heap.objs.size 0 .none->h'.IsTupleIter s.heap.objs.size a 0->h'.objs.size=s.heap.objs.size+2->(∀b o,s.heap.get? b=a_ o->h'.get? b=a_ o)->Q (.ref (s.heap.objs.size+1)) {s with heap:=h'}):r_ (x_ prog w) A (Jv (.type "enumerate") [.ref a]) Q E s:=by
 obtain⟨⟨c,dd,d,sl⟩,e1,e2,n,e3⟩:=Y;subst e2 e3;refine callType_new PySem.F.called_enumerate al (PySem.F.typeCall_enumerate_1 _) (PySem.F.newCall_enumerate_1 _) (λJ=>M6 J _) PySem.F.entry_enumerate_new (EA a xs n dd sl) ⟨e1,?_⟩;have S:(s.heap.push {cls:=.type "tuple_iterator",data:=.fields #[.ref a,.int 0 0]}).objs.size=s.z+1:=Gi ..;rw[S];have U:=by have z:=l_ (s.heap.push {cls:=.type "tuple_iterator",data:=.fields #[.ref a,.int 0 0]}) (o:={cls:=.type "enumerate",data:=.fields #[.none,.bool c_,.ref s.z,Hg 0,.none,.none]}) rfl;rw[S]at z;exact z
 exact⟨⟨_,U,rfl⟩,k _ U ⟨_,d_ _ (l_ _ rfl),rfl,rfl⟩ aj λb o z=>d_ _ (d_ _ z)⟩
end
noncomputable def IteT(K:Pn)(a:k_):It:=
 ⟨λi H=>∃xs x,SqT K H a xs/\xs[i]?=a_ x,λi H x H'=>∃T y,H T=g_/\x=.ref T/\H'=upd H T (.tup [.int i,y])/\∀xs,SqT K H a xs->xs[i]?=a_ y,λi H=>∃xs,SqT K H a xs/\xs.length=i⟩
theorem Bd(a e U:k_)(r:e≠U):Turn P w K (.Tuple elts k pos) (IteT K a) [e,U] e (λi h=>(∃S,IsEnum h e U i S)/\h.IsTupleIter U a i) where
 mem:=by simp
 obj:=λi h st b Y=>by
  obtain⟨⟨S,f⟩,o,e1,c,d⟩:=st
  grind
 keep:=λi h h' st Z=>by obtain⟨⟨S,f⟩,J⟩:=st;exact⟨⟨S,Z e aj _ f⟩,J.at λo x=>Z U aj o x⟩
 item:=by
  intro X R hw T O i B2 s σ H E I B st L;subst R hw T;obtain⟨⟨S,f⟩,J⟩:=st;obtain⟨xs,x,t,D⟩:=L;obtain⟨its,C,p,hz⟩:=I.tuple t;obtain⟨u,hu,ru⟩:=C.get D;have l:s.heap.IsTuple a its.toArray:=p;have g:a≠U:=λz=>by
   obtain⟨W,c1,c2,_⟩:=l;obtain⟨o2,c3,c4,_⟩:=J
   lia
  have nea:e≠a:=λz=>by
   obtain⟨W,c1,c2,_⟩:=l
   lia
  have G:i<its.toArray.size:=by have:=(v_.mp hu).1;simpa using this
  refine wpAny_pyNext_enum_itemD (wA (A:=X.A.in1) (show X.A.in1.handled=g_ from I.ok.hd O) U a g its.toArray) f ⟨J,l⟩ G r as λv h1 tk hv ho m hT hsz hk=>?_;have F:v=u:=by rw[show its.toArray[i]?=its[i]? by simp,hu]at hv;exact(GN hv).symm
  subst F;refine⟨_,rfl,Nk ho λh2 N j=>?_⟩
  have n:e<s.z:=m_ f;have Q:s.z≠e:=GP n;have I1:B3 X B2 σ (upd H s.z (.tup [.int i,x])) {s with heap:=h2,toks:=tk+1}:=I.su (ch:=[e,U]) B (λb o Y q=>by have h3:=hk b o (λz=>Y (by simp[z])) (λz=>Y (by simp[z])) q;exact(j.2 b (λz=>Y (by simp[z]))).trans h3) (o_ _) ⟨aj,[.int i tk,v],.cons ⟨_,rfl⟩ (.cons ru .nil),⟨_,(j.2 _ Q).trans hT,rfl,0,rfl⟩⟩
  refine⟨.ref s.z,_,I1,rfl,⟨s.z,x,I.hok.fresh (o_ _),rfl,rfl,λys hy=>by rw[I.kN hy t];exact D⟩,⟨⟨v,by simpa using N⟩,m.1.at λo y=>(j.2 U r.symm).trans y⟩,λb Y=>?_⟩
  have hbn:=(B b Y).1;have:b≠s.z:=by
   rcases n_.mp Y with z0|Y
   .lia
   .have:b=U:=by simpa using Y
    subst this;obtain⟨o,e1,_⟩:=J;exact E_ (m_ e1)
  simp_all[aw]
 done:=by
  intro X R hw T O i B2 s σ H E I B st L;subst R hw T;obtain⟨⟨S,f⟩,J⟩:=st;obtain⟨xs,t,D⟩:=L;obtain⟨its,C,p,hz⟩:=I.tuple t;have hl:=C.length;have l:s.heap.IsTuple a its.toArray:=p;have g:a≠U:=λz=>by
   obtain⟨W,c1,c2,_⟩:=l;obtain⟨o2,c3,c4,_⟩:=J
   lia
  have hn:i=its.toArray.size:=by simp;lia
  rw[hn]at J;exact wpAny_pyNext_enum_endD (wA (A:=X.A.in1) (show X.A.in1.handled=g_ from I.ok.hd O) U a g its.toArray) f ⟨J,l⟩ λh2 eb=>⟨rfl,I.sv (t':=s.toks) (ch:=[e,U]) B λb o Y q=>eb b o (λz=>Y (by simp[z])) q⟩
 self:=λ_ _ _ _ _ st h=>by obtain⟨⟨S,f⟩,_⟩:=st;exact JG f h
theorem BU(t:SqT K F a xs)(z:ay K F ds xs):qJ K F (IteT K a) (eC 0 ds) where
 go:=λi F' H' S J hi=>⟨xs,xs[i]'(by rw[z.length];simp_all[jA]),J.tup (S.tup t),aj⟩
 yl:=λi F' H' x H2 d S J hd Y=>by
  obtain⟨T,y,b,ex,c,Y⟩:=Y;subst ex c;rw[pw]at hd;cases U:ds[i]? with
  |none=>simp_all|some e=>
   rw[U]at hd;simp at hd;subst hd;obtain⟨v,e1,q⟩:=z.get U;have e2:=Y xs (J.tup (S.tup t));rw[e1]at e2;cases e2;refine⟨upd F' T _,Step.lay J b,T,_,rfl,SqT.of aq,?_⟩
   exact⟨.int i,[y],rfl,rfl,y,[],rfl,(q.mono S).mono (aU.upd (J.free b)),rfl⟩
 st:=λF' H' S J=>⟨xs,J.tup (S.tup t),by rw[z.length,jA]⟩
def n8(fa:ah->M A'):ah->M (List A'):=λρ=>(fa ρ).bind λd=>(j8 d).bind λds=>.ok (eC 0 ds)
@[simp]def e_enum2{fa:ah->M A'}{ρ:ah}:n8 fa ρ=(fa ρ).bind λd=>(j8 d).bind λds=>.ok (eC 0 ds):=id rfl
section
variable{W:cP}{a:GI}
def iEnum2(K:Pn)(tl:TE):TI:=λσ H R=>tl σ H λx H1=>∃a,x=.ref a/\((∃xs,SqL K H1 a xs)/\R (Ite K a) H1\/(∃xs,SqT K H1 a xs)/\R (IteT K a) H1)
def pi_enum2{tl:TE}(w:Gl X "enumerate")(t:X.mg "enumerate"=g_)(v:PE X a tl)(i: ~~~(j_ [a] X.env=[(c_,FL a X.env)])):
  PI X (.Tuple elts k q) (.Call (.Name "enumerate" p) [a] [] pos) (iEnum2 X.K tl):=by
 intro B2 s σ H R I h;refine MU (gH I w t boot_enumerate (FR (B' ((aR v cA i) pos B2 s σ H (λvs H1=>match vs with
  |[x]=>∃a,x=.ref a/\((∃xs,SqL X.K H1 a xs)/\R (Ite X.K a) H1\/(∃xs,SqT X.K H1 a xs)/\R (IteT X.K a) H1)
  |_=>False) I h) λus J ⟨vs,H1,U,o,q1⟩=>?_) i rfl))
 rcases vs with _|⟨x,_|⟨_,_⟩⟩
 .exact Gh q1
 rotate_left
 .exact Gh q1
 .obtain⟨l,e1,q⟩:=q1;subst e1;obtain⟨u,rfl,n⟩:=o.one;cases n;have d:∀b∈[J.z+1,J.z],Cr X B2 H1 b:=λb g=>by
   have c:J.z<=b:=by
    rcases n_.mp g with j|g
    .subst j;simp
    .have:=by simpa using g
     exact LP this.symm
   exact U.fpOk c (U.hok.fresh c)
  rcases q with⟨⟨xs,e⟩,q⟩|⟨⟨xs,e⟩,q⟩
  .obtain⟨its,m,pl,r⟩:=U.list e;refine Pm pl.isList λy Y S hsz f=>?_;refine JG Y ?_;exact⟨J.z+1,[J.z+1,J.z],_,_,H1,rfl,(U.kept (t':=J.toks) f),uV l _ _ (KA _),⟨⟨_,Y⟩,S⟩,d,q⟩
  .obtain⟨its,m,pl,r⟩:=U.tuple e;refine Cd (show J.heap.IsTuple l its.toArray from pl) λy Y S hsz f=>?_;refine JG Y ?_;exact⟨J.z+1,[J.z+1,J.z],_,_,H1,rfl,(U.kept (t':=J.toks) f),Bd l _ _ (KA _),⟨⟨_,Y⟩,S⟩,d,q⟩
theorem u6(U:X.mg "enumerate"=g_)(Y:DE K W c_ X a fa)(c: ~~~(Gl X "enumerate"))(S: ~~~(j_ [a] X.env=[(c_,FL a X.env)]))(f: ~~~(X.K=K)):
  DI K W X (.Tuple elts k q) (.Call (.Name "enumerate" p) [a] [] pos) (n8 fa):=by
 subst f;exact(pi_enum2 c U Y S).imp λ_ _ _=>by
   intro h;obtain⟨F,ρ,r,s,p⟩:=h;refine aO r s (λe g=>?_) λd hd v F1 H1 J q1=>?_
   .simp_all[n8]
   .have z:n8 fa ρ=(j8 d).bind λds=>.ok (eC 0 ds):=by unfold n8;rw[hd];rfl
    rw[z]at p;cases d with
    |lst ds=>obtain⟨b,xs,e,t,z⟩:=q1;exact⟨b,e,.inl ⟨⟨xs,J.fh.lst t⟩,p _ F1 H1 J (vY t z)⟩⟩
    |tup ds=>obtain⟨b,xs,e,t,z⟩:=q1;exact⟨b,e,.inr ⟨⟨xs,J.fh.tup t⟩,p _ F1 H1 J (BU t z)⟩⟩
    |_=>exact(W.ns p).elim
end
def jT{u:k_}(x:h.IsTupleIter u l i)(A:GJ c h h')(n:u≠c):h'.IsTupleIter u l i:=x.at λo e=>A u o n e
def jh{xs:Array h_}(x:h.IsTuple l xs)(A:GJ c h h')(n:l≠c):h'.IsTuple l xs:=let ⟨o,e,r⟩:=x;⟨o,A l o n e,r⟩
structure Ys(z p q u v l m:k_)(r k a b:h_)(i j:Nat)(xs ys:Array h_)(h:FX):Prop where
 me:ZRec h z p q r k
 its:La h p (.ref u) (.ref v)
 own:La h q a b
 one:h.IsTupleIter u l i
 two:h.IsTupleIter v m j
 xl:h.IsTuple l xs
 yl:h.IsTuple m ys
section
variable{p q u v m:k_}{r k a b:h_}{xs ys:Array h_}
def Ys.atZ(D:Jl z p q u v l m)(Z:Ys z p q u v l m r k a b i j xs ys h)(A:GJ z h h')(e:ZRec h' z p q r' k'):Ys z p q u v l m r' k' a b i j xs ys h':=
 ⟨e,A _ _ D.TIz Z.its,A _ _ D.TOz Z.own,jT Z.one A D.i1z,jT Z.two A D.i2z,jh Z.xl A D.l1z,jh Z.yl A D.l2z⟩
def Ys.atQ(D:Jl z p q u v l m)(Z:Ys z p q u v l m r k a b i j xs ys h)(A:GJ q h h')(e:La h' q a' b'):Ys z p q u v l m r k a' b' i j xs ys h':=
 ⟨A _ _ D.TOz.symm Z.me,A _ _ D.TITO Z.its,e,jT Z.one A D.TOi1.symm,jT Z.two A D.TOi2.symm,jh Z.xl A D.l1TO,jh Z.yl A D.l2TO⟩
def Ys.atU(D:Jl z p q u v l m)(Z:Ys z p q u v l m r k a b i j xs ys h)(A:GJ u h h')(e:h'.IsTupleIter u l n):Ys z p q u v l m r k a b n j xs ys h':=
 ⟨A _ _ D.i1z.symm Z.me,A _ _ D.TIi1 Z.its,A _ _ D.TOi1 Z.own,e,jT Z.two A D.i12.symm,jh Z.xl A D.l1i1,jh Z.yl A D.l2i1⟩
def Ys.atV(D:Jl z p q u v l m)(Z:Ys z p q u v l m r k a b i j xs ys h)(A:GJ v h h')(e:h'.IsTupleIter v m n):Ys z p q u v l m r k a b i n xs ys h':=
 ⟨A _ _ D.i2z.symm Z.me,A _ _ D.TIi2 Z.its,A _ _ D.TOi2 Z.own,jT Z.one A D.i12,e,jh Z.xl A D.l1i2,jh Z.yl A D.l2i2⟩
def Ys.new{o:JM}(Z:Ys z p q u v l m r k a b i j xs ys h):Ys z p q u v l m r k a b i j xs ys (h.push o):=
 ⟨d_ _ Z.me,d_ _ Z.its,d_ _ Z.own,Z.one.at λ_ e=>d_ _ e,Z.two.at λ_ e=>d_ _ e,(let ⟨o',e,t⟩:=Z.xl;⟨o',d_ _ e,t⟩),(let ⟨o',e,t⟩:=Z.yl;⟨o',d_ _ e,t⟩)⟩
end
section
variable{s:i_}{p q u v m:k_}{r k a b x y:h_}{xs ys:Array h_}
def CC{T:Bool->i_->Prop}(Z:Ys z p q u v l m .none k a b i j xs ys s.heap)(J:T f_ s):r_ (x_ P w) A (OQ (.ref z)) T E s:=
 b_ (GQ Z.me rfl rfl (e_ J))
def CB{T:Unit->i_->Prop}(D:Jl z p q u v l m)(Z:Ys z p q u v l m r k a b i j xs ys s.heap)(J:(#[a,b]:Array h_).setIfInBounds n x=#[a',b'])(S:∀h',GJ q s.heap h'->h'.objs.size=s.heap.objs.size->Ys z p q u v l m r k a' b' i j xs ys h'->T () {s with heap:=h'}):r_ (x_ P w) A (N8 q (·.setIfInBounds n x)) T E s:=
 wpAny_updateSeq_pair Z.own λh' e B=>S h' B.extBut B.1 (Z.atQ D B.extBut (by rw[J]at e;exact e))
def zc{c:h_}{T:Unit->i_->Prop}(D:Jl z p q u v l m)(Z:Ys z p q u v l m r k a b i j xs ys s.heap)(J:n<5)(S:(#[r,k,.bool c_,.ref p,.ref q]:Array h_).setIfInBounds n c=#[r',k',.bool c_,.ref p,.ref q])(U:∀h',GJ z s.heap h'->h'.objs.size=s.heap.objs.size->Ys z p q u v l m r' k' a b i j xs ys h'->T () {s with heap:=h'}):r_ (x_ P w) A (Lv (.ref z) n c) T E s:=
 PB Z.me J λh' e B=>U h' B.extBut B.1 (Z.atZ D B.extBut (by rw[S]at e;exact e))
theorem ys_gives{T:Mq}(D:Jl z p q u v l m)(Z:Ys z p q u v l m .none (.bool c_) a b i j xs ys s.heap)(L:xs[i]?=a_ x)(K:ys[j]?=a_ y)(N:∀h' a' b',Ys z p q u v l m (Hg s.heap.objs.size) (.bool c_) a' b' (i+1) (j+1) xs ys h'->La h' s.heap.objs.size x y->Off z q u v s.heap h'->T (.ref s.heap.objs.size) {s with heap:=h'}):
  r_ (x_ P w) A (Builtin.«zip.__next__» ⟨[.ref z],[]⟩) (λf s'=>∃c,f=.done (.ret c)/\T c s') E s:=by
 have J:∀{n:Nat} {c:h_} {G:Mq} {s':i_} {r k a b:h_} {i j:Nat},Ys z p q u v l m r k a b i j xs ys s'.heap->(#[r,k,.bool c_,.ref p,.ref q])[n]?=a_ c->G c s'->r_ (x_ P w) A _ G E s':=
  λZ e t=>GQ Z.me rfl e t
 refine b_ (show r_ _ _ (G2 (D_ z,[])) _ _ _ from e_ ?_);refine b_ (J Z rfl (b_ (J Z rfl (b_ (GF Z.its rfl ?_)))));refine b_ (CC Z ?_);refine b_ (II (b_ (J Z rfl (b_ (zc D Z al rfl λg1 B1 e1 g=>?_)))));refine b_ ?_;refine b_ (b_ (JT (b_ (jL g.one g.xl L λg2 Q o=>e_ ?_))));have F:=g.atU D o.extBut Q;refine b_ (GF F.own rfl (b_ (CB D F rfl λg3 X e3 d=>b_ (Jy (e_ ?_)))));refine b_ (b_ (JT (b_ (jL d.two d.yl K λg4 f4 h=>e_ ?_))));have C:=d.atV D h.extBut f4;refine b_ (GF C.own rfl (b_ (CB D C rfl λg5 W e5 Y=>b_ (Jy (e_ (e_ ?_))))));refine b_ (GF Y.own rfl (b_ (Ni ?_)));have U:=e5.trans (h.1.trans (e3.trans (o.1.trans e1)));have lt:=m_ Y.me;refine b_ (b_ (zc D Y.new al rfl λg6 I e6 R=>zc D R al rfl λO H e7 B=>?_));refine e_ (Exists.intro _ ⟨rfl,?_⟩);have S:=H _ _ (GP lt) (I _ _ (GP lt) (l_ _ rfl));rw[U]at S B ⊢;exact N O _ _ B S ((Off.byZ B1).then ((Off.byU o.extBut).then ((Off.byQ X).then ((Off.byV h.extBut).then ((Off.byQ W).then (Off.new.then ((Off.byZ I).then (Off.byZ H))))))))
theorem ys_ends{T:N2->i_->Prop}(k:A.handled=g_)(D:Jl z p q u v l m)(Z:Ys z p q u v l m .none (.bool c_) a b i j xs ys s.heap)(J:xs[i]?=g_\/ys[j]?=g_)(n:∀h' c,Off z q u v s.heap h'->(∃o,h'.get? c=a_ o/\o.cls=.type "StopIteration")->E (.ref c) {s with heap:=h'}):
  r_ (x_ P w) A (Builtin.«zip.__next__» ⟨[.ref z],[]⟩) T E s:=by
 refine b_ (show r_ _ _ _ _ _ _ from e_ ?_);refine b_ (GQ Z.me rfl rfl (b_ (GQ Z.me rfl rfl (b_ (GF Z.its rfl ?_)))));refine b_ (CC Z ?_);refine b_ (II (b_ (GQ Z.me rfl rfl (b_ (zc D Z al rfl λI B e1 S=>?_)))));refine b_ ?_;cases h:xs[i]? with
 |none=>refine b_ (b_ (JT (b_ (oJ k S.one S.xl h λg2 c U e=>?_))));exact Cz (U _ _ D.i1z.symm S.me) e λr g d=>n r c ((Off.byZ B).then ((Off.byU U).then (Off.byZ g))) d|some x=>refine b_ (b_ (JT (b_ (jL S.one S.xl h λg2 F U=>e_ ?_))));have t:=S.atU D U.extBut F;refine b_ (GF t.own rfl (b_ (CB D t rfl λr g e3 f=>b_ (Jy (e_ ?_)))));refine b_ (b_ (JT (b_ (oJ k f.two f.yl (J.resolve_left as) λH c y e=>?_))));exact Cz (y _ _ D.i2z.symm f.me) e λC G Y=>n C c ((Off.byZ B).then ((Off.byU U.extBut).then ((Off.byQ g).then ((Off.byV y).then (Off.byZ G))))) Y
def yn_gives{T:Option h_->i_->Prop}(D:Jl z p q u v l m)(Z:Ys z p q u v l m .none (.bool c_) a b i j xs ys s.heap)(S:xs[i]?=a_ x)(J:ys[j]?=a_ y)(U:∀h' a' b',Ys z p q u v l m (Hg s.heap.objs.size) (.bool c_) a' b' (i+1) (j+1) xs ys h'->La h' s.heap.objs.size x y->Off z q u v s.heap h'->T (a_ (.ref s.heap.objs.size)) {s with heap:=h'}):
  r_ (x_ P w) A (Km (.ref z)) T E s:=by
 have ty:s.TypeIs (.ref z) "zip":=⟨_,Z.me,rfl⟩
 refine b_ (Hy (F_ ty Jq ?_));refine FO Jq ty ML (Gx (ys_gives (P:=P) (w:=w) (A:=A.in1) (E:=λ_ _=>False) (T:=λc s'=>T (a_ c) s') D Z S J U) (λf s' h=>?_) λ_ _ h=>h.elim) (Mz _);obtain⟨c,e,h⟩:=h;exact⟨c,e,e_ h⟩
def yn_ends{T:Option h_->i_->Prop}(Y:A.handled=g_)(D:Jl z p q u v l m)(Z:Ys z p q u v l m .none (.bool c_) a b i j xs ys s.heap)(J:xs[i]?=g_\/ys[j]?=g_)(d:∀h',Off z q u v s.heap h'->T g_ {s with heap:=h'}):r_ (x_ P w) A (Km (.ref z)) T E s:=by
 have ty:s.TypeIs (.ref z) "zip":=⟨_,Z.me,rfl⟩
 refine b_ (Hy (F_ ty Jq ?_));refine FO Jq ty ML (ys_ends Y D Z J λh' c S U=>?_) (Mz _);obtain⟨o,e,t⟩:=U;exact b_ (Ha ⟨o,e,t⟩ Kn (e_ (d h' S)))
end
noncomputable def ItzT(K:Pn)(a b:k_):It:=
 ⟨λi H=>∃xs ys x y,SqT K H a xs/\SqT K H b ys/\xs[i]?=a_ x/\ys[i]?=a_ y,λi H v H'=>∃T x y,H T=g_/\v=.ref T/\H'=upd H T (.tup [x,y])/\(∀xs,SqT K H a xs->xs[i]?=a_ x)/\∀ys,SqT K H b ys->ys[i]?=a_ y,λi H=>∃xs ys,SqT K H a xs/\SqT K H b ys/\(xs.length<=i\/ys.length<=i)⟩
theorem CK{p q u v m:k_}(D:Jl z p q u v l m):
  Turn P w K (.Tuple elts k pos) (ItzT K l m) [z,p,q,u,v] z (λi h=>IsZip h z p q .none/\La h p (.ref u) (.ref v)/\(∃a b,La h q a b)/\h.IsTupleIter u l i/\h.IsTupleIter v m i) where
 mem:=Hn
 obj:=λi h ⟨n,its,⟨_,_,own⟩,⟨o1,e1,_,d1⟩,⟨o2,e2,_,d2⟩⟩ c hc=>by grind
 keep:=λi h h' ⟨n,its,⟨a,b,own⟩,U,S⟩ F=>⟨F z aj _ n,F p aj _ its,⟨a,b,F q aj _ own⟩,U.at λo x=>F u aj o x,S.at λo x=>F v aj o x⟩
 item:=by
  rintro X rfl rfl rfl Y i B2 s σ H E I N ⟨n,its,⟨a,b,own⟩,U,S⟩ ⟨xs,ys,x,y,L,G,gx,W⟩;obtain⟨vs,R,T,_⟩:=I.tuple L;obtain⟨ws,Q,py,_⟩:=I.tuple G;obtain⟨c,hc,rc⟩:=R.get gx;obtain⟨d,hd,rd⟩:=Q.get W;refine yn_gives D ⟨n,its,own,U,S,T,py⟩ (x:=c) (y:=d) as as λh' a' b' Z r j=>⟨_,rfl,NI Z.me λg A B=>?_⟩
  have C:∀e∈[z,p,q,u,v],e<s.z:=by
   simp only[n_,HJ,MB];rintro e (rfl|rfl|rfl|rfl|rfl)
   .exact m_ n
   .exact m_ its
   .exact m_ own
   .exact U.elim λ_ t=>m_ t.1
   .exact S.elim λ_ t=>m_ t.1
  have O:=Z.atZ D B.extBut A;have nz:=GP (C z aj);have I':B3 X B2 σ (upd H s.z (.tup [x,y])) {s with heap:=g,toks:=s.toks}:=I.su N (λe o J t=>by simp at J;exact B.extBut e o J.1 (j e o J.1 J.2.2.1 J.2.2.2.1 J.2.2.2.2 t)) (o_ _) ⟨aj,[c,d],.cons rc (.cons rd .nil),⟨_,B.extBut _ _ nz r,rfl,0,rfl⟩⟩
  refine⟨.ref s.z,_,I',rfl,⟨_,x,y,I.hok.fresh (o_ _),rfl,rfl,λ_ t=>by rw[I.kN t L];exact gx,λ_ t=>by rw[I.kN t G];exact W⟩,⟨A,O.its,⟨_,_,O.own⟩,O.one,O.two⟩,λe J=>?_⟩
  rw[aw (E_ (C e J))];exact(N e J).1
 done:=by
  rintro X rfl rfl rfl Y i B2 s σ H E I N ⟨n,its,⟨a,b,own⟩,U,S⟩ ⟨xs,ys,L,G,f⟩;obtain⟨vs,R,T,_⟩:=I.tuple L;obtain⟨ws,Q,py,_⟩:=I.tuple G;have nx:=R.length;have ny:=Q.length;refine yn_ends (I.ok.hd Y) D ⟨n,its,own,U,S,T,py⟩ (f.imp (λt=>HE as) λt=>HE as) λh' j=>⟨rfl,I.sv N λe o J t=>?_⟩
  simp at J;exact j e o J.1 J.2.2.1 J.2.2.2.1 J.2.2.2.2 t
 self:=λ_ _ _ _ _ st h=>KV st.1 h
noncomputable abbrev tit(l:k_):JM:={cls:=.type "tuple_iterator",data:=.fields #[.ref l,.int 0 0]}
abbrev zA(h:FX)(l:k_):FX:=h.push (tit l)
abbrev zB(h:FX)(l m:k_):FX:=(zA h l).push (tit m)
abbrev zC(h:FX)(l m:k_):FX:=(zB h l m).push {cls:=.type "tuple",data:=.seq #[.ref h.objs.size,.ref (zA h l).objs.size]}
abbrev zD(h:FX)(l m:k_):FX:=(zC h l m).push {cls:=.type "tuple",data:=.seq #[.none,.none]}
abbrev zE(h:FX)(l m:k_):FX:=(zD h l m).push {cls:=.type "zip",data:=.fields #[.none,.bool c_,.bool c_,.ref (zB h l m).objs.size,.ref (zC h l m).objs.size]}
def zip_newT(l m:k_)(xs ys:Array h_):Meets (Builtin.«zip.__new__» ⟨[.type "zip",.ref l,.ref m],[]⟩) (λ_ R s=>s.heap.IsTuple l xs/\s.heap.IsTuple m ys/\R (.ok (.ret (.ref (zD s.heap l m).objs.size))) {s with heap:=zE s.heap l m}):=
 .of_wp λprog w A R s h=>by
  obtain⟨S,g,d,tk,os⟩:=s;obtain⟨Y,U,h⟩:=h;have J:=sub_zip;have b:Nf (Nd ⟨S,g,d,tk,os⟩) l xs:=Y;have a:Nf (Nd ⟨S.push {cls:=.type "tuple_iterator",data:=.fields #[.ref l,.int 0 0]},g,d,tk,os⟩) m ys:=Heap.IsTuple.push U _
  wp_walk using Ju b,Ju a
  exact⟨_,rfl,h⟩
section
variable{s:i_}
def Fc{m:k_}{xs ys:Array h_}{Q:Mq}(g:s.heap.IsTuple l xs)(f:s.heap.IsTuple m ys)(k:∀h',IsZip h' (s.heap.objs.size+4) (s.heap.objs.size+2) (s.heap.objs.size+3) .none->La h' (s.heap.objs.size+2) (.ref s.heap.objs.size) (.ref (s.heap.objs.size+1)) ->
   La h' (s.heap.objs.size+3) .none .none->h'.IsTupleIter s.heap.objs.size l 0->h'.IsTupleIter (s.heap.objs.size+1) m 0->(∀c o,s.heap.get? c=a_ o->h'.get? c=a_ o)->Q (.ref (s.heap.objs.size+4)) {s with heap:=h'}):
  r_ (x_ prog w) A (Jv (.type "zip") [.ref l,.ref m]) Q E s:=by
 refine callType_new PySem.F.called_zip al (PySem.F.typeCall_zip_2 _ _) (PySem.F.newCall_zip_2 _ _) (λJ=>PySem.F.args_object_init_3 J _ _) PySem.F.entry_zip_new (zip_newT l m xs ys) ⟨g,f,?_⟩;have Y:(zA s.heap l).objs.size=s.z+1:=Gi ..;have n2:(zB s.heap l m).objs.size=s.z+2:=by rw[Gi,Y]
 have U:(zC s.heap l m).objs.size=s.z+3:=by rw[Gi,n2]
 have e:(zD s.heap l m).objs.size=s.z+4:=by rw[Gi,U]
 have S:(zE s.heap l m).get? (zD s.heap l m).objs.size=a_ _:=l_ _ rfl;have a:(zE s.heap l m).get? (zC s.heap l m).objs.size=a_ _:=d_ _ (l_ _ rfl);have b:(zE s.heap l m).get? (zB s.heap l m).objs.size=a_ _:=d_ _ (d_ _ (l_ _ rfl));have d:(zE s.heap l m).get? (zA s.heap l).objs.size=a_ _:=d_ _ (d_ _ (d_ _ (l_ _ rfl)));rw[n2,U,e]at S;rw[Y,n2]at b;rw[U]at a;rw[Y]at d;rw[e];exact⟨⟨_,S,rfl⟩,k _ S b a ⟨_,(d_ _ (d_ _ (d_ _ (d_ _ (l_ _ rfl))))),rfl,rfl⟩ ⟨_,d,rfl,rfl⟩ λc o t=>d_ _ (d_ _ (d_ _ (d_ _ (d_ _ t))))⟩
end
theorem Ei{ys:a0}{es:List A'}(t:SqT K F a xs)(z:ay K F ds xs)(e:SqT K F b ys)(c:ay K F es ys):qJ K F (ItzT K a b) (k7 ds es) where
 go:=λi F' H' S J hi=>by rw[kL]at hi;exact⟨xs,ys,xs[i]'(by rw[z.length];lia),ys[i]'(by rw[c.length];lia),J.tup (S.tup t),J.tup (S.tup e),y_ _,y_ _⟩
 yl:=λi F' H' x H2 d S J hd j=>by
  obtain⟨T,h,g,f,ex,l,h1,k⟩:=j;subst ex l;rw[sk]at hd;cases Y:ds[i]? with
  |none=>simp_all|some o=>
   cases U:es[i]? with
   |none=>simp_all|some n=>
    rw[Y,U]at hd;simp at hd;subst hd;obtain⟨v,e1,q⟩:=z.get Y;obtain⟨m,e2,q2⟩:=c.get U;have e3:=h1 xs (J.tup (S.tup t));have e4:=k ys (J.tup (S.tup e));rw[e1]at e3;rw[e2]at e4;cases e3;cases e4;refine⟨upd F' T _,Step.lay J f,T,_,rfl,SqT.of aq,?_⟩
    exact⟨h,[g],rfl,(q.mono S).mono (aU.upd (J.free f)),g,[],rfl,(q2.mono S).mono (aU.upd (J.free f)),rfl⟩
 st:=λF' H' S J=>⟨xs,ys,J.tup (S.tup t),J.tup (S.tup e),by rw[z.length,c.length,kL];lia⟩
noncomputable def kz:A'->M (List A')
 |.tup ds=>.ok ds|_=>.error .stuck
def tW(fa fb:ah->M A'):ah->M (List A'):=λρ=>(fa ρ).bind λa=>(fb ρ).bind λb=>(kz a).bind λds=>(kz b).bind λes=>.ok (k7 ds es)
@[simp]def e_zipT{fa fb:ah->M A'}{ρ:ah}:tW fa fb ρ=(fa ρ).bind λa=>(fb ρ).bind λb=>(kz a).bind λds=>(kz b).bind λes=>.ok (k7 ds es):=id rfl
@[simp]def e_itemsTD(ds:List A'):kz (.tup ds)=.ok ds:=id rfl
section
variable{W:cP}{a b:GI}
def iZipT(K:Pn)(ta tb:TE):TI:=λσ H R=>ta σ H λx H1=>tb σ H1 λy H2=>∃c d,x=.ref c/\y=.ref d/\(∃xs,SqT K H2 c xs)/\(∃ys,SqT K H2 d ys)/\R (ItzT K c d) H2
theorem pi_zipT(E:Gl X "zip")(D:X.mg "zip"=g_)(G:PE X a ta)(F:PE X b tb)(B:j_ [a,b] X.env=[(c_,FL a X.env),(c_,FL b X.env)])(J:j_ [b] X.env=[(c_,FL b X.env)]):
  PI X (.Tuple elts k q) (.Call (.Name "zip" p) [a,b] [] pos) (iZipT X.K ta tb):=by
 intro B2 s σ H R I h;have g:=(aR G (aR F cA J) as) pos B2 s σ H (λvs H1=>match vs with|[x,y]=>∃c d,x=.ref c/\y=.ref d/\(∃xs,SqT X.K H1 c xs)/\(∃ys,SqT X.K H1 d ys)/\R (ItzT X.K c d) H1|_=>False) I h;refine MU (gH I E D boot_zip (FR (B' g λus S C=>?_) (by rw[B,J]) (by rw[J];rfl)));obtain⟨vs,H1,i,v,q1⟩:=C;rcases vs with _|⟨x,_|⟨y,_|⟨_,_⟩⟩⟩
 .exact Gh q1
 .exact Gh q1
 rotate_left
 .exact Gh q1
 .obtain⟨c,d,N,L,⟨xs,A⟩,⟨ys,z⟩,K⟩:=q1;subst N L;obtain⟨_,_,rfl,u,r⟩:=v.two;cases u;cases r;obtain⟨vs,Q,w,_⟩:=i.tuple A;obtain⟨O,P,py,_⟩:=i.tuple z;have Y:=w;have U:=py;refine Fc Y U λh' n its own l j m=>KV n ?_;have f:∀e∈[S.z+4,S.z+2,S.z+3,S.z,S.z+1],S.z<=e:=by
   simp only[n_,HJ,MB];rintro e (rfl|rfl|rfl|rfl|rfl)<;>lia
  exact⟨_,_,_,_,H1,rfl,i.kept m,CK (zipApart_new (Y.elim λ_ t=>m_ t.1) (U.elim λ_ t=>m_ t.1)),⟨n,its,⟨_,_,own⟩,l,j⟩,λe o=>i.fpOk (f e o) (i.hok.fresh (f e o)),K⟩
theorem EN(v:X.mg "zip"=g_)(y:DE K W c_ X a fa)(x:DE K W c_ X b fb)(w: ~~~(Gl X "zip"))(u: ~~~(j_ [a,b] X.env=[(c_,FL a X.env),(c_,FL b X.env)]))(f: ~~~(j_ [b] X.env=[(c_,FL b X.env)]))(A: ~~~(X.K=K)):
  DI K W X (.Tuple elts k q) (.Call (.Name "zip" p) [a,b] [] pos) (tW fa fb):=by
 subst A;exact(pi_zipT w v y x u f).imp λ_ _ _=>by
   intro h;obtain⟨F,ρ,r,s,p⟩:=h;refine aO r s (λe l=>?_) λm U D F1 H1 Y q1=>?_
   .simp_all[tW]
   .refine aO (r.mono Y.ff) Y.fh (λe l=>?_) λi g C B H2 S q2=>?_
    .have z:tW fa fb ρ=.error e:=by unfold tW;rw[U];rw[l];rfl
     rw[z]at p;exact W.mono p Y
    .have z:tW fa fb ρ=(kz m).bind λds=>(kz i).bind λes=>.ok (k7 ds es):=by unfold tW;rw[U];rw[g];rfl
     rw[z]at p;cases m with
     |tup ds=>
      cases i with
      |tup es=>obtain⟨c,xs,e1,t,o⟩:=q1;obtain⟨d,ys,e2,j,n⟩:=q2;have J:=S.ff.tup t;exact⟨c,d,e1,e2,⟨xs,S.fh.tup J⟩,⟨ys,S.fh.tup j⟩,p _ B H2 (Y.trans S) (Ei J (o.mono S.ff) j n)⟩
      |_=>exact(W.ns p).elim
     |_=>cases i<;>exact(W.ns p).elim
end
section
variable[ID κ]
def xt.En{o:Option V}{u:Option h_}(r:xt o u):o.isSome=u.isSome:=by
 cases o with
 |none=>cases u with
  |none=>rfl|some _=>exact(show False from r).elim
 |some _=>cases u with
  |none=>exact(show False from r).elim|some _=>rfl
theorem xt.getD{o:Option V}{u:Option h_}{d:V}{J:h_}(r:xt o u)(S:B5 d J):B5 (o.getD d) (u.getD J):=by
 cases o with
 |none=>cases u with
  |none=>exact S|some _=>exact(show False from r).elim
 |some _=>cases u with
  |none=>exact(show False from r).elim|some _=>exact r
end
section
variable{s:i_}
def B3.big(I:B3 X B2 σ H s):HG<s.heap.objs.size:=by exact NF al ((I.mod.glob.keeps I.bk).lt)
end
def CO:List (TE×TE)->St->Hp->(List (V×V)->Hp->Prop)->Prop
 |[],_,H,Q=>Q [] H|(tk,tv)::r,σ,H,Q=>tk σ H λx H1=>tv σ H1 λy H2=>CO r σ H2 λps J=>Q ((x,y)::ps) J
abbrev VV:List (V×V)->List (h_×h_)->Prop:=JR λp q=>B5 p.1 q.1/\B5 p.2 q.2
def PPs(X:Cx)(pos:Qr)(S:List (Option GI))(J:List GI)(U:List (TE×TE)):Prop:=
 ∀(B2:Vp) (s:i_) (σ:St) (H:Hp) (Q:List (V×V)->Hp->Prop),B3 X B2 σ H s->CO U σ H Q ->
  r_ (x_ X.prog X.w) X.A (evalPairs (pairTrees S J X.env pos)) (λvs s'=>∃ps H',B3 X B2 σ H' s'/\VV ps vs/\Q ps H') X.xe s
def pps_nil:PPs X pos [] [] []:=λB2 s σ H Q I h=>pairTrees_nil_walk ⟨[],H,I,.nil,h⟩
def pps_cons{k v:GI}{ks:List (Option GI)}{vs:List GI}{tk:TE}{J:List (TE×TE)}(e:PE X k tk)(hv:PE X v tv)(d:PPs X pos ks vs J):
  PPs X pos (a_ k::ks) (v::vs) ((tk,tv)::J):=λB2 s σ H Q I h=>
 pairTrees_cons_walk (B' (e B2 s σ H _ I h) λu Y ⟨x,H1,i,b,q1⟩=>B' (hv B2 Y σ H1 _ i q1) λm U ⟨y,H2,g,a,q2⟩=>B' (d B2 U σ H2 _ g q2) λl n ⟨ps,j,f,S,c⟩=>⟨(x,y)::ps,j,f,.cons ⟨b,a⟩ S,c⟩)
structure M2(X:Cx)(o:GI)(m:FU)(apos:Qr)(e f:GI)(cpos:Qr):Prop where
 base:HV o m X.env (FL o X.env)=FL o X.env
 few:((GG cpos (j_ [e,f] X.env)).all (λx=> !x.1)&&(JX cpos (IG [] X.env)).all (λx=>x.1.isSome)
  &&s_ (([e,f]:List GI).length+([]:List JV).length+(if ([]:List JV).isEmpty then 0 else 1)<30))=f_
 line:(apos.endLine==cpos.line)=f_
 trees:GG cpos (j_ [e,f] X.env)=[(c_,FL e X.env),(c_,FL f X.env)]
structure ExA(h:FX)(e:k_)(C:h_)(dx hd:Option k_):Prop where
 ob:∃oe vs,h.get? e=a_ oe/\oe.cls=C/\oe.dict=dx/\oe.data=.fields vs/\vs[1]?=a_ (hd.elim GR D_)
 tb:∀T,hd=a_ T->T≠e/\∃oT ts,h.get? T=a_ oT/\oT.data=.fields ts/\ts[3]?=a_ .none
def dictMapF(f:Array h_->Array h_)(o:JM):(o.mapFields f).dict=o.dict:=by obtain⟨c,d,J,sl⟩:=o;cases J<;>rfl
theorem size3{l:aH}(h:3<l.length):3<l.toArray.size:=by simp_all
section
variable{M:MQ}{s:i_}
def mkEntry{fv J:h_}{pl:aH}{Q:Mq}(S:IsPlace pl)(h:∀(o:JM) (ts:Array h_),o.data=.fields ts->3<ts.size->o.isFreed=c_->Q (.ref s.heap.objs.size) {s with heap:=s.heap.push o}):
  r_ M A (MM hv fv .none J .none pl) Q E s:=by
 refine FP (h _ _ rfl (size3 ?_) ?_) (S.sizeOk5 _ _ _ _ _)
 .simp
 rfl
structure Left(fs:List k_)(e:k_)(hd:Option k_)(h h':FX):Prop where
 keep:∀b o,h.get? b=a_ o->b∉fs->b≠e->(∀T,hd=a_ T->b≠T)->h'.get? b=a_ o
 slot:∀b o,h.get? b=a_ o->b∈fs->∃sl,h'.get? b=a_ {o with slots:=sl}
 size:h.objs.size<=h'.objs.size
theorem entry_at{base:FX}{e:k_}{C:h_}{vs:Array h_}{Q:Unit->i_->Prop}(i:A.frames=a_ (env::outer))(v:s.heap.FunFrames base (env::outer))(K:env.frame=a_ L)(w:s.heap.get? e=a_ oe)(N:oe.cls=C)(k:oe.dict=dx)(hd:oe.data=.fields vs)(d:1<vs.size)(h:∀h' T,ExA h' e C dx (a_ T)->s.heap.objs.size<=T->Left (frs (env::outer)) e g_ s.heap h'->Q () {s with heap:=h'}):
  r_ M A (frameOf env >>=λa=>entryPlaceOf L bn >>=λpl=>MM hv a .none (Hg L) .none pl >>=λb=>Lv (.ref e) 1 b) (λ_ s'=>r_ M A (Ql (.ref e) g_) Q E s') E s:=by
 have S:∀b o,b∈frs (env::outer)->s.heap.get? b=a_ o->∀vs,o.data≠.fields vs:=λb o g q=>by
  obtain⟨_,o',I,n⟩:=v.mem g
  simp_all
 have J:e∉frs (env::outer):=λg=>S e oe g w vs hd;refine b_ (wpAny_frameOf_fun i v K λh1 F=>?_);obtain⟨P,r,D⟩:=F;refine b_ (wpAny_entryPlaceOf λpl H=>?_);refine b_ (mkEntry H λo ts u y j=>?_);have e1:h1.get? e=a_ oe:=by rw[r e J];exact w
 have c:h1.objs.size≠e:=λz=>FN (m_ e1) as;have e2:(h1.push o).get? e=a_ oe:=d_ o e1;have G:(h1.push o).get? h1.objs.size=a_ o:=l_ h1 j;refine Gz e2 hd d ?_;have p:=G7 hd (·.setIfInBounds 1 (D_ h1.objs.size));have e3:=FV (h:=h1.push o) (Ht (·.setIfInBounds 1 (D_ h1.objs.size))) e2 (HW p);have t:((h1.push o).update e (Ht (·.setIfInBounds 1 (D_ h1.objs.size)))).get? h1.objs.size=a_ o:=by rw[A_ _ _ (GX c)];exact G
 refine b_ (GQ e3 p (x:=.ref h1.objs.size) (by simp[d]) ?_);refine Gz t u y ?_;have B:=G7 u (·.setIfInBounds 3 ((g_:Option k_).elim GR λf=>Hg f));refine h _ h1.objs.size ⟨⟨_,_,by rw[A_ _ _ c];exact e3,by rw[Ke];exact N,by rw[dictMapF];exact k,p,by simp[d]⟩,λT O=>?_⟩ as ⟨λb o' q m l _=>?_,λb o' q m=>?_,?_⟩
 .cases O;exact⟨c,_,_,FV _ t (HW B),B,by simp[y]⟩
 .have q1:h1.get? b=a_ o':=by rw[r b m];exact q
  have Y:h1.objs.size≠b:=λz=>FN (m_ q1) as;rw[A_ _ _ Y,A_ _ _ (GX l)];exact d_ o q1
 .obtain⟨sl,q1⟩:=D b o' q;have Y:h1.objs.size≠b:=λz=>FN (m_ q1) as;have U:e≠b:=λz=>J (z▸m);refine⟨sl,?_⟩
  rw[A_ _ _ Y,A_ _ _ U];exact d_ o q1
 simp_all
theorem leave2{base:FX}{e:k_}{C:h_}{Q:Unit->i_->Prop}(d:A.frames=a_ (env::outer))(k:s.heap.FunFrames base (env::outer))(l:env.frame=a_ L)(x:ExA s.heap e C dx hd)(h:∀h' T,ExA h' e C dx (a_ T)->s.heap.objs.size<=T->Left (frs (env::outer)) e hd s.heap h'->Q () {s with heap:=h'}):r_ M A (noteFrame (.ref e) env) (λ_ s'=>r_ M A (Ql (.ref e) g_) Q E s') E s:=by
 obtain⟨oe,vs,i,t,f,J,h1⟩:=x.ob;have r:=(IQ.mp h1).1;unfold noteFrame;simp[l];cases hd with
 |none=>refine b_ (GQ i J h1 ?_);exact entry_at d k l i t f J r λh' T a b c=>h h' T a b c
 |some T=>
  obtain⟨j,B,ts,u,g,v⟩:=x.tb T rfl;refine b_ (GQ i J h1 ?_);refine b_ (GQ u g v ?_);refine b_ (Gz u g ((IQ.mp v).1) ?_);have S:∀b,b≠T->(s.heap.update T (Ht (·.setIfInBounds 3 GR))).get? b=s.heap.get? b:=λb U=>A_ _ _ (GX U);have p:∀b o,s.heap.get? b=a_ o->(∀vs,o.data≠.fields vs)->b≠T:=λb o q n z=>by simp_all
  refine entry_at d (k.of_keeps λb o q n=>⟨o,by rw[S b (p b o q n)];exact q,rfl⟩) l (by rw[S e (GX j)];exact i) t f J r λh' y a b c=>?_;refine h h' y a as ⟨λb' o q U m w=>c.keep b' o as U m (λ_ z=>nomatch z),λb' o q U=>?_,?_⟩
  .obtain⟨_,o',Y,n⟩:=k.mem U;rw[q]at Y;cases Y;exact c.slot b' o (by rw[S b' (p b' o q n)];exact q) U
  .have:=c.size
   simp_all
def leave_at{base:FX}{e:k_}{C:h_}{Q:Unit->i_->Prop}(J:A.frames=a_ (env::outer))(S:s.heap.FunFrames base (env::outer))(U:env.frame=a_ L)(x:ExA s.heap e C dx hd)(h:∀h' T,ExA h' e C dx (a_ T)->s.heap.objs.size<=T->Left (frs (env::outer)) e hd s.heap h'->Q () {s with heap:=h'}):r_ M A (leaving env (.ref e)) Q E s:=by exact b_ (leave2 J S U x h)
end
structure CXs(P:Gf)(w:GS)(outer:List MT)(H:Hp)(s:i_)(E:XK)(a T:k_)(C:h_)(dx:Option k_)(H':Hp)(s':i_):Prop where
 ex:ExA s'.heap a C dx (a_ T)
 na:s.heap.get? a=g_
 nT:s.heap.get? T=g_
 fa:H' a=g_
 fT:H' T=g_
 os:s'.os=s.os
 bare:KG s'.gens
 un:Un (frs outer) [] H H' s.heap s'.heap
 hok:HOk H' s'.heap
 want:E C dx H'
def CXd(P:Gf)(w:GS):CXT:=λouter H s E e s'=>∃(a T:k_) (C:h_) (dx:Option k_) (H':Hp),e=.ref a/\CXs P w outer H s E a T C dx H' s'
def get_none(z:h.objs.size<=a):h.get? a=g_:=by
 cases e:h.get? a with
 |none=>rfl|some o=>exact FN (m_ e) (OF.mpr z)
def B3.zf{s:i_}(I:B3 X B2 σ H s)(J:X.ex=[])(e:s.heap.get? a=g_):X.s₀.heap.get? a=g_:=by
 cases q:X.s₀.heap.get? a with
 |none=>rfl|some o=>obtain⟨o',z⟩:=I.base.there a o q (by rw[J];exact λz=>nomatch z);rw[e]at z;cases z
def dq.is{o:HO}(x:dq H h a o):∃u,h.get? a=a_ u:=by
 cases o with
 |lst xs=>obtain⟨_,_,_,_,e⟩:=x;exact⟨_,e⟩
 |tup xs=>obtain⟨_,_,_,J,e,_⟩:=x;exact⟨_,e⟩
 |ins C dx fs=>obtain⟨_,_,_,e,_⟩:=x;exact⟨_,e⟩
 |own y=>exact x|xd fs=>obtain⟨_,⟨_,_,_,e,_⟩,_⟩:=x;exact⟨_,e⟩
 |rng lo hi=>obtain⟨_,_,_,e⟩:=x;exact⟨_,e⟩
 |frz J u=>obtain⟨e,_⟩:=x;exact⟨_,e⟩
 |tbl ps=>exact⟨_,show h.get? a=a_ _ from x⟩|met f y=>exact⟨_,show h.get? a=a_ _ from x⟩|ext S=>obtain⟨_,e,_⟩:=x;exact e
section
variable{base:FX}{f:k_}{s:i_}{E:XK}
theorem xe_of{C:h_}(J:B3 (Ax (CXd P w) P w K mg base N qual scope f cd A outer s H E) B2 σ H' s')(x:ExA s'.heap a C dx hd)(m:s.heap.get? a=g_)(y:∀T,hd=a_ T->s.heap.get? T=g_/\H' T=g_)(fa:H' a=g_)(q:E C dx H'):(Ax (CXd P w) P w K mg base N qual scope f cd A outer s H E).xe (.ref a) s':=by
 have r:=J.env0;have l:∀b o,s.heap.get? b=a_ o->b≠a/\(∀T,hd=a_ T->b≠T)/\b<s.z:=λb o e=>by exact⟨λz=>(by subst z;rw[e]at m;cases m),λT g z=>(by subst z;have:=(y _ g).1;rw[e]at this;cases this),(m_ e)⟩
 have h:∀b,b<s.z->b∈frs (Jw qual scope s.z f cd::outer)->b∈frs outer:=λb Y p=>by
  rcases Iy.mp p with⟨v,hv,e⟩
  rcases n_.mp hv with z|z
  .subst z;have:s.z=b:=by simpa[Jw] using e
   lia
  .exact Iy.mpr ⟨v,z,e⟩
 have U:∀b,b∈frs outer->b∈frs (Jw qual scope s.z f cd::outer):=λb p=>by
  rcases Iy.mp p with⟨v,hv,e⟩
  exact Iy.mpr ⟨v,Hu _ hv,e⟩
 have S:=J.base;refine leave_at r.frames r.wj rfl x λh' T G g j=>⟨a,T,C,dx,H',rfl,G,m,get_none (Gg (show s.z<=s'.z from J.sz) g),fa,?_,J.os,J.bare,?_,?_,q⟩
 .exact J.hok.fresh g
 .have t:∀b o,s.heap.get? b=a_ o->∀o',s'.heap.get? b=a_ o'->b∉frs outer->h'.get? b=a_ o':=λb o e o' L Y=>by
   obtain⟨F,D,B⟩:=l b o e;exact j.keep b o' L (λz=>Y (h b B z)) F D
  refine⟨λb o e n Y i=>t b o e o (S.keep b o e n Y i) Y,λb o e n Y i=>?_,S.free,λb o e i=>?_,S.tups,S.frzs,S.tbls⟩
  .obtain⟨sl,e1⟩:=S.slot b o e n Y i;obtain⟨k,e2⟩:=j.slot b _ e1 (U b Y);exact⟨k,e2⟩
  .obtain⟨o',e1⟩:=S.there b o e i;by_cases Y:b∈frs outer
   .obtain⟨sl,e2⟩:=j.slot b o' e1 (U b Y);exact⟨_,e2⟩
   .exact⟨o',t b o e o' e1 Y⟩
 .intro b o e;refine(J.hok b o e).xA (λc u I e1=>?_) (λ_ z=>z) λ_ _ z=>z;have d:H' c≠g_:=by
   rcases I with z|z
   .rw[z,e];exact λz=>nomatch z
   .rw[z];exact λz=>nomatch z
  exact j.keep c u e1 (λz=>d (r.frf c z)) (λz=>d (by rw[z];exact fa)) λT g z=>d (by rw[z];exact(y T g).2)
end
noncomputable def WE(K:Pn)(E:XK):cP where
 p:=λe F H=>match e with
  |.stuck=>False|.exc C fs=>∀F' H',Step F H F' H'->match fs with
   |[]=>E (.ref C) g_ H'|fs=>∀d gs,F' d=a_ (.xd gs)->nM K F' fs gs->E (.ref C) (a_ d) H'
 mono:=λ{e F H F' H'} h s=>by
  cases e with
  |stuck=>exact h|exc C fs=>exact λS H2 J=>h S H2 (s.trans J)
 ns:=λh=>h
noncomputable def noX{α:Type}:M α->M α
 |.ok d=>.ok d|.error _=>.error .stuck
@[simp]def noX_ok{α:Type}(d:α):noX (.ok d:M α)=.ok d:=id rfl
def fNoX{α:Type}(f:ah->M α):ah->M α:=λρ=>noX (f ρ)
@[simp]def e_fNoX{α:Type}(f:ah->M α)(ρ:ah):fNoX f ρ=noX (f ρ):=id rfl
section
variable{W:cP}{own:Bool}
def de_lift{f:ah->M A'}(h:DE K D' own X.nox e f):DE K W own X e (fNoX f):=PE.imp (PE.nox h) λσ H Q ⟨F,ρ,r,s,p⟩=>by
 refine⟨F,ρ,r,s,?_⟩
 have p:aJ K W own F H (noX (f ρ)) Q:=p;cases e:f ρ with
 |ok d=>rw[e]at p;exact p|error x=>rw[e]at p;exact(W.ns p).elim
def dss_lift{st:List GH}(h:DSs K D' ro X.nox OL O O' st g):DSs K W ro X OL O O' st (fNoX g):=λF0 H0=>PSs.imp (PSs.nox (h F0 H0)) λD σ H ⟨FB,F,ρ,r,p⟩=>by
 refine⟨FB,F,ρ,r,?_⟩
 have p:eQ K W ro F0 H0 FB OL O' D (noX (g ρ)):=p;cases e:g ρ with
 |ok fl=>rw[e]at p;cases fl<;>exact p
 |error x=>rw[e]at p;exact(W.ns p).elim
end
def spX(K:Pn)(ro:Bool)(g:List A'->M A')(n:Nat):Sp:=λvs H Q E=>SpD K vs H n λF ds=>aJ K (WE K E) ro F H (g ds) Q
section
variable{base:FX}
theorem fn_X{f:k_}(F:Fun K x qual st f fd)(S:g9 N ps (aF st))(ro:Bool)(g:ah->M B4)(m:∀(cdv:h_) (A:G8) (outer:List MT) (s:i_) (H:Hp) (E:XK),gR k (A.deeper (Jw qual (aF st) s.heap.objs.size f cdv)) ->
   DSs K (WE K E) ro (Ax (CXd P w) P w K mg base N qual (aF st) f cdv A outer s H E) [] [] O' (cx st) g):gQ P w K mg base (CXd P w) (k+1) f fd ps (spX K ro (bo N.length ps.length g) ps.length):=by
 obtain⟨oc,od,kV,doc,pm,an,cdv,ct,osl,rfl,Y,J⟩:=F.ex;refine fn_of Y J S (λvs H Q E ⟨F,ds,s,q,l,p⟩=>by rw[q.length,l]) λA outer s H vs Q E b c=>?_;obtain⟨F1,ds,U,q,l,p⟩:=c;refine⟨_,m cdv A outer s H E b F1 H,F1,F1,ds.map a_++Gr (N.length-ds.length) g_,?_,?_⟩
 .refine⟨Step.refl U,aU.refl _,?_,λi d e _=>v9 q e,(λi d e h=>nomatch h),(λi j ds es a h=>nomatch h)⟩
  unfold start;rw[Gs,Gs,w_,w_,JD,JD,q.length]
 .have e1:bo N.length ps.length g ds=(g (ds.map a_++Gr (N.length-ds.length) g_)).bind λfl=>match fl with
   |.nx _=>.ok .non|.rt d=>.ok d|_=>stk:=by exact p_ l
  rw[e1]at p;cases e2:g _ with
  |error z=>rw[e2]at p;exact p|ok fl=>
   rw[e2]at p;cases fl with
   |nx ρ=>exact λσ F H r=>p .non F H r.st (by cases ro<;>rfl)
   |rt d=>exact λv F H st q=>p v F H st q|bk ρ=>exact aJ.stuck p|ct ρ=>exact aJ.stuck p
end
section
variable{s:i_}{C:h_}
structure Apart(X:Cx)(B2:Vp)(H:Hp)(s:i_)(a:k_)(hd:Option k_):Prop where
 na:X.s₀.heap.get? a=g_
 fa:H a=g_
 pa:∀p∈X.pn++B2,p.1≠a
 nT:∀T,hd=a_ T->X.s₀.heap.get? T=g_/\H T=g_/\∀p∈X.pn++B2,p.1≠T
theorem B3.left(I:B3 X B2 σ H s)(hx:X.ex=[])(x:ExA s.heap a C dx hd)(f:Apart X B2 H s a hd)(U:Left (frs X.stack) a hd s.heap h'):B3 X B2 σ H {s with heap:=h'}:=by
 have Z:=I.env0;obtain⟨oe,vs,he,_,_,P,_⟩:=x.ob;have B:∀b o,s.heap.get? b=a_ o->(∀vs,o.data≠.fields vs)->b≠a/\∀T,hd=a_ T->b≠T:=λb o e n=>by
  refine⟨λz=>?_,λT d z=>?_⟩
  .simp_all
  .obtain⟨_,oT,ts,h1,w,_⟩:=x.tb _ d
   simp_all
 have y:∀b∈frs X.stack,H b=g_:=Z.frf;have t:∀b o,s.heap.get? b=a_ o->(∀vs,o.data≠.fields vs)->∃sl,h'.get? b=a_ {o with slots:=sl}:=λb o e n=>by
  obtain⟨h,g⟩:=B b o e n;by_cases S:b∈frs X.stack
  .exact U.slot b o e S
  .exact⟨o.slots,U.keep b o e S h g⟩
 have k:∀b o,X.s₀.heap.get? b=a_ o->b≠a/\∀T,hd=a_ T->b≠T:=λb o e=>⟨λz=>(by subst z;rw[f.na]at e;lia),λT d z=>(by subst z;rw[(f.nT _ d).1]at e;lia)⟩
 have G:s.heap.UpToSlots h':=t;have E:X.s₀.heap.get? X.env.locals=g_:=get_none I.ok.above;have j:∀b,b≠X.env.locals->b∉X.fs->b∉frs X.stack:=λb h1 w R=>by
  rcases n_.mp (I.qQ b R)with z|z
  .exact h1 z
  .exact w z
 have l:∀c v,s.heap.IsCell c v->h'.IsCell c v:=λc v ⟨o,h1,w⟩=>by obtain⟨sl,z⟩:=t c o h1 (λvs q=>by simp_all);exact⟨_,z,w⟩
 refine⟨I.ok,I.os,I.bare,?_,?_,λx c e=>?_,I.free,I.freeC,λp D=>?_,?_,I.len⟩
 .have W:∀b o,X.s₀.heap.get? b=a_ o->∀o',s.heap.get? b=a_ o'->∃sl,h'.get? b=a_ {o' with slots:=sl}:=λb o e o' F=>by
   obtain⟨h,g⟩:=k b o e;by_cases S:b∈frs X.stack
   .exact U.slot b o' F S
   .exact⟨o'.slots,U.keep b o' F S h g⟩
  refine⟨λb o e n S J=>?_,λb o e n S J=>?_,I.base.free,λb o e J=>?_,I.base.tups,I.base.frzs,I.base.tbls⟩
  .obtain⟨h,g⟩:=k b o e;exact U.keep b o (I.base.keep b o e n S J) (j b (λz=>by simp_all) S) h g
  .obtain⟨sl,e1⟩:=I.base.slot b o e n S J;obtain⟨A,e2⟩:=W b o e _ e1;exact⟨A,e2⟩
  .obtain⟨o',e1⟩:=I.base.there b o e J
   grind
 .obtain⟨m,N,O⟩:=I.loc;refine⟨m,G.ns N,λi x v e1 e2 e3=>?_⟩
  obtain⟨u,r,L⟩:=O i x v e1 e2 e3;refine⟨u,r,?_⟩
  rcases L with z|⟨z,c,c1,c2⟩
  .exact .inl z
  .exact .inr ⟨z,c,c1,l c _ c2⟩
 .obtain⟨v,z⟩:=I.cell x c e;exact⟨v,l c v z⟩
 .obtain⟨p1,p2,p3,p4,K⟩:=I.pin p D;exact⟨U.keep p.1 p.2 p1 (j p.1 p3 p4) (f.pa p D) λT d=>(f.nT T d).2.2 p D,p2,p3,p4,K⟩
 .intro b o e;refine(I.hok b o e).xA (λc u Q e1=>?_) (λ_ z=>z) λ_ _ z=>z;have Y:H c≠g_:=by
   rcases Q with z|z
   .simp_all
   .simp_all
  exact U.keep c u e1 (λz=>Y (y c z)) (λz=>Y (by rw[z];exact f.fa)) λT d z=>Y (by rw[z];exact(f.nT T d).2.1)
end
def PEat(X:Cx)(B2:Vp)(σ:St)(e:GI)(t:TE):Prop:=∀(s:i_) (H:Hp) (Q:VK),B3 X B2 σ H s->t σ H Q->r_ (x_ X.prog X.w) X.A (FL e X.env) (EP X B2 σ Q) X.xe s
def PSat(X:Cx)(B2:Vp)(σ:St)(st:GH)(t:TS):Prop:=∀(s:i_) (H:Hp) (D:Ends),B3 X B2 σ H s->t D σ H->r_ (x_ X.prog X.w) X.A (exec st X.env) (SP X B2 D) X.xe s
def PSsAt(X:Cx)(B2:Vp)(σ:St)(st:List GH)(t:TS):Prop:=∀(s:i_) (H:Hp) (D:Ends),B3 X B2 σ H s->t D σ H->r_ (x_ X.prog X.w) X.A (execs st X.env) (SP X B2 D) X.xe s
def jY(CX:CXT)(X:Cx)(B2:Vp)(σ:St)(E:XK):Prop:=∀(H:Hp) (s:i_) (e:h_) (s':i_),B3 X B2 σ H s->CX X.stack H s E e s'->X.xe e s'
section
variable{t:TS}
def at_one(h:PSat X B2 σ st t):PSsAt X B2 σ [st] t:=λs H D I q=>by
 refine MC (B' (h s H D I q) λf J z=>?_);cases f with
 |next=>exact Jo z|_=>exact z
def at_set(b:X.N.Nodup)(hi:X.N[i]?=a_ x)(S:Loc X.env.scope x)(a:PEat X B2 σ e te)(U: ~~~(G0 e (a_ (.Name x pos')) pos.line X.env=G2 c_))(Y:autoParam (X.fn x=f_\/X.env.scope.names.lookup x=a_ .local) Jq4):
  PSat X B2 σ (.Assign [.Name x pos'] e pos) (tAsg te (ph i)):=λs H D I q=>
 PX (B' (a s H _ I q) λv g ⟨y,H1,d,J,q1⟩=>kO d b hi S J (λf c=>⟨_,H1,c,q1⟩) Y) U
end
section
variable{f:k_}{ds:List h_}{E:XK}{t:TA}
theorem at_run{s:i_}{Q:VK}{vs:a0}(F:gQ X.prog X.w X.K X.mg X.base CX k f fd ps sp)(Y:gR k X.A)(a:Binds X.K fd ps ds)(hd:B6 dvs ds)(U:jY CX X B2 σ E)(I:B3 X B2 σ H s)(r:B6 vs us)(h:sp (vs++dvs) H Q E):r_ (x_ X.prog X.w) X.A (Jv (.ref f) us) (EP X B2 σ Q) X.xe s:=by
 have S:=r.append hd;refine K7 (HA (F.run _ _ s H _ _ _ Q E Y I.env0 (a s us I.kIn (S.length.symm.trans (F.len _ _ _ _ h))) S h) λz s' J=>?_);cases z with
 |error e=>exact U H s e s' I J|ok fl=>
  cases fl with
  |ret u=>exact I.after J|_=>exact Gh J
def at_call(F:gQ X.prog X.w X.K X.mg X.base CX k f fd ps sp)(Y:jY CX X B2 σ E)(a:gR k X.A)(b:X.mg x=a_ (.ref f))(c:IT X.K (.ref f)=f_)(h:Binds X.K fd ps ds)(hd:B6 dvs ds)(i:PA X (e::es) t)(d: ~~~(Gl X x))(S:((x==("__debug__":FU))=c_)⁻¹)(g: ~~~(j_ (e::es) X.env=(c_,FL e X.env)::j_ es X.env))(J: ~~~((GG pos (j_ es X.env)).any (·.1)=c_)):
  PEat X B2 σ (.Call (.Name x p) (e::es) [] pos) (tCall sp dvs E t):=λs H Q I q=>
 Hv (ju I d b (K_ I.ok.mod.kin c (B' (i pos B2 s σ H _ I q) λus j ⟨vs,H1,U,r,q1⟩=>⟨U.kIn,at_run F a h hd Y U r q1⟩) g J) S)
end
section
variable{s:i_}
def B3.names{m:Ld}(I:B3 X B2 σ H s)(j:h'.Ns X.env.locals m)(S:Hd X.env.locals s.heap h')(k:σ'.length=X.N.length)(hv:∀(i:Nat) (x:FU) (v:V),X.N[i]?=a_ x->σ'[i]?=a_ (a_ v)->Vis X.env.scope x->∃u,B5 v u/\Look X.env s.heap m x u):B3 X B2 σ' H {s with heap:=h'}:=by
 have J:∀b o,X.s₀.heap.get? b=a_ o->b≠X.env.locals:=λb o e z=>by subst z;exact FN (m_ e) (OF.mpr I.ok.above)
 have Y:∀x c v,X.env.cells.lookup x=a_ c->s.heap.IsCell c v->h'.IsCell c v:=λx c v e z=>z.sameBut S (I.cne x c e);refine⟨I.ok,I.os,I.bare,⟨λb o e n a U=>?_,λb o e n a U=>?_,I.base.free,λb o e U=>?_,I.base.tups,I.base.frzs,I.base.tbls⟩,⟨m,j,λi x v e1 e2 e3=>?_⟩,λx c e=>?_,I.free,I.freeC,λp h=>?_,λb o e=>?_,k⟩
 .rw[S.2 b (J b o e)];exact I.base.keep b o e n a U
 .obtain⟨sl,z⟩:=I.base.slot b o e n a U;refine⟨sl,?_⟩
  rw[S.2 b (J b o e)];exact z
 .obtain⟨o',z⟩:=I.base.there b o e U;refine⟨o',?_⟩
  rw[S.2 b (J b o e)];exact z
 .obtain⟨u,r,g⟩:=hv i x v e1 e2 e3;refine⟨u,r,?_⟩
  rcases g with z|⟨z,c,d,q⟩
  .exact .inl z
  .exact .inr ⟨z,c,d,Y x c _ d q⟩
 .obtain⟨v,z⟩:=I.cell x c e;exact⟨v,Y x c v e z⟩
 .obtain⟨p1,p2,p3,p4,f⟩:=I.pin p h;refine⟨?_,p2,p3,p4,f⟩
  rw[S.2 p.1 p3];exact p1
 .refine(I.hok b o e).xA (λc u l e1=>?_) (λ_ z=>z) λ_ _ z=>z;rw[S.2 c λz=>?_]
  .exact e1
  .rcases l with y|y
   .rw[<- y,z,I.free]at e;cases e
   .rw[z,I.free]at y;cases y
def tT{M:MQ}{Q:Unit->i_->Prop}(I:B3 X B2 σ H s)(f:X.N.Nodup)(hi:X.N[i]?=a_ x)(S:X.env.scope.names.lookup x=a_ .local)(h:∀s',B3 X B2 (σ.set i g_) H s'->Q () s'):r_ M A (do bindName X.env x .none;unbindBehindTheSuite X.env x pos) Q E s:=by
 have U:i<σ.length:=by rw[I.len];exact(v_.mp hi).1
 refine b_ (wpAny_bindName (kO I f hi (.inl S) (v:=.non) rfl (λq g=>?_) (.inr S)));refine JT ?_;obtain⟨m,o,e⟩:=id g.loc;obtain⟨u,_,Y⟩:=e i x .non hi (by rw[Cb U]) (.inl S);have c:m x=a_ u:=by
  rcases Y with z|⟨z,_⟩
  .exact z.2
  .have d:X.env.kindOf x=a_ .local:=S;rw[d]at z;rcases z with z|z<;>cases z
 refine wpAny_unbindName_local S o c (by rw[I.ok.kind];rfl) λh' p b n=>h _ (g.names b n (by rw[Gk];exact I.len) λj y v e1 e2 e3=>?_);have J:i≠j:=λz=>by subst z;rw[Cb U]at e2;cases e2
 rw[z_ J]at e2;obtain⟨w,r,Y⟩:=e j y v e1 (by rw[z_ J];exact e2) e3;refine⟨w,r,?_⟩
 rcases Y with⟨l,k⟩|z
 .have a:y≠x:=λz=>J (tB f hi (z▸e1));exact .inl ⟨l,by simp[a,k]⟩
 .exact .inr z
end
def xr(K:Pn)(C:k_)(bmB:aH):Prop:=∀h:FX,K.In h->∃tl N nm J bs hdct sn sub ab col dd k0 k1 k2 k3 k5 newId,h.get? C=a_ (MP nm J C N bs tl hdct sn sub ab col dd k0 k1 k2 k3 k5 newId)/\OwnTail h bmB tl
noncomputable abbrev Cx.hand(X:Cx)(a:k_)(oe:JM):Cx:={X with A:=X.A.mark (a_ (.ref a)),calm:=c_,xe:=λ_ _=>False,pn:=(a,oe)::X.pn}
section
variable{s:i_}{T:k_}{C:h_}
theorem B3.hand{vs:Array h_}(I:B3 X B2 σ H s)(S:s.heap.get? a=a_ oe)(hd:oe.data=.fields vs)(Y:X.s₀.heap.get? a=g_)(fa:H a=g_):B3 (X.hand a oe) B2 σ H s:=by
 have J:=I.ok;refine⟨⟨J.mod,J.kind,J.glob,J.blt,J.above,J.inj,J.has,J.cab,(λz=>nomatch z),J.frames,J.stk,J.exf,J.bs,J.bsz,J.noex,J.exfs,J.wj,J.frf⟩,I.os,I.bare,I.base,I.loc,I.cell,I.free,I.freeC,λp b=>?_,I.hok,I.len⟩
 rcases n_.mp (show p∈(a,oe)::(X.pn++B2)from b)with z|z
 .subst z;refine⟨S,fa,λz=>?_,λc=>?_,λv z=>?_⟩
  .obtain⟨m,⟨o,es,ep,h1,U,_⟩,_⟩:=I.loc;rw[<- z,S]at h1;cases h1;rw[hd]at U;cases U
  .obtain⟨_,o,h1,_⟩:=J.wj.mem c;rw[Y]at h1;cases h1
  .rw[hd]at z;cases z
 .exact I.pin p z
def B3.zh(J:B3 (X.hand a oe) B2 σ H s)(S:X.Ok):B3 X B2 σ H s:=
 ⟨S,J.os,J.bare,J.base,J.loc,J.cell,J.free,J.freeC,λp U=>J.pin p (Hu _ U),J.hok,J.len⟩
def Ex{M:MQ}{base:FX}{l:List MT}{Q:Unit->i_->Prop}(r:s.heap.FunFrames base l)(x:ExA s.heap a C dx (a_ T))(h:∀h',ExA h' a C dx (a_ T)->Left (frs l) a (a_ T) s.heap h'->h'.get? a=s.heap.get? a->Q () {s with heap:=h'}):r_ M A (Ql (.ref a) g_) Q E s:=by
 obtain⟨o,vs,m,t,g,c,h1⟩:=x.ob;obtain⟨e,v,ts,k,S,u⟩:=x.tb T rfl;have U:=(IQ.mp u).1;refine b_ (GQ m c h1 ?_);refine Gz k S U ?_;have J:∀b,b≠T->(s.heap.update T (Ht (·.setIfInBounds 3 ((g_:Option k_).elim GR λf=>Hg f)))).get? b=s.heap.get? b:=λb d=>A_ _ _ (GX d);have p:=G7 S (·.setIfInBounds 3 ((g_:Option k_).elim GR λf=>Hg f));refine h _ ⟨⟨o,vs,by rw[J a (GX e)];exact m,t,g,c,h1⟩,λy j=>?_⟩ ⟨λb o' q _ _ d=>by rw[J b (d T rfl)];exact q,λb o' q d=>?_,?_⟩ (J a (GX e))
 .cases j;exact⟨e,_,_,FV _ k (HW p),p,by simp[U]⟩
 .obtain⟨_,w,Y,n⟩:=r.mem d;have i:b≠T:=λz=>by
   subst z;rw[k]at Y;cases Y;exact n ts S
  exact⟨o'.slots,by rw[J b i];exact q⟩
 .rw[ON];exact o_ _
end
noncomputable def Ends.less(D:Ends)(i:Nat):Ends:={nx:=λσ H=>D.nx (σ.set i g_) H,rt:=D.rt,bk:=λσ H=>D.bk (σ.set i g_) H,ct:=λσ H=>D.ct (σ.set i g_) H}
section
variable{s:i_}{T:k_}{c n:FU}{ts:TS}
def Fu(I:B3 X B2 σ H s)(x:ExA s.heap a (.ref C) dx (a_ T))(g:Apart X B2 H s a (a_ T))(j:X.ex=[])(E:xr X.K C bmB)(F:bmB.contains (.type "BaseException")=f_)(B:Gl X c)(A:X.mg c=a_ (.ref C))(e:X.N.Nodup)(hi:X.N[i]?=a_ n)(b:X.env.scope.names.lookup n=a_ .local)(y:∀oe:JM,oe.cls=.ref C->oe.dict=dx->(∃vs,oe.data=.fields vs)->PSs (X.hand a oe) (b₀::suite) ts)(q:ts (D.less i) (σ.set i (a_ (.ref a))) H)(m:((c==("__debug__":FU))=c_)⁻¹):
  r_ (x_ X.prog X.w) X.A (handleBy (.ref a) X.env [.ExceptHandler (a_ (.Name c np)) (a_ n) (b₀::suite) pos]) (SP X B2 D) X.xe s:=by
 obtain⟨oe,vs,k,d,l,S,h1⟩:=x.ob;refine wpAny_handleBy_cons (codeAny_handlers_test (ju (I.hand k S g.na g.fa) B A ?_ m)) (by intro z;cases z);obtain⟨tl,N,nm,R,bs,hdct,sn,sub,ab,col,dd,k0,k1,k2,k3,k5,newId,t,p⟩:=E _ I.kIn;have G:=I.env0;refine wpAny_excMatches_sub_self t k d (p.hasType F) (codeAny_handlers_suite_as ?_);refine Ex G.wj x λh' P w ea=>?_;have O:=I.left j x g w;have L:=O.hand (by rw[ea];exact k) S g.na g.fa;refine kO (X:=X.hand a oe) L e hi (.inl b) (v:=.ref a) rfl (λo K=>?_) (.inr b);refine Gx (y oe d l ⟨vs,S⟩ B2 o _ H _ K q) (λf Q z=>?_) λ_ _ z=>z.elim;cases f with
 |next=>obtain⟨σ',H',U,J⟩:=z;exact tT (U.zh I.ok) e hi b λh Y=>⟨_,H',Y,J⟩
 |brk=>obtain⟨σ',H',U,J⟩:=z;exact tT (U.zh I.ok) e hi b λh Y=>⟨_,H',Y,J⟩
 |cont=>obtain⟨σ',H',U,J⟩:=z;exact tT (U.zh I.ok) e hi b λh Y=>⟨_,H',Y,J⟩
 |ret u=>obtain⟨v,σ',H',U,r,J⟩:=z;exact tT (U.zh I.ok) e hi b λh Y=>⟨v,_,H',Y,r,J⟩
end
def EH(i:Nat)(C:k_)(ts:k_->Option k_->TS)(D:Ends)(σ:St):XK:=λJ dx H'=>J=.ref C/\∀a,H' a=g_->ts a dx (D.less i) (σ.set i (a_ (.ref a))) H'
def tTry(tb:XK->TS)(i:Nat)(C:k_)(ts:k_->Option k_->TS):TS:=λD σ H=>tb (EH i C ts D σ) D σ H
section
variable{c n:FU}{tb:XK->TS}
def ps_try(Q:∀(B2:Vp) (σ:St) (E:XK) (y:Mq),jY (CXd X.prog X.w) (X.so y) B2 σ E->PSsAt (X.so y) B2 σ body (tb E))(L:∀(a:k_) (oe:JM),oe.cls=.ref C->(∃vs,oe.data=.fields vs)->PSs (X.hand a oe) (b₀::suite) (ts a oe.dict))(W:xr X.K C bmB)(Z:bmB.contains (.type "BaseException")=f_)(N:X.mg c=a_ (.ref C))(R:X.N.Nodup)(hi: ~~~(X.N[i]?=a_ n))(O: ~~~(X.env.scope.names.lookup n=a_ .local))(P: ~~~(Gl X c))(S: ~~~(X.ex=[]))(U: ~~~(X.stack=X.env::X.outer))(r: ~~~(X.env.frame=a_ X.env.locals))(t:((c==("__debug__":FU))=c_)⁻¹):
  PS X (.Try body [.ExceptHandler (a_ (.Name c np)) (a_ n) (b₀::suite) hpos] [] [] pos) (tTry tb i C ts):=by
 intro B2 s σ H D I h;refine wpAny_Try_except (B' (Q B2 σ _ (λe g=>r_ _ X.A _ (λ_ d=>r_ _ X.A _ (λ_ Y=>r_ _ X.A _ _ X.xe Y) X.xe d) X.xe g) ?_ s H D (I.so _) h) λf A z=>?_)
 .rintro H1 A e s' x ⟨a,T,Cv,dx,H',rfl,z⟩;have m:=x.j5;obtain⟨rfl,q⟩:=z.want;have J:=m.call' z.os z.un z.hok z.bare (λ_ h=>nomatch h);have j:∀b,A.heap.get? b=g_->∀p∈X.pn++B2,p.1≠b:=λb e p o w=>by
   have:=(m.pin p o).1;rw[w,e]at this;cases this
  have l:Apart X B2 H' s' a (a_ T):=⟨m.zf S z.na,z.fa,j a z.na,λT' k=>by cases k;exact⟨m.zf S z.nT,z.fT,j T z.nT⟩⟩
  have G:=J.env0;have f1:=G.frames;have F:=G.wj;rw[U]at f1 F;refine leave2 f1 F r z.ex λh' T2 K k B=>?_;rw[<- U]at B;have v:Apart X B2 H' {s' with heap:=h'} a (a_ T2):=⟨l.na,l.fa,l.pa,λT' u=>by
   cases u;refine⟨get_none (Gg J.sz k),J.hok.fresh k,λp o w=>?_⟩
   have:=m_ (J.pin p o).1;rw[w]at this;exact FN this (OF.mpr k)⟩
  exact Fu (J.left S z.ex l B) K v S W Z P N R hi O (λoe h1 h2 h3=>by rw[<- h2];exact L a oe h1 h3) (q a z.fa) t
 .have z:=SP.j5 z;cases f with
  |next=>exact Jo z|_=>exact z
end
section
open PySem.W
variable{g:Array Nx}{d:Qc}{t:Nat}{od:Option JM}{K:Qq}
theorem xcls_by{Q:Mq}(FB:MS B bmB)(J:K.In h)(I:JB h a oe C od)(e1:FT K (.ref C) "__getattribute__"=a_ (a_ (.builtin "BaseException.__getattribute__")))(e3:FT K (.ref C) "__getattr__"=a_ g_)(Y:∀R:Ox->i_->Prop,R (.ok (.ret (.ref C))) ⟨h,g,d,t,os⟩->Jc (x_ prog w) A (.call (.builtin "BaseException.__getattribute__") ⟨[.ref a,.str "__class__" tk],[]⟩) R ⟨h,g,d,t,os⟩)(q:Q (.ref C) ⟨h,g,d,t,os⟩):
  r_ (x_ prog w) A (getAttrBy (.ref a) (.str "__class__" tk) c_) Q E ⟨h,g,d,t,os⟩:=by
 have U:=I.type (M:=x_ prog w);have S:=Ko (M:=x_ prog w) J e1;have b:=Ko (M:=x_ prog w) J e3;have b3:=FB.ga.bind (.ref a)
 repeat (any_goals (first|with_reducible refine U.at ?_|with_reducible refine S.at ?_|with_reducible refine b.at ?_|wp_step))
 all_goals (refine Y _ ?_)
 repeat (any_goals (first|wp_step|simp_all))
def AZ{M:MQ}{J:h_}{Q:Unit->i_->Prop}(Y:K.In h)(I:JB h a oe C od)(e:JA K C (.type "BaseException")=a_ f_)(c:Q () ⟨h,g,d,t,os⟩):
  r_ M A (Qn "BaseException.__getattribute__" ⟨[.ref a,J],[]⟩) Q E ⟨h,g,d,t,os⟩:=by
 have f:builtinKind "BaseException.__getattribute__"=a_ .slot:=by decide +kernel
 have b:splitId "BaseException.__getattribute__"=a_ ("BaseException","__getattribute__"):=by decide +kernel
 have U:=I.type (M:=M);have S:=looks_mroIn (M:=M) Y e;simp[Qn,b]
 repeat (first|with_reducible refine U.at ?_|with_reducible refine S.at ?_|wp_step)
 exact c
theorem AY{Q:N2->i_->Prop}(J:K.In h)(I:JB h a oe C od)(e2:FT K (.ref C) "__class__"=a_ (a_ (.builtin "object.__class__")))(Y:JA K C (.type "object")=a_ f_)(f:Q (.done (.ret (.ref C))) ⟨h,g,d,t,os⟩):
  r_ (x_ prog w) A (Builtin.«object.__getattribute__» ⟨[.ref a,.str "__class__" tk],[]⟩) Q E ⟨h,g,d,t,os⟩:=by
 have U:=I.type (M:=x_ prog w);have S:=Ko (M:=x_ prog w) J e2;have e:=F.typeOf_object_class;have c:=F.slot_gs_get.lookup;have b:=F.slot_gs_set.lookup
 repeat (any_goals (first|with_reducible refine U.at ?_|with_reducible refine S.at ?_|wp_step))
 refine W.class_get J I Y ?_
 repeat (any_goals (first|wp_step|simp_all))
theorem CD(FB:MS B bmB)(J:K.In h)(I:JB h a oe C od)(e1:FT K (.ref C) "__getattribute__"=a_ (a_ (.builtin "BaseException.__getattribute__")))(e2:FT K (.ref C) "__class__"=a_ (a_ (.builtin "object.__class__")))(e3:FT K (.ref C) "__getattr__"=a_ g_)(Y:JA K C (.type "BaseException")=a_ f_)(U:JA K C (.type "object")=a_ f_)(S:Q (a_ (.ref C)) ⟨h,g,d,t+1,os⟩):r_ (x_ prog w) A (getAttr? (.ref a) "__class__") Q E ⟨h,g,d,t,os⟩:=by refine b_ (wpAny_mkText (b_ (Hy (xcls_by FB J I e1 e3 (λR b=>Ly FB.ga.plain F.entry_bexc_ga (AZ J I Y (AY J I e2 U b))) ?_))));exact e_ S
structure XIsi(K:Qq)(C:k_):Prop where
 ga:FT K (.ref C) "__getattribute__"=a_ (a_ (.builtin "BaseException.__getattribute__"))
 cl:FT K (.ref C) "__class__"=a_ (a_ (.builtin "object.__class__"))
 gt:FT K (.ref C) "__getattr__"=a_ g_
 bs:JA K C (.type "BaseException")=a_ f_
 ob:JA K C (.type "object")=a_ f_
 is:∃cd,MG K C=a_ cd
theorem A7(FB:MS B bmB)(Z:XIsi K C):KitX K (.ref a) (.ref C) (λh=>JB h a oe C od) where
 ty:=λ_ _ _ I=>I.type
 it:=λ_ _ X _=>by
  obtain⟨cd,J⟩:=Z.is;unfold MG at J;split at J
  .next U=>intro l i j s' k q;refine b_ (Nj (k C _ (X C _ U)) ?_);exact e_ q
  simp_all
 ne:=λf Y g d c b X S=>by
  obtain⟨cd,J⟩:=Z.is;refine Bool.eq_false_iff.mpr (λq=>?_);have e:=Value.ref.inj (Kk.mp q);subst e;unfold MG at J;split at J
  .next U=>cases(X C _ U).symm.trans S
  simp_all
 ca:=λ{_ _ _ _ _ s} X I k=>by exact CD FB X I Z.ga Z.cl Z.gt Z.bs Z.ob k
end
theorem zL:∀{ys:List k_} {its:aH},B6 (ys.map V.ref) its->its=ys.map D_
 |[],_,.nil=>rfl|y::ys,_,.cons r J=>by rw[zL J,show _=D_ y from r];rfl
noncomputable def tRefs(ys:List k_):TA:=λ_ H Q=>Q (ys.map V.ref) H
section
variable{D:k_}
def pa_refs0:PA X [] (tRefs []):=cA
def yb(S:PA X es (tRefs ys))(Y:X.mg y=a_ (.ref D))(U: ~~~(Gl X y))(hd:((y==("__debug__":FU))=c_)⁻¹)(J: ~~~(j_ (.Name y p::es) X.env=(c_,FL (.Name y p) X.env)::j_ es X.env)):PA X (.Name y p::es) (tRefs (D::ys)):=
 λps B2 s σ H Q I h=>aR (Dz (v:=.ref D) U Y rfl hd) S J ps B2 s σ H Q I h
end
def DEat(K:Pn)(E:XK)(own:Bool)(X:Cx)(B2:Vp)(σ:St)(e:GI)(f:ah->M A'):Prop:=PEat X B2 σ e (tD K (WE K E) own f)
def DSat(K:Pn)(E:XK)(ro:Bool)(X:Cx)(OL O O':bb)(B2:Vp)(σ:St)(st:List GH)(g:ah->M B4):Prop:=∀F0 H0,PSsAt X B2 σ st (tS K (WE K E) ro F0 H0 OL O O' g)
def PEat.imp{t u:TE}(h:PEat X B2 σ e t)(k:∀H Q,u σ H Q->t σ H Q):PEat X B2 σ e u:=λs H Q I q=>h s H Q I (k H Q q)
def PSat.imp{t u:TS}(h:PSat X B2 σ st t)(k:∀D H,u D σ H->t D σ H):PSat X B2 σ st u:=λs H D I q=>h s H D I (k D H q)
section
variable{fr:ah->M (List A')}{E:XK}
def dea_call(F:gQ X.prog X.w X.K X.mg X.base CX k fad fd ps (spX K ro (bo nN n g) n))(c:jY CX X B2 σ E)(d:gR k X.A)(f:X.mg x=a_ (.ref fad))(i:IT X.K (.ref fad)=f_)(l:Binds X.K fd ps [])(m:DA K (WE K E) X (e::es) fr)(j: ~~~(Gl X x))(Y:((x==("__debug__":FU))=c_)⁻¹)(S: ~~~(j_ (e::es) X.env=(c_,FL e X.env)::j_ es X.env))(U: ~~~((GG pos (j_ es X.env)).any (·.1)=c_)):
  DEat K E ro X B2 σ (.Call (.Name x p) (e::es) [] pos) (fL (bo nN n g) fr):=by
 refine PEat.imp (at_call F c d f i l .nil m j Y S U) λH Q h=>?_;obtain⟨F,ρ,r,s,p⟩:=rd_L h;refine⟨F,ρ,r,s,?_⟩
 cases e1:fr ρ with
 |error z=>rw[e1]at p;exact p|ok ds=>
  rw[e1]at p;intro vs F' H' st q;obtain⟨F1,J,b,q1,z⟩:=p vs F' H' st q;rw[HB];by_cases a:J.length=n
  .exact⟨F1,J,b,q1,a,z⟩
  .rw[sP a]at z;exact aJ.stuck z
end
def qV(O:bb)(f:ah->M A'):ah->M B4:=λρ=>(f (erase O ρ)).bind λ_=>.ok (.nx ρ)
@[simp]def e_dropB(O:bb)(f:ah->M A')(ρ:ah):qV O f ρ=(f (erase O ρ)).bind λ_=>.ok (.nx ρ):=id rfl
section
variable{own:Bool}{E:XK}{f:ah->M A'}
def dsa_set(Y:X.N.Nodup)(h:DEat K E own X B2 σ e f)(hi: ~~~(X.N[i]?=a_ x))(J:autoParam (Loc X.env.scope x) Jq7)(S: ~~~(G0 e (a_ (.Name x pos')) pos.line X.env=G2 c_))(U:autoParam (X.fn x=f_\/X.env.scope.names.lookup x=a_ .local) Jq4):
  DSat K E ro X OL O (aft own i O) B2 σ [.Assign [.Name x pos'] e pos] (ax O i f):=λF0 H0=>at_one (PSat.imp (at_set Y hi J h S U) λD H z=>xR z)
end
theorem Rep.back{K:Pn}{F0 H0 F1 H1 FB F H:Hp}{O:bb}{σ:St}{ρ:ah}(r:Rep K F1 H1 FB O F H σ ρ)(s:Step F0 H0 F1 H1):Rep K F0 H0 FB O F H σ ρ:=
 ⟨s.trans r.st,r.fb,r.len,r.fz,λi d e h=>let ⟨v,z,q⟩:=r.ow i d e h;⟨v,z,q.back s.hh⟩,r.ap⟩
noncomputable abbrev xArgs(vs:aH):JM:={cls:=.type "tuple",data:=.seq vs.toArray}
noncomputable abbrev xBare(C t:k_):JM:={cls:=.ref C,data:=.fields #[.ref t,.none,.none,.none,.bool c_,.none]}
abbrev xx(h:FX)(C:k_)(vs:aH):FX:=(h.push (xArgs vs)).push (xBare C h.objs.size)
section
variable{g:Array Nx}{d:Qc}{t:Nat}
variable{q:FU}{N:k_}{bs:List h_}{mN:Ld}{oI:JM}
def o7{o:JM}(e:h.get? b=a_ o):(xx h C us).get? b=a_ o:=d_ _ (d_ _ e)
theorem uR:(xx h C us).get? (h.objs.size+1)=a_ (xBare C h.objs.size):=by
 have z:=l_ (h.push (xArgs us)) (o:=xBare C h.objs.size) rfl
 simp_all
theorem x_call(F:Mp B newId initId bmB)(T:OwnTail h bmB tl)(J:h.get? C=a_ (MP nm q C N bs tl hdct sn sub ab col dd k0 k1 k2 k3 k5 newId))(Y:h.Ns N mN)(hi:mN "__init__"=a_ (.ref fI))(f:h.get? fI=a_ oI)(S:oI.cls=.type "function")(i:us.length<=t_){Q:Mq}(z:r_ (x_ prog w) (A.under (.builtin "type.__call__" ⟨.ref C::us,[]⟩)) (Jv (.ref fI) (.ref (h.objs.size+1)::us)) (λr s'=>r=.none/\Q (.ref (h.objs.size+1)) s') E ⟨xx h C us,g,d,t,os⟩):
  r_ (x_ prog w) A (Jv (.ref C) us) Q E ⟨h,g,d,t,os⟩:=by
 have l:=tc_lookup;have j:=tc_bind (.ref C);have ty:(⟨h,g,d,t,os⟩:i_).TypeIs (.ref C) "type":=⟨_,J,rfl⟩
 refine K7 (M1 ?_);show r_ _ _ (callAny (.ref C) _) _ _ _
 (repeat (any_goals (first|assumption|with_reducible refine Mb J ?_|wp_step)));exact⟨rfl,codeAny_call_builtin_at (Ln _ dkK) entry_typeCall (wpAny_check_type_call_sub J (by
   have k:∀b o,h.get? b=a_ o->(xx h C us).get? b=a_ o:=λb o e=>o7 e;have U:=k _ _ J;have c:(D_ C::tl).contains (.ref C)=f_:=by simp
   have a:(xx h C us).get? (h.objs.size+1)=a_ (xBare C h.objs.size):=uR
   repeat (first|with_reducible refine wpAny_madeBy_exc J ?_|with_reducible refine Mb J ?_|wp_step)
   refine codeAny_call_builtin_code (Ln _ F.quiet) (wpAny_check_new_subT F T J (codeAny_exc_new_subT F T J ?_ i));show r_ _ _ _ _ _ (⟨xx h C us,g,d,t,os⟩:i_);unfold PH
   repeat (first|(with_reducible refine Pk U ?_;rw[c])|with_reducible refine Mb a ?_|wp_step)
   refine wpAny_typeLookup_tail U (Y.keeps k) (T.keeps k) F.mroIs F.init.lookup ?_;rw[hi];unfold bindSpecial;refine Gq (b_ (b_ (J9 (T:="function") ⟨_,k _ _ f,S⟩ ?_)));rw[p_ al];refine e_ (b_ (B' z λr s' y=>?_));obtain⟨e,y⟩:=y;subst e
   wp_walk
   exact y))⟩
end
theorem ns_some{N:k_}{m:Ld}{n:FU}(X:K.In h)(G:h.Ns N m)(e:PL K N n=a_ (a_ v)):m n=a_ v:=by
 obtain⟨o,es,ep,S,g2,_,J⟩:=G;unfold PL at e;cases q:K.lookup N with
 |none=>simp_all|some Y=>
  have z:=X _ _ q;rw[S]at z;cases z;obtain⟨c,d,U,sl⟩:=o;cases(show U=.dict es ep from g2);rw[q]at e;dsimp only at e;cases f:es.toList.find? _ with
  |none=>rw[f]at e;dsimp only at e;split at e<;>cases e
  |some a=>rw[f]at e;cases e;rw[<- J];unfold nsFind findBy;rw[<- N7,f];rfl
noncomputable def Kzc:Data->Option ClassData
 |.cls c=>a_ c|_=>g_
def Kzd{d:Data}{c:ClassData}(h:Kzc d=a_ c):d=.cls c:=by cases d<;>cases h;rfl
def n9(K:Pn)(C:k_)(bmB:aH)(newId:String)(f:k_):Bool:=(K.lookup C).any λo=>(Kzc o.data).any λc=>c.mro.head? ==a_ (.ref C)&&(o.cls==.type "type"&&(!c.hasDel&&(PySem.W.nsOkIn K c.ns&&(PySem.W.tailIn K bmB c.mro.tail&&(PL K c.ns "__init__"==a_ (a_ (.ref f))&&(o.slots.toList.length==6&&o.slots.toList[4]?==a_ (a_ (.builtin newId))))))))
def Kz6{l:List α}{x:α}(h:l.length=6)(J:l[4]?=a_ x):∃a b c d e,l=[a,b,c,d,x,e]:=by obtain⟨k0,l,rfl⟩:=GA h;obtain⟨k1,l,rfl⟩:=GA (G_ h);obtain⟨k2,l,rfl⟩:=GA (G_ (G_ h));obtain⟨k3,l,rfl⟩:=GA (G_ (G_ (G_ h)));have b:=G_ (G_ (G_ (G_ h)));obtain⟨S,l,rfl⟩:=GA b;obtain⟨k5,l,rfl⟩:=GA (G_ b);cases J;rw[List.eq_nil_of_length_eq_zero (G_ (G_ b))];exact⟨_,_,_,_,_,rfl⟩
def tY{f:k_}(X:K.In h)(q:n9 K C bmB newId f=f_):
  ∃tl N nm U bs hdct sn sub ab col dd k0 k1 k2 k3 k5 mN,h.get? C=a_ (MP nm U C N bs tl hdct sn sub ab col dd k0 k1 k2 k3 k5 newId)/\h.Ns N mN/\mN "__init__"=a_ (.ref f)/\OwnTail h bmB tl:=by
 obtain⟨⟨oc,dd,u,⟨l⟩⟩,d,q⟩:=(NJ _ _).mp q;obtain⟨⟨n,m,Y,k,j,i,g,c,b,J,a⟩,e,q⟩:=(NJ _ _).mp q;cases Kzd e;simp at q;obtain⟨t,rfl,rfl,S,s,r,p,o⟩:=q;obtain⟨tl,rfl⟩:=List.head?_eq_some_iff.mp t;obtain⟨k0,k1,k2,k3,k5,rfl⟩:=Kz6 p o;exact⟨tl,k,n,j,m,i,g,c,b,J,dd,k0,k1,k2,k3,k5,_,X _ _ d,.of_isNs (Nu X S),ns_some X (.of_isNs (Nu X S)) r,PySem.W.tail_of_in X s⟩
def xnamed2{f:k_}(q:n9 K C bmB newId f=f_):xr K C bmB:=λ_ X=>by obtain⟨tl,N,nm,J,bs,hdct,sn,sub,ab,col,dd,k0,k1,k2,k3,k5,mN,U,a,Y,S⟩:=tY X q;exact⟨tl,N,nm,J,bs,hdct,sn,sub,ab,col,dd,k0,k1,k2,k3,k5,newId,U,S⟩
noncomputable def Ozi:h_->Bool
 |.ref _=>f_|_=>c_
def uS(l:aH):Bool:=l.dropWhile Ozi==[.type "ValueError",.type "Exception",.type "BaseException",.type "object"]
def Ozj{P:aH->Prop}(S:P [.type "ValueError",.type "Exception",.type "BaseException",.type "object"])(h1:∀a l,P l->P (.ref a::l)):∀l:aH,uS l=f_->P l:=λl=>by
 induction l with
 |nil=>exact λe=>nomatch (Kk.mp e)
 |cons v r J=>
  intro e;unfold uS at e;cases v with
  |ref a=>exact h1 a r (J e)|_=>rw[show(_::r)=_ from Kk.mp e];exact S
def ve_pass(J:h_){l:aH}:uS l=f_->refuseLoop J "__setattr__" l=G2 ():=Ozj (P:=λl=>refuseLoop J "__setattr__" l=G2 ()) (PySem.F.store_ValueError.passes J) (λ_ _ h=>by rw[refuseLoop_ref];exact h) l
def ve_obj{l:aH}:uS l=f_->l.contains (.type "object")=f_:=Ozj (P:=λl=>l.contains _=f_) dkK (λ_ _ h=>by rw[Oo,h,Qh]) l
structure XFld(K:Pn)(C:k_)(f:FU):Prop where
 sa:FT K (.ref C) "__setattr__"
   =a_ (a_ (.builtin "object.__setattr__"))
 no:FT K (.ref C) f=a_ g_
 cd:((MG K C).any λcd=>uS cd.mro&&cd.hasDict)=f_
section
open PySem.W
variable{s:i_}{od:Option JM}{K:Qq}{f:FU}
def x_open(X:K.In s.heap)(I:JB s.heap a oe C od)(Z:XFld K C f)(z:∀b,r_ (x_ prog w) A.in1 (OR (.ref a) (.ref C) (.str f tk) f v b)
   (λU s'=>match U with|.done y=>R (.ok y) s'|.again c=>c.quiet=f_/\Jc (x_ prog w) A c R s') (λe s'=>R (.error e) s') s):
  Jc (x_ prog w) A (.call (.builtin "object.__setattr__") ⟨[.ref a,.str f tk,v],[]⟩) R s:=by
 have S:=PySem.F.store_object;obtain⟨cd,Y,J⟩:=Ow Z.cd;rw[FH]at J;have d:cd.mro.isEmpty=c_:=by cases q:cd.mro with|nil=>rw[q]at J;cases J.1|cons _ _=>rfl
 refine Ly S.slot.plain S.entry (@check_slot _ _ _ s "object.__setattr__" "object" "__setattr__" _ [.str f tk,v] [] _ S.kind S.split (I.type.andThen (looks_mroIn X (by unfold JA;rw[Y,Option.bind_some,q_ (by rw[d];decide),ve_obj J.1]))) (S.args _ _ v) ?_);rw[osa_eq,refuse_eq];have g:Looks (x_ prog w) s.heap (mroOf (.ref C)) cd.mro:=(M3 X Y).andThen .now;refine b_ (b_ (I.type.here (b_ (g.here ?_))));rw[ve_pass _ J.1];exact e_ (b_ (I.type.here (b_ ((Ko X Z.no).here (b_ (e_ (z _)))))))
theorem x_set1{vs:Array h_}{Q:Unit->i_->Prop}(X:K.In s.heap)(Z:XFld K C f)(J:s.heap.get? a=a_ ⟨.ref C,g_,.fields vs,#[]⟩)(z:∀h',h'.get? a=a_ ⟨.ref C,a_ s.heap.objs.size,.fields vs,#[]⟩->h'.Ns1 s.heap.objs.size (λy=>if y=f then a_ v else g_)->(∀b o,b≠a->s.heap.get? b=a_ o->h'.get? b=a_ o)->Q () {s with heap:=h',toks:=s.toks+2}):
  r_ (x_ prog w) A (P4 (.ref a) f v) Q E s:=by
 have I:JB s.heap a _ C g_:=⟨J,rfl,rfl,Pj⟩
 refine P7 X I Z.sa (x_open X I Z λb=>?_);obtain⟨cd,d,c⟩:=Ow Z.cd;rw[FH]at c;refine b_ (e_ (b_ (b_ (Nj J (b_ (N0 (M3 X d) ?_))))));rw[c.2];have U:=E_ (m_ J);have h1:(s.heap.push Hx).get? a=a_ _:=d_ _ J;refine b_ (wpAny_alloc' (b_ (wpAny_update' h1 (e_ ?_))));have h:((s.heap.push Hx).update a λo=>{o with dict:=a_ s.z}).get? s.z=a_ Hx:=by rw[A_ _ _ U];exact l_ s.heap rfl
 refine b_ (e_ (b_ (wpAny_nsSet1 (Nw ⟨Hx,#[],_,h,rfl,(λe J=>FN J aj),λ_=>rfl⟩) λh' Y S=>?_)));obtain⟨n,i,j,m,l,k⟩:=Y.count (NX f v Within.nil);refine b_ (Qi m (by rw[l];exact Qm (Gg k (by rw[FK,KP];lia))) (e_ ?_));exact z h' ((S.2 a U).trans (FV _ h1 rfl)) Y λb o g q=>(S.2 b (E_ (m_ q))).trans (by rw[A_ _ _ (GX g)];exact d_ _ q)
end
section
open PySem.W
end
noncomputable def XO(a C:k_)(dx:Option k_):HO:=.ext λh=>∃vs:Array h_,vs[1]?=a_ .none/\h.get? a=a_ ⟨.ref C,dx,.fields vs,#[]⟩
noncomputable def XD(d:k_)(fs:List (FU×V)):HO:=.ext λh=>∃mA,h.Ns1 d mA/\(∀f,xt (fs.lookup f) (mA f))/\JQ mA (fs.map (·.1))
section
variable{d:k_}{fs:List (FU×V)}
def xo_ok{vs:Array h_}(h1:vs[1]?=a_ .none)(e:h.get? a=a_ ⟨.ref C,dx,.fields vs,#[]⟩):dq H h a (XO a C dx):=⟨⟨vs,h1,e⟩,⟨_,e⟩,λ_ _ ⟨vs,q,e⟩ k=>⟨vs,q,k _ e⟩⟩
def xd_ok{mA:Ld}(n:h.Ns1 d mA)(r:∀f,xt (fs.lookup f) (mA f))(wi:JQ mA (fs.map (·.1))):dq H h d (XD d fs):=
 ⟨⟨mA,n,r,wi⟩,(let ⟨o,_,_,e,_⟩:=n;⟨o,e⟩),λ_ _ ⟨m,q,z⟩ k=>⟨m,q.at k,z⟩⟩
def xo_get(x:dq H h a (XO a C dx)):∃vs:Array h_,vs[1]?=a_ .none/\h.get? a=a_ ⟨.ref C,dx,.fields vs,#[]⟩:=x.1
def xd_get(x:dq H h d (XD d fs)):∃mA,h.Ns1 d mA/\(∀f,xt (fs.lookup f) (mA f))/\JQ mA (fs.map (·.1)):=x.1
end
section
variable{s:i_}
def B3.turn{t':Nat}(I:B3 X B2 σ H s)(S:k_->Prop)(k:∀b o,¬S b->s.heap.get? b=a_ o->h'.get? b=a_ o)(J:∀b,¬S b->H' b=H b)(Y:∀b,S b->(∃f,H b=a_ (.ext f))\/s.heap.get? b=g_)(a:∀b o,S b->s.heap.get? b=a_ o->∃o',h'.get? b=a_ o')(g:∀b o,S b->H' b=a_ o->dq H' h' b o):
  B3 X B2 σ H' {s with heap:=h',toks:=t'}:=by
 have U:∀b u,H b=a_ u->(∀f,u≠.ext f)->¬S b:=λb u e n z=>by
  rcases Y b z with⟨f,q⟩|q
  .rw[e]at q;cases q;exact n f rfl
  .obtain⟨o,r⟩:=(I.hok b u e).is;rw[r]at q;cases q
 have d:∀b o,s.heap.get? b=a_ o->H b=g_->¬S b:=λb o e n z=>by
  rcases Y b z with⟨f,q⟩|q
  .rw[n]at q;cases q
  .rw[e]at q;cases q
 refine I.un ⟨λb o e n _ _=>k b o (d b o e n) e,λb o e n _ _=>⟨o.slots,k b o (d b o e n) e⟩,λb o e n _=>by rw[J b (d b o e n)];exact n,λb o e _=>?_,λb xs e=>?_,λb o u e=>?_,λb ps e=>?_⟩ λb u e=>?_
 .by_cases z:S b
  .exact a b o z e
  .exact⟨o,k b o z e⟩
 .rw[J b (U b _ e λ_ z=>nomatch z)];exact e
 .rw[J b (U b _ e λ_ z=>nomatch z)];exact e
 .exact⟨#[],by rw[J b (U b _ e λ_ z=>nomatch z)];exact e⟩
 .by_cases z:S b
  .exact g b u z e
  .rw[J b z]at e;refine(I.hok b u e).xA (λc v h q=>k c v ?_ q) (λc q=>?_) λc xs q=>?_
   .rcases h with rfl|h
    .exact z
    .exact U c _ h λ_ z=>nomatch z
   .rw[J c (U c _ q λ_ z=>nomatch z)];exact q
   .rw[J c (U c _ q λ_ z=>nomatch z)];exact q
end
section
variable{s:i_}{d:k_}{f:FU}{y:V}
def xset1_ok{Q:Unit->i_->Prop}(I:B3 X B2 σ H s)(e:H a=a_ (XO a C g_))(Z:XFld X.K C f)(h:B5 y u)(z:∀d s',H d=g_->d≠a->B3 X B2 σ (upd (upd H d (XD d [(f,y)])) a (XO a C (a_ d))) s'->Q () s'):r_ (x_ X.prog X.w) A (P4 (.ref a) f u) Q E s:=by
 obtain⟨vs,c,l⟩:=xo_get (I.hok a _ e);have fr:=I.hok.fresh (o_ s.z);have Y:s.z≠a:=λq=>by rw[q,e]at fr;cases fr
 refine x_set1 I.kIn Z l λh' e1 i k=>z s.z _ fr Y ?_;refine I.turn (λb=>b=a\/b=s.z) (λb o U q=>k b o (λr=>U (.inl r)) q) (λb U=>by rw[aw λr=>U (.inl r),aw λr=>U (.inr r)]) (λb S=>?_) (λb o S q=>?_) λb o S q=>?_
 .rcases S with rfl|rfl
  .exact .inl ⟨_,e⟩
  .exact .inr (get_none (o_ _))
 .rcases S with rfl|rfl
  .exact⟨_,e1⟩
  .rw[get_none (o_ _)]at q;cases q
 .rcases S with rfl|rfl
  .rw[aq]at q;cases q;exact xo_ok c e1
  .rw[aw Y,aq]at q;cases q;refine xd_ok i (λg=>?_) λg j=>?_
   .rw[GU];by_cases J:g=f
    .rw[p_ J,show(g==f)=f_ from Kk.mpr J];exact h
    .rw[q_ J,show(g==f)=c_ from MY.mpr J];trivial
   .by_cases J:g=f
    .exact n_.mpr (.inl J)
    .exact FN (show(if g=f then a_ u else g_)=g_ from q_ J) j
end
def sX1(C:k_)(ta tv:TE)(f:FU):TS:=λD σ H=>tv σ H λy H1=>ta σ H1 λx H2=>∃a,x=.ref a/\H2 a=a_ (XO a C g_)/\∀d,H2 d=g_->d≠a->D.nx σ (upd (upd H2 d (XD d [(f,y)])) a (XO a C (a_ d)))
section
variable{o:GI}{f:FU}
def ps_x1(e:PE X o ta)(hv:PE X value tv)(Z:XFld X.K C f)(c: ~~~(G0 value (a_ (.Attribute o f pos')) pos.line X.env=G2 c_)):PS X (.Assign [.Attribute o f pos'] value pos) (sX1 C ta tv f):=by intro B2 s σ H D I h;refine Mv (B' (hv B2 s σ H _ I h) λu S J=>?_) c;obtain⟨y,H1,k,U,q⟩:=J;refine B' (e B2 S σ H1 _ k q) λb m J=>?_;obtain⟨x,H2,j,Y,a,ex,ea,q2⟩:=J;subst ex;cases(show b=D_ a from Y);exact xset1_ok j ea Z U λd l h1 g i=>⟨σ,_,i,q2 d h1 g⟩
end
def fn_at{f:k_}(X:K.In h)(e:Nr K (.ref f)=a_ (.type "function")):∃o,h.get? f=a_ o/\o.cls=.type "function":=by
 unfold Nr at e;cases q:K.lookup f with
 |none=>simp only[q]at e;cases e|some o=>simp[q]at e;exact⟨o,X _ _ q,by simpa using e⟩
def xw{M:MQ}{q:FU}{N:k_}{bs:aH}{s:i_}{x:OM h_}{Q:Flow->i_->Prop}(g:tl.contains (.type "BaseException")=f_)(b:A.handled=g_)(z:r_ M A x (λv J=>∃e oe,v=.ref e/\J.heap.get? C=a_ (MP nm q C N bs tl hdct sn sub ab col dd k0 k1 k2 k3 k5 newId)/\J.heap.get? e=a_ oe/\oe.cls=.ref C/\(∃vs,oe.data=.fields vs/\vs[1]?=a_ .none)/\E (.ref e) J) E s):
  r_ M A
    (raiseStmt env (a_ x) g_) Q E s:=by
 have h:(D_ C::tl).contains (.type "BaseException")=f_:=by rw[Oo,g,Qh]
 refine b_ (B' z λv J S=>?_);obtain⟨e,oe,rfl,f,i,c,⟨vs,hd,U⟩,d⟩:=S;obtain⟨oc,Y,a,osl⟩:=oe;subst c hd
 repeat (first|(with_reducible refine Pk f ?_;rw[h])|wp_step)
 rw[U];refine e_ ?_;exact e_ (wpAny_raiseNew_none b d)
def XEq2(X:Cx)(E:XK)(C:k_):Prop:=∀(B2:Vp) (σ:St) (H:Hp) (s':i_) (a d:k_),B3 X B2 σ H s'->ExA s'.heap a (.ref C) (a_ d) g_->X.s₀.heap.get? a=g_->H a=g_->E (.ref C) (a_ d) H->X.xe (.ref a) s'
section
variable{base:FX}{f:k_}{s:i_}{E:XK}
def xeqD2:XEq2 (Ax (CXd P w) P w K mg base N qual scope f cd A outer s H E) E C:=λ_ _ _ _ _ _ J x S fa q=>xe_of J x S (λT U=>nomatch U) fa q
end
def qf(O:bb)(C:k_)(fb:ah->M B4)(fx:List (FU×A')->ah->M ah):ah->M B4:=λρ=>match fb (erase O ρ)with
 |.ok fl=>.ok fl|.error (.exc J (f::fs))=>if J=C then(fx (f::fs) ρ).bind λρ'=>.ok (.nx ρ')else .error .stuck
 |.error _=>.error .stuck
theorem wy{fb:ah->M B4}{fl:B4}(h:fb (erase O ρ)=.ok fl):qf O C fb fx ρ=.ok fl:=by simp_all[qf]
theorem rR{fb:ah->M B4}{f:FU×A'}{fs:List (FU×A')}(h:fb (erase O ρ)=.error (.exc C (f::fs))):qf O C fb fx ρ=(fx (f::fs) ρ).bind λρ'=>.ok (.nx ρ'):=by simp_all[qf]
section
variable{c n:FU}{fb:ah->M B4}
theorem ds_tryF(y:∀(B2:Vp) (σ:St) (E:XK) (S:Mq),jY (CXd X.prog X.w) (X.so S) B2 σ E->DSat K E ro (X.so S) OL [] O B2 σ body fb)(k:∀(a:k_) (oe:JM),oe.cls=.ref C->(∃vs,oe.data=.fields vs)->PSs (X.hand a oe) (b₀::suite) (ts a oe.dict))(g:∀(F0 H0:Hp) (D:Ends) (σ:St) (a d:k_) (gs:List (FU×V)) (fs:List (FU×A')) (FB F H:Hp) (ρ:ah),σ.length=X.N.length->Rep K F0 H0 FB O F H σ ρ->F d=a_ (.xd gs)->nM K F fs gs->eQ K D' ro F0 H0 FB OL O D ((fx fs ρ).bind λρ'=>.ok (.nx ρ'))->ts a (a_ d) (D.less i) (σ.set i (a_ (.ref a))) H)(B:xr X.K C bmB)(G:bmB.contains (.type "BaseException")=f_)(o:X.mg c=a_ (.ref C))(A:X.N.Nodup)(hi: ~~~(X.N[i]?=a_ n))(t: ~~~(X.env.scope.names.lookup n=a_ .local))(u: ~~~(Gl X c))(Y: ~~~(X.ex=[]))(J: ~~~(X.stack=X.env::X.outer))(U: ~~~(X.env.frame=a_ X.env.locals))(b:((c==("__debug__":FU))=c_)⁻¹):
  DS K D' ro X OL O O (.Try body [.ExceptHandler (a_ (.Name c np)) (a_ n) (b₀::suite) hpos] [] [] pos) (qf O C fb fx):=λF0 H0 B2 s σ H D I z=>
 ps_try (tb:=λE D σ H=>∃F1 H1,tS K (WE K E) ro F1 H1 OL [] O fb D σ H) (λB2 σ E S l s H D I ⟨F1,H1,q⟩=>y B2 σ E S l F1 H1 s H D I q) k B G o A hi t u Y J U b B2 s σ H D I (by
   have g:=(λa d gs fs FB F H ρ r h1 L p=>g F0 H0 D σ a d gs fs FB F H ρ I.len r h1 L p)
   obtain⟨FB,F,ρ,r,p⟩:=z;have j:=r.iQ;refine⟨F,H,FB,F,erase O ρ,⟨Step.refl r.st.fh,r.fb,j.len,λm d e _=>j.sl m d e,(λm d e h=>nomatch h),(λm n R Q c h=>nomatch h)⟩,?_⟩
   cases e:fb (erase O ρ)with
   |ok fl=>
    rw[wy e]at p;cases fl with
    |nx ρ'=>exact λσ' F' H' r'=>p σ' F' H' (r'.back r.st)|rt d=>exact λv F' H' s' q=>p v F' H' (r.st.trans s') (q.back r.st.hh)|bk ρ'=>exact λσ' F' H' r'=>p σ' F' H' (r'.back r.st)|ct ρ'=>exact λσ' F' H' r'=>p σ' F' H' (r'.back r.st)
   |error x=>
    cases x with
    |stuck=>exact p.stuck (by simp_all[qf])|exc P fs=>
     cases fs with
     |nil=>exact p.stuck (by simp_all[qf])|cons f fs=>
      by_cases w:P=C
      .subst w;rw[rR e]at p;exact λF' H' s' d gs hd N=>⟨rfl,λa _=>g a d gs _ FB F' H' ρ (r.step s') hd N p⟩
      .exact p.stuck (by simp_all[qf]))
end
section
variable{W:cP}
def u3(h:DS K D' ro X.nox OL O O' st g):DS K W ro X OL O O' st (fNoX g):=λF0 H0=>PS.imp (λB2 s σ H D I z=>Gx ((h F0 H0) B2 s σ H D (I.so _) z) (λ_ _ q=>q.j5) λ_ _ y=>(show False from y).elim) λD σ H ⟨FB,F,ρ,r,p⟩=>by
 refine⟨FB,F,ρ,r,?_⟩
 have p:eQ K W ro F0 H0 FB OL O' D (noX (g ρ)):=p;cases e:g ρ with
 |ok fl=>rw[e]at p;cases fl<;>exact p
 |error x=>rw[e]at p;exact(W.ns p).elim
end
structure XMk(K:Pn)(mg:Ld)(x:FU)(C f:k_):Prop where
 mg:mg x=a_ (.ref C)
 ex:n9 K C [.type "ValueError",.type "Exception",.type "BaseException",.type "object"] "ValueError.__new__" f=f_
 fn:Nr K (.ref f)=a_ (.type "function")
 kp:IT K (.ref C)
   =f_
structure XTry(K:Pn)(mg:Ld)(x:FU)(C:k_):Prop where
 mg:mg x=a_ (.ref C)
 nm:xr K C [.type "ValueError",.type "Exception",.type "BaseException",.type "object"]
 isi:XIsi K C
noncomputable def isK(k:Int):h_->Bool
 |.int i _=>i==k|_=>c_
theorem qL:∀{J:aG} {us:aH},B6 (J.map V.int) us->∀(m:Nat) (i:Int),J[m]?=a_ i->∃t,us[m]?=a_ (.int i t)
 |[],_,_,m,i,h=>by simp at h|a::J,_,.cons r S,0,i,h=>by
  obtain⟨t,e⟩:=(show ∃t,_=Je a t from r)
  simp at h;subst h e;exact⟨t,rfl⟩
 |a::J,_,.cons r S,m+1,i,h=>by simpa using qL S m i (by simpa using h)
def rIsi(K:Pn)(C a:k_)(R:Hp->Prop):a0->Hp->VK->Prop:=λxs H Q=>R H/\∃v b,xs=[.ref a,v] /\
  ((∃c,B5 v c/\(∀u,B5 v u->u=c)/\Hq K (.ref C) c=a_ b)\/∃(J:k_) (ys:List k_),v=.ref J/\H J=a_ (.tup (ys.map V.ref))/\kitAny K (.ref C) (ys.map D_)=a_ b)/\Q (.bl b) H
def XDk(d:k_):Hp->Prop:=λH=>∃gs,H d=a_ (.xd gs)
noncomputable def v7(i:Nat)(a:k_)(R:Hp->Prop)(b:Bool):TE:=λσ H Q=>σ[i]?=a_ (a_ (.ref a))/\R H/\Q (.bl b) H
def zt(i:Nat)(a:k_)(R:Hp->Prop)(ys:List k_)(b:Bool):TE:=λσ H Q=>σ[i]?=a_ (a_ (.ref a))/\∀p,H p=g_->R (upd H p (.tup (ys.map V.ref)))/\Q (.bl b) (upd H p (.tup (ys.map V.ref)))
section
variable{d:k_}
theorem Fs(FB:MS B bmB)(Z:XIsi X.K C)(D:oe.cls=.ref C)(hd:∃vs,oe.data=.fields vs)(G:oe.dict=a_ d):du (X.hand a oe) (.builtin "isinstance") (rIsi X.K C a (XDk d)):=by
 intro B2 s σ H xs us Q I r h;obtain⟨⟨gs,y⟩,v,b,rfl,h1,q⟩:=h;obtain⟨u,w,rfl,m,U⟩:=r.two;cases(show u=D_ a from m);obtain⟨vs,A⟩:=hd;obtain⟨mA,⟨od,es,ep,K,f⟩,_⟩:=(show dq H s.heap d _ from I.hok d _ y)
 have J:JB s.heap a oe C (a_ od):=⟨((I.pin (a,oe) (Hn ..)).1),D,by simp_all[PySem.W.notCls],as⟩
 rcases h1 with⟨c,F,S,e⟩|⟨Y,ys,rfl,x,e⟩
 .cases S w U;exact Nb (A7 FB Z) I.kIn J e (λz=>nomatch z) λtk=>⟨.bl b,H,I.tok tk,rfl,q⟩
 .cases(show w=D_ Y from U);obtain⟨_,its,l,t,k,j⟩:=(show dq H s.heap Y _ from I.hok Y _ x)
  obtain⟨i,n,g⟩:=j;have E:=zL l;subst E;obtain⟨oc,p,o,osl⟩:=t;subst i g;exact PySem.W.kia_tup (A7 FB Z) I.kIn J k e (λz=>nomatch z) λtk=>⟨.bl b,H,I.tok tk,rfl,q⟩
end
section
variable{D:k_}{R:Hp->Prop}{n:FU}{b:Bool}
def pe_isO(e:du (X.hand a oe) (.builtin "isinstance") (rIsi X.K C a R))(j:X.mg "isinstance"=g_)(r:X.mg y=a_ (.ref D))(l:Hq X.K (.ref C) (.ref D)=a_ b)(o: ~~~(X.N[i]?=a_ n))(hv:autoParam (Vis X.env.scope n) Jq5)(d:((n==("__debug__":FU))=c_)⁻¹)(c:((n==("__classdict__":FU))=c_)⁻¹)(k: ~~~(Gl (X.hand a oe) "isinstance"))(U: ~~~(Gl (X.hand a oe) y))(Y:((y==("__debug__":FU))=c_)⁻¹)(g: ~~~(j_ [.Name n p1,.Name y p2] X.env=[(c_,FL (.Name n p1) X.env),(c_,FL (.Name y p2) X.env)]))(J: ~~~(j_ [.Name y p2] X.env=[(c_,FL (.Name y p2) X.env)]))(S: ~~~((GG pos (j_ [.Name y p2] X.env)).any (·.1)=c_)):
  PE (X.hand a oe) (.Call (.Name "isinstance" p) [.Name n p1,.Name y p2] [] pos) (v7 i a R b):=by
 refine PE.imp (gV e k j Lg (aR (pv i o hv d c) (aR (λB2 s σ H Q I h=>ju I U r ⟨.ref D,H,I,rfl,h⟩ Y) cA J) (by rfl)) al al (by rfl) S) λσ H Q h=>?_;obtain⟨e1,m,q⟩:=h;exact⟨.ref a,e1,m,.ref D,b,rfl,.inl ⟨.ref D,rfl,λu f=>f,l⟩,q⟩
def pe_isB(g:du (X.hand a oe) (.builtin "isinstance") (rIsi X.K C a R))(m:X.mg "isinstance"=g_)(Y:X.mg y=g_)(S:Hi y=a_ (.type T))(r:Hq X.K (.ref C) (.type T)=a_ b)(t: ~~~(X.N[i]?=a_ n))(hv:autoParam (Vis X.env.scope n) Jq5)(f:((n==("__debug__":FU))=c_)⁻¹)(e:((n==("__classdict__":FU))=c_)⁻¹)(o: ~~~(Gl (X.hand a oe) "isinstance"))(c: ~~~(Gl (X.hand a oe) y))(j:(y≠"__name__")⁻¹)(d:((y==("__debug__":FU))=c_)⁻¹)(l: ~~~(j_ [.Name n p1,.Name y p2] X.env=[(c_,FL (.Name n p1) X.env),(c_,FL (.Name y p2) X.env)]))(J: ~~~(j_ [.Name y p2] X.env=[(c_,FL (.Name y p2) X.env)]))(U: ~~~((GG pos (j_ [.Name y p2] X.env)).any (·.1)=c_)):
  PE (X.hand a oe) (.Call (.Name "isinstance" p) [.Name n p1,.Name y p2] [] pos) (v7 i a R b):=by
 refine PE.imp (gV g o m Lg (aR (pv i t hv f e) (aR (pe_tyN c Y S j d) cA J) (by rfl)) al al (by rfl) U) λσ H Q h=>?_;obtain⟨e1,s,q⟩:=h;exact⟨.ref a,e1,s,.ty T,b,rfl,.inl ⟨.type T,rfl,λu k=>k,r⟩,q⟩
theorem pe_isT{j}(e:du (X.hand a oe) (.builtin "isinstance") (rIsi X.K C a R))(g:X.mg "isinstance"=g_)(m:PA (X.hand a oe) es (tRefs ys))(r:ys.length<=t_)(l:kitAny X.K (.ref C) (ys.map D_)=a_ b)(o: ~~~(X.N[i]?=a_ n))(hv:autoParam (Vis X.env.scope n) Jq5)(d:((n==("__debug__":FU))=c_)⁻¹)(c:((n==("__classdict__":FU))=c_)⁻¹)(k: ~~~(Gl (X.hand a oe) "isinstance"))(f: ~~~(j_ [.Name n p1,.Tuple es j p2] X.env=[(c_,FL (.Name n p1) X.env),(c_,FL (.Tuple es j p2) X.env)]))(S: ~~~(j_ [.Tuple es j p2] X.env=[(c_,FL (.Tuple es j p2) X.env)]))(Y: ~~~((GG pos (j_ [.Tuple es j p2] X.env)).any (·.1)=c_)):
  PE (X.hand a oe) (.Call (.Name "isinstance" p) [.Name n p1,.Tuple es j p2] [] pos) (zt i a R ys b):=by
 refine PE.imp (gV e k g Lg (aR (pv i o hv d c) (aR (pe_tup m) cA S) (by rfl)) al al (by rfl) Y) λσ H Q h=>?_;obtain⟨e1,q⟩:=h;exact⟨.ref a,e1,as,λU J=>⟨(q U J).1,.ref U,b,rfl,.inr ⟨U,ys,rfl,aq,l⟩,(q U J).2⟩⟩
end
theorem Rep.toldG{vs:a0}(r:Rep K F0 H0 FB O F H σ ρ)(s:i≠j)(hi:i<σ.length)(q:j<σ.length)(d:i∉O)(b:j∉O)(st:Step F H (upd F l (.lst vs)) H')(p:F l=g_)(t:ay K F ds vs):
  Rep K F0 H0 FB O (upd F l (.lst vs)) H' (((σ.set i (a_ (.ref a))).set j (a_ (.ref l))).set i g_) ((ρ.set j (a_ (.lst ds))).set i g_):=by
 have f:=r.step st;have U:∀m,m≠i->m≠j->(((σ.set i (a_ (.ref a))).set j (a_ (.ref l))).set i g_)[m]?=σ[m]?:=λm h1 S=>by grind[z_]
 have J:∀m,m≠i->m≠j->((ρ.set j (a_ (.lst ds))).set i g_)[m]?=ρ[m]?:=λm h1 S=>by grind[z_]
 have o:∀dd,((ρ.set j (a_ (.lst ds))).set i g_)[i]?≠a_ (a_ dd):=λdd e=>by rw[Cb (by rw[Gk,r.len];exact hi)]at e;cases e
 refine⟨f.st,f.fb,by simp;exact r.len,λm dd e Y=>?_,λm dd e Y=>?_,λm n v u c Y g e1 e2 e3 e4=>?_⟩
 .by_cases h1:m=i
  .simp_all
  .by_cases S:m=j
   .subst S;rw[z_ (GX h1),Cb (by rw[r.len];exact q)]at e;cases e;refine⟨.ref l,as,l,vs,rfl,SqL.of aq,ay.mono (aU.upd p) t⟩
   .rw[J m h1 S]at e;rw[U m h1 S];exact f.fz m dd e Y
 .have h1:m≠i:=λz=>d (z▸Y);have S:m≠j:=λz=>b (z▸Y);rw[J m h1 S]at e;rw[U m h1 S];exact f.ow m dd e Y
 .have h1:m≠i:=λz=>d (z▸Y);have S:m≠j:=λz=>b (z▸Y);have k:n≠i:=λz=>d (z▸g);have h:n≠j:=λz=>b (z▸g);rw[J m h1 S]at e1;rw[J n k h]at e2;rw[U m h1 S]at e3;rw[U n k h]at e4;exact f.ap m n v u c Y g e1 e2 e3 e4
structure Yd(P:Gf)(w:GS)(K:Pn)(mg:Ld)(base:FX)(CX:CXT)(k:Nat)(x:FU)(st:GH)(ps:List FU)(sp:Sp)(f:k_)(fd:HN):Prop where
 d:Def K mg x st ps f fd
 o:gQ P w K mg base CX k f fd ps sp
section
open PySem.W
end
def BP:PD (.type "list_reverseiterator") "__len__"=G2 g_:=by rfl
def lri_hint:PD (.type "list_reverseiterator") "__length_hint__"=G2 (a_ (.builtin "list_reverseiterator.__length_hint__")):=by rfl
def lri_self:isSubtype (.type "list_reverseiterator") (.type "list_reverseiterator")=G2 f_:=by rfl
def boot_reversed:Hi "reversed"=a_ (.type "reversed"):=by rfl
section
variable{Q:Mq}{s:i_}{R:k_}
theorem ux(y:A.handled=g_)(p:s.heap.IsRevIter R l ((items.size:Int)-1))(r:s.heap.IsList l items)(j:l≠R)(x:items.size<=t_)(n:∀h' tk f c,(∀b o,b≠R->s.heap.get? b=a_ o->h'.get? b=a_ o)->h'.get? s.heap.objs.size=a_ {cls:=.type "list",dict:=g_,data:=.seq f c,slots:=#[]}->Oy (λi v=>items[items.size-1-i]?=a_ v) f items.size->Q (.ref s.heap.objs.size) {s with heap:=h',toks:=tk}):
  r_ (x_ P w) A (Jv (.type "list") [.ref R]) Q E s:=by
 have lo:∀{b o},s.heap.get? b=a_ o->s.z≠b:=λe z=>Ii _ (z▸m_ e);have B:=p.elim λ_ t=>lo t.1;have G:=r.elim λ_ t=>lo t.1;refine callType_codes (Q₁:=λu J=>u=.ref s.z/\J={s with heap:=s.heap.push {cls:=.type "list",data:=.seq #[]}}) F.called_list (F.typeCall_list_1 _) F.entry_list_init (code_list_new _ ⟨rfl,rfl⟩) λu J Y=>?_;obtain⟨rfl,rfl⟩:=Y;have g:(s.heap.push {cls:=.type "list",data:=.seq #[]}).get? s.z=a_ {cls:=.type "list",data:=.seq #[]}:=l_ _ rfl;refine⟨⟨_,g,rfl⟩,F.args_list_init_2 _ _,?_⟩
 refine b_ (b_ (GF g rfl (e_ ?_)));refine b_ (Jm g rfl ?_);have e1:=FV (GL λ_=>#[]) g rfl;have h:∀b o,s.heap.get? b=a_ o->((s.heap.push {cls:=.type "list",data:=.seq #[]}).update s.z (GL λ_=>#[])).get? b=a_ o:=λb o e=>(A_ _ _ (lo e)).trans (d_ _ e);have U:=p.at (h R)
 have k:=r.at (h l)
 have ty:J6 {s with heap:=(s.heap.push {cls:=.type "list",data:=.seq #[]}).update s.z (GL λ_=>#[])} (.ref R) "list_reverseiterator":=U.typeIs;have S:IJ (.ref s.z) (.ref R)=c_:=by simpa[IJ] using B
 refine b_ (Jy (b_ (J9 ty ?_)));rw[S];refine b_ (wpAny_pyIter_revIter U (b_ (Gq ?_)));refine b_ (Jn ty BP (b_ (Jn ty lri_hint ?_)));refine b_ (Ha ty lri_self ?_);refine e_ ?_;refine e_ ⟨Hz OO _,O3 (Walks.listRev (A:=A.in1.in1) y R l j items).toS x _ as _ items.size 0 _ _ _ rfl (GD _) ⟨GD _,as,k⟩ e1 (Pr _) λs' d C q m a=>⟨rfl,?_⟩⟩;rw[Pq q];refine n s'.heap s'.toks d C (λb o D e=>q.heap b o (λz=>?_) (h b o e)) m a
 grind
end
theorem rev_vals{J:Array h_}(r:B6 xs its)(h:Oy (λi v=>its.toArray[its.toArray.size-1-i]?=a_ v) J its.toArray.size):B6 xs.reverse J.toList:=by
 have Y:=r.length;have e:J.toList=its.reverse:=by
  refine LL λi=>?_;by_cases hi:i<its.length
  .have c:i<J.size:=by rw[h.1];simpa using hi
   have S:=h.2 i J[i] aj;rw[List.getElem?_reverse hi];simp at S;rw[S];simp[c]
  .rw[Hl (by rw[Ge,h.1];simp_all),Hl as]
 rw[e];clear e h Y
 induction r with
 |nil=>exact .nil|cons a b U=>rw[Jr,Jr];exact U.append (.cons a .nil)
section
variable{W:cP}{a:GI}
theorem de_lrev(m:X.mg "list"=g_)(T:X.mg "reversed"=g_)(ha:DE K W c_ X a fa)(hc: ~~~(X.calm=f_))(n: ~~~(Gl X "list"))(Z: ~~~(Gl X "reversed"))(A: ~~~(j_ [a] X.env=[(c_,FL a X.env)]))(j: ~~~(j_ [.Call (.Name "reversed" p1) [a] [] pos1] X.env=[(c_,FL (.Call (.Name "reversed" p1) [a] [] pos1) X.env)]))(hK: ~~~(X.K=K)):
  DE K W f_ X (.Call (.Name "list" p) [.Call (.Name "reversed" p1) [a] [] pos1] [] pos) (f1 revD fa):=by
 subst hK;intro B2 s σ H Q I h;obtain⟨F,ρ,r,G,J⟩:=h;refine Hv (gH I n m G6 ?_ al al);refine FR ?_ j rfl;have f:r_ (x_ X.prog X.w) X.A (FL (.Call (.Name "reversed" p1) [a] [] pos1) X.env) (λt U=>∃Y H2 l xs vs,t=.ref Y.z/\U={Y with heap:=Y.heap.push (revObj l ((vs.toArray.size:Int)-1))}/\B3 X B2 σ H2 Y/\SqL X.K H2 l xs/\B6 xs vs/\Y.heap.IsList l vs.toArray/\xs.length<=t_/\∀S,H2 S=g_->Q (.ref S) (upd H2 S (.lst xs.reverse))) X.xe s:=by
  refine MU (gH I Z T boot_reversed (FR (B' (aR ha cA A pos1 B2 s σ H (λus H2=>∃l xs,us=[.ref l]/\SqL X.K H2 l xs/\∀S,H2 S=g_->Q (.ref S) (upd H2 S (.lst xs.reverse))) I ?_) λus U ⟨vs,H1,D,N,q1⟩=>?_) A rfl))
  .refine aO r G (λe he=>?_) λd hd v F1 H1 U q1=>?_
   .have z:f1 revD fa ρ=.error e:=by unfold f1;rw[he];rfl
    rw[z]at J;exact J
   .have z:f1 revD fa ρ=revD d:=by unfold f1;rw[hd];rfl
    rw[z]at J;have J:=J.step U;cases d with
    |lst ds=>obtain⟨c,xs,e,t,E⟩:=q1;exact⟨c,xs,by rw[e],U.fh.lst t,λS q=>J _ F1 _ (Step.grow U.fh q) ⟨S,xs.reverse,rfl,aq,U.fh.free q,q,E.reverse⟩⟩
    |_=>exact(W.ns J).elim
  .obtain⟨l,xs,e,k,w⟩:=q1;subst e;obtain⟨u,rfl,L⟩:=N.one;cases(show u=D_ l from L);obtain⟨its,g,pl,i⟩:=D.list k;exact call_reversed_list pl.isList ⟨U,H1,l,xs,its,rfl,rfl,D,k,g,pl.isList,i,w⟩
 refine Jd (B' f λt U R=>?_);obtain⟨Y,H2,l,xs,vs,et,es,C,k,g,B,i,w⟩:=R;refine e_ ?_;subst et es;have lt:l<Y.z:=B.elim λ_ t=>m_ t.1;refine ux (items:=vs.toArray) (I.ok.hd hc) ⟨_,l_ _ rfl,rfl,rfl⟩ (B.at λo e=>d_ _ e) (E_ lt) (by rw[GO,<- g.length];exact i) λh' tk x c O e2 P=>?_;have y:Y.z<(Y.heap.push (revObj l ((vs.toArray.size:Int)-1))).objs.size:=by rw[Gi];exact IY _
 refine⟨.ref _,_,C.laid (t':=tk) (λb o e=>O b o (λz=>?_) (d_ _ e)) (HI y) (show dq _ h' _ (.lst xs.reverse)from⟨as,x.toList,c,rev_vals g P,as⟩),rfl,w _ (C.hok.fresh (HI y))⟩
 have:=m_ e
 simp_all
end
section
open PySem.SetTable
def AS(xs:bb):Prop:=xs.Pairwise (·<·)
theorem AS.get{xs:bb}(h:AS xs){x y:Nat}(J:i<j)(U:xs[i]?=a_ x)(S:xs[j]?=a_ y):x<y:=by obtain⟨h1,e1⟩:=v_.mp U;obtain⟨Y,e2⟩:=v_.mp S;have:=J7.mp h i j h1 Y J;lia
theorem AS.arr{xs:Array Nat}(h:AS xs.toList){x y:Nat}(J:i<j)(U:xs[i]?=a_ x)(S:xs[j]?=a_ y):x<y:=
 h.get J as as
theorem uC{xs:Array Nat}{j:Nat}(h:AS xs.toList):∀(f lo hi:Nat),hi-lo<=f->lo<=hi->hi<=xs.size->(∀i x,i<lo->xs[i]?=a_ x->x<j)->(∀i x,hi<=i->xs[i]?=a_ x->j<=x) ->
  Ml xs j f lo hi<=xs.size/\(∀i x,i<Ml xs j f lo hi->xs[i]?=a_ x->x<j)/\∀i x,Ml xs j f lo hi<=i->xs[i]?=a_ x->j<=x
 |0,lo,hi,h1,k,d,c,b=>by grind[Ml]|f+1,lo,hi,h1,k,d,c,b=>by
  unfold Ml;by_cases J:lo<hi
  .rw[p_ J];dsimp only;have S:(lo+hi)/2<xs.size:=ad
   have g:=GW S;have l:xs.getD ((lo+hi)/2) j=xs[(lo+hi)/2]'S:=by simp[S]
   rw[l];by_cases e:xs[(lo+hi)/2]'S<j
   .rw[p_ e];refine uC h f _ hi ad ad d (λi x a U=>?_) b;by_cases Y:i=(lo+hi)/2
    .simp_all
    .have:=h.arr ad U g;lia
   .rw[q_ e];refine uC h f lo _ ad ad ad c (λi x a U=>?_);by_cases Y:i=(lo+hi)/2
    .simp_all
    .have:=h.arr ad g U;lia
  .rw[q_ J];have:lo=hi:=ad
   subst this;exact⟨d,c,b⟩
theorem nZ{xs:Array Nat}(h:AS xs.toList)(j:Nat):HM xs j<=xs.size/\(∀i x,i<HM xs j->xs[i]?=a_ x->x<j)/\∀i x,HM xs j<=i->xs[i]?=a_ x->j<=x:=
 uC h xs.size 0 xs.size ad ad ad (λi x hi=>by lia) λi x hi J=>by simp_all
theorem no_place{xs:Array Nat}(h:AS xs.toList)(b:xs[HM xs j]?≠a_ j):j∉xs.toList:=λS=>by
 obtain⟨i,hi,e⟩:=Lh S;obtain⟨h1,d,Y⟩:=nZ h j;have J:xs[i]?=a_ j:=by rw[<- HR,y_ hi,e]
 have U:HM xs j<=i:=by
  rcases Nat.lt_or_ge i _ with z|z
  .grind
  .exact z
 by_cases c:HM xs j=i
 .simp_all
 .have a:=(IQ.mp J).1;have eb:xs[HM xs j]?=a_ (xs[HM xs j]' ac):=GW ad;have f:=Y _ _ (o_ _) eb;have g2:=h.arr ad eb J;lia
def yw{xs:Array Nat}{p x:Nat}:(insertAt xs p x).toList=xs.toList.take p++x::xs.toList.drop p:=by simp[insertAt,Iu]
theorem yv{xs:Array Nat}(h:AS xs.toList)(Y:j∉xs.toList):AS (insertAt xs (HM xs j) j).toList:=by
 obtain⟨h1,U,c⟩:=nZ h j;rw[yw];refine Ie.mpr ⟨h.sublist (OG _ _),Hm.mpr ⟨λa J=>?_,h.sublist (List.drop_sublist _ _)⟩,λa J b S=>?_⟩
 .obtain⟨i,e⟩:=KS.mp J
  grind
 .have d:a<j:=by
   obtain⟨i,e⟩:=KS.mp J;rw[List.getElem?_take]at e;by_cases hi:i<HM xs j
   .rw[p_ hi]at e;exact U i a hi (by simpa using e)
   .simp_all
  rcases n_.mp S with z|z
  .lia
  .obtain⟨i,e⟩:=KS.mp z
   grind
def TOk(b:Bool)(t:IM):Prop:=AS t.place.toList/\t.led=b
theorem slot_no{t:IM}(h:t.place[HM t.place j]?=a_ j):∃i,t.slot j=.live i:=by simp_all[SetTable.slot]
theorem lW{t:IM}{g:Nat->Int}{h:Int}:∀(f:Nat) (p:Probe) (j:Nat) (d:Option Nat),(∀x,p.dummy=a_ x->t.slot x=.dummy)->O9 t g h f p=a_ (.empty j d)->t.slot j=.empty/\∀x,d=a_ x->t.slot x=.dummy
 |0,p,j,d,S,e=>by simp_all[O9]|f+1,p,j,d,S,e=>by
  unfold O9 at e;have Y:∀q,(t.advance q).dummy=q.dummy:=λq=>by
   unfold SetTable.advance;split
   .rfl
   .rfl
  cases J:t.slot p.j with
  |empty=>simp_all|dummy=>
   rw[J]at e;refine lW f _ j d (λx U=>?_) e
   simp_all
  |live i=>
   rw[J]at e;dsimp only at e;split at e
   .cases e
   .exact lW f _ j d (λx U=>S x as) e
theorem free_no{t:IM}(U:AS t.place.toList){h:Int}{S:Bool}(e:t.freeSlot h=a_ (j,S)):j∉t.place.toList:=by
 unfold SetTable.freeSlot at e;have key:∃J d,t.probe (λ_=>h+1) h (t.probeStart h)=a_ (.empty J d)/\j=d.getD J:=by
  cases Y:t.probe (λ_=>h+1) h _ with
  |none=>simp_all|some m=>
   rw[Y]at e;cases m with
   |empty J d=>simp at e;exact⟨J,d,rfl,e.1.symm⟩|candidate _ _ _=>cases e
 obtain⟨J,d,a,rfl⟩:=key;obtain⟨h1,c⟩:=lW _ _ _ _ (λx b=>by simp_all[SetTable.probeStart]) a;refine no_place U λz=>?_;obtain⟨i,f⟩:=slot_no z;cases d with
 |none=>simp_all|some x=>simp_all
def jI{b:Bool}{t:IM}(h:TOk b t):TOk b (t.standIn n):=by
 refine⟨?_,h.2⟩
 show AS (Array.range n).toList;rw[Array.toList_range];exact Nh
def E8{b:Bool}{t:IM}(h:TOk b t)(es:Array (Int×h_))(g:Int)(x:h_):TOk b (layNew t es g x).2.1:=by
 unfold layNew;cases e:t.freeSlot g with
 |none=>exact jI h|some p=>
  obtain⟨j,S⟩:=p;have J:TOk b (t.put j).1:=⟨yv h.1 (free_no h.1 e),h.2⟩
  dsimp only;unfold SetTable.orStandIn;split
  .exact J
  .exact jI J
theorem tK(g:Nat->Option Nat):∀l:bb,((l.filterMap λj=>(g j).map (j,·)).map (·.1)).Sublist l
 |[]=>by simp|j::l=>by
  cases e:g j with
  |none=>simp[Lj,e];exact(tK g l).trans (List.sublist_cons_self _ _)|some k=>simp only[Lj,e,];exact(tK g l).cons_cons _
def Dd{b:Bool}{t t':IM}(h:TOk b t){J:Array Int}{o:Array Nat}(e:t.relaid J n=a_ (t',o)):TOk b t':=by
 unfold SetTable.relaid SetTable.laid at e;cases S:layClean _ J with
 |none=>rw[S]at e;cases e|some U=>
  rw[S]at e;obtain⟨rfl,_⟩:=e;refine⟨?_,h.2⟩
  exact Nh.sublist (tK (λj=>U.getD j g_) _)
def xS{b:Bool}{t:IM}(h:TOk b t)(es:Array (Int×h_))(n:Nat):TOk b (Mc t es n).2.1:=by
 unfold Mc;cases e:t.relaid _ n with
 |none=>exact jI h|some p=>
  dsimp only;split
  .exact Dd h e
  .exact jI h
end
section
open PySem
variable{s:i_}
noncomputable def tN:h_->Int
 |.int k _=>k|_=>0
def uO(prog:Gf)(w:GS)(b:Bool)(h:FX)(a:k_)(ks:aG):Prop:=
 ∃o es ep t,h.get? a=a_ o/\o.ExactSet/\o.data=.set es ep t/\Oz (HF prog w) es.toList/\(es.toList.map λe=>tN e.2).Perm ks/\ks.Nodup/\es.size<Jz/\t.fits es.size=f_/\TOk b t
def uO.at{b:Bool}(H:uO prog w b h a ks)(e:∀o,h.get? a=a_ o->h'.get? a=a_ o):uO prog w b h' a ks:=
 let ⟨o,es,ep,t,J,r⟩:=H;⟨o,es,ep,t,e _ J,r⟩
def uO.ty{b:Bool}(H:uO prog w b s.heap a ks):s.TypeIs (.ref a) "set":=let ⟨o,_,_,_,S,J,_⟩:=H;⟨o,S,J.1⟩
def key_is{k:Int}(h:(HF prog w).is k v=f_):∃t,v=.int k t:=Value.isInt_shape h
theorem is_key{k:Int}(h:∃j,(HF prog w).is j v=f_):(HF prog w).is k v=s_ (k=tN v):=by
 obtain⟨j,h⟩:=h;obtain⟨t,rfl⟩:=key_is h;show KZ k (.int j t)=_
 grind[KZ,tN]
noncomputable def AN(ks:aG)(k:Int):aG:=if k∈ks then ks else ks++[k]
theorem mD{k:Int}(h:ks.Nodup):(AN ks k).Nodup:=by grind[AN]
def rC{b:Bool}{o:JM}{es fs:Array (Int×h_)}{t u:IM}(Y:h.get? a=a_ o)(J:o.ExactSet)(hd:o.data=.set es ep t)(f:Oz (HF prog w) fs.toList)(U:(fs.toList.map λe=>tN e.2).Perm ks)(c:ks.Nodup)(i:fs.size<Jz)(d:u.fits fs.size=f_)(S:TOk b u):
  (h.update a (MH fs u)).get? a=a_ {o with data:=.set fs (ep+1) u}/\uO prog w b (h.update a (MH fs u)) a ks:=by
 have g:=by have:=FV (MH fs u) Y (by rw[putSet_of fs u hd];rfl);rw[putSet_of fs u hd]at this;exact this
 exact⟨g,_,fs,ep+1,u,g,J,rfl,f,U,c,i,d,S⟩
theorem vZ{b:Bool}{g:Bool->OM Unit}(q:∀(c:Bool) (J:i_) (n:Unit->i_->Prop),n () J->r_ (x_ prog w) A (g c) n E J){o:JM}{es fs:Array (Int×h_)}{t u:IM}(i:s.heap.get? a=a_ o)(Y:o.ExactSet)(hd:o.data=.set es ep t)(k:Oz (HF prog w) fs.toList)(f:(fs.toList.map λe=>tN e.2).Perm ks)(j:ks.Nodup)(l:fs.size<Jz)(r:u.fits fs.size=f_)(d:TOk b u){p:Bool}{R:Option Bool->i_->Prop}(h:∀h',Hd a s.heap h'->uO prog w b h' a ks->R (a_ f_) {s with heap:=h'}):
  r_ (x_ prog w) A (do
    storeSet a fs u
    if (!p&&u.tooFull)=f_ then do
      g (Mc u fs (Jf fs.size)).2.2
      storeSet a (Mc u fs (Jf fs.size)).1 (Mc u fs (Jf fs.size)).2.1
      G2 (a_ f_)
     else G2 (a_ f_)) R E s:=by
 refine b_ (PU i hd ?_ (P5 l));obtain⟨m,y⟩:=rC i Y hd k f j l r d;have b1:=Gb s.heap a (MH fs u);split
 .have p2:=relayAll_perm u fs (Jf fs.size);have U:=relayAll_fits u fs (Jf fs.size);have S:=xS d fs (Jf fs.size);generalize Mc u fs _=Z at p2 U S ⊢;obtain⟨gs,v,B⟩:=Z;dsimp only at p2 U S ⊢;have z:gs.size=fs.size:=by rw[<- Ge,p2.length_eq,Ge]
  refine b_ (q _ _ _ (b_ (PU m rfl ?_ (P5 ad))));obtain⟨_,x⟩:=rC m Y rfl (k.perm p2) ((p2.map _).trans f) j ad U S;exact e_ (h _ (b1.trans (Gb _ a _)) x)
 .exact e_ (h _ b1 y)
theorem iset_add{b:Bool}{k:Int}{Q:Bool->i_->Prop}(H:uO prog w b s.heap a ks)(O:ks.length+1<Jz)(h:∀r h',Hd a s.heap h'->uO prog w b h' a (AN ks k)->Q r {s with heap:=h'}):r_ (x_ prog w) A (setAddHashed a (.int k tk) ((HF prog w).hash k)) Q E s:=by
 obtain⟨o,es,ep,t,U,i,hd,Y,l,n,F,q,B⟩:=H;have S:(HF prog w).is k (.int k tk)=f_:=by show KZ k (.int k tk)=f_;simp[KZ]
 have hsz:es.size=ks.length:=by have:=l.length_eq;simpa using this
 have p:∀e∈es.toList,(HF prog w).is k e.2=s_ (k=tN e.2):=λe m=>is_key (Y.keys e m);refine Gq (b_ (IU U hd q ?_));dsimp only;rw[byScan_of rfl F Y];refine b_ (b_ (II (b_ (wpAny_setScan_of S U hd q Y ?_))));cases I:List.findIdx? (λe=>(HF prog w).is k e.2) es.toList with
 |some j=>
  obtain⟨D,y,_⟩:=List.findIdx?_eq_some_iff_getElem.mp I;have C:k∈ks:=by rw[p _ (Gm D),Jj]at y;refine l.mem_iff.mp (FG.mpr ⟨_,Gm D,y.symm⟩)
  refine e_ (e_ ?_);exact h _ s.heap (Heap.SameBut.refl a s.heap) ⟨o,es,ep,t,U,i,hd,Y,by simp_all[AN,p_],mD n,F,q,B⟩
 |none=>
  have C:k∉ks:=λm=>by grind
  have K:∀(c:Bool) {J:i_} {d:Unit->i_->Prop},d () J->r_ (x_ prog w) A (match c with|true=>rule "set.scan.the-table-gave-way"|false=>G2 ()) d E J:=λc J d z=>by cases c<;>first|exact e_ z|exact II z
  have p1:=layNew_perm t es ((HF prog w).hash k) (.int k tk);have f1:=layNew_fits t es ((HF prog w).hash k) (.int k tk);have f:=E8 B es ((HF prog w).hash k) (.int k tk);generalize layNew t es ((HF prog w).hash k) (.int k tk)=L at p1 f1 f ⊢;obtain⟨fs,u,N,G⟩:=L;rw[LA]at p1;have e1:Oz (HF prog w) fs.toList:=(Y.push S rfl).perm p1;have q1:(fs.toList.map λe=>tN e.2).Perm (AN ks k):=by unfold AN;rw[q_ C];refine(p1.map _).trans ?_;rw[JO];exact l.append (HD _)
  have x:fs.size<Jz:=by rw[<- Ge,p1.length_eq,Gs,Ge];simp;lia
  refine b_ (K _ ?_);split
  .refine b_ ?_;refine e_ (vZ (b:=b) ?_ U i hd e1 q1 (mD n) x ?_ ?_ ?_)
   .intro c J d z;cases c<;>first|exact e_ z|exact II z
   .split
    .exact f1
    .exact SetTable.fits_plain_off f1
   .split
    .exact f
    .exact f
   .intro h' g v;exact e_ (h _ h' g v)
  .refine b_ (e_ ?_);simp only[↓reduceIte];refine vZ (b:=b) ?_ U i hd e1 q1 (mD n) x f1 f ?_
   .intro c J d z;cases c<;>first|exact e_ z|exact II z
   .intro h' g v;exact e_ (h _ h' g v)
end
def keysOf(J:aG):aG:=J.foldl AN []
theorem nR:∀(J ks:aG),(J.foldl AN ks).length<=ks.length+J.length
 |[],ks=>by simp|i::J,ks=>by
  have:=nR J (AN ks i)
  grind[AN,FK]
def Ef(J:Nat->Int)(i:Nat):keysOf ((A1 (i+1)).map J)=AN (keysOf ((A1 i).map J)) (J i):=by simp[keysOf,L5,]
section
open PySem
variable{G:Array Nx->Array Nx->Prop}{P:Nat->h_->Prop}{St:Nat->i_->Prop}{b:Bool}
theorem El(W:WalksS prog w A.in1 I fp wr G n P St)(S:k_)(j:S∉fp)(J:Nat->Int)(d:∀i v,P i v->∃t,v=.int (J i) t)(H:n+1<Jz):
  ∀(k i:Nat) (s:i_),n-i=k->i<=n->St i s->uO prog w b s.heap S (keysOf ((A1 i).map J)) ->
   (∀s',Moved (S::wr) G s s'->uO prog w b s'.heap S (keysOf ((A1 n).map J))->R (.ok (.ret .none)) s')->Jc (x_ prog w) A (.builtin "set.update.loop" ⟨[.ref S,.ref I],[]⟩) R s:=by
 have a:S∉wr:=λh=>j (W.sub _ h);have U:∀c∈wr,c∈S::wr:=λc g=>Hu _ g;intro k
 induction k with
 |zero=>
  intro i s D hi st q Y;obtain rfl:i=n:=ad
  refine GK Kf ?_;refine b_ (W.done s _ _ st λs' f=>e_ (Y s' (f.mono U) (q.at λo e=>f.heap S _ a e)))
 |succ k B=>
  intro i s D hi st q Y;refine GK Kf ?_;refine b_ (W.item i s _ _ ad st λv s' E l f=>?_);obtain⟨t,rfl⟩:=d i v E;have p:=q.at λo e=>f.heap S _ a e;refine b_ (Gq ?_);refine Gq (b_ ((HF prog w).pyHash (k:=J i) (Nn _ _ _ _) ?_));have C:=nR ((A1 i).map J) [];refine iset_add (s:={s' with toks:=s'.toks+1}) p (by unfold keysOf;simp at C ⊢;lia) λr h' u x=>?_;rw[<- Ef]at x;refine e_ ⟨Hz Qf _,B (i+1) _ ad ad (W.frame _ s' _ _ l (Jk _) λc g o e=>?_) x λy m F=>?_⟩
  .rw[u.2 c (λz:c=S=>j (z▸g))];exact e
  .refine Y y (Moved.trans W.gtrans ((f.mono U).then_heap (Jk _) λc o g e=>?_) m) F;rw[u.2 c (λz:c=S=>g as)];exact e
end
section
open PySem
variable{s:i_}
noncomputable abbrev m5(w:GS):Bool:= !w.params.followText "set-order"
theorem new_iset(v:h_){Q₁:Mq}(h:Q₁ (.ref s.heap.objs.size) {s with heap:=s.heap.push {cls:=.type "set",dict:=g_,data:=.set #[] 0 (.fresh 0 0 (m5 w))}}):
  Jc (x_ prog w) A (.call (.builtin "set.__new__") ⟨[.type "set",v],[]⟩) (wants Q₁ E) s:=by
 refine M1 ?_;refine b_ (Ij (F.newCall_set_1 v) (e_ ⟨Hz F.plain_set_new _,GK F.entry_set_new ?_⟩));unfold Builtin.«set.__new__» Pc;have q:=sub_set_self
 wp_walk
 refine Jb (e_ ?_);exact b_ (wpAny_alloc (e_ (e_ h)))
theorem Fj{Q:Mq}(Z:A.handled=g_)(X:s.heap.IsList l items)(hi:Ih items.toList ns)(hb:items.size+1<Jz)(h:∀(h':FX) (tk:Nat),uO prog w (m5 w) h' s.heap.objs.size (keysOf ns)->(∀c o,c<s.heap.objs.size->s.heap.get? c=a_ o->h'.get? c=a_ o)->Q (.ref s.heap.objs.size) {s with heap:=h',toks:=tk}):
  r_ (x_ prog w) A (Jv (.type "set") [.ref l]) Q E s:=by
 have I:=JC.made;have sub:=JC.sub;refine K7 (M1 ?_);show r_ (x_ prog w) A.in1 (callAny (.type "set") _) _ _ _;refine e_ ⟨Ln _ dkK,GK (F.entry_type_call) ?_⟩;rw[Around.under_plain (weight_type_call_type "set" [.ref l] []) rfl];have g1:=JC.notType;have g2:=JC.canCreate;have g3:=F.typeCall_set_1 (.ref l)
 repeat (any_goals (first|assumption|wp_step))
 generalize G:({cls:=.type "set",dict:=g_,data:=.set #[] 0 (.fresh 0 0 (m5 w))}:JM)=Y at *;refine HA (new_iset (.ref l) (E:=E) (Q₁:=λu U=>u=.ref s.z/\U={s with heap:=s.heap.push Y}) as) λr U C=>?_;cases r with
 |error e=>exact C|ok fl=>
  cases fl with
  |ret u=>
   obtain⟨rfl,rfl⟩:=C;have L:Y.cls=.type "set":=by rw[<- G]
   have hf:Y.isFreed=c_:=by rw[<- G];rfl
   have N:(s.heap.push Y).get? s.z=a_ Y:=l_ _ hf;have hT:J6 {s with heap:=s.heap.push Y} (.ref s.z) "set":=⟨_,N,L⟩
   have li:=JC.init.lookup;have bi:=JC.init.bind (.ref s.z)
   repeat (any_goals (first|assumption|wp_step))
   refine HA (Ly (R:=wants (λr S=>r=.none/\∃h' tk,S={s with heap:=h',toks:=tk}/\uO prog w (m5 w) h' s.z (keysOf ns)/\(∀c o,c<s.z->s.heap.get? c=a_ o->h'.get? c=a_ o)) E) JC.init.plain F.entry_set_init (check_set_init_1 hT ?_)) λd S J=>?_
   .obtain⟨O,g,n,H,k⟩:=X;obtain⟨k1,k2,k3,T⟩:=O;simp only at n k;subst n;subst k;have f:(s.heap.push Y).get? l=a_ {cls:=.type "list",dict:=k2,data:=.seq items H,slots:=T}:=d_ _ g;have z1:=F.sub_list_set;have z2:=F.sub_list_frozenset;have z3:(HL "list"==HL "dict")=c_:=by decide
    have j:(s.heap.push Y).IsList l items:=⟨_,f,rfl,H,rfl⟩
    subst G;unfold Builtin.«set.__init__» noKeywords O_;generalize D:MD=PI;wp_walk;subst D;refine KD (j) ?_;refine b_ (m:=runValue _) (Lr ?_);have K:l<s.z:=m_ g;have P:l≠(s.heap.push {cls:=.type "set",dict:=g_,data:=.set #[] 0 (.fresh 0 0 (m5 w))}).objs.size:=by rw[Gi];exact E_ (Jx K)
    have B:s.z∉[(s.heap.push {cls:=.type "set",dict:=g_,data:=.set #[] 0 (.fresh 0 0 (m5 w))}).objs.size,l]:=by rw[Gi];simp only[n_,HJ,MB,not_or];exact⟨E_ (IY _),GP K⟩
    have hv:∀(i:Nat) (v:h_),items[i]?=a_ v->∃t,v=.int ((λi=>ns.getD i 0) i) t:=λi v q=>LW hi i v as;have en:(A1 items.size).map (λi=>ns.getD i 0)=ns:=by
     have W:items.size=ns.length:=by have:=Oj hi;simpa using this
     rw[W];apply OV
     .simp
     .intro i h3 h4;simp[h4]
    refine El (b:=m5 w) ((Mh (by simp[Z]) _ l P items).toS) s.z B (λi=>ns.getD i 0) hv hb (items.size-0) 0 _ ad (GD _) ⟨⟨_,l_ _ rfl,rfl,rfl⟩,j.push _⟩ ⟨_,#[],0,.fresh 0 0 (m5 w),d_ _ N,⟨rfl,rfl,rfl⟩,rfl,λe he=>by simp_all,HD _,IZ,al,rfl,IZ,rfl⟩ λs' p x=>?_;rw[en]at x;obtain⟨h',g',d',y,z⟩:=s';obtain rfl:g'=s.gens:=p.gens;obtain rfl:d'=s.drawn:=p.drawn;obtain rfl:z=s.os:=p.os;refine e_ (e_ ⟨rfl,h',y,rfl,x,λc o L e=>p.heap c o ?_ (d_ _ (d_ _ e))⟩);rw[Gi]
    grind
   .cases d with
    |error e=>exact J|ok a=>
     cases a with
     |ret r=>
      obtain⟨rfl,h',tk,rfl,x,k'⟩:=J
      repeat (any_goals (first|assumption|wp_step))
      exact h _ _ x k'
     |_=>exact J.elim
  |_=>exact C.elim
end
section
open PySem
def zT:Manifest.owners.lookup (String.ofList ['r','o','t','a','r','e','t','i','_','t','e','s'].reverse)=a_ Manifest.sig_set_iterator:=by kernel_rfl
def aZ:Slot "set_iterator" "__next__" "set_iterator.__next__":=.of (by rfl) (by rfl) (by rfl) (by rfl) (by first|exact .inl (by rfl)) (by rfl)
def mL:Slot "set_iterator" "__iter__" "set_iterator.__iter__":=.of (by rfl) (by rfl) (by rfl) (by rfl) (by first|exact .inl (by rfl)) (by rfl)
def gq:entryFor table "set_iterator.__next__"=a_ Builtin.«set_iterator.__next__»:=entryFor_of_tree (by rfl)
def tZ:entryFor table "set_iterator.__iter__"=a_ Builtin.«dict_keyiterator.__iter__»:=entryFor_alias (id':="dict_keyiterator.__iter__") (by kernel_rfl) (by rfl) dkK (by kernel_rfl)
def wx:entryFor table "set.__iter__"=a_ Builtin.«frozenset.__iter__»:=entryFor_alias (id':="frozenset.__iter__") (by kernel_rfl) rfl dkK (by kernel_rfl)
def i3(v:h_):argsOk "set_iterator.__next__" ⟨[v],[]⟩:=by unfold argsOk;rw[signature?_of (by rfl) zT];rfl
def xp(v:h_):argsOk "set_iterator.__iter__" ⟨[v],[]⟩:=by unfold argsOk;rw[signature?_of (by rfl) zT];rfl
noncomputable abbrev kQ(first:h_)(i:Nat)(a:k_)(n ep:Nat):JM:={cls:=.type "set_iterator",data:=.fields #[first,Hg i,.ref a,Hg n,Hg ep]}
def nL(h:FX)(a:k_)(es:Array (Int×h_))(ep:Nat)(t:IM):Prop:=∃o,h.get? a=a_ o/\o.data=.set es ep t
def vf{vs:Array h_}(e:h.get? I=a_ {cls:=.type "set_iterator",data:=.fields vs})(k:Nat)(v:h_):(h.update I (Ht (·.setIfInBounds k v))).get? I=a_ {cls:=.type "set_iterator",data:=.fields (vs.setIfInBounds k v)}:=by have:=FV (Ht (·.setIfInBounds k v)) e rfl;exact this
section
variable{s:i_}{es:Array (Int×h_)}{t:IM}
def si_step(e:s.heap.get? I=a_ (kQ first i a n ep))(v:h_):((s.heap.update I (Ht (·.setIfInBounds 0 v))).update I (Ht (·.setIfInBounds 1 (Hg k)))).get? I=a_ (kQ v k a n ep):=by have e2:=vf (vf e 0 v) 1 (Hg k);exact e2
def si_step1(e:s.heap.get? I=a_ (kQ first i a n ep)):(s.heap.update I (Ht (·.setIfInBounds 1 (Hg k)))).get? I=a_ (kQ first k a n ep):=vf e 1 _
def D3{x:h_}{nx:Nat}(e:s.heap.get? I=a_ (kQ (Hg sl) i a es.size ep))(Y:nL s.heap a es ep t)(U:t.fits es.size=f_)(b:∀{d:G8} {c:Mq} {J:Option (h_×Nat)->i_->Prop},J (a_ (x,nx)) s->r_ (x_ prog w) d (P1 a sl i ep) J c s)(h:∀h',h'.get? I=a_ (kQ (Hg nx) (i+1) a es.size ep)->Hd I s.heap h'->Q (a_ x) {s with heap:=h'}):r_ (x_ prog w) A (Km (.ref I)) Q E s:=by
 obtain⟨o,S,hd⟩:=Y;have ty:s.TypeIs (.ref I) "set_iterator":=⟨_,e,rfl⟩
 refine b_ (Hy (F_ ty aZ (FO aZ ty gq ?_ (i3 _))));refine b_ (Ij rfl (b_ (Iz e rfl ?_)));refine b_ (Jg S hd U ?_);rw[q_ aj];refine b_ (b ?_);refine b_ (Gz e rfl aj (b_ (Gz (vf e 0 _) rfl aj (e_ ⟨x,rfl,e_ (h _ (si_step e _) ?_)⟩))));exact(Gb ..).trans (Gb ..)
def oi(U:A.handled=g_)(e:s.heap.get? I=a_ (kQ (Hg sl) i a es.size ep))(b:nL s.heap a es ep t)(Y:t.fits es.size=f_)(c:∀{f:G8} {d:Mq} {J:Option (h_×Nat)->i_->Prop},J g_ s->r_ (x_ prog w) f (P1 a sl i ep) J d s)(h:∀h',GJ I s.heap h'->Q g_ {s with heap:=h'}):r_ (x_ prog w) A (Km (.ref I)) Q E s:=by
 obtain⟨o,S,hd⟩:=b;have ty:s.TypeIs (.ref I) "set_iterator":=⟨_,e,rfl⟩
 refine b_ (Hy (F_ ty aZ (FO aZ ty gq ?_ (i3 _))));refine b_ (Ij rfl (b_ (Iz e rfl ?_)));refine b_ (Jg S hd Y ?_);rw[q_ aj];refine b_ (c ?_);refine b_ (Gz e rfl aj (b_ ?_));refine b_ (m:=Np _ _) (Ij (by rfl) ?_);refine FP ?_ (by size_fits);refine b_ (KJ ?_);rw[show A.in1.handled=g_ from U];refine b_ (e_ (Lq ?_));refine b_ (Ha ⟨_,l_ _ rfl,rfl⟩ Kn (e_ (h _ ?_)));exact(((Gb ..).extBut).push _).push _
end
end
section
open PySem
variable{s:i_}{T:k_}{es:Array (Int×h_)}{t:IM}
def si_drawn{ps:Array h_}{p:Nat}{k:Int}{x:h_}(e:s.heap.get? I=a_ (kQ (.ref T) i a es.size ep))(d:nL s.heap a es ep t)(U:t.fits es.size=f_)(c:s.heap.get? T=a_ {cls:=.type "tuple",data:=.seq ps m})(b:ps[i]?=a_ (.int p tk))(Y:es[p]?=a_ (k,x))(h:∀h',h'.get? I=a_ (kQ (.ref T) (i+1) a es.size ep)->Hd I s.heap h'->Q (a_ x) {s with heap:=h'}):r_ (x_ prog w) A (Km (.ref I)) Q E s:=by
 obtain⟨o,S,hd⟩:=d;have ty:s.TypeIs (.ref I) "set_iterator":=⟨_,e,rfl⟩
 refine b_ (Hy (F_ ty aZ (FO aZ ty gq ?_ (i3 _))));refine b_ (Ij rfl (b_ (Iz e rfl ?_)));refine b_ (Jg S hd U ?_);rw[q_ aj];refine b_ (GF c rfl ?_);show r_ _ _ (match ps[(i:Int).toNat]? with|some (.int J _)=>_|some _=>_|none=>_) _ _ _;rw[Hh,b];refine b_ ?_;rw[Hh];refine b_ (IU S hd U ?_);dsimp only;rw[q_ aj,Y];refine e_ (b_ (Gz e rfl aj (e_ ⟨x,rfl,e_ (h _ (si_step1 e) (Gb ..))⟩)))
def vg{ps:Array h_}(Y:A.handled=g_)(e:s.heap.get? I=a_ (kQ (.ref T) i a es.size ep))(d:nL s.heap a es ep t)(b:t.fits es.size=f_)(c:s.heap.get? T=a_ {cls:=.type "tuple",data:=.seq ps m})(S:ps[i]?=g_)(h:∀h',GJ I s.heap h'->Q g_ {s with heap:=h'}):r_ (x_ prog w) A (Km (.ref I)) Q E s:=by
 obtain⟨o,U,hd⟩:=d;have ty:s.TypeIs (.ref I) "set_iterator":=⟨_,e,rfl⟩
 refine b_ (Hy (F_ ty aZ (FO aZ ty gq ?_ (i3 _))));refine b_ (Ij rfl (b_ (Iz e rfl ?_)));refine b_ (Jg U hd b ?_);rw[q_ aj];refine b_ (GF c rfl ?_);show r_ _ _ (match ps[(i:Int).toNat]? with|some (.int J _)=>_|some _=>_|none=>_) _ _ _;rw[Hh,S];refine b_ (Gz e rfl aj (b_ (Gz (vf e 0 _) rfl aj (b_ ?_))));refine b_ (m:=Np _ _) (Ij (by rfl) ?_);refine FP ?_ (by size_fits);refine b_ (KJ ?_);rw[show A.in1.handled=g_ from Y];refine b_ (e_ (Lq ?_));refine b_ (Ha ⟨_,l_ _ rfl,rfl⟩ Kn (e_ (h _ ?_)));exact((((Gb ..).trans (Gb ..)).extBut).push _).push _
def xC{Q:Mq}(e:s.heap.get? I=a_ (kQ first i a n ep))(h:Q (.ref I) s):r_ (x_ prog w) A (MD (.ref I)) Q E s:=by
 have ty:s.TypeIs (.ref I) "set_iterator":=⟨_,e,rfl⟩
 refine KC ty mL (FO mL ty tZ ?_ (xp _));exact e_ ⟨.ref I,rfl,"set_iterator",_,ty,aZ.lookup,h⟩
def nL.at(H:nL h a es ep t)(e:∀o,h.get? a=a_ o->h'.get? a=a_ o):nL h' a es ep t:=let ⟨o,J,hd⟩:=H;⟨o,e _ J,hd⟩
theorem vF{α:Type}(f:Nat->Nat):∀(m k:Nat) (J:List α) (S:Array α),J.length=m->(Md f m k J S).toList.Perm (S.toList++J)
 |0,k,J,S,h=>by simp_all[Md,]|m+1,k,J,S,h=>by
  unfold Md;have U:f k%J.length<J.length:=Nat.mod_lt _ ad;rw[y_ U];refine(vF f m _ _ _ (by simp_all[NO])).trans ?_;rw[LA,Hf];refine List.Perm.append (HD _) ?_;have key:∀{β:Type} {l:List β} {i:Nat} (h:i<l.length),(l[i]::l.eraseIdx i).Perm l:=by
   intro β l
   induction l with
   |nil=>simp|cons x xs Y=>
    intro i h;cases i with
    |zero=>simp|succ i=>exact(LR _ _ _).trans ((Y as).cons _)
  exact key U
def vO{Q:Option (h_×Nat)->i_->Prop}(U:w.params.followText "set-order"=f_)(Y:nL s.heap a es ep t)(S:t.fits es.size=f_)(h:Q (((LC (w.params.setOrder a ep) es)[i]?).map λe=>(e.2,sl)) s):r_ (x_ prog w) A (P1 a sl i ep) Q E s:=by obtain⟨o,J,hd⟩:=Y;refine b_ (IU J hd S (b_ (b_ (Jb (e_ ?_)))));rw[p_ (show(x_ prog w).w.params.followText "set-order"=f_ from U),q_ aj];refine b_ (b_ (IU J hd S (b_ (b_ (Jb (e_ ?_))))));rw[p_ (show(x_ prog w).w.params.followText "set-order"=f_ from U)];exact b_ (Jb (e_ (e_ h)))
def vP{Q:Option (h_×Nat)->i_->Prop}(b:w.params.followText "set-order"=c_)(S:(!t.plain&&s_ (es.size>1))=c_)(J:t.led=f_)(c:nL s.heap a es ep t)(Y:t.fits es.size=f_)(h:Q (match es[HM t.place sl]?,t.place[HM t.place sl]? with|some (_,x),a_ j=>a_ (x,j+1)|_,_=>g_) s):r_ (x_ prog w) A (P1 a sl i ep) Q E s:=by
 obtain⟨o,U,hd⟩:=c;refine b_ (IU U hd Y (b_ (b_ (Jb (e_ ?_)))));rw[q_ (show ¬(x_ prog w).w.params.followText "set-order"=f_ from by rw[show(x_ prog w).w.params.followText "set-order"=c_ from b];simp)];refine(?_:r_ _ A (if (!t.plain&&s_ (es.size>1))=f_ then _ else _) Q E s)
 rw[S];refine b_ (m:=if (!t.led&& !es.isEmpty)=f_ then unsupported "set:maker-not-led" else G2 ()) ?_;rw[J,MX,Px];exact e_ (e_ h)
end
section
open PySem
variable{s:i_}{T:k_}{es:Array (Int×h_)}{t:IM}
theorem CF(j:A.handled=g_)(J:w.params.followText "set-order"=f_)(U:t.fits es.size=f_)(Y:a≠I)(d:(LC (w.params.setOrder a ep) es).toList=ord)(g:ord.length=es.size):
  Nq prog w A I [I,a] [I] es.size (λi v=>(ord[i]?).map (·.2)=a_ v) (λi h=>nL h a es ep t/\h.get? I=a_ (kQ (Hg 0) i a es.size ep)) where
 sub:=λb J=>by simp_all
 frame:=λ_ _ _ x k=>⟨x.1.at λo e=>k a aj o e,k I aj _ x.2⟩
 item:=λi s Q E hi x S=>by
  obtain⟨v,ev⟩:∃v,ord[i]?=a_ v:=⟨_,y_ ad⟩
  have f:(LC (w.params.setOrder a ep) es)[i]?=a_ v:=by rw[<- HR,d];exact ev
  refine D3 (x:=v.2) (nx:=0) x.2 x.1 U (λ{r p n} q=>vO J x.1 U as) λh' m c=>?_;exact S v.2 h' s.toks (by rw[ev];rfl) ⟨x.1.at λo e=>(c.2 a Y).trans e,m⟩ λb o J e=>c.extBut b o (λz=>J (by simp[z])) e
 done:=λs Q E x S=>by
  have f:(LC (w.params.setOrder a ep) es)[es.size]?=g_:=by rw[<- HR,d];exact Hl ad
  exact oi j x.2 x.1 U (λ{r p n} q=>vO J x.1 U (by rw[f];exact q)) λh' e=>S h' s.toks λb o J l=>e b o (λz=>J (by simp[z])) l
 self:=λ_ _ _ _ x S=>xC x.2 S
theorem Cm{xs:Array Nat}(h:AS xs.toList):HM xs 0=0:=by
 obtain⟨h1,J,_⟩:=nZ h 0;rcases Nat.eq_zero_or_pos _ with z|z
 .exact z
 .have:=J 0 (xs[0]' ac) z (GW ad);lia
theorem Cn{xs:Array Nat}(h:AS xs.toList)(e:xs[i]?=a_ j):HM xs (j+1)=i+1:=by
 obtain⟨h1,J,S⟩:=nZ h (j+1);rcases LO (HM xs (j+1)) (i+1)with z|z|z
 .grind
 .exact z
 .have e2:xs[i+1]?=a_ (xs[i+1]' ac):=GW ad;have U:=J _ _ z e2;have g2:=h.arr ad e e2;lia
theorem CG(n:A.handled=g_)(J:w.params.followText "set-order"=c_)(d:(!t.plain&&s_ (es.size>1))=c_)(g:TOk f_ t)(U:t.fits es.size=f_)(j:a≠I):
  Nq prog w A I [I,a] [I] es.size (λi v=>(es.toList[i]?).map (·.2)=a_ v) (λi h=>nL h a es ep t/\∃sl:Nat,h.get? I=a_ (kQ (Hg sl) i a es.size ep)/\HM t.place sl=i) where
 sub:=λb J=>by simp_all
 frame:=λ_ _ _ x k=>⟨x.1.at λo e=>k a aj o e,let ⟨sl,e,h⟩:=x.2;⟨sl,k I aj _ e,h⟩⟩
 item:=λi s Q E hi x f=>by
  obtain⟨S,sl,Y,c⟩:=x;have m:=by simp[SetTable.fits,FH,Kk]at U;exact U.1
  refine D3 (x:=(es[i]'hi).2) (nx:=t.place[i]' ac+1) Y S U (λ{B y u} q=>vP J d g.2 S U as) λh' r l=>?_;exact f _ h' s.toks as ⟨S.at λo e=>(l.2 a j).trans e,_,r,Cn g.1 (GW ad)⟩ λb o J e=>l.extBut b o (λz=>J (by simp[z])) e
 done:=λs Q E x f=>by obtain⟨S,sl,Y,c⟩:=x;exact oi n Y S U (λ{B y u} q=>vP J d g.2 S U (by rw[c,(HE (o_ _))];exact q)) λh' e=>f h' s.toks λb o J p=>e b o (λz=>J (by simp[z])) p
 self:=λ_ _ _ _ x f=>by obtain⟨_,sl,Y,_⟩:=x;exact xC Y f
theorem B9(y:A.handled=g_)(n:t.fits es.size=f_)(g:a≠I)(U:T≠I){ps:bb}(J:ps.Perm (A1 es.size)){m:Nat}:
  Nq prog w A I [I,a,T] [I] es.size (λi v=>((ps.filterMap (es[·]?))[i]?).map (·.2)=a_ v) (λi h=>nL h a es ep t/\h.get? I=a_ (kQ (.ref T) i a es.size ep)/\h.get? T=a_ {cls:=.type "tuple",data:=.seq (ps.map λ(i:Nat)=>Hg i).toArray m}) where
 sub:=λb c=>by simp_all
 frame:=λ_ _ _ x k=>⟨x.1.at λo e=>k a aj o e,k I aj _ x.2.1,k T aj _ x.2.2⟩
 item:=λi s Q E hi x Y=>by
  have S:=J.length_eq;rw[He]at S;have j:∀p∈ps,p<es.size:=λp f=>C_.mp (J.mem_iff.mp f);have f:ps[i]' ac<es.size:=j _ (Gm _);have D:∀l:bb,(∀p∈l,p<es.size)->∀i (h:i<l.length),(l.filterMap (es[·]?))[i]?=es[l[i]]?:=by
   intro l
   induction l with
   |nil=>intro _ i h;simp at h|cons p l r=>
    intro S i h;have h1:es[p]?=a_ (es[p]'(S p aj)):=GW _;rw[Lj,h1];cases i with
    |zero=>simp|succ i=>exact r (λq u=>S q (by simp[u])) i as
  refine si_drawn (tk:=0) x.2.1 x.1 n x.2.2 (by simp_all[Hg]) (GW f) λh' C d=>?_;exact Y _ h' s.toks as ⟨x.1.at λo e=>(d.2 a g).trans e,C,(d.2 T U).trans x.2.2⟩ λb o c e=>d.extBut b o (λz=>c (by simp[z])) e
 done:=λs Q E x Y=>by have S:=J.length_eq;exact vg y x.2.1 x.1 n x.2.2 (by simp[S]) λh' e=>Y h' s.toks λb o c B=>e b o (λz=>c (by simp[z])) B
 self:=λ_ _ _ _ x Y=>xC x.2.1 Y
def Cc{Q:Nat->i_->Prop}(S:m≠0)(h:Q (w.draws .order (s.drawn.get .order)%m) {s with drawn:=s.drawn.bump .order}):r_ (x_ prog w) A (choose .order m) Q E s:=λU p J=>by unfold choose;exact⟨S,h⟩
theorem wB{α:Type}:∀(m:Nat) (xs:List α) (s:i_) {Q:List α->i_->Prop},xs.length=m->(∀ys d,ys.Perm xs->Q ys {s with drawn:=d})->r_ (x_ prog w) A (drawOrder m xs) Q E s
 |0,xs,s,Q,h,q=>by rw[Jh.mp h]at q;exact e_ (q [] s.drawn (HD _))|m+1,[],s,Q,h,q=>by simp at h|m+1,x::xs,s,Q,h,q=>by
  refine b_ (Cc aj ?_);have J:w.draws .order (s.drawn.get .order)%(x::xs).length<(x::xs).length:=Nat.mod_lt _ aj;generalize w.draws .order _%(x::xs).length=i at J ⊢;rw[y_ J];refine b_ (wB m _ _ (by simp_all[NO]) λys d U=>e_ (q _ d ?_));have key:∀{β:Type} {l:List β} {i:Nat} (h:i<l.length),(l[i]::l.eraseIdx i).Perm l:=by
   intro β l
   induction l with
   |nil=>simp|cons x xs S=>
    intro i h;cases i with
    |zero=>simp|succ i=>exact(LR _ _ _).trans ((S as).cons _)
  exact(U.cons _).trans (key J)
end
section
open PySem
variable{s:i_}
def Begun(prog:Gf)(w:GS)(I a:k_)(vs:aH)(J:Nat)(h:FX):Prop:=
 ∃(fp:List k_) (St:Nat->FX->Prop),(∀A:G8,A.handled=g_->Nq prog w A I fp [I] vs.length (λi v=>vs[i]?=a_ v) St)/\St 0 h/\∀c∈fp,c=a\/J<=c
theorem D0:((ord.map (·.2))[i]?=a_ v)=((ord[i]?).map (·.2)=a_ v):=am
theorem Walks.by{I:k_}{fp wr:List k_}{n m:Nat}{P J:Nat->h_->Prop}{St:Nat->FX->Prop}(W:Nq prog w A I fp wr n P St)(U:n=m)(S:∀i v,J i v=P i v):Nq prog w A I fp wr m J St:=by
 have:=funext λi=>funext λv=>S i v
 simp_all
def perm_keys{es:Array (Int×h_)}(J:(es.toList.map λe=>tN e.2).Perm ks)(h:ord.Perm es.toList):((ord.map (·.2)).map tN).Perm ks:=by rw[FJ];exact(h.map _).trans J
def yu{es:Array (Int×h_)}(S:Oz (HF prog w) es.toList)(h:ord.Perm es.toList):∀v∈ord.map (·.2),∃t,v=.int (tN v) t:=λv hv=>by obtain⟨e,m,rfl⟩:=FG.mp hv;obtain⟨k,J⟩:=S.keys e (h.mem_iff.mp m);obtain⟨t,U⟩:=key_is J;rw[U];exact⟨t,rfl⟩
theorem Ek{Q:Mq}(H:uO prog w (m5 w) s.heap a ks)(h:∀I vs h' d,(∀c o,s.heap.get? c=a_ o->h'.get? c=a_ o)->s.heap.objs.size<=I->Begun prog w I a vs s.heap.objs.size h'->(vs.map tN).Perm ks->(∀v∈vs,∃t,v=.int (tN v) t)->Q (.ref I) {s with heap:=h',drawn:=d}):r_ (x_ prog w) A (MD (.ref a)) Q E s:=by
 have ty:=H.ty;obtain⟨o,es,ep,t,S,y,hd,k,j,z,B,U,g⟩:=H;have m:a<s.z:=m_ S;refine KC ty Qb (FO Qb ty wx ?_ (F.args_set_iter_1 _));unfold Builtin.«frozenset.__iter__» Pa slotArgs Pb;simp only[List.isEmpty_nil,MX,Ho,↓reduceIte,bind_assoc,KP,NR];refine b_ (e_ ?_);refine b_ (e_ (b_ (Jg S hd U (b_ (e_ ?_)))));unfold setDrawn setsByText;simp only[bind_assoc];refine b_ (IU S hd U (b_ (Jb ?_)));simp only[pure_bind];cases J:w.params.followText "set-order" with
 |true=>
  have ord:=vF (w.params.setOrder a ep) es.size 0 es.toList #[] aj;refine(?_:r_ (x_ prog w) A.in1 (if (!(w.params.followText "set-order")&&_)=f_ then _ else _) _ _ s)
  rw[J,MX,Px,q_ HQ];refine b_ (Ma S hd U (b_ (FP (e_ ⟨_,rfl,"set_iterator",_,⟨_,l_ _ rfl,rfl⟩,aZ.lookup,?_⟩) (by size_fits))));have op:(LC (w.params.setOrder a ep) es).toList.Perm es.toList:=ord;refine h _ ((LC (w.params.setOrder a ep) es).toList.map (·.2)) _ s.drawn (λc o e=>d_ _ e) (o_ _) ⟨_,_,λp f=>Walks.by (CF (t:=t) (ep:=ep) f J U (E_ m) rfl (by have:=op.length_eq;simp_all)) (by have:=op.length_eq;simp_all) (λi v=>D0),⟨⟨o,d_ _ S,hd⟩,l_ _ rfl⟩,λc n=>?_⟩ (perm_keys j op) (yu k op)
  grind
 |false=>
  have u:t.led=f_:=by rw[g.2];show(!w.params.followText "set-order")=f_;rw[J];rfl
  refine(?_:r_ (x_ prog w) A.in1 (if (!(w.params.followText "set-order")&&(!t.plain&&s_ (es.size>1)))=f_ then _ else _) _ _ s)
  rw[J,Bool.not_false,PQ];cases l:(!t.plain&&s_ (es.size>1))with
  |false=>
   refine b_ (Ma S hd U (b_ (FP (e_ ⟨_,rfl,"set_iterator",_,⟨_,l_ _ rfl,rfl⟩,aZ.lookup,?_⟩) (by size_fits))));refine h _ (es.toList.map (·.2)) _ s.drawn (λc o e=>d_ _ e) (o_ _) ⟨_,_,λp f=>Walks.by (CG (ep:=ep) f J l ⟨g.1,u⟩ U (E_ m)) aj (λi v=>D0),⟨⟨o,d_ _ S,hd⟩,0,l_ _ rfl,Cm g.1⟩,λc n=>?_⟩ (perm_keys j (HD _)) (yu k (HD _))
   grind
  |true=>
   have C:Jz=4096:=rfl;have x:=G4;refine b_ (wB es.size (A1 es.size) s aj λps d Y=>?_);have r:ps.length=es.size:=by have:=Y.length_eq;simpa using this
   refine b_ (Ni ?_ am);have b:(s.heap.push {cls:=.type "tuple",data:=.seq (ps.map λ(i:Nat)=>Hg i).toArray}).get? a=a_ o:=d_ _ S;refine b_ (Ma (s:={s with heap:=s.heap.push {cls:=.type "tuple",data:=.seq (ps.map λ(i:Nat)=>Hg i).toArray},drawn:=d}) b hd U (b_ (FP (e_ ⟨_,rfl,"set_iterator",_,⟨_,l_ _ rfl,rfl⟩,aZ.lookup,?_⟩) (by size_fits))));have op:(ps.filterMap (es[·]?)).Perm es.toList:=(Y.filterMap _).trans (by rw[filterMap_getElem?_range]);have q:(s.heap.push {cls:=.type "tuple",data:=.seq (ps.map λ(i:Nat)=>Hg i).toArray}).objs.size=s.z+1:=Gi ..;refine h _ ((ps.filterMap (es[·]?)).map (·.2)) _ d (λc o e=>d_ _ (d_ _ e)) aj ⟨_,_,λp f=>Walks.by (B9 (T:=s.z) (ep:=ep) f U (by rw[q];exact E_ (Jx m)) aj Y) (by have:=op.length_eq;simp_all) (λi v=>D0),⟨⟨o,d_ _ b,hd⟩,l_ _ rfl,d_ _ (l_ _ rfl)⟩,λc n=>?_⟩ (perm_keys j op) (yu k op)
   grind
theorem xa{Q:aH->i_->Prop}(x:A.handled=g_)(H:uO prog w (m5 w) s.heap a ks)(h:∀vs h' d tk,(∀c o,s.heap.get? c=a_ o->h'.get? c=a_ o)->s.heap.objs.size<=h'.objs.size->(vs.map tN).Perm ks->(∀v∈vs,∃t,v=.int (tN v) t)->Q vs {s with heap:=h',drawn:=d,toks:=tk}):r_ (x_ prog w) A (collect (.ref a)) Q E s:=by
 have R:=G4;have G:ks.length<4096:=by obtain⟨o,es,ep,t,l,r,hd,he,k,Z,hb,hf,X⟩:=H;have:=k.length_eq;have h4:Jz=4096:=rfl;simp at this;lia
 have y:a<s.z:=by obtain⟨o,_,_,_,l,_⟩:=H;exact m_ l
 refine b_ (Lr (GK (Lb) ?_));refine b_ (FP ?_);refine e_ ⟨Hz Ks _,GK (LZ) ?_⟩;have H1:uO prog w (m5 w) (s.heap.push {cls:=.type "list",data:=.seq ([]:aH).toArray}) a ks:=H.at λo e=>d_ _ e;have ty:J6 {s with heap:=s.heap.push {cls:=.type "list",data:=.seq ([]:aH).toArray}} (.ref a) "set":=H1.ty;have O:(s.heap.push {cls:=.type "list",data:=.seq ([]:aH).toArray}).get? s.z=a_ {cls:=.type "list",data:=.seq ([]:aH).toArray}:=l_ _ rfl;have D:(s.heap.push {cls:=.type "list",data:=.seq ([]:aH).toArray}).objs.size=s.z+1:=Gi ..;show r_ (x_ prog w) A.in1 (Builtin.List.listExtendWith (.ref s.z) (.ref a) (.ref s.z)) _ _ _;refine b_ (J9 ty ?_);have k1:IJ (.ref s.z) (.ref a)=c_:=by simpa[IJ] using GP y
 have k2:(HL "set"==HL "list")=c_:=by decide
 have k3:(HL "set"==HL "tuple")=c_:=by decide
 simp only[k1,k2,k3,Bool.or_false,Ho,LN];refine b_ (Ek (s:={s with heap:=s.heap.push {cls:=.type "list",data:=.seq ([]:aH).toArray}}) H1 λI vs h1 d n hI P k hi=>?_);have U:J6 {s with heap:=h1,drawn:=d} (.ref a) "set":=by obtain⟨o,_,_,_,l,r,_⟩:=H1;exact⟨o,n _ _ l,r.1⟩
 refine b_ (Gq ?_);unfold Builtin.List.listLengthHint;refine b_ (Jn U F.slot_set_len.lookup ?_)
 wp_delta
 refine b_ (Ha (T:="set") (b:=f_) U sub_set_self ?_);refine b_ (J9 U (e_ ?_));rw[p_ al];refine b_ (II (b_ ?_));have C:=n _ _ O;show r_ (x_ prog w) A.in1 (N8 s.z (·.push .none) >>=λ_=>N8 s.z (·.pop)) _ _ {s with heap:=h1,drawn:=d};refine b_ (Jm C rfl ?_);have g2:=FV (GL (·.push GR)) C rfl;refine Jm g2 rfl ?_;have N:=FV (GL (·.pop)) g2 rfl;have f:∀c o,c≠s.z->h1.get? c=a_ o->((h1.update s.z (GL (·.push GR))).update s.z (GL (·.pop))).get? c=a_ o:=λc o Y e=>(A_ _ _ (GX Y)).trans ((A_ _ _ (GX Y)).trans e);obtain⟨fp,St,W,st,m⟩:=P;have B:s.z∉fp:=λz=>by
  rcases m _ z with q|q
  .exact GP y q
  .rw[D]at q;exact Nat.not_succ_le_self _ q
 have p:vs.length<=t_:=by have:=k.length_eq;simp at this;lia
 refine e_ ⟨Hz OO _,O3 (W A.in1 (by simp[x])).toS p _ B _ vs.length 0 _ _ _ rfl (GD _) ((W A x).frame 0 _ _ st λc Y o e=>f c o (λz=>B (z▸Y)) e) N (Pr _) λs' S c' u g J=>?_⟩;show r_ (x_ prog w) A (load s.z >>= _) _ _ s';refine b_ (K6 g (e_ ?_));have ev:S.toList=vs:=by
  apply LL;intro i;by_cases hi:i<vs.length
  .have L:i<S.size:=by rw[J.1];exact hi
   have K:=J.2 i S[i] aj;rw[K];simp[L]
  .rw[Hl (by rw[Ge,J.1];lia),Hl ad]
 have j:=Pq u;dsimp only at j;rw[j,ev];refine h vs _ d _ (λc o e=>?_) ?_ k hi
 .have Y:c<s.z:=m_ e;refine u.heap c o (λz=>?_) (f c o (E_ Y) (n c o (d_ _ e)))
  grind
 .exact HI (m_ g)
end
def iO:A'->M A'
 |.lst ds=>(bj ds).bind λJ=>if ds.length<64 then .ok (.lst ((dK ltZ (keysOf J)).map .int))else stk
 |_=>stk
def B3.draws{s:i_}{d:Qc}(I:B3 X B2 σ H s):B3 X B2 σ H {s with drawn:=d}:=⟨I.ok,I.os,I.bare,I.base,I.loc,I.cell,I.free,I.freeC,I.pin,I.hok,I.len⟩
def boot_set:Hi "set"=a_ (.type "set"):=by rfl
section
open PySem.W
variable{s:i_}
theorem Ad:∀{vs:aH},(∀v∈vs,∃t,v=.int (tN v) t)->Ih vs (vs.map tN)
 |[],_=>.nil|v::vs,h=>by obtain⟨t,e⟩:=h v aj;rw[e];exact .cons _ _ (Ad λu J=>h u (by simp[J]))
theorem xB{Q:Mq}(e:A.handled=g_)(H:uO prog w (m5 w) s.heap a ks)(f:ks.length<64)(h:∀(h':FX) (D:k_) (c tk:Nat) (d:Qc) (vs:aH),s.heap.objs.size<=D->(∀b o,s.heap.get? b=a_ o->h'.get? b=a_ o)->h'.get? D=a_ (Ib "list" (jg (rk ltZ (vs.map tN) 0) vs).toArray c)->(vs.map tN).Perm ks->Ih vs (vs.map tN)->Q (.ref D) {s with heap:=h',drawn:=d,toks:=tk}):
  r_ (x_ prog w) A (Jv (.builtin "sorted") [.ref a]) Q E s:=by
 have j:=G4;refine J5 Pe OB OC (OD _) ?_;refine b_ (e_ (b_ (xa e H λvs h1 d tk J hsz U hi=>?_)));have k:=by have:=U.length_eq;simpa using this
 refine b_ (LS ?_ ad);have Y:(h1.push _).get? h1.objs.size=a_ (Ib "list" vs.toArray 0):=l_ _ rfl;have S:=Ad hi;refine b_ (Gq (FO NB ⟨_,Y,rfl⟩ M7 (oM Y ad (λg l k3=>xo S g) λh' c k' i=>⟨_,rfl,?_⟩) (ND _)));exact e_ ⟨_,rfl,h h' _ c tk d vs hsz (λb o q=>k' b o ((λb o q=>E_ (m_ (J b o q))) b o q) (d_ _ (J b o q))) i U S⟩
theorem CI:∀{vs:aH} {J:aG},Ih vs J->B6 (J.map V.int) vs
 |_,_,.nil=>.nil|_,_,.cons n t r=>.cons ⟨t,rfl⟩ (CI r)
theorem out_ints{J:aG}(h:Ih vs J):Ih (jg (rk ltZ J 0) vs) (dK ltZ J):=by
 have Y:=h.length;unfold jg;by_cases b:vs.length<2
 .simp_all[kA]
 .rw[q_ b,Y,<- oF ordZ J 0 ad];obtain⟨h1,_⟩:=oh (key:=rk ltZ J 0) (n:=J.length) ad;have S:∀i∈(dG (ltK (rk ltZ J 0)) (Hj J.length)).toList,i<vs.length:=λi hi=>by
   grind
  generalize (dG _ (Hj J.length)).toList=l at S
  induction l with
  |nil=>exact .nil|cons i l U=>
   obtain⟨t,e⟩:=LW h i (vs[i]'(S i aj)) (y_ _);have e2:vs.getD i GR=.int (J.getD i 0) t:=by rw[B_,y_ (S i aj)];exact e
   rw[u_,e2];exact .cons _ _ (U λj a=>S j (by simp[a]))
end
section
variable{W:cP}{a:GI}
theorem Au{F:Hp}:∀J:aG,ay K F (J.map .int) (J.map V.int)
 |[]=>rfl|i::J=>⟨.int i,J.map V.int,rfl,rfl,Au J⟩
theorem rn{J:aG}(h:J.length<64):(keysOf J).length<64:=by
 have:=nR J []
 grind[keysOf]
theorem yJ(A:X.mg "sorted"=g_)(hm:X.mg "set"=g_)(ha:DE K W c_ X a fa)(N: ~~~(X.calm=f_))(B: ~~~(Gl X "sorted"))(hg: ~~~(Gl X "set"))(L: ~~~(j_ [a] X.env=[(c_,FL a X.env)]))(j: ~~~(j_ [.Call (.Name "set" p1) [a] [] pos1] X.env=[(c_,FL (.Call (.Name "set" p1) [a] [] pos1) X.env)]))(hK: ~~~(X.K=K)):
  DE K W f_ X (.Call (.Name "sorted" p) [.Call (.Name "set" p1) [a] [] pos1] [] pos) (f1 iO fa):=by
 subst hK;intro B2 s σ H Q I h;obtain⟨F,ρ,r,T,J⟩:=h;refine Hv (gH I B A Pf ?_ al al);have i:r_ (x_ X.prog X.w) X.A (FL (.Call (.Name "set" p1) [a] [] pos1) X.env) (λt g=>∃f H2 U h' tk,t=.ref f.z/\g={f with heap:=h',toks:=tk}/\B3 X B2 σ H2 f/\U.length<64/\uO X.prog X.w (m5 X.w) h' f.z (keysOf U)/\(∀c o,c<f.z->f.heap.get? c=a_ o->h'.get? c=a_ o)/\∀S,H2 S=g_->Q (.ref S) (upd H2 S (.lst ((dK ltZ (keysOf U)).map V.int)))) X.xe s:=by
  refine MU (gH I hg hm boot_set (FR (B' (aR ha cA L pos1 B2 s σ H (λus H2=>∃l U,us=[.ref l]/\U.length<64/\SqL X.K H2 l (U.map V.int)/\∀S,H2 S=g_->Q (.ref S) (upd H2 S (.lst ((dK ltZ (keysOf U)).map V.int)))) I ?_) λus g ⟨vs,H1,R,r1,q1⟩=>?_) L rfl))
  .refine aO r T (λe he=>?_) λd hd v F1 H1 g q1=>?_
   .have z:f1 iO fa ρ=.error e:=by unfold f1;rw[he];rfl
    rw[z]at J;exact J
   .have z:f1 iO fa ρ=iO d:=by unfold f1;rw[hd];rfl
    rw[z]at J;have J:=J.step g;cases d with
    |lst ds=>
     obtain⟨c,xs,e,t,E⟩:=q1;have J:aJ X.K W f_ F1 H1 ((bj ds).bind λU=>if ds.length<64 then .ok (.lst ((dK ltZ (keysOf U)).map .int))else stk) Q:=J;cases m:bj ds with
     |error z=>rw[m]at J;have:=ee m;subst this;exact(W.ns J).elim|ok U=>
      rw[m]at J;have J:aJ X.K W f_ F1 H1 (if ds.length<64 then .ok (.lst ((dK ltZ (keysOf U)).map .int))else stk) Q:=J;have hx:=cS E m;subst hx;have hl:ds.length=U.length:=by have:=E.length;simp at this;lia
      by_cases Y:ds.length<64
      .rw[p_ Y]at J;exact⟨c,U,by rw[e],ad,g.fh.lst t,λS hS=>J.lst g.fh (Au _) hS⟩
      .rw[q_ Y]at J;exact(W.ns J).elim
    |_=>exact(W.ns J).elim
  .obtain⟨l,U,e,Y,hq,C⟩:=q1;subst e;obtain⟨u,rfl,Z⟩:=r1.one;cases(show u=D_ l from Z);obtain⟨its,G,pl,hz⟩:=R.list hq;have hl:=G.length;have h4:Jz=4096:=rfl;exact Fj (I.ok.hd N) pl.isList (by simpa using intsAre_of G) am λh' tk n k'=>⟨g,H1,U,h',tk,rfl,rfl,R,Y,n,k',C⟩
 refine K5 ?_ j rfl;rw[j];refine Jd (B' i λt g y=>?_);obtain⟨f,H2,U,h',tk,et,es,P,Y,n,k',C⟩:=y;refine e_ ?_;subst et es;have x:f.z<h'.objs.size:=by obtain⟨o,_,_,_,ho,_⟩:=n;exact m_ ho
 refine xB (s:={f with heap:=h',toks:=tk}) (I.ok.hd N) n (rn Y) λh2 D c w d vs hD kp e y ia=>?_;have O:=out_ints ia;rw[kr ordZ ((bp _).trans (y.trans (bp (keysOf U)).symm)) (dQ ordZ _) (dQ ordZ _)]at O;have hll:(dK ltZ (keysOf U)).length<64:=by rw[(bp _).length_eq];exact rn Y
 have k:f.z<=D:=Gg (HI x) hD;have hz:=G4;exact⟨.ref D,_,(P.laid (t':=w) (λb o q=>kp b o (k' b o (m_ q) q)) k (show dq _ h2 D (.lst ((dK ltZ (keysOf U)).map V.int))from⟨am,_,c,CI O,e⟩)).draws,rfl,C D (P.hok.fresh k)⟩
end
def Az:A'->A'->M A'
 |.lst ds,.int k=>(bj ds).bind λxs=>.ok (.int (xs.countP (·==k):Nat))|_,_=>stk
@[simp]def e_countD(ds:List A')(k:Int):Az (.lst ds) (.int k)=(bj ds).bind λxs=>.ok (.int (xs.countP (·==k):Nat)):=id rfl
def rP(fo fe:ah->M A'):ah->M A':=λρ=>(fo ρ).bind λa=>if isL a=f_ then(fe ρ).bind λb=>Az a b else stk
@[simp]def e_fCount(fo fe:ah->M A')(ρ:ah):rP fo fe ρ=(fo ρ).bind λa=>if isL a=f_ then(fe ρ).bind λb=>Az a b else stk:=id rfl
def rCount(K:Pn):V->a0->Hp->VK->Prop:=λx vs H Q=>∃(l:k_) (J:aG) (k:Int),x=.ref l/\vs=[.int k]/\SqL K H l (J.map V.int)/\Q (.int (J.countP (·==k):Nat)) H
section
variable{W:cP}
theorem rW{k:Int}:∀{J:aG} {us:aH},B6 (J.map V.int) us->us.countP (isK k)=J.countP (·==k)
 |[],_,.nil=>rfl|a::J,_,.cons r S=>by
  obtain⟨t,rfl⟩:=(show ∃t,_=Je a t from r)
  rw[Kw,Kw,rW S];rfl
theorem mt_count(D:X.A.units+64<GB):MtR X "list.count" (rCount X.K):=by
 intro B2 s σ H x vs v us Q I g i h;obtain⟨l,U,k,rfl,rfl,w,q⟩:=h;cases g;obtain⟨u,rfl,j⟩:=i.one;obtain⟨its,r,pl,C⟩:=I.list w;obtain⟨o,n,e,J,c,S⟩:=id pl;obtain⟨t,rfl⟩:=(show ∃t,u=Je k t from j)
 have f:U.length=its.length:=by rw[<- r.length,w_]
 obtain⟨oc,a,Y,osl⟩:=o;refine PJ Mx ⟨_,e,J⟩ PySem.F.entry_list_count (PySem.F.args_list_count_2 _ _) (SeqAt.list_countAt l its.toArray n a osl _ (isK k)) ⟨?_,λy p=>?_,?_⟩
 .rw[e];cases(show oc=.type "list" from J);cases(show Y=.seq its.toArray n from S);rfl
 .obtain⟨m,b,rfl⟩:=Lh (by simpa using p);obtain⟨t',B⟩:∃t,its[m]=.int (U[m]' ac) t:=by
   obtain⟨t,d⟩:=qL r m (U[m]' ac) (y_ _);rw[y_ b]at d;exact⟨t,GN d⟩
  rw[B];have z:=Ez (A:=X.A.in1) I (aU.refl H) (.int (U[m]' ac)) (.int k) (by simp[C']) (by simp[C']) rfl rfl ⟨t',rfl⟩ ⟨t,rfl⟩ (by show X.A.units+1+40<GB;lia);exact z
 .rw[rW r];exact⟨.int (U.countP (·==k)),H,I.tok _,⟨_,rfl⟩,q⟩
variable{o:GI}
def de_count(n:X.A.units+64<GB)(q:DE K W c_ X o fo)(c:DE K W c_ X e fe)(w: ~~~(X.K=K))(U: ~~~(HV o "count" X.env (FL o X.env)=FL o X.env))(Y: ~~~(((GG cpos (j_ [e] X.env)).all (λx=> !x.1)&&(JX cpos (IG [] X.env)).all (λx=>x.1.isSome)&&s_ ([e].length+([]:List JV).length+(if ([]:List JV).isEmpty then 0 else 1)<30))=f_))(S: ~~~((apos.endLine==cpos.line)=f_))(g: ~~~(j_ [e] X.env=(c_,FL e X.env)::j_ [] X.env))(J: ~~~((GG cpos (j_ [] X.env)).any (·.1)=c_)):
  DE K W c_ X (.Call (.Attribute o "count" apos) [e] [] cpos) (rP fo fe):=by
 subst w;refine PE.imp (pe_bm Kb Mx PySem.F.type_list_count (mt_count n) q (aR c cA (by rw[g])) U Y S g J) λσ H Q h=>?_;obtain⟨F,ρ,r,s,p⟩:=h;refine aO r s (λe c=>p.err (by unfold rP;rw[c];rfl)) λa v x F1 H1 f q1=>?_;have A:rP fo fe ρ=if isL a=f_ then(fe ρ).bind λb=>Az a b else stk:=by unfold rP;rw[v];rfl
 rw[A]at p;have p:=p.step f;cases a with
 |lst ds=>
  obtain⟨l,xs,ex,t,z⟩:=id q1;subst ex;refine⟨⟨rfl,_,_,rfl,f.fh.lst t⟩,?_⟩
  refine aO (r.mono f.ff) f.fh (λe c=>p.err (by rw[c];rfl)) λb u y i H2 d q2=>?_;rw[u]at p;have p:=p.step d;cases b with
  |int k=>
   have p:aJ X.K W c_ i H2 ((bj ds).bind λxs=>.ok _) Q:=p;cases hi:bj ds with
   |error e=>rw[hi]at p;rw[ee hi]at p;exact aJ.stuck p|ok j=>rw[hi]at p;have m:=cS z hi;subst m;cases(show y=V.int k from q2);exact⟨l,j,k,rfl,rfl,d.fh.lst (d.ff.lst t),p _ i H2 (Step.refl d.fh) rfl⟩
  |_=>exact aJ.stuck p
 |_=>exact aJ.stuck p
end
noncomputable abbrev tKind(P:Gf)(w:GS):HeapKind P w aG:=tupleKind (HF P w)
theorem uZ{P:Gf}{w:GS}:∀{k:aG} {us:aH},B6 (k.map V.int) us->ItemsAre (HF P w) k us
 |[],_,.nil=>.nil|i::k,_,.cons r t=>by
  obtain⟨t',rfl⟩:=(show ∃t,_=Je i t from r)
  exact .cons (by simp[HF,KZ]) (uZ t)
def qK.at{xs:List jZ}(z:qK h a xs ep)(e:∀o,h.get? a=a_ o->h'.get? a=a_ o):qK h' a xs ep:=
 let ⟨vs,r,hd,S,J,o,es,h1,b,Y,U⟩:=z;⟨vs,r,hd,S,J,o,es,e o h1,b,Y,U⟩
def yH{xs:List jZ}(z:qK h a xs ep):dq H h a (sj a xs ep):=
 ⟨z,let ⟨_,_,_,_,_,o,_,e,_,_,_⟩:=z;⟨o,e⟩,λ_ _ z e=>z.at e⟩
def pQ(K:Pn)(H:Hp)(xs:List jZ):Prop:=∀x∈xs,SqT K H x.2.1 (x.1.map V.int)
def pQ.mono{xs:List jZ}(z:pQ K H xs)(s:aU H H'):pQ K H' xs:=λx J=>s.tup (z x J)
theorem dg.key{K:Pn}{F:Hp}:∀{ks:List (aG×A')} {xs:List jZ},dg K F ks xs->pQ K F xs
 |[],_,h,x,J=>by rw[show _=[]from h]at J;grind|(k,d)::ks,_,⟨b,v,r,e,t,q,z⟩,x,J=>by
  subst e;rcases n_.mp J with rfl|J
  .exact t
  .exact dg.key z x J
theorem dg.length{K:Pn}{F:Hp}:∀{ks:List (aG×A')} {xs:List jZ},dg K F ks xs->xs.length=ks.length
 |[],_,h=>by rw[show _=[]from h];rfl|(k,d)::ks,_,⟨b,v,r,e,t,q,z⟩=>by rw[e,FK,FK,dg.length z]
noncomputable def BW(ks:List (aG×A'))(k:aG):Option A':=(ks.find? λp=>s_ (p.1=k)).map (·.2)
noncomputable def tU(xs:List jZ)(k:aG):Option V:=(xs.find? λp=>s_ (p.1=k)).map (·.2.2)
def sU(ks:List (aG×A'))(k:aG)(d:A'):List (aG×A'):=if (BW ks k).isSome=f_ then ks.map (λp=>if p.1=k then(p.1,d)else p)else ks++[(k,d)]
def putR(xs:List jZ)(k:aG)(b:k_)(v:V):List jZ:=if (tU xs k).isSome=f_ then xs.map (λx=>if x.1=k then(x.1,x.2.1,v)else x)else xs++[(k,b,v)]
theorem oQ(xs:List jZ)(k:aG)(b:k_)(v:V):(putR xs k b v).length<=xs.length+1:=by
 unfold putR;split
 .rw[w_];lia
 .rw[Gs];exact o_ _
theorem sQ{k:aG}:∀{xs:List jZ} {vs:List (aG×k_×h_)},JR jH xs vs->xt (tU xs k) ((O7 vs k).map (·.2))
 |_,_,.nil=>JE|x::xs,q::vs,.cons h t=>by
  obtain⟨h1,U,J⟩:=h;by_cases e:x.1=k
  .simp[tU,O7,IC,e,(h1.symm.trans e),];exact J
  .have S:¬q.1=k:=λz=>e (h1.trans z);have:=sQ (k:=k) t;simpa only[tU,O7,IC,e,S,decide_false] using this
theorem dg.at{K:Pn}{F:Hp}{k:aG}:∀{ks:List (aG×A')} {xs:List jZ},dg K F ks xs->(BW ks k=g_/\tU xs k=g_)\/∃d v,BW ks k=a_ d/\tU xs k=a_ v/\bc K F d v
 |[],_,h=>by rw[show _=[]from h];exact .inl ⟨rfl,rfl⟩|(k',d)::ks,_,⟨b,v,r,e,t,q,z⟩=>by
  subst e;by_cases e:k'=k
  .exact .inr ⟨d,v,by simp[BW,e],by simp[tU,e],q⟩
  .have:=dg.at (k:=k) z;simpa only[BW,tU,IC,e,decide_false] using this
theorem dg.isSome{K:Pn}{F:Hp}{k:aG}{ks:List (aG×A')}{xs:List jZ}(z:dg K F ks xs):(tU xs k).isSome=(BW ks k).isSome:=by rcases z.at with⟨e1,e2⟩|⟨d,v,e1,e2,_⟩<;>rw[e1,e2]<;>rfl
theorem dg.repl{K:Pn}{F:Hp}{k:aG}{d:A'}{v:V}(q:bc K F d v):∀{ks:List (aG×A')} {xs:List jZ},dg K F ks xs->dg K F (ks.map λp=>if p.1=k then(p.1,d)else p) (xs.map λx=>if x.1=k then(x.1,x.2.1,v)else x)
 |[],_,h=>by rw[show _=[]from h];rfl|(k',U)::ks,_,⟨b,J,r,e,t,S,z⟩=>by
  subst e;rw[u_,u_];by_cases e:k'=k
  .rw[p_ e,p_ e];exact⟨b,v,_,rfl,t,q,dg.repl q z⟩
  .rw[q_ e,q_ e];exact⟨b,J,_,rfl,t,S,dg.repl q z⟩
theorem dg.snoc{K:Pn}{F:Hp}{k:aG}{b:k_}{d:A'}{v:V}(t:SqT K F b (k.map V.int))(q:bc K F d v):∀{ks:List (aG×A')} {xs:List jZ},dg K F ks xs->dg K F (ks++[(k,d)]) (xs++[(k,b,v)])
 |[],_,h=>by rw[show _=[]from h];exact⟨b,v,[],rfl,t,q,rfl⟩|(k',U)::ks,_,⟨b',J,r,e,t',S,z⟩=>by subst e;exact⟨b',J,_,rfl,t',S,dg.snoc t q z⟩
def dg.put{k:aG}{v:V}{ks:List (aG×A')}{xs:List jZ}(z:dg K F ks xs)(t:SqT K F b (k.map V.int))(q:bc K F d v):dg K F (sU ks k d) (putR xs k b v):=by
 unfold sU putR;rw[z.isSome];by_cases h:(BW ks k).isSome=f_
 .rw[p_ h,p_ h];exact z.repl q
 .rw[q_ h,q_ h];exact z.snoc t q
theorem vv{k:aG}{v:V}{u:h_}(J:B5 v u):∀{xs:List jZ} {vs:List (aG×k_×h_)},JR jH xs vs->JR jH (xs.map λx=>if x.1=k then(x.1,x.2.1,v)else x) (vs.map (putAt k u))
 |_,_,.nil=>.nil|x::xs,q::vs,.cons h t=>by
  rw[u_];refine .cons ?_ (vv J t);obtain⟨h1,S,U⟩:=h;unfold putAt;by_cases e:x.1=k
  .rw[p_ e,p_ (h1.symm.trans e)];exact⟨h1,S,J⟩
  .rw[q_ e,q_ (λz=>e (h1.trans z))];exact⟨h1,S,U⟩
def nO{k:aG}{v:V}(J:B5 v u){xs:List jZ}{vs:List (aG×k_×h_)}(r:JR jH xs vs):JR jH (putR xs k b v) (PZ vs k b u):=by
 have e:(tU xs k).isSome=(O7 vs k).isSome:=by rw[(sQ r).En,N4]
 unfold putR PZ;rw[e];by_cases h:(O7 vs k).isSome=f_
 .rw[p_ h,p_ h];exact vv J r
 .rw[q_ h,q_ h];exact Paired.snoc r ⟨rfl,rfl,J⟩
theorem zG:∀{xs:List jZ} {vs:List (aG×k_×h_)},JR jH xs vs->∀q∈vs,∃x∈xs,x.1=q.1/\x.2.1=q.2.1
 |_,_,.nil,_,h=>nomatch h
 |x::xs,q::vs,.cons h t,y,J=>by
  rcases n_.mp J with rfl|J
  .exact⟨x,aj,h.1,h.2.1⟩
  .obtain⟨S,h1,U⟩:=zG t y J;exact⟨S,by simp[h1],U⟩
section
variable{s:i_}{xs:List jZ}{k:List Int}
def sy(I:B3 X B2 σ H s)(h:SqT X.K H b (k.map V.int)):(tKind X.prog X.w).is s.heap k b:=by obtain⟨its,r,⟨o,h1,S,n,J⟩,_⟩:=I.tuple h;exact⟨o,its.toArray,n,h1,S,J,by simpa using uZ r⟩
def EL(I:B3 X B2 σ H s)(e:H a=a_ (sj a xs ep)):qK s.heap a xs ep:=(show qK s.heap a xs ep/\_ from I.hok a _ e).1
def EM(I:B3 X B2 σ H s)(e:H a=a_ (sj a xs ep))(z:pQ X.K H xs):∃vs,JR jH xs vs/\(a==HG)=c_/\xs.length<=t_/\s.heap.DictOfH (tKind X.prog X.w) a vs:=by
 obtain⟨vs,r,hd,Y,U,o,es,h1,d,c,b⟩:=EL I e;refine⟨vs,r,hd,Y,o,es,ep,h1,d,c,b,λq S=>?_,U⟩
 obtain⟨x,J,e1,e2⟩:=zG r q S;rw[<- e1,<- e2];exact sy I (z x J)
def dic_ty(I:B3 X B2 σ H s)(e:H a=a_ (sj a xs ep)):s.TypeIs (.ref a) "dict"/\(∀b,D_ a=.ref b->∃J,s.heap.get? b=a_ J/\J.dict=g_):=by obtain⟨_,_,_,_,_,o,_,h1,S,_⟩:=EL I e;exact⟨⟨o,h1,S.1⟩,λc q=>by cases q;exact⟨o,h1,S.2.1⟩⟩
def As{vs:List (aG×k_×h_)}(dd:h.DictOfH (tKind P w) a vs)(r:JR jH xs vs)(hd:(a==HG)=c_)(J:xs.length<=t_):∃ep,qK h a xs ep:=by obtain⟨o,es,ep,h1,b,Y,U,_,S⟩:=dd;exact⟨ep,vs,r,hd,J,S,o,es,h1,b,Y,U⟩
end
def sPut(K:Pn)(td ty tv:TE):TS:=λD σ H=>tv σ H λv H1=>td σ H1 λx H2=>ty σ H2 λy J=>∃a b k xs ep,x=.ref a/\y=.ref b/\J a=a_ (sj a xs ep)/\pQ K J xs/\SqT K J b (k.map V.int)/\xs.length<t_/\∀ep',D.nx σ (upd J a (sj a (putR xs k b v) ep'))
def tGet2(K:Pn)(td ty tx:TE):TE:=λσ H Q=>td σ H λx H1=>∃a xs ep,x=.ref a/\H1 a=a_ (sj a xs ep)/\ty σ H1 λy H2=>tx σ H2 λz J=>∃b k,y=.ref b/\J a=a_ (sj a xs ep)/\pQ K J xs/\SqT K J b (k.map V.int)/\Q ((tU xs k).getD z) J
def tNewK:TE:=λ_ H Q=>∀p,H p=g_->Q (.ref p) (upd H p (sj p [] 0))
section
variable{o i f:GI}{ty tx:TE}
def wD(h:FX)(J:HG<h.objs.size):qK (h.push {cls:=.type "dict",data:=.dict #[]}) h.objs.size [] 0:=
 ⟨[],.nil,MY.mpr (GX (E_ J)),GD _,Pw,_,#[],l_ _ rfl,⟨rfl,rfl,rfl⟩,rfl,rfl⟩
def pe_newK:PE X (.Dict [] [] pos) tNewK:=λB2 s σ H Q I h=>Qj ⟨.ref s.heap.objs.size,_,I.laid (λ_ _ q=>d_ _ q) (o_ _) (yH (wD s.heap I.big)),rfl,h _ (I.hok.fresh (o_ _))⟩
def B3.dic{s:i_}{xs ys:List jZ}{t':Nat}(I:B3 X B2 σ H s)(e:H a=a_ (sj a xs ep))(J:Hd a s.heap h')(z:qK h' a ys ep'):B3 X B2 σ (upd H a (sj a ys ep')) {s with heap:=h',toks:=t'}:=
 I.write (by rw[e];exact JE) (.inl rfl) (λc q S w=>(J.2 c S).trans w) (let ⟨_,_,_,_,_,o,_,w,_,_,_⟩:=z;⟨o,w⟩) (yH z)
theorem ps_put(q:X.A.units+1<GB)(A:PE X o td)(hi:PE X i ty)(hv:PE X value tv)(w:G0 value (a_ (.Subscript o i pos')) pos.line X.env=G2 c_):PS X (.Assign [.Subscript o i pos'] value pos) (sPut X.K td ty tv):=by
 intro B2 s σ H D I h;refine Oq (B' (hv B2 s σ H _ I h) λr e J=>?_) w;obtain⟨v,H1,F,j,q1⟩:=J;refine B' (A B2 e σ H1 _ F q1) λu d J=>?_;obtain⟨x,H2,E,g,q2⟩:=J;refine B' (hi B2 d σ H2 _ E q2) λm G J=>?_;obtain⟨y,L,Y,f,a,b,k,xs,ep,ex,C,ea,B,t,K,l⟩:=J;subst ex C;cases(show u=D_ a from g);cases(show m=D_ b from f);obtain⟨vs,c,hd,p,dd⟩:=EM Y ea B;have n:vs.length<=t_:=by rw[<- Mw c];exact p
 refine Pz (PF q) (sy Y t) dd λh' U S=>?_;obtain⟨ep',z⟩:=As U (nO j c) hd (by have:=oQ xs k b v;lia);exact⟨σ,_,Y.dic ea S z,l ep'⟩
def pe_get2(r:X.A.units+1<GB)(w:PE X o td)(C:PE X e ty)(B:PE X f tx)(m:M2 X o "get" apos e f cpos):PE X (.Call (.Attribute o "get" apos) [e,f] [] cpos) (tGet2 X.K td ty tx):=by
 intro B2 s σ H Q I h;refine wpAny_Call_method m.base m.few m.line My MR PySem.F.type_dict_get (B' (w B2 s σ H _ I h) λu g v=>?_);obtain⟨x,H1,U,l,a,xs,ep,ex,ea,q1⟩:=v;subst ex;cases(show u=D_ a from l);obtain⟨c,Y⟩:=dic_ty U ea;refine⟨c,Y,?_⟩
 rw[m.trees];refine Kz rfl (NA (Jd (B' (C B2 g σ H1 _ U q1) λq d ⟨y,H2,E,j,q2⟩=>Jd (B' (B B2 d σ H2 _ E q2) λfv G ⟨z,F,S,i,b,k,D,J,A,t,p⟩=>Oh ?_))))
 subst D;cases(show q=D_ b from j);obtain⟨vs,n,hd,K,dd⟩:=EM S J A;exact call_meetsIn MR dd.typeIs PySem.F.entry_dict_get (PySem.F.args_dict_get_3 _ _ _) (meetsH_dict_get_default _ a b hd fv) ⟨PF r,k,vs,sy S t,dd,_,F,S.tok _,(sQ n).getD i,p⟩
end
def rp:A'->M aG
 |.tup ds=>bj ds|_=>stk
noncomputable def mr(ρ:ah)(i:Nat):M (List (aG×A')):=match ρ[i]? with
 |some (a_ (.dic ks))=>.ok ks|_=>.error .stuck
def Bp(i:Nat)(fk fv:ah->M A'):ah->M B4:=λρ=>(fv ρ).bind λd=>(mr ρ i).bind λks=>(fk ρ).bind λJ=>(rp J).bind λk=>if (gS d&&s_ (ks.length<t_))=f_ then .ok (.nx (ρ.set i (a_ (.dic (sU ks k d)))))else .error .stuck
noncomputable def qq:A'->Bool
 |.dic _=>f_|_=>c_
def getDD:A'->A'->A'->M A'
 |.dic ks,J,x=>(rp J).bind λk=>.ok ((BW ks k).getD x)|_,_,_=>stk
def qt(fd fk fx:ah->M A'):ah->M A':=λρ=>(fd ρ).bind λd=>if qq d=f_ then(fk ρ).bind λk=>(fx ρ).bind λx=>getDD d k x else stk
def nU{e:Err}(h:rp d=.error e):e=.stuck:=by
 cases d with
 |tup ds=>exact ee h|_=>cases h;rfl
theorem tO{v:V}{k:aG}(h:rp d=.ok k)(q:bc K F d v):∃b,v=.ref b/\SqT K F b (k.map V.int):=by
 cases d with
 |tup ds=>
  obtain⟨b,xs,e,t,z⟩:=q;have:=cS z h
  simp_all
 |_=>cases h
section
variable{W:cP}{fd fx:ah->M A'}{Q:VK}
def lB{ks:List (aG×A')}(h:mr ρ i=.ok ks):ρ[i]?=a_ (a_ (.dic ks)):=by
 unfold mr at h;split at h
 .cases h;assumption
 .cases h
def wF{e:Err}(h:mr ρ i=.error e):e=.stuck:=by
 unfold mr at h;split at h
 .cases h
 .cases h;rfl
def rs_putD(hi:i∈O)(t:tS K W ro F0 H0 OL O O (Bp i fk fv) D σ H):sPut K (tVar i) (tD K W c_ fk) (tD K W c_ fv) D σ H:=by
 obtain⟨FB,F,ρ,r,p⟩:=t;refine aO r.ir r.dZ (λe h=>p.gI (r.freeze aj).st (by unfold Bp;rw[h];rfl)) λd hd v F1 H1 m q=>?_;have y:Bp i fk fv ρ=(mr ρ i).bind λks=>(fk ρ).bind λf=>(rp f).bind λk=>if (gS d&&s_ (ks.length<t_))=f_ then .ok (.nx (ρ.set i (a_ (.dic (sU ks k d)))))else .error .stuck:=by unfold Bp;rw[hd];rfl
 rw[y]at p;cases Y:mr ρ i with
 |error e=>have:=wF Y;subst this;exact p.stuck (by rw[Y];rfl)|ok ks=>
  rw[Y]at p;have S:=r.fS m;obtain⟨A,e2,a,xs,ev,⟨ep,s⟩,_,_,z⟩:=S.ow i _ (lB Y) hi;subst ev;refine⟨.ref a,e2,?_⟩
  refine aO S.ir S.dZ (λe h=>p.gI (S.freeze aj).st (by rw[h];rfl)) λf o w B H2 U q2=>?_;rw[o]at p;have p:eQ K W ro F0 H0 FB OL O D ((rp f).bind λk=>if (gS d&&s_ _)=f_ then .ok _ else .error .stuck):=p;cases J:rp f with
  |error e=>have:=nU J;subst this;exact p.stuck (by rw[J];rfl)|ok k=>
   rw[J]at p;have p:eQ K W ro F0 H0 FB OL O D (if (gS d&&s_ _)=f_ then .ok _ else .error .stuck):=p;by_cases c:(gS d&&s_ (ks.length<t_))=f_
   .rw[p_ c]at p;simp at c;obtain⟨b,rfl,t⟩:=tO J q2;have g:=S.fS U;have n:=bc.flat (r.kg m) c.1 q;have j:=z.mono (S.eW U);have l:=S.kg U b _ t;exact⟨a,b,k,xs,ep,rfl,rfl,U.hh _ _ s,j.key.mono g.st.fh,g.st.fh.tup l,by rw[z.length];exact c.2,λep'=>p σ _ _ (g.ze hi (lB Y) rfl e2 λx u=>⟨a,_,rfl,⟨ep',aq⟩,x,u,j.put l (n.mono (S.eW U))⟩)⟩
   .rw[q_ c]at p;exact p.stuck rfl
theorem rd_getD(h:tD K W c_ (qt fd fk fx) σ H Q):tGet2 K (tD K W c_ fd) (tD K W c_ fk) (tD K W c_ fx) σ H Q:=by
 obtain⟨F,ρ,r,s,p⟩:=h;refine aO r s (λe f=>p.err (by simp_all[qt])) λd hd x F1 H1 Y q1=>?_;have A:qt fd fk fx ρ=if qq d=f_ then(fk ρ).bind λk=>(fx ρ).bind λx=>getDD d k x else stk:=by unfold qt;rw[hd];rfl
 rw[A]at p;cases d with
 |dic ks=>
  obtain⟨a,xs,e,⟨ep,l⟩,z⟩:=q1;refine⟨a,xs,ep,e,Y.fh _ _ l,?_⟩
  refine aO (r.mono Y.ff) Y.fh (λe f=>(p.step Y).err (by rw[f];rfl)) λj o y C H2 g q2=>?_;rw[o]at p;have J:=Y.trans g;refine aO (r.mono J.ff) J.fh (λe f=>(p.step J).err (by rw[f];rfl)) λc u w m B U n=>?_;rw[u]at p;have p:aJ K W c_ F H ((rp j).bind λk=>.ok _) Q:=p;cases S:rp j with
  |error e=>rw[S]at p;have:=nU S;subst this;exact aJ.stuck p|ok k=>
   rw[S]at p;obtain⟨b,rfl,t⟩:=tO S q2;have i:=(z.mono g.ff).mono U.ff;refine⟨b,k,rfl,U.hh _ _ (g.hh _ _ (Y.fh _ _ l)),i.key.mono U.fh,U.fh.tup (U.ff.tup t),p _ m B (J.trans U) ?_⟩
   show bc K m _ _;rcases i.at with⟨e1,e2⟩|⟨d,v,e1,e2,q⟩
   .rw[e1,e2];exact n
   simp_all
 |_=>exact aJ.stuck p
end
section
variable{W:cP}{o:GI}{fd fx:ah->M A'}
def EO:DE K W f_ X (.Dict [] [] pos) (fC (.dic [])):=pe_newK.imp λσ H Q h=>by obtain⟨F,ρ,r,s,q⟩:=h;exact λa J=>q _ F _ (Step.grow s J) ⟨a,[],rfl,⟨0,aq⟩,s.free J,J,rfl⟩
theorem ud(d:X.A.units+64<GB)(S:DE K W c_ X o fd)(a:DE K W c_ X ek fk)(Y:DE K W c_ X ex fx)(c: ~~~(X.K=K))(b: ~~~(HV o "get" X.env (FL o X.env)=FL o X.env))(hw: ~~~(((GG cpos (j_ [ek,ex] X.env)).all (λx=> !x.1)&&(JX cpos (IG [] X.env)).all (λx=>x.1.isSome)&&s_ (([ek,ex]:List GI).length+([]:List JV).length+(if ([]:List JV).isEmpty then 0 else 1)<30))=f_))(U: ~~~((apos.endLine==cpos.line)=f_))(J: ~~~(GG cpos (j_ [ek,ex] X.env)=[(c_,FL ek X.env),(c_,FL ex X.env)])):DE K W c_ X (.Call (.Attribute o "get" apos) [ek,ex] [] cpos) (qt fd fk fx):=by subst c;exact(pe_get2 ad S a Y ⟨b,hw,U,J⟩).imp λ_ _ _=>rd_getD
theorem ds_putD(d:X.A.units+64<GB)(Y:DE K W c_ X ek fk)(a:DE K W c_ X ev fv)(U:(i∈O)⁻¹)(b: ~~~(X.N[i]?=a_ x))(hv:autoParam (Vis X.env.scope x) Jq5)(hd:((x==("__debug__":FU))=c_)⁻¹)(J:((x==("__classdict__":FU))=c_)⁻¹)(c: ~~~(X.K=K))(S: ~~~(G0 ev (a_ (.Subscript (.Name x p) ek pos')) pos.line X.env=G2 c_)):DS K W ro X OL O O (.Assign [.Subscript (.Name x p) ek pos'] ev pos) (Bp i fk fv):=λF0 H0=>by subst c;exact PS.imp (ps_put ad (pv i b hv hd J) Y a S) λ_ _ _=>rs_putD U
end
def tDisp1(K:Pn)(ty tv:TE):TE:=λσ H Q=>∀p,H p=g_->CO [(ty,tv)] σ (upd H p (sj p [] 0)) λps H2=>∃b k v,ps=[(.ref b,v)]/\H2 p=a_ (sj p [] 0)/\SqT K H2 b (k.map V.int)/\∀ep,Q (.ref p) (upd H2 p (sj p [(k,b,v)] ep))
section
variable{f:GI}{ty:TE}
def pe_disp1(j:X.A.units<GB)(m:PE X e ty)(hv:PE X f tv):PE X (.Dict [a_ e] [f] pos) (tDisp1 X.K ty tv):=by
 intro B2 s σ H Q I q;have n:=I.laid (t':=s.toks) (λ_ _ q=>d_ _ q) (o_ _) (yH (wD s.heap I.big));refine wpAny_Dict_any rfl rfl aj aj (B' (pps_cons m hv pps_nil B2 _ σ _ _ n (q _ (I.hok.fresh (o_ s.z)))) λo u l=>?_);obtain⟨ps,H2,Y,J,b,k,v,ep,e2,t,q2⟩:=l;subst ep;cases J with
 |@cons x y xs ys r d=>cases d;obtain⟨a,p⟩:=y;obtain⟨g,c⟩:=r;cases(show a=D_ b from g);obtain⟨vs,h,hd,w,dd⟩:=EM Y e2 (λx i=>nomatch i);cases h;unfold storeAll;rw[Ph];refine b_ (b_ (wpAny_dictSet_heap j (sy Y t) dd λh' U S=>e_ ?_));show r_ _ _ (forIn [] PUnit.unit _) _ _ _;obtain⟨ep',z⟩:=As U (nO c .nil) hd (Gg (oQ _ _ _ _) (show 1<=t_ by decide));exact e_ ⟨.ref s.z,_,Y.dic e2 S z,rfl,q2 ep'⟩
end
def mkD1(J d:A'):M A':=(rp J).bind λk=>.ok (.dic [(k,d)])
theorem de_disp1{W:cP}{f:GI}(u:X.A.units+64<GB)(Y:DE K W c_ X e fa)(n:DE K W c_ X f fb)(q: ~~~(X.K=K)):DE K W f_ X (.Dict [a_ e] [f] pos) (f2 mkD1 fa fb):=by
 subst q;exact(pe_disp1 ad Y n).imp λ_ H _=>by
   intro h;obtain⟨F,ρ,r,s,p⟩:=h;intro a Y;have g:Step F H F (upd H a (sj a [] 0)):=Step.grow s Y;refine aO r g.fh (λe i=>(p.step g).err (by unfold f2;rw[i];rfl)) λl m x F1 H1 S q1=>?_;refine aO (r.mono S.ff) S.fh (λe i=>(p.step (g.trans S)).err (by unfold f2;rw[m];rw[i];rfl)) λd hd v j H2 J q2=>?_;have e:f2 mkD1 fa fb ρ=(rp l).bind λk=>.ok (.dic [(k,d)]):=by unfold f2;rw[m];rw[hd];rfl
   rw[e]at p;cases U:rp l with
   |error e=>rw[U]at p;have:=nU U;subst this;exact aJ.stuck p|ok k=>
    rw[U]at p;obtain⟨b,rfl,t⟩:=tO U q1;have f2:j a=g_:=by
     cases e2:j a with
     |none=>rfl|some o=>
      rcases J.nw a o e2 with z|z
      .rcases S.nw a o z with z|z
       .rw[s.free Y]at z;cases z
       .rw[aq]at z;cases z
      .rw[S.hh _ _ aq]at z;cases z
    refine⟨b,k,v,rfl,(J.hh _ _ (S.hh _ _ aq)),J.fh.tup (J.ff.tup t),λep=>p _ j _ ⟨S.ff.trans J.ff,λc o z=>?_,λc o z=>?_,λc o z=>?_⟩ ⟨a,_,rfl,⟨ep,aq⟩,f2,Y,b,v,[],rfl,J.ff.tup t,q2,rfl⟩⟩
    .rw[aw (aL z Y)];exact J.hh _ _ (S.hh _ _ (by rw[aw (aL z Y)];exact z))
    .rw[aw (aL z f2)];exact J.fh _ _ z
    .exact(g.trans (S.trans J)).nw c o z
def uN(h:FX)(d:k_)(es:Array G5)(ep:Nat):Prop:=∃o,h.get? d=a_ o/\o.ExactDict/\o.data=.dict es ep
def uN.ty{s:i_}{d:k_}{es:Array G5}(z:uN s.heap d es ep):s.TypeIs (.ref d) "dict":=let ⟨o,h,c,_⟩:=z;⟨o,h,c.1⟩
def uN.at{d:k_}{es:Array G5}(z:uN h d es ep)(e:∀o,h.get? d=a_ o->h'.get? d=a_ o):uN h' d es ep:=let ⟨o,h,c⟩:=z;⟨o,e o h,c⟩
section
variable{s:i_}{d v q:k_}{es:Array G5}
def BI(d:k_)(es:Array G5)(ep:Nat)(hd:(d==HG)=c_):MeetsIn prog w (Builtin.«dict.values» ⟨[.ref d],[]⟩) (λ_ R s=>uN s.heap d es ep/\R (.ok (.ret (.ref s.heap.objs.size))) {s with heap:=s.heap.push {cls:=.type "dict_values",data:=.fields #[.ref d]}}):=
 .of_wp λA R s ⟨z,h⟩=>by
  have J:Im d=G2 ():=by unfold Im;rw[hd];rfl
  refine b_ ?_;refine b_ (OI z.ty ?_);refine e_ ?_;rw[J];exact b_ (e_ (b_ (FP (e_ ⟨_,rfl,h⟩))))
theorem BR{Q:Mq}(hv:s.heap.IsValuesView v d)(z:uN s.heap d es ep)(k:Q (.ref s.heap.objs.size) {s with heap:=s.heap.push {cls:=.type "dict_valueiterator",data:=.fields #[.ref d,.int 0 0,.int es.size 0,.int ep 0]}}):r_ (x_ prog w) A (MD (.ref v)) Q E s:=by obtain⟨b,Y,a,U⟩:=id hv;obtain⟨od,S,c,J⟩:=z;refine KC hv.typeIs LG (FO LG hv.typeIs PySem.F.entry_dict_values_iter ?_ (PySem.F.args_dict_values_iter_1 _));refine b_ (e_ (b_ ?_));refine b_ (GQ Y U rfl (e_ (b_ ?_)));refine b_ (IV S J (b_ (Jp S J ?_)));simp only[show OS "dict_valueiterator"=c_ by decide,Ho,LN];exact FP (e_ ⟨_,rfl,"dict_valueiterator",_,⟨_,l_ _ rfl,rfl⟩,GV.lookup,by simp_all[Hg]⟩)
theorem BG{e:G5}(J:s.heap.IsValIter q d i es.size ep)(z:uN s.heap d es ep)(c:es[i]?=a_ e)(k:∀h',h'.IsValIter q d (i+1) es.size ep->Hd q s.heap h'->Q (a_ e.val) {s with heap:=h'}):r_ (x_ prog w) A (Km (.ref q)) Q E s:=by
 obtain⟨f,q1,q2,S⟩:=id J;obtain⟨od,b,g,a⟩:=z;refine b_ (Hy (F_ J.typeIs GV (FO GV J.typeIs KQ ?_ (KO _))));refine b_ (e_ (b_ (b_ (b_ (IE J.typeIs (e_ ?_))))));refine b_ (Iz q1 S ?_);show r_ _ _ (if (D_ d==GR)=f_ then _ else _) _ _ s;refine b_ (e_ (b_ (IV b a ?_)));rw[q_ aj];refine b_ (e_ (b_ (Jp b a ?_)));rw[q_ aj];refine e_ ?_;simp[Hh,c];refine b_ (b_ (IE J.typeIs (e_ (b_ (Lk J.typeIs ?_)))));show r_ _ _ (Lv _ 1 _ >>= _) _ _ s;refine b_ (Gz q1 S aj ?_);have Y:(s.heap.update q (Ht (·.setIfInBounds 1 (Hg (i+1))))).IsValIter q d (i+1) es.size ep:=⟨_,FV _ q1 (HW (G7 S _)),(Ke ..).trans q2,by simp_all[G7,Hg]⟩
 have U:J6 {s with heap:=s.heap.update q _} _ "dict_valueiterator":=Y.typeIs;refine b_ (Gq (b_ (Lk U (b_ (Lk U ?_)))));exact e_ (e_ ⟨_,rfl,e_ (k _ Y (Gb ..))⟩)
def EB(a:A.handled=g_)(J:s.heap.IsValIter q d i es.size ep)(z:uN s.heap d es ep)(b:es.size<=i)(k:∀h',GJ q s.heap h'->Q g_ {s with heap:=h'}):r_ (x_ prog w) A (Km (.ref q)) Q E s:=by
 obtain⟨c,q1,q2,S⟩:=id J;obtain⟨od,Y,e,U⟩:=z;refine b_ (Hy (F_ J.typeIs GV (FO GV J.typeIs KQ ?_ (KO _))));refine b_ (e_ (b_ (b_ (b_ (IE J.typeIs (e_ ?_))))));refine b_ (Iz q1 S ?_);show r_ _ _ (if (D_ d==GR)=f_ then _ else _) _ _ s;refine b_ (e_ (b_ (IV Y U ?_)));rw[q_ aj];refine b_ (e_ (b_ (Jp Y U ?_)));rw[q_ aj];refine e_ ?_;simp[Hh,HE b];refine b_ (b_ (IE J.typeIs (e_ ?_)));show r_ _ _ (Lv _ 0 .none >>= _) _ _ s;refine b_ (Gz q1 S aj ?_);refine b_ ?_;refine b_ (FP (b_ (Ij (by rfl) (FP ?_ (by size_fits)))) (by size_fits));refine b_ (KJ ?_);first|rw[a]
 refine b_ (e_ (Lq ?_));refine b_ (Ha ⟨_,l_ _ rfl,rfl⟩ Kn ?_);exact e_ (k _ (((Gb ..).extBut.push _).push _))
end
noncomputable def VwO(T:String)(p d:k_):HO:=.ext λh=>∃o,h.get? p=a_ o/\o.cls=.type T/\o.data=.fields #[.ref d]
def vw_obj{p d:k_}(z:∃o,h.get? p=a_ o/\o.cls=.type T/\o.data=.fields #[.ref d]):dq H h p (VwO T p d):=⟨z,let ⟨o,e,_⟩:=z;⟨o,e⟩,λ_ _ ⟨o,e,r⟩ k=>⟨o,k o e,r⟩⟩
def tView(T:String)(td:TE):TE:=λσ H Q=>td σ H λx H1=>∃a xs ep,x=.ref a/\H1 a=a_ (sj a xs ep)/\∀p,H1 p=g_->Q (.ref p) (upd H1 p (VwO T p a))
def rSumV:a0->Hp->VK->Prop:=λvs H Q=>∃(p a:k_) (xs:List jZ) (ep:Nat) (J:aG),vs=[.ref p]/\H p=a_ (VwO "dict_values" p a)/\H a=a_ (sj a xs ep)/\xs.map (·.2.2)=J.map V.int/\Q (.int J.sum) H
theorem D9:∀{xs:List jZ} {vs:List (aG×k_×h_)} {i:Nat} {e:G5},JR jH xs vs->(vs.map rowE)[i]?=a_ e->∃x,xs[i]?=a_ x/\e.key=.ref x.2.1/\B5 x.2.2 e.val
 |_,_,_,_,.nil,h=>by simp at h|x::_,q::_,0,e,.cons r _,h=>by simp at h;subst h;exact⟨x,rfl,by rw[r.2.1];rfl,r.2.2⟩|_::_,_::_,i+1,e,.cons _ t,h=>by
  obtain⟨x,h1,J⟩:=D9 (i:=i) (e:=e) t am
  simp_all
theorem pre_sum:∀J:aG,preSum (λi=>(J[i]?).getD 0) J.length=J.sum:=by
 have key:∀(J:aG) (n:Nat),n<=J.length->preSum (λi=>(J[i]?).getD 0) n=(J.take n).sum:=by
  intro J n
  induction n with
  |zero=>intro _;rfl|succ n S=>intro h;rw[preSum,S (Nat.le_of_succ_le h),Pu,List.sum_append];simp[y_ h]
 simp_all
theorem B8(U:A.handled=g_)(q d:k_)(J:d≠q)(es:Array G5)(ep:Nat):Nq prog w A q [q,d] [q] es.size (λi v=>∃e,es[i]?=a_ e/\v=e.val) (λi h=>h.IsValIter q d i es.size ep/\uN h d es ep) where
 sub:=λb Y=>by simp_all
 frame:=λ_ _ _ st k=>⟨let ⟨o,e,r⟩:=st.1;⟨o,k q aj o e,r⟩,st.2.at λo e=>k d aj o e⟩
 item:=λi s Q E hi st k=>BG st.1 st.2 (e:=es[i]) aj λh' z b=>k _ h' s.toks ⟨_,aj,rfl⟩ ⟨z,st.2.at λo e=>(b.2 d J).trans e⟩ λc o S e=>b.extBut c o (λz=>S (by simp[z])) e
 done:=λs Q E st k=>EB U st.1 st.2 (o_ _) λh' b=>k h' s.toks λc o S e=>b c o (λz=>S (by simp[z])) e
 self:=λ_ _ _ _ st k=>wpAny_pyIter_valiter st.1 k
section
variable{s:i_}{xs:List jZ}{o:GI}
def raw_of(I:B3 X B2 σ H s)(e:H a=a_ (sj a xs ep)):∃(vs:List (aG×k_×h_)) (es:Array G5),JR jH xs vs/\(a==HG)=c_/\xs.length<=t_/\uN s.heap a es ep/\es.toList=vs.map rowE/\es.size=xs.length:=by obtain⟨vs,r,hd,S,b,u,es,h1,Y,U,J⟩:=EL I e;exact⟨vs,es,r,hd,S,⟨u,h1,Y,U⟩,J,by rw[<- Ge,J,w_,Mw r]⟩
def pe_vals(d:PE X o td)(f: ~~~(HV o "values" X.env (FL o X.env)=FL o X.env))(e: ~~~((apos.endLine==cpos.line)=f_)):PE X (.Call (.Attribute o "values" apos) [] [] cpos) (tView "dict_values" td):=by
 intro B2 s σ H Q I h;refine wpAny_Call_method0_late f e (B' (d B2 s σ H _ I h) λv Y c=>?_);obtain⟨x,H1,J,b,a,xs,ep,ex,ea,q1⟩:=c;subst ex;cases(show v=D_ a from b);obtain⟨S,U⟩:=dic_ty J ea;obtain⟨vs,es,_,hd,_,z,_⟩:=raw_of J ea;exact⟨"dict","dict.values",My,Mn,PySem.F.type_dict_values,S,U,Kz rfl (PySem.evalArgs_none (call_meetsIn Mn S PySem.F.entry_dict_values (PySem.F.args_dict_values_1 _) (BI a es ep hd)
  ⟨z,.ref Y.z,_,J.laid (λ_ _ q=>d_ _ q) (o_ _) (vw_obj ⟨_,l_ _ rfl,rfl,rfl⟩),rfl,q1 _ (J.hok.fresh (o_ _))⟩))⟩
theorem Fd(y:X.calm=f_):du X (.builtin "sum") rSumV:=by
 intro B2 s σ H vs us Q I r h;obtain⟨p,a,xs,ep,S,rfl,m,C,hi,q⟩:=h;obtain⟨u,rfl,d⟩:=r.one;cases(show u=D_ p from d);obtain⟨vs,es,g,hd,G,z,w,hsz⟩:=raw_of I C;have l:=let ⟨o,e,_⟩:=z;m_ e;have n:S.length=es.size:=by rw[hsz,<- w_ (f:=λx:jZ=>x.2.2),hi,w_]
 refine P6 (BR ((show(∃o,s.heap.get? p=a_ o/\o.cls=.type "dict_values"/\o.data=.fields #[.ref a])/\_ from I.hok p _ m).1) z ⟨_,_,_,_,_,_,_,λi=>(S[i]?).getD 0,rfl,(B8 (A:=X.A.in1) (I.ok.hd y) s.z a (E_ l) es ep).toS,⟨⟨_,l_ _ rfl,rfl,rfl⟩,z.at λo e=>d_ _ e⟩,λb B=>?_,λi v D=>?_,λs' t' J=>?_⟩)
 .rw[Gi]
  grind
 .obtain⟨e,h1,rfl⟩:=D;obtain⟨x,F,_,Y⟩:=D9 g (by rw[<- w];simpa using h1);have U:(xs.map (·.2.2))[i]?=a_ x.2.2:=by rw[FY,F];rfl
  rw[hi,FY]at U;cases E:S[i]? with
  |none=>simp_all|some j=>
   rw[E]at U;have e4:=by simpa using U
   rw[<- e4]at Y;obtain⟨t,e⟩:=(show ∃t,e.val=Je j t from Y)
   simp_all
 .obtain⟨h',g',K,c,k⟩:=s';have e1:=J.gens;have e2:=J.drawn;have e3:=J.os;subst e1 e2 e3;refine⟨.int _,H,I.kept λb o e=>J.heap b o (λB=>?_) (d_ _ e),⟨t',rfl⟩,?_⟩
  .exact FN (m_ e) as
  .rw[<- n,pre_sum];exact q
end
def CT:A'->M A'
 |.dic ks=>(bj (ks.map (·.2))).bind λJ=>.ok (.int J.sum)|_=>stk
theorem dg.vals{K:Pn}{F:Hp}:∀{ks:List (aG×A')} {xs:List jZ},dg K F ks xs->ay K F (ks.map (·.2)) (xs.map (·.2.2))
 |[],_,h=>by rw[show _=[]from h];rfl|(k,d)::ks,_,⟨b,v,r,e,t,q,z⟩=>by subst e;exact⟨v,_,rfl,q,dg.vals z⟩
section
variable{W:cP}{fd:ah->M A'}
theorem rd_sumV{Q:VK}(h:tD K W c_ (f1 CT fd) σ H Q):tCB rSumV (ni (tView "dict_values" (tD K W c_ fd)) tNil) σ H Q:=by
 obtain⟨F,ρ,r,s,p⟩:=h;refine aO r s (λe b=>p.err (by simp_all[f1])) λd hd x F1 H1 J q1=>?_;have z:f1 CT fd ρ=CT d:=by unfold f1;rw[hd];rfl
 rw[z]at p;cases d with
 |dic ks=>
  obtain⟨a,xs,e,⟨ep,S⟩,Y⟩:=q1;have p:aJ K W c_ F H ((bj _).bind λU=>.ok _) Q:=p;cases hi:bj _ with
  |error e=>rw[hi]at p;have:=ee hi;subst this;exact aJ.stuck p|ok U=>rw[hi]at p;exact⟨a,xs,ep,e,J.fh _ _ S,λv hv=>⟨v,a,xs,ep,U,rfl,aq,by rw[aw (aL (J.fh _ _ S) hv)];exact J.fh _ _ S,cS Y.vals hi,p _ F1 _ (J.trans (Step.grow J.fh hv)) rfl⟩⟩
 |_=>exact aJ.stuck p
end
section
variable{W:cP}{o:GI}{fd:ah->M A'}
def de_sumV(c:X.calm=f_)(Y:X.mg "sum"=g_)(a:DE K W c_ X o fd)(d: ~~~(HV o "values" X.env (FL o X.env)=FL o X.env))(U: ~~~((apos.endLine==cpos.line)=f_))(b: ~~~(Gl X "sum"))(J: ~~~(j_ [.Call (.Attribute o "values" apos) [] [] cpos] X.env=(c_,FL (.Call (.Attribute o "values" apos) [] [] cpos) X.env)::j_ [] X.env))(S: ~~~((GG pos (j_ [] X.env)).any (·.1)=c_)):
  DE K W c_ X (.Call (.Name "sum" p) [.Call (.Attribute o "values" apos) [] [] cpos] [] pos) (f1 CT fd):=
 (gV (Fd c) b Y boot_sum (aR (pe_vals a d U) cA J) al al J S).imp λ_ _ _=>rd_sumV
end
section
variable{fd fx:ah->M A'}
@[simp]def e_getD:qt fd fk fx ρ=(fd ρ).bind λd=>if qq d=f_ then(fk ρ).bind λk=>(fx ρ).bind λx=>getDD d k x else stk:=id rfl
@[simp]def e_getDD(ks:List (aG×A'))(J x:A'):getDD (.dic ks) J x=(rp J).bind λk=>.ok ((BW ks k).getD x):=id rfl
end
section
open PySem
variable[ID κ]
end
section
open PySem
variable[ID κ]
end
section
variable{s:i_}{d q:k_}{es:Array G5}
theorem BS{Q:Mq}(hd:(d==HG)=c_)(z:uN s.heap d es ep)(k:Q (.ref s.heap.objs.size) {s with heap:=s.heap.push {cls:=.type "dict_keyiterator",data:=.fields #[.ref d,.int 0 0,.int es.size 0,.int ep 0]}}):r_ (x_ prog w) A (MD (.ref d)) Q E s:=by
 have ty:=z.ty;have U:Im d=G2 ():=by unfold Im;rw[hd];rfl
 obtain⟨od,S,Y,J⟩:=z;refine KC ty MK (FO MK ty PySem.F.entry_dict_iter ?_ (PySem.F.args_dict_iter_1 _));refine b_ ?_;refine b_ (OI ty ?_);refine e_ ?_;show r_ _ _ (Im d >>= _) _ _ s;rw[U];refine b_ (e_ (b_ (IV S J (b_ (Jp S J ?_)))));exact b_ (FP (e_ ⟨_,rfl,"dict_keyiterator",_,⟨_,l_ _ rfl,rfl⟩,G1.lookup,by simp_all[Hg]⟩))
theorem BH{e:G5}(J:s.heap.IsKeyIter q d i es.size ep)(z:uN s.heap d es ep)(b:es[i]?=a_ e)(k:∀h',h'.IsKeyIter q d (i+1) es.size ep->Hd q s.heap h'->Q (a_ e.key) {s with heap:=h'}):r_ (x_ prog w) A (Km (.ref q)) Q E s:=by
 obtain⟨c,q1,q2,S⟩:=id J;obtain⟨od,a,f,Y⟩:=z;refine b_ (Hy (F_ J.typeIs G1 (FO G1 J.typeIs K4 ?_ (K0 _))));refine b_ (e_ (b_ (b_ (b_ (IF J.typeIs (e_ ?_))))));refine b_ (Iz q1 S ?_);show r_ _ _ (if (D_ d==GR)=f_ then _ else _) _ _ s;refine b_ (e_ (b_ (IV a Y ?_)));rw[q_ aj];refine b_ (e_ (b_ (Jp a Y ?_)));rw[q_ aj];refine e_ ?_;simp[Hh,b];refine b_ (b_ (IF J.typeIs (e_ (b_ (OJ J.typeIs ?_)))));show r_ _ _ (Lv _ 1 _ >>= _) _ _ s;refine b_ (Gz q1 S aj ?_);have U:(s.heap.update q (Ht (·.setIfInBounds 1 (Hg (i+1))))).IsKeyIter q d (i+1) es.size ep:=⟨_,FV _ q1 (HW (G7 S _)),(Ke ..).trans q2,by simp_all[G7,Hg]⟩
 refine b_ (Gq (b_ (OJ U.typeIs ?_)));exact e_ (e_ ⟨_,rfl,e_ (k _ U (Gb ..))⟩)
def EC(a:A.handled=g_)(J:s.heap.IsKeyIter q d i es.size ep)(z:uN s.heap d es ep)(b:es.size<=i)(k:∀h',GJ q s.heap h'->Q g_ {s with heap:=h'}):r_ (x_ prog w) A (Km (.ref q)) Q E s:=by
 obtain⟨c,q1,q2,S⟩:=id J;obtain⟨od,Y,e,U⟩:=z;refine b_ (Hy (F_ J.typeIs G1 (FO G1 J.typeIs K4 ?_ (K0 _))));refine b_ (e_ (b_ (b_ (b_ (IF J.typeIs (e_ ?_))))));refine b_ (Iz q1 S ?_);show r_ _ _ (if (D_ d==GR)=f_ then _ else _) _ _ s;refine b_ (e_ (b_ (IV Y U ?_)));rw[q_ aj];refine b_ (e_ (b_ (Jp Y U ?_)));rw[q_ aj];refine e_ ?_;simp[Hh,HE b];refine b_ (b_ (IF J.typeIs (e_ ?_)));show r_ _ _ (Lv _ 0 .none >>= _) _ _ s;refine b_ (Gz q1 S aj ?_);refine b_ ?_;refine b_ (FP (b_ (Ij (by rfl) (FP ?_ (by size_fits)))) (by size_fits));refine b_ (KJ ?_);first|rw[a]
 refine b_ (e_ (Lq ?_));refine b_ (Ha ⟨_,l_ _ rfl,rfl⟩ Kn ?_);exact e_ (k _ (((Gb ..).extBut.push _).push _))
end
section
open PySem.W hiding kindOf
end
section
open PySem SetTable
end
section
open PySem
end
section
open PySem SetTable
end
section
open PySem.W
end
section
open PySem
structure IK(prog:Gf)(w:GS)(κ:Type)[ID κ] where
 is:FX->κ->h_->Prop
 hash:κ->Int
 draws:κ->Nat
 up:Nat
 fuel:Nat
 inj:∀{h:FX} {v:h_} {x y:κ},is h x v->is h y v->x=y
 keeps:∀{h h':FX} {k:κ} {v:h_},is h k v->(∀(a:k_) (o:JM) (us:Array h_) (n:Nat),h.get? a=a_ o->o.data=.seq us n->h'.get? a=a_ o)->is h' k v
 pyHash:∀{A:G8} {E:Mq} {s:i_} {k:κ} {v:h_} {Q:Int->i_->Prop},A.units+up<GB->is s.heap k v->Q (hash k) {s with toks:=s.toks+draws k}->r_ (x_ prog w) A (Lx v) Q E s
 eqBool:∀{A:G8} {E:Mq} {s:i_} {x y:κ} {u v:h_} {Q:Bool->i_->Prop},A.units+up<GB->is s.heap x u->is s.heap y v->Q (s_ (x=y)) s->r_ (x_ prog w) A (JP u v) Q E s
 quiet:∀{A:G8} {E:Mq} {s:i_} {k:κ} {v:h_} {Q:Bool->i_->Prop} (n:Nat),fuel<=n->is s.heap k v->Q f_ s->r_ (x_ prog w) A (N_ n v) Q E s
variable{s:i_}
def TupAt(h:FX)(a:k_)(us:aH):Prop:=∃o n,h.get? a=a_ o/\o.cls=.type "tuple"/\o.data=.seq us.toArray n
def TupAt.ty(h:TupAt s.heap a us):s.TypeIs (.ref a) "tuple":=let ⟨o,_,J,S,_⟩:=h;⟨o,J,S⟩
theorem TupAt.inj(x:TupAt h a us)(y:TupAt h a vs):us=vs:=by
 obtain⟨o,n,Y,_,hd⟩:=x;obtain⟨o',U,J,_,S⟩:=y
 simp_all
def TupAt.keep(x:TupAt h a us)(k:∀(a:k_) (o:JM) (us:Array h_) (n:Nat),h.get? a=a_ o->o.data=.seq us n->h'.get? a=a_ o):TupAt h' a us:=
 let ⟨o,n,J,S,hd⟩:=x;⟨o,n,k _ _ _ _ J hd,S,hd⟩
inductive Hs(prog:Gf)(w:GS)(A:G8)(h:FX):List h_->List Int->Nat->Prop
 |nil:Hs prog w A h [] [] 0
 |cons {v:h_} {vs:List h_} {i:Int} {is:List Int} {d n:Nat} (hv:∀(E:Mq) (s:i_) (Q:Int->i_->Prop),s.heap=h->Q i {s with toks:=s.toks+d}->r_ (x_ prog w) A (Lx v) Q E s) (r:Hs prog w A h vs is n):Hs prog w A h (v::vs) (i::is) (d+n)
theorem Ag{S:aG}{Q:Int->i_->Prop}(p:A.units<GB)(g:TupAt s.heap a us)(hi:Hs prog w A.in1 s.heap us S n)(h:Q (Kl (FW S)) {s with toks:=s.toks+(n+1)}):
  r_ (x_ prog w) A (Lx (.ref a)) Q E s:=by
 have U:=g.ty;obtain⟨o,m,q,_,hd⟩:=g;unfold Lx
 first|unfold pyHashByItsType|skip
 first|refine b_ (wpAny_cRoomFor_or (.inr p) ?_)|skip
 refine b_ (Jn U Kr.lookup ?_);show r_ _ _ (ite ((a_ (Value.builtin "tuple.__hash__")==a_ GR)=f_) _ _) Q E s;rw[q_ aj];refine b_ (Jn U Kr.lookup ?_);show r_ _ _ (callSpecialIfBoundUnlessNone? (.ref a) "__hash__" _ >>= _) Q E s;refine b_ (wpAny_callSpecialIfBoundUnlessNone?_slot U Kr (FO Kr U F.entry_tuple_hash ?_ (F.args_tuple_hash_1 _)));show r_ _ _ (Lm (.ref a) >>= _) _ _ s;refine b_ (Jt q hd ?_);refine b_ ?_;rw[<- N6];refine KW _ (λrest (b:Array Int) s'=>∃J m k,Hs prog w A.in1 s.heap rest J m/\b.toList++J=S/\k+m=n/\s'={s with toks:=s.toks+k}) _ ?_ ?_ _ _ ⟨S,n,0,hi,rfl,ad,rfl⟩
 .rintro x rest b s' ⟨J,m,k,c,f,t,rfl⟩;cases c with
  |@cons _ _ i Y d l hv r=>refine b_ (hv _ _ _ rfl (e_ ⟨Y,l,k+d,r,as,ad,?_⟩));simp[M8]
 .rintro b s' ⟨J,m,k,c,f,t,rfl⟩;cases c;rw[HB]at f;have e:k=n:=ad
  subst e;show r_ _ _ (retInt (FW b.toList)) _ _ _;rw[f];refine wpAny_ret_mkInt ?_;refine(?_:r_ _ _ (ite ((s_ (-(2:Int)^63<=FW S)&&s_ (FW S<2^63))=f_) _ _) Q E _)
  unfold Kl at h;by_cases j:(s_ (-(2:Int)^63<=FW S)&&s_ (FW S<2^63))=f_
  .rw[p_ j]at h ⊢;exact e_ (by simp_all[M8])
  .rw[q_ j]at h ⊢;exact b_ (II (e_ (by simpa[M8] using h)))
inductive Es(prog:Gf)(w:GS)(A:G8)(h:FX):List h_->List h_->Bool->Prop
 |nil {us vs:List h_} (e:us=[]\/vs=[]):Es prog w A h us vs f_
 |cons {u v:h_} {us vs:List h_} {b c:Bool} (hv:∀(E:Mq) (s:i_) (Q:Bool->i_->Prop),s.heap=h->Q b s->r_ (x_ prog w) A (JP u v) Q E s) (r:Es prog w A h us vs c):Es prog w A h (u::us) (v::vs) (b&&c)
theorem yC{c:Bool}{P:N2->i_->Prop}(t:TupAt s.heap a us)(o:TupAt s.heap b vs)(z:Es prog w A s.heap us vs c)(h:P (.done (.ret (.bool (c&&us.length==vs.length)))) s):
  r_ (x_ prog w) A (Builtin.«tuple.__eq__» ⟨[.ref a,.ref b],[]⟩) P E s:=by
 have l:=o.ty;obtain⟨H,K,i,_,k⟩:=t;obtain⟨G,I,g,_,j⟩:=o;show r_ _ _ (PH _ _ >>= _) _ _ s;refine b_ (Ha l Ll ?_);refine b_ (Jt i k (b_ (Jt g j (b_ ?_))));refine KW _ (λrest r s'=>r.1=g_/\s'=s/\∃S J Y,rest=List.zip S J/\Es prog w A s.heap S J Y/\Y=c) _ ?_ ?_ _ _ ⟨rfl,rfl,us,vs,c,aj,z,rfl⟩
 .rintro⟨u,v⟩ rest r s' ⟨p,rfl,S,J,Y,n,U,q⟩;cases U with
  |nil e=>
   rcases e with e|e
   .simp_all
   simp_all
  |@cons D C f d b1 B hv m=>
   obtain⟨⟨rfl,rfl⟩,rfl⟩:=n;refine b_ (hv _ _ _ rfl ?_);cases b1 with
   |true=>exact e_ ⟨rfl,rfl,f,d,B,rfl,m,as⟩|false=>
    have y:c=c_:=by rw[<- q];rfl
    rw[y]at h;exact b_ (e_ (e_ (e_ h)))
 .rintro⟨m,F⟩ s' ⟨p,rfl,S,J,Y,n,U,q⟩;subst p;have x:c=f_:=by
   cases U with
   |nil e=>lia|cons _ _=>simp_all
  rw[x]at h;refine e_ ?_;exact h
theorem eq_tup{c:Bool}{Q:Bool->i_->Prop}(Y:A.units<GB)(S:TupAt s.heap a us)(U:TupAt s.heap b vs)(f:Es prog w A.in1 s.heap us vs c)(d:a=b->(c&&us.length==vs.length)=f_)(h:Q (c&&us.length==vs.length) s):
  r_ (x_ prog w) A (JP (.ref a) (.ref b)) Q E s:=by
 unfold JP
 try with_reducible refine Gq ?_
 by_cases J:(D_ a==D_ b)=f_
 .rw[p_ J];rw[d (by have:=Ki J;injection this)]at h;exact b_ (II (e_ h))
 .rw[q_ J];exact b_ (Na S.ty U.ty MJ (FO MJ S.ty F.entry_tuple_eq (yC S U f ⟨_,rfl,(λe=>nomatch e),G3 h⟩) (F.args_tuple_eq_2 _ _)) Y)
theorem vy{Q:Bool->i_->Prop}(n:Nat)(U:TupAt s.heap a us)(c:∀v∈us,∀(E:Mq) (Q:Bool->i_->Prop),Q f_ s->r_ (x_ prog w) A (N_ n v) Q E s)(h:Q f_ s):r_ (x_ prog w) A (N_ (n+1) (.ref a)) Q E s:=by
 have b:=U.ty;obtain⟨o,m,d,_,hd⟩:=U;unfold N_;refine b_ (Jn b MJ.lookup ?_);refine b_ (Ha b Ll ?_);refine b_ (GF d hd (b_ ?_));rw[<- N6];refine KW _ (λrest r s'=>r.1=g_/\s'=s/\∀v∈rest,v∈us) _ ?_ ?_ _ _ ⟨rfl,rfl,λv hv=>by simp_all⟩
 .rintro v rest r s' ⟨Y,rfl,J⟩;refine b_ (c v (J v Hn) _ _ ?_);exact e_ ⟨rfl,rfl,λu S=>J u (Hu _ S)⟩
 .rintro⟨f,e⟩ s' ⟨Y,rfl,_⟩;subst Y;exact e_ h
end
section
open PySem
variable{μ:Type}[ID κ][ID μ]
inductive pW{α β:Type}(R:α->β->Prop):List α->List β->Prop
 |nil:pW R [] []
 |cons {x:α} {y:β} {xs:List α} {ys:List β} (h:R x y) (t:pW R xs ys):pW R (x::xs) (y::ys)
def pW.imp{R S:α->β->Prop}(f:∀x y,R x y->S x y){xs:List α}{ys:List β}(h:pW R xs ys):pW S xs ys:=by
 induction h with
 |nil=>exact .nil|cons h _ J=>exact .cons (f _ _ h) J
theorem pW.mem{R:α->β->Prop}{xs:List α}{ys:List β}(h:pW R xs ys):∀y∈ys,∃x,R x y:=by
 induction h with
 |nil=>simp|cons h _ J=>grind
noncomputable def Af(prog:Gf)(w:GS):IK prog w Int where
 is:=λ_ k v=>∃t,v=.int k t
 hash:=hashInt
 draws:=λ_=>1
 up:=0
 fuel:=0
 inj:=λ⟨t,e⟩ ⟨u,f⟩=>by lia
 keeps:=λh _=>h
 pyHash:=λ_ ⟨t,e⟩ h=>by subst e;exact(HF prog w).pyHash (Nn _ _ _ _) h
 eqBool:=λ_ ⟨t,e⟩ ⟨u,f⟩ h=>by subst e f;exact(HF prog w).eqBool (Nn _ _ _ _) (Nn _ _ _ _) h
 quiet:=λn _ ⟨t,e⟩ h=>by subst e;rw[eqIsQuiet_byValue n rfl];exact e_ h
theorem hs_all(I:IK prog w κ){A:G8}{h:FX}(J:A.units+I.up<GB):∀{ks:List κ} {us:aH},pW (I.is h) ks us->Hs prog w A h us (ks.map I.hash) ((ks.map I.draws).sum)
 |_,_,.nil=>.nil|_,_,.cons q t=>.cons (λE s Q e S=>I.pyHash J as S) (hs_all I J t)
theorem es_all(I:IK prog w κ){A:G8}{h:FX}(S:A.units+I.up<GB):∀{ks J:List κ} {us vs:aH},pW (I.is h) ks us->pW (I.is h) J vs->∃c,Es prog w A h us vs c/\(c&&us.length==vs.length)=s_ (ks=J)
 |_,_,_,_,.nil,.nil=>⟨f_,.nil (.inl rfl),aj⟩|_,_,_,_,.nil,.cons q t=>⟨f_,.nil (.inl rfl),aj⟩|_,_,_,_,.cons q t,.nil=>⟨f_,.nil (.inr rfl),aj⟩|k::ks,l::J,_,_,.cons q t,.cons Y t'=>by
  obtain⟨c,e,a⟩:=es_all I S t t';refine⟨s_ (k=l)&&c,.cons (λE s Q e U=>I.eqBool S as as U) e,?_⟩
  grind
theorem za(I:IK prog w κ){h:FX}:∀{ks J:List κ} {us:aH},pW (I.is h) ks us->pW (I.is h) J us->ks=J
 |_,_,_,.nil,.nil=>rfl|_,_,_,.cons q t,.cons S t'=>by rw[I.inj q S,za I t t']
noncomputable def tupI(I:IK prog w κ):IK prog w (List κ) where
 is:=λh ks v=>∃a us,v=.ref a/\TupAt h a us/\pW (I.is h) ks us
 hash:=λks=>Kl (FW (ks.map I.hash))
 draws:=λks=>(ks.map I.draws).sum+1
 up:=I.up+1
 fuel:=I.fuel+1
 inj:=λ⟨a,us,e,t,q⟩ ⟨b,vs,f,t',J⟩=>by rw[e]at f;cases f;have:=t.inj t';subst this;exact za I q J
 keeps:=λ⟨a,us,e,t,q⟩ k=>⟨a,us,e,t.keep k,q.imp λ_ _ z=>I.keeps z k⟩
 pyHash:=λ{A E s k v Q} Y ⟨a,us,e,t,q⟩ h=>by subst e;exact Ag ad t (hs_all I (A:=A.in1) ad q) h
 eqBool:=λ{A E s x y u v Q} Y ⟨a,us,e,t,q⟩ ⟨b,vs,f,t',J⟩ h=>by subst e f;obtain⟨c,es,U⟩:=es_all I (A:=A.in1) ad q J;rw[<- U]at h;refine eq_tup ad t t' es (λe=>?_) h;subst e;have:=t.inj t';subst this;rw[U,za I q J];simp
 quiet:=λ{A E s k v Q} n g ⟨a,us,e,t,q⟩ h=>by
  subst e;obtain⟨m,rfl⟩:∃m,n=m+1:=⟨n-1,ad⟩
  refine vy m t (λv hv E Q d=>?_) h;obtain⟨k',S⟩:=q.mem v hv;exact I.quiet m ad S d
noncomputable def pairI(I:IK prog w κ)(J:IK prog w μ):IK prog w (κ×μ) where
 is:=λh k v=>∃a Y U,v=.ref a/\TupAt h a [Y,U]/\I.is h k.1 Y/\J.is h k.2 U
 hash:=λk=>Kl (FW [I.hash k.1,J.hash k.2])
 draws:=λk=>I.draws k.1+(J.draws k.2+0)+1
 up:=max I.up J.up+1
 fuel:=max I.fuel J.fuel+1
 inj:=λ{h v x y} ⟨a,Y,U,e,t,q1,q2⟩ ⟨b,d,c,f,t',p1,p2⟩=>by rw[e]at f;cases f;have:=t.inj t';simp only[NQ,and_true]at this;obtain⟨rfl,rfl⟩:=this;exact LI (I.inj q1 p1) (J.inj q2 p2)
 keeps:=λ⟨a,Y,U,e,t,q1,q2⟩ k=>⟨a,Y,U,e,t.keep k,I.keeps q1 k,J.keeps q2 k⟩
 pyHash:=λ{A E s k v Q} i ⟨a,Y,U,e,t,q1,q2⟩ h=>by subst e;exact Ag ad t (.cons (λE s' Q e S=>I.pyHash (A:=A.in1) ad as S) (.cons (λE s' Q e S=>J.pyHash (A:=A.in1) ad as S) .nil)) h
 eqBool:=λ{A E s x y u v Q} i ⟨a,Y,U,e,t,q1,q2⟩ ⟨b,d,c,f,t',p1,p2⟩ h=>by
  subst e f;have g:((s_ (x.1=y.1)&&(s_ (x.2=y.2)&&f_))&&[Y,U].length==[d,c].length)=s_ (x=y):=by obtain⟨p,o⟩:=x;obtain⟨l,j⟩:=y;simp[Prod.mk.injEq]
  rw[<- g]at h;refine eq_tup ad t t' (.cons (λE s' Q e S=>I.eqBool (A:=A.in1) (by show A.units+1+I.up<GB;lia) as as S) (.cons (λE s' Q e S=>J.eqBool (A:=A.in1) (by show A.units+1+J.up<GB;lia) as as S) (.nil (.inl rfl)))) (λe=>?_) h;subst e;have:=t.inj t';simp only[NQ,and_true]at this;obtain⟨rfl,rfl⟩:=this;rw[g,LI (I.inj q1 p1) (J.inj q2 p2)];simp
 quiet:=λ{A E s k v Q} n q ⟨a,Y,U,e,t,q1,q2⟩ h=>by
  subst e;obtain⟨m,rfl⟩:∃m,n=m+1:=⟨n-1,ad⟩
  refine vy m t (λv hv E Q S=>?_) h;simp only[n_,HJ,MB]at hv;rcases hv with e|e
  .subst e;exact I.quiet m ad q1 S
  .subst e;exact J.quiet m ad q2 S
noncomputable def heapI(I:IK prog w κ)(g:I.fuel<=8):HeapKind prog w κ where
 is:=λh k a=>I.is h k (.ref a)
 hash:=I.hash
 draws:=I.draws
 room:=λA=>A.units+I.up<GB
 inj:=λS J=>I.inj S J
 keeps:=λ{h h' k a d o es ep} x j hd c=>I.keeps x λb i us n f l=>by
  rw[c.2 b λe=>?_]
  .exact f
  simp_all
 pyHash:=λU Y h=>I.pyHash U Y h
 eqBool:=λU S J h=>I.eqBool U S J h
 quiet:=λY h=>I.quiet 8 g Y h
noncomputable def labI(prog:Gf)(w:GS):IK prog w LK:=pairI (Af prog w) (tupI (tupI (Af prog w)))
end
noncomputable abbrev lKind(P:Gf)(w:GS):HeapKind P w LK:=heapI (labI P w) (by show max 0 (0+1+1)+1<=8;decide)
def mG.map(s:∀b xs,SqT K F b xs->SqT K F' b xs){k:LK}(h:mG K F b k):mG K F' b k:=
 let ⟨r,bs,Y,U,l,S⟩:=h;⟨r,bs,s _ _ Y,s _ _ U,l,λj J c e1 e2=>s _ _ (S j J c e1 e2)⟩
noncomputable def putL(ks:a8)(k:LK):a8:=if k∈ks then ks else ks++[k]
noncomputable def sT(xs:List (LK×k_))(k:LK)(b:k_):List (LK×k_):=if k∈xs.map (·.1)then xs else xs++[(k,b)]
def Bx(xs:List (LK×k_))(k:LK)(b:k_):(sT xs k b).map (·.1)=putL (xs.map (·.1)) k:=by unfold sT putL;split<;>simp
def Dj{xs:List (LK×k_)}{k:LK}{x:LK×k_}(h:x∈sT xs k b):x∈xs\/x=(k,b):=by
 unfold sT at h;split at h
 .exact .inl h
 .simpa using h
def Dk(xs:List (LK×k_))(k:LK)(b:k_):(sT xs k b).length<=xs.length+1:=by unfold sT;split<;>simp
noncomputable def enL(x:LK×k_):LK×k_×h_:=(x.1,x.2,.bool f_)
def Am(xs:List (LK×k_)):(xs.map enL).map (·.1)=xs.map (·.1):=by rw[FJ];rfl
def atL(xs:List (LK×k_))(k:LK):(O7 (xs.map enL) k).isSome=s_ (k∈xs.map (·.1)):=by
 unfold O7;rw[N4,L_,List.find?_isSome];simp only[FG,Jj];constructor
 .rintro⟨x,⟨y,J,rfl⟩,e⟩;exact⟨y,J,e⟩
 .rintro⟨y,J,e⟩;exact⟨enL y,⟨y,J,rfl⟩,e⟩
def storedL(xs:List (LK×k_))(k:LK)(b:k_):PZ (xs.map enL) k b (.bool f_)=(sT xs k b).map enL:=by
 unfold PZ sT;rw[atL];by_cases h:k∈xs.map (·.1)
 .rw[HU h,p_ h];rw[FJ];refine Il λx _=>?_;show putAt k _ _=enL x;unfold putAt;split<;>rfl
 .rw[JL h,q_ h];simp[enL]
section
variable{s:i_}{xs:List (LK×k_)}{k:LK}
def CN(I:B3 X B2 σ H s){vs:a0}(h:SqT X.K H b vs):∃us,B6 vs us/\TupAt s.heap b us:=by obtain⟨its,r,⟨o,h1,S,n,J⟩,_⟩:=I.tuple h;exact⟨its,r,o,n,h1,S,J⟩
theorem Ae:∀{J:aG} {us:aH} {h:FX},B6 (J.map V.int) us->pW ((Af X.prog X.w).is h) J us
 |[],_,_,.nil=>.nil|i::J,_,_,.cons r t=>.cons r (Ae t)
def row_at(I:B3 X B2 σ H s){J:aG}(h:SqT X.K H b (J.map V.int)):(tupI (Af X.prog X.w)).is s.heap J (.ref b):=by obtain⟨us,r,t⟩:=CN I h;exact⟨b,us,rfl,t,Ae r⟩
theorem zH(I:B3 X B2 σ H s):∀{rows:List aG} {bs:List k_} {us:aH},B6 (bs.map V.ref) us->bs.length=rows.length->(∀(j:Nat) (J:aG) (c:k_),rows[j]?=a_ J->bs[j]?=a_ c->SqT X.K H c (J.map V.int))->pW ((tupI (Af X.prog X.w)).is s.heap) rows us
 |[],[],_,.nil,_,_=>.nil|[],_::_,_,_,l,_=>by simp at l|_::_,[],_,_,l,_=>by simp at l|J::rows,c::bs,_,.cons r t,l,h=>by cases(show _=D_ c from r);exact .cons (row_at I (h 0 J c rfl rfl)) (zH I t (by simpa using l) λj J c e1 e2=>h (j+1) J c e1 e2)
def oP(I:B3 X B2 σ H s)(h:mG X.K H b k):(lKind X.prog X.w).is s.heap k b:=by obtain⟨r,bs,e,d,l,c⟩:=h;obtain⟨us,f,a⟩:=CN I e;obtain⟨vs,S,J⟩:=CN I d;obtain⟨Y,U,rfl,i,g⟩:=f.two;cases(show U=D_ r from g);exact⟨b,Y,.ref r,rfl,a,i,r,vs,rfl,J,zH I S l c⟩
def LabsAt(K:Pn)(H:Hp)(xs:List (LK×k_)):Prop:=∀x∈xs,mG K H x.2 x.1
def EJ{xs:List (LK×k_)}(z:Ct h a xs ep):dq H h a (FF a xs ep):=by
 have S:=z;obtain⟨h1,l,k,o,es,Y,j⟩:=z;refine⟨S,⟨o,Y⟩,λ_ _ U e=>?_⟩
 obtain⟨i,g2,g,o',J,f,d,c,b⟩:=U;exact⟨i,g2,g,o',J,e _ f,d,c,b⟩
def dil_ok(I:B3 X B2 σ H s)(e:H a=a_ (FF a xs ep)):Ct s.heap a xs ep:=(show Ct s.heap a xs ep/\_ from I.hok a _ e).1
def dil_at(I:B3 X B2 σ H s)(e:H a=a_ (FF a xs ep))(z:LabsAt X.K H xs):(a==HG)=c_/\xs.length<=t_/\s.heap.DictOfH (lKind X.prog X.w) a (xs.map enL):=by
 obtain⟨hd,Y,U,o,es,h1,d,c,b⟩:=dil_ok I e;refine⟨hd,Y,o,es,ep,h1,d,c,?_,λq S=>?_,by rw[Am];exact U⟩
 .rw[b,FJ];rfl
 .obtain⟨x,J,rfl⟩:=FG.mp S;exact oP I (z x J)
def dilOk_of(dd:h.DictOfH (lKind P w) a (xs.map enL))(hd:(a==HG)=c_)(S:xs.length<=t_):∃ep,Ct h a xs ep:=by
 obtain⟨o,es,ep,h1,b,Y,U,_,J⟩:=dd;rw[Am]at J;refine⟨ep,hd,S,J,o,es,h1,b,Y,?_⟩
 rw[U,FJ];rfl
def B3.dil{ys:List (LK×k_)}{t':Nat}(I:B3 X B2 σ H s)(e:H a=a_ (FF a xs ep))(J:Hd a s.heap h')(z:Ct h' a ys ep'):B3 X B2 σ (upd H a (FF a ys ep')) {s with heap:=h',toks:=t'}:=
 I.write (by rw[e];exact JE) (.inl rfl) (λc q S w=>(J.2 c S).trans w) (let ⟨_,_,_,o,_,w,_,_,_⟩:=z;⟨o,w⟩) (EJ z)
theorem lroom(J:A.units+64<GB):(lKind X.prog X.w).room A.in1:=by show A.units+1+3<GB;lia
end
def tNewL:TE:=λ_ H Q=>∀p,H p=g_->Q (.ref p) (upd H p (FF p [] 0))
def sPutT(K:Pn)(td ty tv:TE):TS:=λD σ H=>tv σ H λv H1=>td σ H1 λx H2=>ty σ H2 λy J=>∃a b k xs ep,v=.bl f_/\x=.ref a/\y=.ref b/\J a=a_ (FF a xs ep)/\LabsAt K J xs/\mG K J b k/\xs.length<t_/\∀ep',D.nx σ (upd J a (FF a (sT xs k b) ep'))
section
variable{o i:GI}{ty:TE}
def pe_newL:PE X (.Dict [] [] pos) tNewL:=λB2 s σ H Q I h=>Qj ⟨.ref s.heap.objs.size,_,I.laid (a:=s.heap.objs.size) (o:=FF s.heap.objs.size [] 0) (t':=s.toks) (λ_ _ q=>d_ _ q) (o_ _) (EJ (⟨MY.mpr (GX (E_ I.big)),GD _,Pw,_,#[],l_ _ rfl,⟨rfl,rfl,rfl⟩,rfl,rfl⟩)),rfl,h _ (I.hok.fresh (o_ _))⟩
theorem ps_putT(n:X.A.units+64<GB)(q:PE X o td)(hi:PE X i ty)(hv:PE X value tv)(p:G0 value (a_ (.Subscript o i pos')) pos.line X.env=G2 c_):PS X (.Assign [.Subscript o i pos'] value pos) (sPutT X.K td ty tv):=by intro B2 s σ H D I h;refine Oq (B' (hv B2 s σ H _ I h) λr d J=>?_) p;obtain⟨v,H1,C,g,q1⟩:=J;refine B' (q B2 d σ H1 _ C q1) λu c J=>?_;obtain⟨x,H2,B,f,q2⟩:=J;refine B' (hi B2 c σ H2 _ B q2) λl E J=>?_;obtain⟨y,G,Y,e,a,b,k,xs,ep,ev,ex,A,ea,w,t,F,j⟩:=J;subst ev ex A;cases(show u=D_ a from f);cases(show l=D_ b from e);cases(show r=Mj f_ from g);obtain⟨hd,m,dd⟩:=dil_at Y ea w;refine Pz (hsz:=by rw[w_];exact m) (lroom n) (oP Y t) dd λh' S U=>?_;rw[storedL]at S;obtain⟨ep',z⟩:=dilOk_of S hd (by have:=Dk xs k b;lia);exact⟨σ,_,Y.dil ea U z,j ep'⟩
end
def BQ:A'->M LK
 |.tup [.int c,.tup J]=>(ik J).bind λrows=>.ok (c,rows)|_=>stk
noncomputable def bF(k:LK):A':=.tup [.int k.1,.tup (k.2.map cK)]
theorem Ed{k:LK}(h:BQ d=.ok k):d=bF k:=by
 unfold BQ at h;split at h
 .rename_i c J;cases e:ik J with
  |error x=>simp_all|ok rows=>rw[e]at h;cases h;rw[o9 e];rfl
 .cases h
theorem A6{e:Err}(h:BQ d=.error e):e=.stuck:=by
 unfold BQ at h;split at h
 .rename_i c J;cases e1:ik J with
  |error x=>rw[e1]at h;cases h;exact og e1|ok rows=>simp_all
 .cases h;rfl
theorem uW{K:Pn}{F:Hp}:∀{rows:List aG} {ys:a0},ay K F (rows.map cK) ys->∃bs:List k_,ys=bs.map V.ref/\bs.length=rows.length/\∀(j:Nat) (J:aG) (c:k_),rows[j]?=a_ J->bs[j]?=a_ c->SqT K F c (J.map V.int)
 |[],_,h=>⟨[],h,rfl,λj J c e=>by simp⟩|J::rows,_,⟨v,vs,e,⟨b,xs,ev,t,z⟩,r⟩=>by
  obtain⟨bs,e1,l,h⟩:=uW r;have U:=cS z (cC _);subst U;refine⟨b::bs,as,by simp[l],λj S c q1 q2=>?_⟩
  cases j with
  |zero=>cases q1;cases q2;exact t|succ j=>exact h j S c q1 q2
def Ee{v:V}{k:LK}(h:BQ d=.ok k)(q:bc K F d v):∃b,v=.ref b/\mG K F b k:=by have:=Ed h;subst this;obtain⟨b,xs,e,t,Y,U,e1,q1,g,J,e2,⟨r,ys,f,a,S⟩,e3⟩:=q;cases(show Y=V.int k.1 from q1);subst f;cases(show J=[]from e3);subst e2 e1;obtain⟨bs,eb,l,c⟩:=uW S;subst eb;exact⟨b,e,r,bs,t,a,l,c⟩
noncomputable def wC(ρ:ah)(i:Nat):M a8:=match ρ[i]? with
 |some (a_ (.dil ks))=>.ok ks|_=>.error .stuck
def Ar{ks:a8}(h:wC ρ i=.ok ks):ρ[i]?=a_ (a_ (.dil ks)):=by
 unfold wC at h;split at h
 .cases h;assumption
 .cases h
def EK{e:Err}(h:wC ρ i=.error e):e=.stuck:=by
 unfold wC at h;split at h
 .cases h
 .cases h;rfl
noncomputable def isTr:A'->Bool
 |.bl f_=>f_|_=>c_
def ot(i:Nat)(fk fv:ah->M A'):ah->M B4:=λρ=>(fv ρ).bind λd=>(wC ρ i).bind λks=>(fk ρ).bind λJ=>(BQ J).bind λk=>if (isTr d&&s_ (ks.length<t_))=f_ then .ok (.nx (ρ.set i (a_ (.dil (putL ks k)))))else .error .stuck
section
variable{W:cP}
theorem rs_putT(hi:i∈O)(t:tS K W ro F0 H0 OL O O (ot i fk fv) D σ H):sPutT K (tVar i) (tD K W c_ fk) (tD K W c_ fv) D σ H:=by
 obtain⟨FB,F,ρ,r,p⟩:=t;refine aO r.ir r.dZ (λe j=>p.gI (r.freeze aj).st (by unfold ot;rw[j];rfl)) λd hd v F1 H1 o q=>?_;have B:ot i fk fv ρ=(wC ρ i).bind λks=>(fk ρ).bind λc=>(BQ c).bind λk=>if (isTr d&&s_ (ks.length<t_))=f_ then .ok (.nx (ρ.set i (a_ (.dil (putL ks k)))))else .error .stuck:=by unfold ot;rw[hd];rfl
 rw[B]at p;cases U:wC ρ i with
 |error e=>have:=EK U;subst this;exact p.stuck (by rw[U];rfl)|ok ks=>
  rw[U]at p;have p1:=p;have S:=r.fS o;obtain⟨E,e2,a,xs,ev,⟨ep,u⟩,_,_,z⟩:=S.ow i _ (Ar U) hi;subst ev;refine⟨.ref a,e2,?_⟩
  refine aO S.ir S.dZ (λe j=>p1.gI (S.freeze aj).st (by rw[j];rfl)) λc s w G H2 Y q2=>?_;rw[s]at p1;have p2:eQ K W ro F0 H0 FB OL O D ((BQ c).bind λk=>if (isTr d&&s_ _)=f_ then .ok _ else .error .stuck):=p1;cases J:BQ c with
  |error e=>have:=A6 J;subst this;exact p2.stuck (by rw[J];rfl)|ok k=>
   rw[J]at p2;have p3:eQ K W ro F0 H0 FB OL O D (if (isTr d&&s_ (ks.length<t_))=f_ then .ok (.nx (ρ.set i (a_ (.dil (putL ks k)))))else .error .stuck):=p2;by_cases f:(isTr d&&s_ (ks.length<t_))=f_
   .rw[p_ f]at p3;simp at f;have C:d=.bl f_:=by
     have h1:=f.1;unfold isTr at h1;split at h1
     .rfl
     .lia
    subst C;cases(show v=V.bl f_ from q);obtain⟨b,rfl,t⟩:=Ee J q2;have g:=S.fS Y;have l:=z.mono (S.eW Y);have n:=t.map (S.kg Y);have m:xs.length=ks.length:=by rw[<- z.1,w_]
    refine⟨a,b,k,xs,ep,rfl,rfl,rfl,Y.hh _ _ u,λx h=>(l.2 x h).mono g.st.fh,n.mono g.st.fh,as,λep'=>p3 σ _ _ (g.ze hi (Ar U) rfl e2 λA y=>⟨a,_,rfl,⟨ep',aq⟩,A,y,?_,λx h=>?_⟩)⟩
    .rw[Bx,z.1]
    .rcases Dj h with e|e
     .exact l.2 x e
     simp_all
   .rw[q_ f]at p3;exact p3.stuck rfl
end
section
variable{W:cP}
def de_newL:DE K W f_ X (.Dict [] [] pos) (fC (.dil [])):=pe_newL.imp λσ H Q h=>by obtain⟨F,ρ,r,s,q⟩:=h;exact λa J=>q _ F _ (Step.grow s J) ⟨a,[],rfl,⟨0,aq⟩,s.free J,J,rfl,λx S=>FN S HJ⟩
def ds_putT(S:X.A.units+64<GB)(a:DE K W c_ X ek fk)(b:DE K W c_ X ev fv)(Y:(i∈O)⁻¹)(c: ~~~(X.N[i]?=a_ x))(hv:autoParam (Vis X.env.scope x) Jq5)(hd:((x==("__debug__":FU))=c_)⁻¹)(J:((x==("__classdict__":FU))=c_)⁻¹)(d: ~~~(X.K=K))(U: ~~~(G0 ev (a_ (.Subscript (.Name x p) ek pos')) pos.line X.env=G2 c_)):DS K W ro X OL O O (.Assign [.Subscript (.Name x p) ek pos'] ev pos) (ot i fk fv):=λF0 H0=>by subst d;exact PS.imp (ps_putT S (pv i c hv hd J) a b U) λ_ _ _=>rs_putT Y
end
section
open PySem
variable{s:i_}
inductive Ls(prog:Gf)(w:GS)(A:G8)(h:FX):List h_->List h_->Bool->Prop
 |nil {us vs:List h_} (e:us=[]\/vs=[]):Ls prog w A h us vs (s_ (us.length<vs.length))
 |eq {u v:h_} {us vs:List h_} {c:Bool} (hv:∀(E:Mq) (s:i_) (Q:Bool->i_->Prop),s.heap=h->Q f_ s->r_ (x_ prog w) A (JP u v) Q E s) (r:Ls prog w A h us vs c):Ls prog w A h (u::us) (v::vs) c
 |ne {u v:h_} {us vs:List h_} {c:Bool} (hv:∀(E:Mq) (s:i_) (Q:Bool->i_->Prop),s.heap=h->Q c_ s->r_ (x_ prog w) A (JP u v) Q E s) (hl:∀(E:Mq) (s:i_) (Q:Mq),s.heap=h->Q (.bool c) s->r_ (x_ prog w) A (Lw .Lt u v) Q E s):Ls prog w A h (u::us) (v::vs) c
theorem yp{c:Bool}{P:N2->i_->Prop}(n:TupAt s.heap a us)(l:TupAt s.heap b vs)(q:Ls prog w A s.heap us vs c)(h:P (.done (.ret (.bool c))) s):
  r_ (x_ prog w) A (Builtin.«tuple.__lt__» ⟨[.ref a,.ref b],[]⟩) P E s:=by
 have j:=l.ty;obtain⟨z,C,f,_,i⟩:=n;obtain⟨y,B,d,_,g⟩:=l;show r_ _ _ (PH _ _ >>= _) _ _ s;refine b_ (Ha j Ll ?_);refine b_ (Jt f i (b_ (Jt d g (b_ ?_))));refine KW _ (λrest r s'=>r.1=g_/\s'=s/\∃S J,rest=List.zip S J/\Ls prog w A s.heap S J c/\S.length+vs.length=us.length+J.length) _ ?_ ?_ _ _ ⟨rfl,rfl,us,vs,aj,q,rfl⟩
 .rintro⟨u,v⟩ rest r s' ⟨m,rfl,S,J,Y,U,p⟩;cases U with
  |nil e=>
   rcases e with e|e
   .simp_all
   simp_all
  |eq hv k=>obtain⟨⟨rfl,rfl⟩,rfl⟩:=Y;refine b_ (hv _ _ _ rfl ?_);exact e_ ⟨rfl,rfl,_,_,rfl,k,am⟩
  |ne hv t=>obtain⟨⟨rfl,rfl⟩,rfl⟩:=Y;refine b_ (hv _ _ _ rfl ?_);refine b_ (II (b_ (t _ _ _ rfl ?_)));exact b_ (e_ (e_ (e_ h)))
 .rintro⟨k,x⟩ s' ⟨m,rfl,S,J,Y,U,p⟩;subst m;have o:c=s_ (us.length<vs.length):=by
   cases U with
   |nil e=>lia|eq _ _=>simp_all|ne _ _=>simp_all
  rw[o]at h;refine e_ ?_;exact h
theorem lt_tup{c:Bool}{Q:Mq}(U:A.units<GB)(J:TupAt s.heap a us)(S:TupAt s.heap b vs)(Y:Ls prog w A.in1 s.heap us vs c)(h:Q (.bool c) s):
  r_ (x_ prog w) A (Lw .Lt (.ref a) (.ref b)) Q E s:=
 Na J.ty S.ty Qa (FO Qa J.ty F.entry_tuple_lt (yp J S Y ⟨_,rfl,(λe=>nomatch e),h⟩) (F.args_tuple_lt_2 _ _)) U
def LtI [ID κ] (I:IK prog w κ) (lt:κ->κ->Bool):Prop:=∀{A:G8} {E:Mq} {s:i_} {x y:κ} {u v:h_} {Q:Mq},A.units+I.up<GB->I.is s.heap x u->I.is s.heap y v->Q (.bool (lt x y)) s->r_ (x_ prog w) A (Lw .Lt u v) Q E s
noncomputable def tL{κ:Type}[ID κ](lt:κ->κ->Bool):List κ->List κ->Bool
 |x::xs,y::ys=>if x=y then tL lt xs ys else lt x y
 |xs,ys=>s_ (xs.length<ys.length)
def int_lt:LtI (Af prog w) λx y=>s_ (x<y):=λ_ ⟨t,e⟩ ⟨u,f⟩ h=>by subst e f;exact Oi h
theorem ls_all{κ:Type}[ID κ](I:IK prog w κ){lt:κ->κ->Bool}(a:LtI I lt){h:FX}(S:A.units+I.up<GB):∀{ks Y:List κ} {us vs:aH},pW (I.is h) ks us->pW (I.is h) Y vs->Ls prog w A h us vs (tL lt ks Y)
 |_,_,_,_,.nil,.nil=>.nil (.inl rfl)|_,_,_,_,.nil,@pW.cons _ _ _ y v ys vs q t=>by
  have e:tL lt [] (y::ys)=s_ (([]:aH).length<(v::vs).length):=by simp[tL]
  exact .nil (.inl rfl)
 |_,_,_,_,@pW.cons _ _ _ x u xs us q t,.nil=>by
  have e:tL lt (x::xs) []=s_ ((u::us).length<([]:aH).length):=by simp[tL]
  exact .nil (.inr rfl)
 |_,_,_,_,@pW.cons _ _ _ x u xs us q t,@pW.cons _ _ _ y v ys vs q2 b=>by
  show Ls prog w A h _ _ (if x=y then tL lt xs ys else lt x y);by_cases e:x=y
  .rw[p_ e];exact .eq (λE s Q J U=>I.eqBool S (by rw[J];exact q) (by rw[J];exact q2) as) (ls_all I a S t b)
  .rw[q_ e];exact .ne (λE s Q J U=>I.eqBool S (by rw[J];exact q) (by rw[J];exact q2) as) λE s Q J U=>a S as as U
theorem zi [ID κ] {I:IK prog w κ} {lt:κ->κ->Bool} (d:LtI I lt):LtI (tupI I) (tL lt):=λ{A E s x y u v Q} J ⟨a,us,e1,c,U⟩ ⟨b,vs,e2,Y,S⟩ h=>by subst e1 e2;have J:A.units+(I.up+1)<GB:=J;exact lt_tup ad c Y (ls_all I d ad U S) h
end
theorem DF [ID κ] {lt:κ->κ->Bool} (o:Ord lt):Ord (tL lt):=by
 refine⟨λa=>?_,λa b c=>?_,λa b=>?_⟩
 .induction a with
  |nil=>rfl|cons x xs S=>simp[tL,S]
 .induction a generalizing b c with
  |nil=>
   cases b with
   |nil=>simp|cons y ys=>
    intro _ J;cases c with
    |nil=>simp_all[tL]|cons z Y=>rfl
  |cons x xs S=>
   intro h1 J;cases b with
   |nil=>simp_all[tL]|cons y ys=>
    cases c with
    |nil=>simp_all[tL]|cons z Y=>
     simp[tL]at h1 J ⊢;by_cases e1:x=y
     .grind
     .rw[q_ e1]at h1;by_cases e2:y=z
      .simp_all
      .rw[q_ e2]at J;have U:=o.tr _ _ _ h1 J;by_cases e3:x=z
       .subst e3;rw[o.irr]at U;cases U
       simp_all
 .induction a generalizing b with
  |nil=>simp[tL]|cons x xs S=>
   cases b with
   |nil=>simp[tL]|cons y ys=>
    simp[tL];by_cases e:x=y
    .grind
    .rw[q_ e,q_ (GX e)];intro h1 J;exact FN (o.tot _ _ h1 J) e
abbrev ltR:List aG->List aG->Bool:=tL (tL λx y=>s_ (x<y))
theorem ordR:Ord ltR:=DF (DF ⟨λa=>by simp,λa b c h1 J=>by lia,λa b h1 J=>by lia⟩)
def ltL(k l:LK):Bool:=if k.1=l.1 then ltR k.2 l.2 else s_ (k.1<l.1)
theorem ordL:Ord ltL:=by
 refine⟨λa=>?_,λa b c h1 J=>?_,λa b h1 J=>?_⟩
 .unfold ltL;rw[p_ rfl];exact ordR.irr _
 .unfold ltL at h1 J ⊢;by_cases e1:a.1=b.1
  .rw[p_ e1]at h1;by_cases e2:b.1=c.1
   .rw[p_ e2]at J;rw[p_ (e1.trans e2)];exact ordR.tr _ _ _ h1 J
   simp_all
  grind
 .unfold ltL at h1 J;by_cases e:a.1=b.1
  .rw[p_ e]at h1;rw[p_ e.symm]at J;exact LI e (ordR.tot _ _ h1 J)
  lia
section
open PySem.W
variable{s:i_}
def LKeys(prog:Gf)(w:GS)(h:FX)(J:List (LK×k_)):Prop:=∀r∈J,(labI prog w).is h r.1 (.ref r.2)
theorem asks_L{J:List (LK×k_)}(P:A.units+8<GB)(y:LKeys prog w s.heap J)(R:2<=J.length):Asks prog w A (rk ltL (J.map Ja) (0,[])) (J.map λr=>D_ r.2) s:=by
 have b:∀i,i<J.length->∃(l:k_) (Y U:h_),(J.map λr=>D_ r.2).getD i GR=.ref l/\TupAt s.heap l [Y,U]/\(Af prog w).is s.heap ((J.map Ja).getD i (0,[])).1 Y/\(tupI (tupI (Af prog w))).is s.heap ((J.map Ja).getD i (0,[])).2 U:=λi hi=>by obtain⟨a,Y,U,e,t,q1,q2⟩:=y J[i] (Gm hi);cases e;exact⟨J[i].2,Y,U,by simp[hi],t,by simpa[hi] using q1,by simpa[hi] using q2⟩
 have c:∀(k:Nat),k<=J.length->∃fs,KatTups s.heap ((J.map λr=>D_ r.2).drop (J.length-k)) fs/\fs.length=k/\∀v∈fs,∃i t,v=Je i t:=by
  intro k
  induction k with
  |zero=>intro _;exact⟨[],by rw[Qv,List.drop_of_length_le aj];exact Pp,rfl,λ_ h=>nomatch h⟩
  |succ k x=>
   intro Q;obtain⟨fs,q1,q2,g⟩:=x ad;have hi:J.length-(k+1)<J.length:=ad
   obtain⟨l,Y,U,e1,⟨K,n,e2,e3,e4⟩,⟨t,e5⟩,_⟩:=b _ hi;refine⟨Y::fs,?_,by simp[q2],λv hv=>?_⟩
   .have d:J.length-(k+1)<(J.map λr=>D_ r.2).length:=by rw[w_];exact hi
    rw[Hk d];rw[show J.length-(k+1)+1=J.length-k by lia];rw[getD_get d]at e1;rw[e1];exact O8 e2 e3 e4 rfl q1
   .rcases n_.mp hv with e|e
    .rw[e];exact⟨_,_,e5⟩
    .exact g v e
 obtain⟨fs,q1,q2,g⟩:=c J.length (o_ _);rw[Qw,Js]at q1;unfold Asks;refine kat_kind (s:=s) (T:=.type "int") q1 ad (λv hv=>?_) rfl ⟨rfl,λi j C hi q S=>?_⟩
 .obtain⟨i,t,e⟩:=g v hv;rw[e];exact Po rfl
 .rw[w_]at hi q;unfold P9;obtain⟨G,Y,U,e1,⟨N,O,z,_,E⟩,o,b1⟩:=b i hi;obtain⟨F,u,p,e2,⟨L,n2,g2,_,D⟩,m,b2⟩:=b j q;rw[e1,e2];rw[rk_lt ordL as as]at S;generalize (J.map Ja).getD i (0,[])=k at o b1 S;generalize (J.map Ja).getD j (0,[])=l at m b2 S;refine kat_lt (s:=s) z E g2 D ?_;show KatLex prog w _ _ _ _ [(Y,u),(U,p)] 0 s;refine kat_cons ((Af prog w).eqBool (by show A.units+0<GB;lia) o m ?_);unfold ltL at S;by_cases e:k.1=l.1
  .rw[p_ e]at S;rw[HU e];refine kat_yes (kat_cons ((tupI (tupI (Af prog w))).eqBool (by show A.units+(0+1+1)<GB;lia) b1 b2 ?_));by_cases f:k.2=l.2
   .rw[HU f];rw[f,ordR.irr]at S;exact kat_yes (kat_nil S)
   .rw[JL f];show r_ (x_ prog w) _ (oneLt' c_ U p) _ _ _;rw[oneLt'_eq];simp only[Ho,LN];exact b_ (zi (zi int_lt) (by show A.units+(0+1+1)<GB;lia) b1 b2 (G3 S))
  .rw[q_ e]at S;rw[JL e];obtain⟨I,f1⟩:=o;obtain⟨H,B⟩:=m;subst f1 B;exact oneLt_int S
end
section
open PySem PySem.W
variable{s:i_}
theorem walksR(g:A.handled=g_)(I d:k_)(a:d≠I)(es:Array G5)(ep:Nat):
  Nq prog w A I [I,d] [I] es.size (λi v=>∃e,es[i]?=a_ e/\v=e.key) (λi h=>h.IsKeyIter I d i es.size ep/\uN h d es ep) where
 sub:=λb Y=>by simp_all
 frame:=λ_ _ _ st f=>⟨st.1.at λo e=>f I aj o e,st.2.at λo e=>f d aj o e⟩
 item:=λi s Q E hi st U=>by refine BH st.1 st.2 (e:=es[i]) aj λh' S J=>?_;exact U _ h' s.toks ⟨es[i],aj,rfl⟩ ⟨S,st.2.at λo e=>J.extBut d o a e⟩ λb o Y e=>J.extBut b o (λh=>Y (by simp[h])) e
 done:=λs Q E st U=>EC g st.1 st.2 (o_ _) λh' c=>U h' s.toks λb o Y e=>c b o (λh=>Y (by simp[h])) e
 self:=λ_ _ _ _ st U=>wpAny_pyIter_keyiter st.1 U
def srcR{d:k_}{es:Array G5}(lo:(d==HG)=c_):KdlSrc prog w "dict" d d es.size (λi v=>∃e,es[i]?=a_ e/\v=e.key) (λh=>uN h d es ep) where
 type:=λ_ z=>z.ty
 there:=λ_ ⟨o,h,_⟩=>⟨m_ h,m_ h⟩
 keep:=λ_ _ z S=>z.at λo e=>S d (.inl rfl) o e
 notList:=by decide
 notTuple:=by decide
 hint:=λ_ _ _ _ z J=>kdl_hint_dict z.ty J
 iter:=λA s U z=>⟨_,_,(λ_ _ J=>BS lo z J),walksR U _ d (let ⟨o,h,_⟩:=z;E_ (m_ h)) es ep,⟨⟨_,l_ _ rfl,rfl,rfl⟩,z.at λo e=>d_ _ e⟩⟩
theorem collectR{d:k_}{es:Array G5}{Q:aH->i_->Prop}(t:A.handled=g_)(lo:(d==HG)=c_)(z:uN s.heap d es ep)(p:es.size<=t_)(h:∀(h':FX) (tk:Nat),(∀b o,s.heap.get? b=a_ o->h'.get? b=a_ o)->s.heap.objs.size<=h'.objs.size->Q (es.toList.map (·.key)) {s with heap:=h',toks:=tk}):r_ (x_ prog w) A (collect (.ref d)) Q E s:=by
 have k:d<s.z:=by obtain⟨o,n,_⟩:=z;exact m_ n
 refine b_ (Lr (GK (Lb) ?_));rw[Ng (F.plain_proto_collect) _];refine b_ (FP ?_);refine e_ ⟨Hz Ks _,GK (LZ) ?_⟩;have u:(s.heap.push {cls:=.type "list",data:=.seq ([]:aH).toArray}).get? s.z=a_ {cls:=.type "list",data:=.seq #[]}:=l_ _ rfl;refine Gx (kdl_extend (A:=A) (s:={s with heap:=s.heap.push {cls:=.type "list",data:=.seq ([]:aH).toArray}})
  (R:=λ(q:Ox) (s':i_)=>∃(h':FX) (tk:Nat) (J:Array h_) (c:Nat),q=.ok (.ret (.ref s.z))/\s'={s with heap:=h',toks:=tk}/\(∀b o,s.heap.get? b=a_ o->h'.get? b=a_ o)/\h'.get? s.z=a_ {cls:=.type "list",dict:=g_,data:=.seq J c,slots:=#[]}/\J.toList=es.toList.map (·.key))
  (srcR (ep:=ep) lo) t (z.at λo e=>d_ _ e) s.z (GP k) (GP k) (.ref s.z) 0 u
  (λh' tk J c a U S=>⟨h',tk,J,c,rfl,rfl,λb o e=>a b o (E_ (m_ e)) (d_ _ e),U,(by
    apply LL;intro i;by_cases hi:i<es.size
    .have I:i<J.size:=by rw[S.1];exact hi
     obtain⟨e,H,G⟩:=S.2 i J[i] aj
     simp_all
    .rw[Hl (by rw[Ge,S.1];lia),Hl as])⟩) p) (λj s' x=>?_) λe s' x=>?_
 .have l:∀(s':i_),(∃(h':FX) (tk:Nat) (J:Array h_) (c:Nat),s'={s with heap:=h',toks:=tk}/\(∀b o,s.heap.get? b=a_ o->h'.get? b=a_ o)/\h'.get? s.z=a_ {cls:=.type "list",dict:=g_,data:=.seq J c,slots:=#[]}/\J.toList=es.toList.map (·.key))->∃(o:JM) (J:Array h_) (c:Nat),s'.heap.get? s.z=a_ o/\o.data=.seq J c/\Q J.toList s':=λs' ⟨h',tk,J,c,e,a,U,ea⟩=>by
   subst e;exact⟨_,J,c,U,rfl,by rw[ea];exact h h' tk a (HI (m_ U))⟩
  cases j with
  |done f=>obtain⟨h',tk,J,c,e,r⟩:=x;cases e;obtain⟨⟨D,C,B,v⟩,J,c,U,hd,g⟩:=l s' ⟨h',tk,J,c,r⟩;cases hd;show r_ _ A (load s.z >>= _) _ _ _;exact b_ (K6 U (e_ g))
  |again m=>
   refine⟨x.1,HA x.2 λq Y y=>?_⟩
   obtain⟨h',tk,J,c,rfl,r⟩:=y;obtain⟨⟨D,C,B,v⟩,J,c,U,hd,g⟩:=l Y ⟨h',tk,J,c,r⟩;cases hd;show r_ _ A (load s.z >>= _) _ _ _;exact b_ (K6 U (e_ g))
 simp_all
end
theorem A5{k:LK}(h:mG K F b k):bc K F (bF k) (.ref b):=by
 obtain⟨r,bs,a,Y,l,U⟩:=h;refine⟨b,_,rfl,a,V.int k.1,_,rfl,rfl,.ref r,[],rfl,⟨r,_,rfl,Y,?_⟩,rfl⟩
 refine ay.of_get as λi d v e1 e2=>?_;rw[FY]at e1 e2;cases f1:k.2[i]? with
 |none=>simp_all|some J=>
  cases S:bs[i]? with
  |none=>simp_all|some c=>rw[f1]at e1;rw[S]at e2;simp at e1 e2;subst e1 e2;exact⟨c,_,rfl,U i J c f1 S,mv J⟩
def nC:List A'->M a8
 |[]=>.ok []|d::ds=>(BQ d).bind λk=>(nC ds).bind λks=>.ok (k::ks)
theorem vX:∀{ds:List A'} {e:Err},nC ds=.error e->e=.stuck
 |[],_,h=>by cases h|d::ds,e,h=>by
  unfold nC at h;cases e1:BQ d with
  |error x=>rw[e1]at h;cases h;exact A6 e1|ok k=>
   rw[e1]at h;cases e2:nC ds with
   |error x=>rw[e2]at h;cases h;exact vX e2|ok ks=>simp_all
theorem vW:∀{ds:List A'} {ks:a8},nC ds=.ok ks->ds=ks.map bF
 |[],_,h=>by cases h;rfl|d::ds,ks,h=>by
  unfold nC at h;cases e1:BQ d with
  |error x=>simp_all|ok k=>
   rw[e1]at h;cases e2:nC ds with
   |error x=>simp_all|ok J=>rw[e2]at h;cases h;rw[vW e2,Ed e1];rfl
theorem qM:∀ts:List aG,ik (ts.map cK)=.ok ts
 |[]=>rfl|t::ts=>by show(bj _).bind _=_;rw[cC];rw[qM ts];rfl
def tM(k:LK):BQ (bF k)=.ok k:=by show(ik _).bind _=_;rw[qM];rfl
theorem Ec{F:Hp}:∀{ks:a8} {xs:a0},ay K F (ks.map bF) xs->∃J:List (LK×k_),J.map Ja=ks/\xs=J.map (λr=>V.ref r.2)/\∀r∈J,mG K F r.2 r.1
 |[],_,h=>⟨[],rfl,h,λr U=>nomatch U⟩
 |k::ks,_,⟨v,vs,e,q,r⟩=>by obtain⟨b,e1,t⟩:=Ee (tM k) q;obtain⟨J,e2,e3,h⟩:=Ec r;exact⟨(k,b)::J,as,as,λx S=>(n_.mp S).elim (λz=>by simp_all) (h x)⟩
def CH{J:List (α×k_)}(h:B6 (J.map λr=>V.ref r.2) us):us=J.map λr=>D_ r.2:=by
 induction J generalizing us with
 |nil=>cases h;rfl|cons r J S=>
  cases h with
  |cons q t=>rw[S t];cases(show _=D_ r.2 from q);rfl
def yr{k:LK}(x:(labI prog w).is h k v)(e:∀b o,h.get? b=a_ o->h'.get? b=a_ o):(labI prog w).is h' k v:=(labI prog w).keeps x λa o us n q _=>e a o q
section
open PySem PySem.W
variable{s:i_}
def CmpAt(prog:Gf)(w:GS)(A:G8)(U:FX)(P:Nat->h_->Prop)(bt:Nat->Nat->Bool):Prop:=
 ∀i j S J (s:i_) (Q:Mq) (E:Mq),(∀b o,U.get? b=a_ o->s.heap.get? b=a_ o)->P i S->P j J->Q (.bool (bt i j)) s->r_ (x_ prog w) A (Lw .Lt S J) Q E s
variable{P:Nat->h_->Prop}{St:Nat->FX->Prop}
theorem min_go(W:Nq prog w A.in1 I fp wr n P St){d:FX}{bt:Nat->Nat->Bool}(C:CmpAt prog w A.in1 d P bt)(S:k_)(m:S∉fp)(E:d.get? S=g_)(y:∀b∈wr,d.get? b=g_)(G:∀v (s':i_),P (J_ bt (n-1)) v->(∀b o,d.get? b=a_ o->s'.heap.get? b=a_ o)->(∃h tk,s'={s with heap:=h,toks:=tk})->R (.ok (.ret v)) s'):
  ∀(k j:Nat) (h:FX) (tk:Nat) (Y:h_) (c:Nat),n=j+1+k->St (j+1) h->P (J_ bt j) Y->h.get? S=a_ {cls:=.type "list",dict:=g_,data:=.seq #[Y,Y] c,slots:=#[]}->(∀b o,d.get? b=a_ o->h.get? b=a_ o) ->
  Jc (x_ prog w) A (.builtin "min.loop" ⟨[.ref I,.none,.ref S],[]⟩) R {s with heap:=h,toks:=tk}:=by
 have l:S∉wr:=λh=>m (W.sub _ h);have u:∀{b:k_} {o:JM},d.get? b=a_ o->S≠b:=λe z=>by simp_all
 have t:∀{b:k_} {o:JM},d.get? b=a_ o->b∉wr:=λe z=>by simp_all
 have J:(OY "min"++OY ".loop":String)="min.loop":=by decide
 intro k
 induction k with
 |zero=>intro j h tk Y c B i q p r;refine GK Mo ?_;refine b_ (GF p rfl ?_);refine b_ (Lp (W.done _ _ _ (show St n h from by simp_all) λh' tk U=>?_));refine b_ (Jm (U S _ l p) rfl (b_ (Jy (e_ ?_))));exact G Y _ as (λb o e=>(A_ _ _ (u e)).trans (U b o (t e) (r b o e))) ⟨_,_,rfl⟩|succ k x=>
  intro j h tk Y c B i q p r;refine GK Mo ?_;refine b_ (GF p rfl ?_);refine b_ (Lp (W.item (j+1) _ _ _ ad i λv h' tk H a U=>?_));have g:=U S _ l p;have f:∀b o,d.get? b=a_ o->h'.get? b=a_ o:=λb o e=>U b o (t e) (r b o e);show r_ _ A.in1 (tryCatch (IW [v,v] (Lw .Lt v Y >>= _)) _ >>= _) _ _ _;refine b_ (Lp (Gq (b_ (C (j+1) (J_ bt j) v Y _ _ _ f H q ?_))));refine b_ (Gq (G3 (b_ (Jy (e_ ?_)))));cases K:bt (j+1) (J_ bt j)with
  |true=>refine b_ (Jm g rfl (b_ (Jy ?_)));rw[J];exact e_ ⟨Hz KN _,x (j+1) _ _ v _ ad (W.frame _ _ _ a λb D o e=>(A_ _ _ (λz:S=b=>m as)).trans e) (by simp_all[J_,if_true]) (FV _ g rfl) λb o e=>(A_ _ _ (u e)).trans (f b o e)⟩|false=>simp only[Ho,LN];refine b_ (Jy ?_);rw[J];exact e_ ⟨Hz KN _,x (j+1) _ _ Y c ad a (by simp_all[J_,Ho,LN]) g f⟩
theorem min_list{bt:Nat->Nat->Bool}{Q:Mq}(B:A.handled=g_)(m:s.heap.IsList l items)(k:0<items.size)(C:CmpAt prog w A.in1 s.heap (λi v=>items[i]?=a_ v) bt)(h:∀v h' tk,items[J_ bt (items.size-1)]?=a_ v->(∀b o,s.heap.get? b=a_ o->h'.get? b=a_ o)->Q v {s with heap:=h',toks:=tk}):
  r_ (x_ prog w) A (Jv (.builtin "min") [.ref l]) Q E s:=by
 have S:(OY "min"++OY ".loop")="min.loop":=by decide
 refine PySem.call_function_tree F.kind_min F.plain_min F.entry_min (F.args_min1 _) ?_;refine b_ (Ij (show Pt "min" ["key","default"] 0 ⟨[],[]⟩=G2 [g_,g_]from rfl) (b_ (e_ ?_)));have a:l<s.z:=by obtain⟨_,e,_⟩:=m;exact m_ e
 refine b_ (KD m ?_);refine b_ (FP ?_);rw[S];have W:=Mh (prog:=prog) (w:=w) (A:=A.in1) B s.z l (E_ a) items;have x:(s.heap.push {cls:=.type "list_iterator",data:=.fields #[.ref l,.int 0 0]}).objs.size=s.z+1:=Gi ..;have J:(s.heap.push {cls:=.type "list_iterator",data:=.fields #[.ref l,.int 0 0]}).objs.size∉[s.z,l]:=by rw[x];simp only[n_,HJ,MB,not_or];exact⟨KA _,GP (Jx a)⟩
 have U:∀b o,s.heap.get? b=a_ o->(s.heap.push {cls:=.type "list_iterator",data:=.fields #[.ref l,.int 0 0]}).get? b=a_ o:=λb o e=>d_ _ e;have d:s.heap.get? (s.heap.push {cls:=.type "list_iterator",data:=.fields #[.ref l,.int 0 0]}).objs.size=g_:=K3 aj;have j:∀b∈[s.z],s.heap.get? b=g_:=λb D=>by rw[HP.mp D];exact K3 (o_ _)
 generalize n:s.heap.push {cls:=.type "list_iterator",data:=.fields #[.ref l,.int 0 0]}=h1 at J U d ⊢;have g:h1.IsListIter s.z l 0/\h1.IsList l items:=by subst n;exact⟨⟨_,l_ _ rfl,rfl,rfl⟩,m.push _⟩
 refine e_ ⟨Hz KN _,GK Mo ?_⟩;have t:(h1.push {cls:=.type "list",data:=.seq ([]:aH).toArray}).get? h1.objs.size=a_ {cls:=.type "list",data:=.seq ([]:aH).toArray}:=l_ _ rfl;have q:h1.objs.size∉[s.z]:=λh=>J (W.sub _ h);refine b_ (GF t rfl ?_);refine b_ (Lp (W.item 0 _ _ _ k (W.frame _ _ _ g λb _ o e=>d_ _ e) λv h' tk G Y c=>?_));have r:=c h1.objs.size _ q t;show r_ _ A.in1 (N8 h1.objs.size (λ_=>#[v,v]) >>= _) _ _ _;refine b_ (Jm r rfl ?_);refine e_ ⟨Hz KN _,min_go (s:=s) (A:=A) W C h1.objs.size J d j (λu s' hv y ⟨H,f,e⟩=>?_) (items.size-1) 0 _ _ v _ ad (W.frame _ _ _ Y λb p o e=>(A_ _ _ (λz:h1.objs.size=b=>J (by rw[z];exact p))).trans e) G (FV _ r rfl) λb o e=>(A_ _ _ (λz=>by lia)).trans (c b o (λz=>by grind) (d_ _ (U b o e)))⟩;subst e;exact h u H f hv y
end
def lZ(k:LK)(ks:a8):LK:=ks.foldl (λb x=>if ltL x b=f_ then x else b) k
theorem xj(bt:LK->LK->Bool)(J:a8)(d:LK):∀j,j<J.length->J.getD (J_ (λi j=>bt (J.getD i d) (J.getD j d)) j) d=(J.drop 1 |>.take j).foldl (λb x=>if bt x b=f_ then x else b) (J.getD 0 d)
 |0,_=>by rfl|j+1,h=>by
  have e:(J.drop 1).take (j+1)=(J.drop 1).take j++[J.getD (j+1) d]:=by rw[List.take_add_one,List.getElem?_drop,B_,y_ h];simp[Nat.add_comm]
  rw[e,Kd,<- (xj bt J d j ad)];simp[J_,Gw];split<;>rfl
section
variable{W:cP}
theorem lab_lt:LtI (labI prog w) ltL:=λ{A E s x y u v Q} d ⟨a,k,j,e1,Y,p1,p2⟩ ⟨b,i,g,e2,U,q1,q2⟩ h=>by
 subst e1 e2;have c:A.units+3<GB:=d;refine lt_tup ad Y U ?_ h;unfold ltL;by_cases e:x.1=y.1
 .rw[p_ e];refine .eq (λE s' Q J S=>(Af prog w).eqBool (by show A.units+1+0<GB;lia) (by exact p1) (by exact q1) as) ?_;by_cases f:x.2=y.2
  .refine .eq (λE s' Q J S=>(tupI (tupI (Af prog w))).eqBool (by show A.units+1+(0+1+1)<GB;lia) (by rw[J];exact p2) (by rw[J];exact q2) as) ?_;rw[f,ordR.irr];exact .nil (.inl rfl)
  .exact .ne (λE s' Q J S=>(tupI (tupI (Af prog w))).eqBool (by show A.units+1+(0+1+1)<GB;lia) (by rw[J];exact p2) (by rw[J];exact q2) as) λE s' Q J S=>zi (zi int_lt) (by show A.units+1+(0+1+1)<GB;lia) as as S
 .rw[q_ e];exact .ne (λE s' Q J S=>(Af prog w).eqBool (by show A.units+1+0<GB;lia) (by exact p1) (by exact q1) as) λE s' Q J S=>int_lt (by show A.units+1+0<GB;lia) as as S
def minLD:List A'->M A'
 |[.lst ds]=>(nC ds).bind λks=>match ks with
  |[]=>stk|k::ks=>.ok (bF (lZ k ks))
 |_=>stk
theorem c_minL(hu:X.A.units+64<GB)(R: ~~~(X.calm=f_))(Y: ~~~(X.K=K)):lO K W c_ X (.builtin "min") minLD:=by
 subst Y;intro B2 s σ H xs us Q I D h;obtain⟨F,d,x,f,e,q,p⟩:=jm (λds=>by match ds with|[d]=>simp|[]=>exact .inr rfl|a::b::c=>exact .inr (by cases a<;>rfl)) h;subst e;obtain⟨u,rfl,C⟩:=D.one;cases d with
 |lst ds=>
  obtain⟨a,ys,e1,t,r⟩:=q;subst e1;cases C;have p:aJ X.K W c_ F H ((nC ds).bind λks=>match ks with|[]=>stk|k::ks=>.ok (bF (lZ k ks))) Q:=p;cases ek:nC ds with
  |error z=>cases vX ek;rw[ek]at p;exact aJ.stuck p|ok ks=>
   rw[ek]at p;cases ks with
   |nil=>exact aJ.stuck p|cons k ks=>
    rw[vW ek]at r;obtain⟨J,e2,e3,Y⟩:=Ec r;obtain⟨its,B,pl,hz⟩:=I.list (f.lst t);subst e3;have U:=CH B;subst U;have w:J.length=ks.length+1:=by rw[<- w_,e2];rfl
    have S:∀i v,(J.map λr=>D_ r.2).toArray[i]?=a_ v->∃r∈J,v=D_ r.2/\r.1=(J.map Ja).getD i (0,[]):=λi v e=>by
     rw[NH,FY]at e;cases l:J[i]? with
     |none=>rw[l]at e;cases e|some r=>rw[l]at e;cases e;exact⟨r,G9 l,rfl,by rw[B_,FY,l];rfl⟩
    refine min_list (bt:=λi j=>ltL ((J.map Ja).getD i (0,[])) ((J.map Ja).getD j (0,[]))) (I.ok.hd R) pl.isList (by simp[w]) (λi j A y s' Q' E' g hi P o=>?_) λv h' tk hv g=>?_
    .obtain⟨G,N,rfl,Z⟩:=S i A hi;obtain⟨E,L,rfl,T⟩:=S j y P;dsimp only at o;rw[<- Z,<- T]at o;exact lab_lt (by show X.A.units+1+3<GB;lia) (yr (oP I ((Y G N).mono f)) g) (yr (oP I ((Y E L).mono f)) g) o
    .have hsz:(J.map λr=>D_ r.2).toArray.size-1=ks.length:=by simp[w]
     rw[hsz]at hv;obtain⟨n,O,rfl,m⟩:=S _ _ hv;rw[xj ltL (J.map Ja) (0,[]) ks.length as,e2]at m;have m:n.1=lZ k ks:=by rw[m];simp[lZ]
     refine⟨.ref n.2,H,I.kept (t':=tk) g,rfl,p _ F H (Step.refl f) ?_⟩
     rw[<- m];exact A5 (Y n O)
 |_=>exact aJ.stuck p
end
def spXL(K:Pn)(C:k_)(f1:FU):Sp:=λvs H Q _=>∃a l xs,vs=[.ref a,.ref l]/\H a=a_ (XO a C g_)/\SqL K H l xs/\∀L d,H L=g_->upd H L (.lst xs) d=g_->Q .non (upd (upd (upd H L (.lst xs)) d (XD d [(f1,.ref L)])) a (XO a C (a_ d)))
section
variable{s:i_}{f:k_}{f1:FU}
theorem new_xL(FB:Mp B newId initId bmB)(x:n9 X.K C bmB newId f=f_)(p:Nr X.K (.ref f)=a_ (.type "function"))(F:gQ X.prog X.w X.K X.mg X.base CX0 k f fd ps (spXL X.K C f1))(o:gR (k+1) X.A)(t:Binds X.K fd ps [])(I:B3 X B2 σ H s)(r:B6 [V.ref l] us)(U:SqL X.K H l xs):r_ (x_ X.prog X.w) X.A (Jv (.ref C) us) (λv s'=>∃a d L,v=.ref a/\s.heap.objs.size<=a/\H L=g_/\L≠a/\H a=g_/\upd H L (.lst xs) d=g_/\d≠a/\B3 X B2 σ (upd (upd (upd H L (.lst xs)) d (XD d [(f1,.ref L)])) a (XO a C (a_ d))) s') X.xe s:=by
 obtain⟨tl,N,nm,P,bs,hdct,sn,sub,ab,col,dd,k0,k1,k2,k3,k5,mN,j,i,h,g⟩:=tY I.kIn x;obtain⟨oI,n,m⟩:=fn_at I.kIn p;obtain⟨S,G,K,tk,os⟩:=s;have Q:=G4;refine x_call FB g j i h n m (by rw[<- r.length];show 1<=t_;lia) ?_;have J:B3 X B2 σ _ {(⟨S,G,K,tk,os⟩:i_)with heap:=xx S C us,toks:=tk}:=
  I.laid (λb u q=>o7 q) (Jk _) (xo_ok rfl uR)
 have fa:=I.hok.fresh (Jk _);have w:B6 [V.ref (S.objs.size+1),V.ref l] (D_ (S.objs.size+1)::us++[]):=by rw[HB];exact .cons rfl r
 have q:spXL X.K C f1 [V.ref (S.objs.size+1),V.ref l] (upd H (S.objs.size+1) (XO (S.objs.size+1) C g_)) (λv H2=>v=.non/\∃d L,H L=g_/\L≠S.objs.size+1/\upd H L (.lst xs) d=g_/\d≠S.objs.size+1/\H2=upd (upd (upd H L (.lst xs)) d (XD d [(f1,.ref L)])) (S.objs.size+1) (XO (S.objs.size+1) C (a_ d))) (λ_ _ _=>False):=by
  refine⟨_,l,xs,rfl,aq,(aU.upd fa).lst U,λL d Y hd=>?_⟩
  have e1:L≠S.objs.size+1:=λz=>by simp_all[aq]
  rw[aw e1]at Y;have e2:d≠S.objs.size+1:=λz=>by grind[aw,aq]
  refine⟨rfl,d,L,Y,e1,?_,e2,(by grind[aq,aw])⟩
  by_cases e3:d=L
  .simp_all[aq]
  .simp_all[aw]
 refine K7 (HA (F.run _ X.stack _ _ _ _ _ _ (λ_ _ _=>False) (o.make C us []) (J.env0.make C us []) (t _ _ J.kIn (w.length.symm.trans (F.len _ _ _ _ q))) w q) λz s' U=>?_);cases z with
 |error e=>exact(show False from U).elim|ok fl=>
  cases fl with
  |ret u=>obtain⟨v,H',O,c,ev,d,L,h1,E,D,A,y⟩:=J.after U;subst ev y;exact⟨c,_,d,L,rfl,Jk _,h1,E,fa,D,A,O⟩
  |_=>exact Gh U
end
def tRaiseL(K:Pn)(t:TA)(C:k_)(f1:FU)(E:XK):TS:=λ_ σ H=>t σ H λvs H1=>∃l xs,vs=[.ref l]/\SqL K H1 l xs/\∀L d,H1 L=g_->upd H1 L (.lst xs) d=g_->E (.ref C) (a_ d) (upd (upd H1 L (.lst xs)) d (.xd [(f1,.ref L)]))
section
variable{E:XK}{f:k_}{t:TA}{f1:FU}
theorem Dp(FB:Mp B newId initId bmB)(Q:XEq2 X E C)(A:n9 X.K C bmB newId f=f_)(hf:Nr X.K (.ref f)=a_ (.type "function"))(hk:IT X.K (.ref C)=f_)(F:gQ X.prog X.w X.K X.mg X.base CX0 k f fd ps (spXL X.K C f1))(y:gR (k+1) X.A)(U:Binds X.K fd ps [])(Z:X.mg x=a_ (.ref C))(ha:PA X [e1] t)(hg: ~~~(Gl X x))(i:((x==("__debug__":FU))=c_)⁻¹)(e: ~~~(j_ [e1] X.env=[(c_,FL e1 X.env)])):
  PS X (.Raise (a_ (.Call (.Name x np) [e1] [] cpos)) g_ pos) (tRaiseL X.K t C f1 E):=by
 intro B2 s σ H D I h;obtain⟨tl,N,nm,G,bs,hdct,sn,sub,ab,col,dd,k0,k1,k2,k3,k5,mN,O,o2,o3,K⟩:=tY I.mod.kin A;refine b_ (KI (xw (C:=C) (nm:=nm) (q:=G) (N:=N) (bs:=bs) (hdct:=hdct) (sn:=sn) (sub:=sub) (ab:=ab) (col:=col) (dd:=dd) (k0:=k0) (k1:=k1) (k2:=k2) (k3:=k3) (k5:=k5) (newId:=newId) (K.hasType FB.hasBase) y.hd (b_ (B' ?_ λv u S=>b_ (KI (e_ S))))));refine Hv (ju I hg Z (K_ I.ok.mod.kin hk (B' (ha cpos B2 s σ H _ I h) λus s1 g=>?_) e rfl) i);obtain⟨vs,H1,n,r,q1⟩:=g;refine⟨n.kIn,?_⟩
 obtain⟨l,xs,rfl,R,q1⟩:=q1;refine B' (new_xL FB A hf F y U n r R) λv c g=>?_;obtain⟨a,d,L,ev,W,hL,j,m,hd,w,J⟩:=g;subst ev;have fa:upd H1 L (.lst xs) a=g_:=by rw[aw (GX j)];exact m
 generalize hH:upd H1 L (.lst xs)=H2 at fa hd J;obtain⟨vs,p,z⟩:=xo_get (J.hok a _ aq);have Y:upd (upd H2 d (XD d [(f1,.ref L)])) a (XO a C (a_ d)) d=a_ (XD d [(f1,.ref L)]):=by rw[aw w];exact aq
 have J2:B3 X B2 σ (upd H2 d (.xd [(f1,.ref L)])) {c with heap:=c.heap,toks:=c.toks}:=by
  refine J.turn (λb=>b=a\/b=d) (λb o _ q=>q) (λb nb=>?_) (λb U=>?_) (λb o _ q=>⟨o,q⟩) λb o U q=>?_
  .simp_all[aw]
  .rcases U with rfl|rfl
   .exact .inl ⟨_,aq⟩
   .exact .inl ⟨_,Y⟩
  .rcases U with rfl|rfl
   .grind[aw]
   .rw[aq]at q;cases q;obtain⟨mA,P,n2,_⟩:=xd_get (J.hok _ _ Y);exact⟨mA,P,n2⟩
 exact⟨a,_,rfl,J.bk _ _ O,z,rfl,⟨vs,rfl,p⟩,Q B2 σ _ c a d J2 ⟨⟨_,vs,z,rfl,rfl,rfl,p⟩,λT hT=>nomatch hT⟩ (get_none (Gg n.sz W)) (by rw[aw (GX w)];exact fa) (by subst hH;exact q1 L d hL hd)⟩
end
noncomputable def B0(C:k_)(f1:FU):List A'->M B4
 |[.lst ds]=>.error (.exc C [(f1,.lst ds)])|_=>.error .stuck
noncomputable def Bq(C:k_)(f1:FU)(fr:ah->M (List A')):ah->M B4:=λρ=>(fr ρ).bind (B0 C f1)
@[simp]def e_sExcL(C:k_)(f1:FU)(fr:ah->M (List A'))(ρ:ah):Bq C f1 fr ρ=(fr ρ).bind (B0 C f1):=id rfl
@[simp]def e_xResL(C:k_)(f1:FU)(ds:List A'):B0 C f1 [.lst ds]=.error (.exc C [(f1,.lst ds)]):=id rfl
section
variable{E:XK}{f:k_}{fr:ah->M (List A')}{f1:FU}
theorem EI(FB:Mp B newId initId bmB)(i:XEq2 X E C)(I:n9 X.K C bmB newId f=f_)(u:Nr X.K (.ref f)=a_ (.type "function"))(o:IT X.K (.ref C)=f_)(F:gQ X.prog X.w X.K X.mg X.base CX0 k f fd ps (spXL X.K C f1))(j:gR (k+1) X.A)(w:Binds X.K fd ps [])(n:X.mg x=a_ (.ref C))(y:DA K (WE K E) X [e1] fr)(s: ~~~(Gl X x))(b:((x==("__debug__":FU))=c_)⁻¹)(a: ~~~(j_ [e1] X.env=[(c_,FL e1 X.env)]))(G: ~~~(X.K=K)):
  DS K (WE K E) ro X OL O O' (.Raise (a_ (.Call (.Name x np) [e1] [] cpos)) g_ pos) (Bq C f1 fr):=λF0 H0=>PS.imp (Dp FB i I u o F j w n y s b a) λD σ H ⟨Q,F,ρ,r,p⟩=>by
 subst G;have h:=r.freeze (O2:=[]) aj;refine jk r.ir r.dZ (λe T=>p.gI h.st (by simp_all[Bq])) λds hd vs F1 H1 Y q=>?_;have N:Bq C f1 fr ρ=B0 C f1 ds:=by unfold Bq;rw[hd];rfl
 rw[N]at p;by_cases v:∃es,ds=[.lst es]
 .obtain⟨es,rfl⟩:=v;obtain⟨R,U,rfl,⟨l,xs,P,t,z⟩,m⟩:=q;cases(show U=[]from m);subst P;refine⟨l,xs,rfl,Y.fh.lst t,λL d A c=>?_⟩
  have st:=h.st.trans Y;have S:Step F1 H1 _ (upd H1 L (.lst xs)):=Step.lay Y.fh A;have J:Step _ _ _ (upd _ d (.xd [(f1,.ref L)])):=Step.lay S.fh c;exact p _ _ (st.trans (S.trans J)) d _ aq ⟨.ref L,[],rfl,⟨L,xs,rfl,SqL.of (J.ff _ _ aq),(z.mono S.ff).mono J.ff⟩,rfl⟩
 .have g:B0 C f1 ds=.error .stuck:=by
   unfold B0;split
   .lia
   .rfl
  rw[g]at p;exact((WE X.K E).ns p).elim
end
section
variable{W:cP}{own:Bool}{a b:GI}{f:ah->M A'}
theorem ds_drop(h:DE K W own X e f)(S: ~~~(G0 e g_ pos.line X.env=G2 c_)):DS K W ro X OL O O (.Expr e pos) (qV O f):=λF0 H0=>PS.imp (sV h S) λD σ H ⟨FB,F,ρ,r,p⟩=>by
 refine aO r.iQ r.st.fh (λe U=>p.gI r.st (by simp_all[qV])) λd hd v F1 H1 J q=>?_;have z:qV O f ρ=.ok (.nx ρ):=by unfold qV;rw[hd];rfl
 rw[z]at p;exact p σ F1 H1 (r.step J)
noncomputable def orN(a:A')(b:M A'):M A':=match a with
 |.non=>b|.lst []=>b|.lst (d::ds)=>.ok (.lst (d::ds))|_=>.error .stuck
def fOrN(fa fb:ah->M A'):ah->M A':=λρ=>(fa ρ).bind λa=>orN a (fb ρ)
@[simp]def e_fOrN(fa fb:ah->M A')(ρ:ah):fOrN fa fb ρ=(fa ρ).bind λa=>orN a (fb ρ):=id rfl
@[simp]def e_orN0(b:M A'):orN .non b=b:=id rfl
@[simp]def e_orN1(b:M A'):orN (.lst []) b=b:=id rfl
@[simp]def e_orN2(d:A')(ds:List A')(b:M A'):orN (.lst (d::ds)) b=.ok (.lst (d::ds)):=id rfl
theorem de_orN(o:DE K W c_ X a fa)(n:DE K W c_ X (.BoolOp .Or (b::rest) pos) fb)(t: ~~~(X.K=K)):DE K W c_ X (.BoolOp .Or (a::b::rest) pos) (fOrN fa fb):=by
 subst t;intro B2 s σ H Q I h;obtain⟨F,ρ,r,m,p⟩:=h;refine BoolOp_or (B' (o B2 s σ H (λx H1=>∃F1 d,fa ρ=.ok d/\Step F H F1 H1/\bc X.K F1 d x) I (aO r m (λe y=>p.err (by simp_all[fOrN])) λd hd x F1 H1 J q1=>⟨F1,d,hd,J,q1⟩)) λv J f=>?_);obtain⟨x,H1,Y,j,F1,d,hd,st,q⟩:=f;have w:fOrN fa fb ρ=orN d (fb ρ):=by unfold fOrN;rw[hd];rfl
 rw[w]at p;have u:∀(J:i_) (Y:B3 X B2 σ H1 J),aJ X.K W c_ F H _ Q->r_ _ X.A _ _ X.xe J:=λJ Y p=>n B2 J σ H1 Q Y ⟨F1,ρ,r.mono st.ff,st.fh,p.step st⟩;have U:∀(k:Bool),truD d=.ok k->r_ _ X.A _ (λc S=>c=k/\B3 X B2 σ H1 S) X.xe J:=λk g=>B' (tru_ok B2 J σ H1 x v (λc H'=>c=k/\H'=H1) Y j ⟨k,tru_of st.fh q g,rfl,rfl⟩) λc S ⟨H',i,e1,e2⟩=>by simp_all
 have l:truD d=.ok c_->aJ X.K W c_ F H (fb ρ) Q->r_ _ X.A _ (λc S=>if c=f_ then EP X B2 σ Q v S else r_ (x_ X.prog X.w) X.A (FL (.BoolOp .Or (b::rest) pos) X.env) (EP X B2 σ Q) X.xe S) X.xe J:=λg p=>B' (U c_ g) λc S ⟨e1,i⟩=>by simp_all
 cases d with
 |non=>exact l rfl p|lst ds=>
  cases ds with
  |nil=>exact l rfl p|cons d ds=>refine B' (U f_ rfl) λc S f=>?_;obtain⟨e1,i⟩:=f;subst e1;exact⟨x,H1,i,j,p x F1 H1 st q⟩
 |_=>exact aJ.stuck p
end
mutual
noncomputable def eR:A'->Bool
 |.tup ds=>gC ds|.lst ds=>gC ds|.ins _ _=>c_|.dic _=>c_|.dil _=>c_|_=>f_
noncomputable def gC:List A'->Bool
 |[]=>f_|d::ds=>eR d&&gC ds
end
mutual
theorem bc.plain{K:Pn}{F F':Hp}(s:∀a xs,SqT K F a xs->SqT K F' a xs)(t:∀a xs,SqL K F a xs->SqL K F' a xs):∀{d:A'} {v:V},eR d=f_->bc K F d v->bc K F' d v
 |.non,_,_,h=>h|.bl _,_,_,h=>h|.int _,_,_,h=>h|.tup ds,_,f,⟨a,xs,e,q,r⟩=>⟨a,xs,e,s _ _ q,ay.plain s t (by simpa[eR] using f) r⟩|.lst ds,_,f,⟨a,xs,e,q,r⟩=>⟨a,xs,e,t _ _ q,ay.plain s t (by simpa[eR] using f) r⟩|.ins _ _,_,f,_=>by simp_all[eR]|.dic _,_,f,_=>by simp_all[eR]|.dil _,_,f,_=>by simp_all[eR]
theorem ay.plain{K:Pn}{F F':Hp}(s:∀a xs,SqT K F a xs->SqT K F' a xs)(t:∀a xs,SqL K F a xs->SqL K F' a xs):∀{ds:List A'} {xs:a0},gC ds=f_->ay K F ds xs->ay K F' ds xs
 |[],_,_,h=>h|d::ds,_,f,⟨v,vs,e,q,r⟩=>by simp only[gC,FH]at f;exact⟨v,vs,e,bc.plain s t f.1 q,ay.plain s t f.2 r⟩
end
def mO(i:Nat)(fk fv:ah->M A'):ah->M B4:=λρ=>(fv ρ).bind λd=>(mr ρ i).bind λks=>(fk ρ).bind λJ=>(rp J).bind λk=>if (eR d&&s_ (ks.length<t_))=f_ then .ok (.nx (ρ.set i (a_ (.dic (sU ks k d)))))else .error .stuck
@[simp]def e_putDL(i:Nat)(fk fv:ah->M A')(ρ:ah):mO i fk fv ρ=(fv ρ).bind λd=>(mr ρ i).bind λks=>(fk ρ).bind λJ=>(rp J).bind λk=>if (eR d&&s_ (ks.length<t_))=f_ then .ok (.nx (ρ.set i (a_ (.dic (sU ks k d)))))else .error .stuck:=id rfl
section
variable{W:cP}
theorem Rep.minusL{ks:List (aG×A')}(r:Rep K F0 H0 FB [i] F H σ ρ)(hd:ρ[i]?=a_ (a_ (.dic ks)))(s:Step (plus F H (kK [i] [] σ ρ)) H F1 H1)(b:k_)(xs:a0)(h:SqL K F1 b xs):SqL K (minus F1 (kK [i] [] σ ρ)) b xs:=by
 have key:∀{b:k_} {o:HO},F1 b=a_ o->(∀f,o≠.ext f)->minus F1 (kK [i] [] σ ρ) b=a_ o:=λ{b o} h n=>by
  by_cases J:kK [i] [] σ ρ b
  .obtain⟨j,d,S,_,_,e1,e2⟩:=id J;have:=HP.mp S;subst this;rw[hd]at e1;obtain⟨v,e3,a,ys,ev,⟨ep,U⟩,_⟩:=r.ow j _ hd Hn;rw[e2]at e3;cases e3;cases ev;have:=s.ff _ _ (by rw[jl J];exact U);rw[h]at this;cases this;exact FN rfl (n _)
  simp_all[gD]
 rcases h with(h|⟨o,h⟩)|h
 .exact .inl (.inl (key h λf z=>nomatch z))
 .exact .inl (.inr ⟨o,key h λf z=>nomatch z⟩)
 .exact .inr h
def rs_putDL(t:tS K W ro F0 H0 OL [i] [i] (mO i fk fv) D σ H):sPut K (tVar i) (tD K W c_ fk) (tD K W c_ fv) D σ H:=by
 obtain⟨FB,F,ρ,r,p⟩:=t;have hi:i∈[i]:=Hn;refine aO r.ir r.dZ (λe j=>p.gI (r.freeze aj).st (by unfold mO;rw[j];rfl)) λd hd v F1 H1 g q=>?_;have y:mO i fk fv ρ=(mr ρ i).bind λks=>(fk ρ).bind λf=>(rp f).bind λk=>if (eR d&&s_ (ks.length<t_))=f_ then .ok (.nx (ρ.set i (a_ (.dic (sU ks k d)))))else .error .stuck:=by unfold mO;rw[hd];rfl
 rw[y]at p;cases U:mr ρ i with
 |error e=>have:=wF U;subst this;exact p.stuck (by rw[U];rfl)|ok ks=>
  rw[U]at p;have p1:=p;have S:=r.fS g;obtain⟨A,e2,a,xs,ev,⟨ep,s⟩,_,_,z⟩:=S.ow i _ (lB U) hi;subst ev;refine⟨.ref a,e2,?_⟩
  refine aO S.ir S.dZ (λe j=>p1.gI (S.freeze aj).st (by rw[j];rfl)) λf o w B H2 Y q2=>?_;rw[o]at p1;have p2:eQ K W ro F0 H0 FB OL [i] D ((rp f).bind λk=>if (eR d&&s_ _)=f_ then .ok _ else .error .stuck):=p1;cases J:rp f with
  |error e=>have:=nU J;subst this;exact p2.stuck (by rw[J];rfl)|ok k=>
   rw[J]at p2;have p3:eQ K W ro F0 H0 FB OL [i] D (if (eR d&&s_ _)=f_ then .ok _ else .error .stuck):=p2;by_cases c:(eR d&&s_ (ks.length<t_))=f_
   .rw[p_ c]at p3;simp at c;obtain⟨b,rfl,t⟩:=tO J q2;have h:=S.fS Y;have n:=bc.plain (r.kg g) (r.minusL (lB U) g) c.1 q;have l:=z.mono (S.eW Y);have m:=S.kg Y b _ t;exact⟨a,b,k,xs,ep,rfl,rfl,Y.hh _ _ s,l.key.mono h.st.fh,h.st.fh.tup m,by rw[z.length];exact c.2,λep'=>p3 σ _ _ (h.ze hi (lB U) rfl e2 λx u=>⟨a,_,rfl,⟨ep',aq⟩,x,u,l.put m (n.mono (S.eW Y))⟩)⟩
   .rw[q_ c]at p3;exact p3.stuck rfl
end
section
variable{W:cP}
theorem Ap(c:X.A.units+64<GB)(U:DE K W c_ X ek fk)(Y:DE K W c_ X ev fv)(a: ~~~(X.N[i]?=a_ x))(hv:autoParam (Vis X.env.scope x) Jq5)(hd:((x==("__debug__":FU))=c_)⁻¹)(J:((x==("__classdict__":FU))=c_)⁻¹)(b: ~~~(X.K=K))(S: ~~~(G0 ev (a_ (.Subscript (.Name x p) ek pos')) pos.line X.env=G2 c_)):DS K W ro X OL [i] [i] (.Assign [.Subscript (.Name x p) ek pos'] ev pos) (mO i fk fv):=λF0 H0=>by subst b;exact PS.imp (ps_put ad (pv i a hv hd J) U Y S) λ_ _ _=>rs_putDL
end
noncomputable def zd(i j:Nat)(b1 b2 b3:Bool):List (FU×A')->ah->M ah:=λ_ ρ=>.ok ((ρ.set j (a_ (.lst [.bl b1,.bl b2,.bl b3]))).set i g_)
@[simp]def e_xToldB(i j:Nat)(b1 b2 b3:Bool)(fs:List (FU×A'))(ρ:ah):zd i j b1 b2 b3 fs ρ=.ok ((ρ.set j (a_ (.lst [.bl b1,.bl b2,.bl b3]))).set i g_):=id rfl
def tsToldB(i j:Nat)(b1 b2 b3:Bool)(ys:List k_)(a:k_):Option k_->TS
 |none=>tNever|some d=>tAsg (tLst (ni (v7 i a (XDk d) b1) (ni (v7 i a (XDk d) b2) (ni (zt i a (XDk d) ys b3) tNil)))) (ph j)
section
variable{d:k_}{gs:List (FU×V)}{fs:List (FU×A')}
def step_two{p:k_}{Y:HO}(d:aU F H)(f:H p=g_)(U:upd H p Y l=g_):Step F H (upd F l (.lst xs)) (upd (upd H p Y) l (.lst xs)):=by
 have a:l≠p:=λz=>by subst z;rw[aq]at U;cases U
 have J:H l=g_:=by rw[aw a]at U;exact U
 have b:aU H (upd (upd H p Y) l (.lst xs)):=λc o e=>by rw[aw (aL e J),aw (aL e f)];exact e
 refine⟨aU.upd (d.free J),b,λc o e=>?_,λc o e=>?_⟩
 .by_cases S:c=l
  .subst S;rw[aq]at e ⊢;exact e
  .rw[aw S]at e;exact b c o (d c o e)
 .by_cases S:c=l
  .subst S;exact .inr J
  .rw[aw S]at e;exact .inl e
theorem rs_toldB(r:Rep K F0 H0 FB O F H σ ρ)(hd:F d=a_ (.xd gs))(e:i≠j)(hi:i<σ.length)(h:j<σ.length)(f:i∉O)(c:j∉O)(q:eQ K D' ro F0 H0 FB OL O D ((zd i j b1 b2 b3 fs ρ).bind λρ'=>.ok (.nx ρ'))):
  tAsg (tLst (ni (v7 i a (XDk d) b1) (ni (v7 i a (XDk d) b2) (ni (zt i a (XDk d) ys b3) tNil)))) (ph j) (D.less i) (σ.set i (a_ (.ref a))) H:=by
 have k:=G4;have S:H d=a_ (.xd gs):=r.st.fh d _ hd;have e1:(σ.set i (a_ (.ref a)))[i]?=a_ (a_ (.ref a)):=by rw[Cb hi]
 refine⟨e1,⟨gs,S⟩,e1,⟨gs,S⟩,e1,λp g=>?_⟩
 have Y:d≠p:=aL S g;refine⟨⟨gs,by rw[aw Y];exact S⟩,by show 3<=t_;lia,λl J=>?_⟩
 have U:l≠p:=λz=>by subst z;rw[aq]at J;cases J
 have b:H l=g_:=by rw[aw U]at J;exact J
 exact q _ _ _ (r.toldG e hi h f c (step_two (xs:=[.bl b1,.bl b2,.bl b3]) r.st.fh g J) (r.st.fh.free b) ⟨_,_,rfl,rfl,_,_,rfl,rfl,_,_,rfl,rfl,rfl⟩)
end
section
variable{c n to:FU}{fb:ah->M B4}
def ds_toldB(t:∀(B2:Vp) (σ:St) (E:XK) (g:Mq),jY (CXd X.prog X.w) (X.so g) B2 σ E->DSat K E ro (X.so g) OL [] O B2 σ body fb)(Z:XTry X.K X.mg c C)(u:X.N.Nodup)(l:∀(a d:k_) (oe:JM),oe.cls=.ref C->(∃vs,oe.data=.fields vs)->oe.dict=a_ d->PSs (X.hand a oe) (b₀::suite) (tAsg (tLst (ni (v7 i a (XDk d) b1) (ni (v7 i a (XDk d) b2) (ni (zt i a (XDk d) ys b3) tNil)))) (ph j)))(U:(i≠j)⁻¹)(Y:(i∉O)⁻¹)(S:(j∉O)⁻¹)(hi: ~~~(X.N[i]?=a_ n))(o: ~~~(X.N[j]?=a_ to))(m: ~~~(X.env.scope.names.lookup n=a_ .local))(q: ~~~(Gl X c))(e: ~~~(X.ex=[]))(J: ~~~(X.stack=X.env::X.outer))(b: ~~~(X.env.frame=a_ X.env.locals))(f:((c==("__debug__":FU))=c_)⁻¹):
  DS K D' ro X OL O O (.Try body [.ExceptHandler (a_ (.Name c np)) (a_ n) (b₀::suite) hpos] [] [] pos) (qf O C fb (zd i j b1 b2 b3)):=by
 refine ds_tryF (ts:=λa dx=>tsToldB i j b1 b2 b3 ys a dx) t (λa oe s hd=>?_) (λF0 H0 D σ a d gs fs FB F H ρ h r h1 v p=>rs_toldB r h1 U ?_ ?_ Y S p) Z.nm dkK Z.mg u hi m q e J b f
 .cases k:oe.dict with
  |none=>exact vE|some d=>exact l a d oe s hd k
 .rw[h];exact(v_.mp hi).1
 .rw[h];exact(v_.mp o).1
end
section
open PySem PySem.W
end
def fdivB:A'->A'->M A'
 |.int i,.int j=>if (s_ (0<j)&&s_ (j<1461501637330902918203684832716283019655932542976))=f_ then .ok (.int (i/j))else stk
 |_,_=>stk
@[simp]def e_fdivB{i j:Int}(h:0<j)(J:j<1461501637330902918203684832716283019655932542976):fdivB (.int i) (.int j)=.ok (.int (i/j)):=by simp[fdivB,h,J]
section
variable{W:cP}{own:Bool}
theorem op_fdivB:OpR X (Hr .FloorDiv) (rI (λ_ j=>0<j/\j<1461501637330902918203684832716283019655932542976) λi j=>.int (i/j)):=opI λi j _ _ _ _ _ J q=>by
 obtain⟨U,S⟩:=J;exact floordiv_int ad (by rw[MO i ad];exact q) (.inl (Ms (by
   have a:j.natAbs<2^160:=ad
   have b:=(Nat.log2_lt ad).mpr a;lia)))
def o_fdivB:Op2 K W own X (Hr .FloorDiv) fdivB:=op_fdivB.imp λx y H Q h=>by
 obtain⟨F,i,j,s,e1,e2,p⟩:=gh (λa b=>by cases a<;>cases b<;>first|exact .inr rfl|exact .inl ⟨_,_,rfl,rfl⟩) h;have J:aJ K W own F H (if (s_ _&&s_ _)=f_ then .ok _ else stk) Q:=p;by_cases S:(s_ (0<j)&&s_ (j<1461501637330902918203684832716283019655932542976))=f_
 .rw[p_ S]at J;simp at S;exact⟨i,j,e1,e2,S,J.int s⟩
 .rw[q_ S]at J;exact J.stuck
end
structure B7 where
 f:k_
 c:h_
 A:G8
 o:List MT
 s:i_
 H:Hp
 E:XK
section
variable{base:FX}{q:FU}
def YO(_:∃f fd,Def K mg x st ps f fd)(P:Gf)(w:GS)(base:FX)(k:Nat)(ro:Bool)(m:List A'->M A'):Prop:=∃f fd,Yd P w K mg base CX0 k x st ps (spF K ro m ps.length) f fd
def YX(_:∃f fd,Def K mg x st ps f fd)(P:Gf)(w:GS)(base:FX)(k:Nat)(ro:Bool)(m:List A'->M A'):Prop:=∃f fd,Yd P w K mg base (CXd P w) k x st ps (spX K ro m ps.length) f fd
def YM(_:∃f fd,Mth K C x q st ps f fd)(P:Gf)(w:GS)(mg:Ld)(base:FX)(k:Nat)(ro:Bool)(m:List A'->M A'):Prop:=∃f fd,Mth K C x q st ps f fd/\gQ P w K mg base CX0 k f fd ps (spF K ro m ps.length)
def fY(N:List FU){h:∃f fd,Def K mg x st ps f fd}(U:∀z:B7,N.Nodup->gR k (z.A.deeper (Jw x (aF st) z.s.heap.objs.size z.f z.c))->DSs K D' ro (Ax CX0 P w K mg base N x (aF st) z.f z.c z.A z.o z.s z.H z.E).nox [] [] [] (cx st) g)(S:autoParam (g9 N ps (aF st)) Jq10):YO h P w base (k+1) ro (bo N.length ps.length g):=
 let ⟨f,fd,D⟩:=h
 ⟨f,fd,D,fn_D D.fn S ro g λc A o s H E J=>U ⟨f,c,A,o,s,H,E⟩ S.nd J⟩
def fX(N:List FU){h:∃f fd,Def K mg x st ps f fd}(U:∀z:B7,N.Nodup->gR k (z.A.deeper (Jw x (aF st) z.s.heap.objs.size z.f z.c))->DSs K (WE K z.E) ro (Ax (CXd P w) P w K mg base N x (aF st) z.f z.c z.A z.o z.s z.H z.E) [] [] [] (cx st) g)(S:autoParam (g9 N ps (aF st)) Jq10):YX h P w base (k+1) ro (bo N.length ps.length g):=
 let ⟨f,fd,D⟩:=h
 ⟨f,fd,D,fn_X D.fn S ro g λc A o s H E J=>U ⟨f,c,A,o,s,H,E⟩ S.nd J⟩
def fM(N:List FU){h:∃f fd,Mth K C x q st ps f fd}(U:∀z:B7,N.Nodup->gR k (z.A.deeper (Jw q (aF st) z.s.heap.objs.size z.f z.c))->DSs K D' ro (Ax CX0 P w K mg base N q (aF st) z.f z.c z.A z.o z.s z.H z.E).nox [] [] [] (cx st) g)(S:autoParam (g9 N ps (aF st)) Jq10):YM h P w mg base (k+1) ro (bo N.length ps.length g):=
 let ⟨f,fd,D⟩:=h
 ⟨f,fd,D,fn_D D.fn S ro g λc A o s H E J=>U ⟨f,c,A,o,s,H,E⟩ S.nd J⟩
end
section
variable{W:cP}{a b d:GI}{f:ah->M A'}{fr:ah->M (List A')}
def dY(Y:∃f fd,Yd X.prog X.w X.K X.mg X.base CX0 k x st ps (spF K ro (bo nN n g) n) f fd)(a:gR j X.A)(d:DA K D' X (e::es) fr)(b:(k<=j)⁻¹)(c: ~~~(Gl X x))(U:((x==("__debug__":FU))=c_)⁻¹)(J: ~~~(j_ (e::es) X.env=(c_,FL e X.env)::j_ es X.env))(S: ~~~((GG pos (j_ es X.env)).any (·.1)=c_)):
  DE K D' ro X (.Call (.Name x p) (e::es) [] pos) (fL (bo nN n g) fr):=let ⟨_,_,Y⟩:=Y;ER Y.o (a.mono b) Y.d.mg Y.d.fn.kp Y.d.bd d c U J S
def da1(S:DE K W c_ X a fa)(J: ~~~(j_ [a] X.env=[(c_,FL a X.env)])):DA K W X [a] (a9 fa av):=bC S bz J
theorem da2(U:DE K W c_ X a fa)(S:DE K W c_ X b fb)(Y: ~~~(j_ [a,b] X.env=[(c_,FL a X.env),(c_,FL b X.env)]))(J: ~~~(j_ [b] X.env=[(c_,FL b X.env)])):DA K W X [a,b] (a9 fa (a9 fb av)):=bC U (da1 S J) as
def da3{f1 J:ah->M A'}(h1:DE K W c_ X e1 f1)(b:DE K W c_ X e2 J)(a:DE K W c_ X e3 f3)(Y: ~~~(j_ [e1,e2,e3] X.env=(c_,FL e1 X.env)::j_ [e2,e3] X.env))(U: ~~~(j_ [e2,e3] X.env=(c_,FL e2 X.env)::j_ [e3] X.env))(S: ~~~(j_ [e3] X.env=(c_,FL e3 X.env)::j_ [] X.env)):DA K W X [e1,e2,e3] (a9 f1 (a9 J (a9 f3 av))):=(bC h1 (bC b (bC a bz S) U) Y)
def da4{f1 J:ah->M A'}(h1:DE K W c_ X e1 f1)(d:DE K W c_ X e2 J)(c:DE K W c_ X e3 f3)(b:DE K W c_ X e4 f4)(a: ~~~(j_ [e1,e2,e3,e4] X.env=(c_,FL e1 X.env)::j_ [e2,e3,e4] X.env))(Y: ~~~(j_ [e2,e3,e4] X.env=(c_,FL e2 X.env)::j_ [e3,e4] X.env))(U: ~~~(j_ [e3,e4] X.env=(c_,FL e3 X.env)::j_ [e4] X.env))(S: ~~~(j_ [e4] X.env=(c_,FL e4 X.env)::j_ [] X.env)):DA K W X [e1,e2,e3,e4] (a9 f1 (a9 J (a9 f3 (a9 f4 av)))):=(bC h1 (bC d (bC c (bC b bz S) U) Y) a)
def da5{f1 J:ah->M A'}(h1:DE K W c_ X e1 f1)(f:DE K W c_ X e2 J)(e:DE K W c_ X e3 f3)(d:DE K W c_ X e4 f4)(c:DE K W c_ X e5 f5)(b: ~~~(j_ [e1,e2,e3,e4,e5] X.env=(c_,FL e1 X.env)::j_ [e2,e3,e4,e5] X.env))(a: ~~~(j_ [e2,e3,e4,e5] X.env=(c_,FL e2 X.env)::j_ [e3,e4,e5] X.env))(Y: ~~~(j_ [e3,e4,e5] X.env=(c_,FL e3 X.env)::j_ [e4,e5] X.env))(U: ~~~(j_ [e4,e5] X.env=(c_,FL e4 X.env)::j_ [e5] X.env))(S: ~~~(j_ [e5] X.env=(c_,FL e5 X.env)::j_ [] X.env)):DA K W X [e1,e2,e3,e4,e5] (a9 f1 (a9 J (a9 f3 (a9 f4 (a9 f5 av))))):=(bC h1 (bC f (bC e (bC d (bC c bz S) U) Y) a) b)
def da6{J:GI}{f1 U S:ah->M A'}(h1:DE K W c_ X e1 f1)(j:DE K W c_ X e2 U)(i:DE K W c_ X e3 f3)(h:DE K W c_ X e4 f4)(g:DE K W c_ X e5 f5)(f:DE K W c_ X J S)(e: ~~~(j_ [e1,e2,e3,e4,e5,J] X.env=(c_,FL e1 X.env)::j_ [e2,e3,e4,e5,J] X.env))(d: ~~~(j_ [e2,e3,e4,e5,J] X.env=(c_,FL e2 X.env)::j_ [e3,e4,e5,J] X.env))(c: ~~~(j_ [e3,e4,e5,J] X.env=(c_,FL e3 X.env)::j_ [e4,e5,J] X.env))(b: ~~~(j_ [e4,e5,J] X.env=(c_,FL e4 X.env)::j_ [e5,J] X.env))(a: ~~~(j_ [e5,J] X.env=(c_,FL e5 X.env)::j_ [J] X.env))(Y: ~~~(j_ [J] X.env=(c_,FL J X.env)::j_ [] X.env)):DA K W X [e1,e2,e3,e4,e5,J] (a9 f1 (a9 U (a9 f3 (a9 f4 (a9 f5 (a9 S av)))))):=(bC h1 (bC j (bC i (bC h (bC g (bC f bz Y) a) b) c) d) e)
def aD(a:X.N.Nodup)(Y:DE K W c_ X e f)(hi: ~~~(X.N[i]?=a_ x))(J:autoParam (Loc X.env.scope x) Jq7)(S: ~~~(G0 e (a_ (.Name x pos')) pos.line X.env=G2 c_))(U:autoParam (X.fn x=f_\/X.env.scope.names.lookup x=a_ .local) Jq4):
  DS K W ro X OL O (aft c_ i O) (.Assign [.Name x pos'] e pos) (ax O i f):=yG a Y hi J S U
def jB(a:X.N.Nodup)(Y:DE K W f_ X e f)(hi: ~~~(X.N[i]?=a_ x))(J:autoParam (Loc X.env.scope x) Jq7)(S: ~~~(G0 e (a_ (.Name x pos')) pos.line X.env=G2 c_))(U:autoParam (X.fn x=f_\/X.env.scope.names.lookup x=a_ .local) Jq4):
  DS K W ro X OL O (aft f_ i O) (.Assign [.Name x pos'] e pos) (ax O i f):=yG a Y hi J S U
end
section
variable{f:k_}{q:FU}
def dF(S:K.In h)(G:h.Ns Gu mg)(a:autoParam (PL K Gu x=a_ (a_ (.ref f))) Jq2)(l:autoParam (K.lookup f=a_ ⟨oc,od,.func (MF x x (fm st) (cx st) (aF st) .none kV doc pm an cdv ct),osl⟩) Jq2)(c:autoParam (Nv K cdv x=f_) Jq2)(k:autoParam (IT K (.ref f)=f_) Jq2)(J:autoParam (∀(kV doc pm:h_) (an:Option k_) (cdv ct:h_) (us:aH),us.length=ps.length->Mg (MF x x (fm st) (cx st) (aF st) .none kV doc pm an cdv ct) ⟨us,[]⟩=G2 (ps.zip us)) Jq14):∃f fd,Def K mg x st ps f fd:=⟨_,_,def_of S G a l c k J⟩
def mF(a:autoParam (FT K (.ref C) x=a_ (a_ (.ref f))) Jq2)(i:autoParam (isFn K (.ref f)=f_) Jq2)(l:autoParam (K.lookup f=a_ ⟨oc,od,.func (MF x q (fm st) (cx st) (aF st) .none kV doc pm an cdv ct),osl⟩) Jq2)(c:autoParam (Nv K cdv q=f_) Jq2)(k:autoParam (IT K (.ref f)=f_) Jq2)(J:autoParam (∀(kV doc pm:h_) (an:Option k_) (cdv ct:h_) (us:aH),us.length=ps.length->Mg (MF x q (fm st) (cx st) (aF st) .none kV doc pm an cdv ct) ⟨us,[]⟩=G2 (ps.zip us)) Jq14):∃f fd,Mth K C x q st ps f fd:=⟨_,_,(⟨Aj l c k,⟨a,i,k⟩,(Aj l c k).binds J⟩)⟩
def kF(g:K.In h)(G:h.Ns Gu mg)(a:autoParam (PL K Gu x=a_ (a_ (.ref C))) Jq2)(U:autoParam (Nt K C Str.empty=f_) Jq2)(hd:autoParam (Oe K C=f_) Jq2)(S:autoParam (Qo K C=f_) Jq2)(J:autoParam (FT K (.ref C) "__setattr__"=a_ (a_ (.builtin "object.__setattr__"))) Jq2)(Y:autoParam (P8 K C=f_) Jq2)(b:autoParam (IT K (.ref C)=f_) Jq2)(f:autoParam (FT K (.ref C) "__class__"=a_ (a_ (.builtin "object.__class__"))) Jq2)(e:autoParam (Ob K (.builtin "object.__class__") "__get__"=a_ (a_ (.builtin "getset_descriptor.__get__"))) Jq2)(d:autoParam (Oa K (.builtin "object.__class__")=a_ f_) Jq2)(c:autoParam (JA K C (.type "object")=a_ f_) Jq2):Kls K mg x C:=⟨⟨U,hd,S,J⟩,mg_of g G a,Y,b,f,e,d,c⟩
def xF(c:K.In h)(G:h.Ns Gu mg)(a:autoParam (PL K Gu x=a_ (a_ (.ref C))) Jq2)(i:autoParam (FT K (.ref C) "__init__"=a_ (a_ (.ref f))) Jq2)(ex:autoParam (n9 K C [.type "ValueError",.type "Exception",.type "BaseException",.type "object"] "ValueError.__new__" f=f_) Jq8)(Y:autoParam (FT K (.ref C) "__getattribute__"=a_ (a_ (.builtin "BaseException.__getattribute__"))) Jq2)(b:autoParam (FT K (.ref C) "__class__"=a_ (a_ (.builtin "object.__class__"))) Jq2)(U:autoParam (FT K (.ref C) "__getattr__"=a_ g_) Jq2)(bs:autoParam (JA K C (.type "BaseException")=a_ f_) Jq2)(J:autoParam (JA K C (.type "object")=a_ f_) Jq2)(S:autoParam ((MG K C).isSome=f_) Jq8):XTry K mg x C:=
 ⟨mg_of c G a,xnamed2 ex,⟨Y,b,U,bs,J,Ic.mp S⟩⟩
def xM(U:K.In h)(G:h.Ns Gu mg)(N:∃f fd,Mth K C "__init__" q st ps f fd)(a:autoParam (PL K Gu x=a_ (a_ (.ref C))) Jq2)(i:autoParam (FT K (.ref C) "__init__"=a_ (a_ (.ref f))) Jq2)(ex:autoParam (n9 K C [.type "ValueError",.type "Exception",.type "BaseException",.type "object"] "ValueError.__new__" f=f_) Jq8)(S:autoParam (isFn K (.ref f)=f_) Jq2)(J:autoParam (IT K (.ref C)=f_) Jq2):∃f fd,Mth K C "__init__" q st ps f fd/\XMk K mg x C f:=by obtain⟨Y,fd,M⟩:=N;cases(M.mt.1.symm.trans i);exact⟨_,fd,M,mg_of U G a,ex,Kk.mp S,J⟩
def lF(U:K.In h)(G:h.Ns Gu mg)(a:autoParam (PL K Gu x=a_ (a_ (.ref f))) Jq2)(l:autoParam (K.lookup f=a_ ⟨oc,od,.func (MF x x (fm st) (cx st) (aF st) .none kV doc pm an cdv ct),osl⟩) Jq2)(c:autoParam (Nv K cdv x=f_) Jq2)(k:autoParam (IT K (.ref f)=f_) Jq2)(J:∀(kV doc pm:h_) (an:Option k_) (cdv ct:h_) (v:h_),Mg (MF x x (fm st) (cx st) (aF st) .none kV doc pm an cdv ct) ⟨[v],[]⟩=G2 [(y,v)]:=by intros;rfl):∃f fd,Def K mg x st [y] f fd/\∀(s:i_) (v:h_),LH s fd ⟨[v],[]⟩ [(y,v)]:=
 ⟨_,_,def_of U G a l c k λ_ _ _ _ _ _ us S=>match us,S with|[_],_=>J ..,λ_ _=>.of_eq (J ..)⟩
theorem Fun.uniq{J:HN}(a:Fun K x q st f fd)(b:Fun K x q st f J):fd=J:=by
 obtain⟨oc,od,kV,doc,pm,an,cdv,ct,osl,rfl,k,_⟩:=a.ex;obtain⟨e,d,h,U,c,j,Y,i,S,rfl,g,_⟩:=b.ex
 lia
def rS(N:∃f fd,Mth K C x q st ps f fd)(a:autoParam (FT K (.ref C) x=a_ (a_ (.ref f))) Jq2)(Y:autoParam (Ob K (.ref C) "__getattribute__"=a_ (a_ (.builtin "type.__getattribute__"))) Jq8)(U:autoParam (Oc K C mc=f_) Jq8)(S:autoParam (Of K (.ref C) mc x=a_ (.val (.ref f))) Jq8)(J:autoParam (IT K (.ref f)=f_) Jq2):∃f fd,Mth K C x q st ps f fd/\Stat K C mc x f:=by obtain⟨b,fd,M⟩:=N;cases(M.mt.1.symm.trans a);exact⟨_,fd,M,Y,U,S,J⟩
end
noncomputable abbrev PKs:=List ((FU×FU)×Int)
structure Jst where
 dk:List A'
 dn:List A'
 df:List A'
 dc:List A'
 g:PKs
 b:PKs
structure Jad where
 p:k_
 T:k_
 g:k_
 b:k_
 k:k_
 n:k_
 f:k_
 c:k_
section
open PySem.W
variable{lt:α->α->Bool}
theorem out_deep(o:Ord lt){J:List α}{d0:α}{U:α->A'}(a:B6 xs its)(r:ay K F (J.map U) xs)(f:its.length<=t_):∃ys,ys.length<=t_/\B6 ys (jg (rk lt J d0) its)/\ay K F ((dK lt J).map U) ys:=by
 have e:=a.length;have c:=r.length;rw[w_]at c;unfold jg;by_cases b:its.length<2
 .rw[p_ b,kA ad];exact⟨xs,ad,a,r⟩
 .rw[q_ b,show its.length=J.length by lia];obtain⟨h1,_⟩:=oh (n:=J.length) ad;have Y:∀i∈(dG _ (Hj J.length)).toList,i<xs.length:=λi hi=>by
   have:=C_.mp (h1.mem_iff.mp hi);lia
  refine⟨(dG _ (Hj J.length)).toList.map λi=>xs.getD i .non,?_,zg a _ Y,?_⟩
  .rw[w_,h1.length_eq,He];lia
  .rw[<- oF o J d0 ad,FJ];refine ay.of_get aj λk dd v S g2=>?_;rw[FY]at S g2;cases ek:(dG _ (Hj J.length)).toList[k]? with
   |none=>rw[ek]at S;cases S|some i=>rw[ek]at S g2;simp only[LX,MV,L8]at S g2;have hi:=Y i (G9 ek);obtain⟨w,e1,q⟩:=r.get (i:=i) (d:=U (J[i]' ac)) (by simp[show i<J.length by lia]);rw[getD_get (show i<J.length by lia)]at S;rw[B_,e1]at g2;rw[<- S,<- g2];exact q
end
section
open PySem PySem.W
variable{s:i_}
theorem CZ{d:k_}{es:Array G5}{key:Nat->Int}{Q:Mq}(g:A.handled=g_)(lo:(d==HG)=c_)(z:uN s.heap d es ep)(hv:es.toList.map (·.key)=vs)(e:vs.length<64)(f:2<=vs.length->∀(h1:FX) (tk:Nat),(∀b o,s.heap.get? b=a_ o->h1.get? b=a_ o)->Asks prog w A.in1.in1 key vs {s with heap:=h1,toks:=tk})(h:∀(h':FX) (D:k_) (c tk:Nat),s.heap.objs.size<=D->(∀b o,s.heap.get? b=a_ o->h'.get? b=a_ o)->h'.get? D=a_ (Ib "list" (jg key vs).toArray c)->Q (.ref D) {s with heap:=h',toks:=tk}):
  r_ (x_ prog w) A (Jv (.builtin "sorted") [.ref d]) Q E s:=by
 have S:=G4;have hsz:es.size=vs.length:=by rw[<- hv,w_,Ge]
 refine J5 Pe OB OC (OD _) ?_;refine b_ (e_ (b_ (collectR g lo z ad λh1 tk J U=>?_)));rw[hv];refine b_ (LS ?_ ad);have a:(h1.push _).get? h1.objs.size=a_ (Ib "list" vs.toArray 0):=l_ _ rfl;have Y:=λb o q=>E_ (m_ (J b o q));refine b_ (Gq (FO NB ⟨_,a,rfl⟩ M7 (oM (key:=key) a e (λj i k3=>?_) λh' c k' k=>⟨_,rfl,?_⟩) (ND _)))
 .exact f j i tk λb o q=>k3 b o (Y b o q) (d_ _ (J b o q))
 .exact e_ ⟨_,rfl,h h' _ c tk U (λb o q=>k' b o (Y b o q) (d_ _ (J b o q))) k⟩
end
def sC:List A'->M A'
 |[.dil ks]=>if ks.length<64 then .ok (.lst ((dK ltL ks).map bF))else stk
 |_=>stk
section
variable{W:cP}
theorem Ce(L:X.A.units+64<GB)(B: ~~~(X.calm=f_))(U: ~~~(X.K=K)):lO K W f_ X (.builtin "sorted") sC:=by
 subst U;intro B2 s σ H xs us Q I A h;obtain⟨F,d,x,Y,e,q,p⟩:=jm (λds=>by match ds with|[d]=>exact .inl ⟨d,rfl⟩|[]=>exact .inr rfl|a::b::c=>exact .inr (by cases a<;>rfl)) h;subst e;obtain⟨u,rfl,z⟩:=A.one;cases d with
 |dil ks=>
  have p:aJ X.K W f_ F H (if ks.length<64 then .ok (.lst ((dK ltL ks).map bF))else stk) Q:=p;by_cases J:ks.length<64
  .rw[p_ J]at p;obtain⟨a,S,e1,⟨ep,k⟩,ek,U⟩:=q;subst e1;cases z;rw[<- ek]at p J;rw[w_]at J;obtain⟨hd,j,m,o,es,E,g2,C,l⟩:=dil_ok I (Y _ _ k);refine CZ (key:=rk ltL (S.map Ja) (0,[])) (vs:=S.map λr=>D_ r.2) (I.ok.hd B) hd ⟨o,E,g2,C⟩ (by rw[l,FJ];rfl) (by rw[w_];exact J) (λt h1 tk f=>?_) λh' D c tk n f e=>?_
   .rw[w_]at t;exact asks_L (s:={s with heap:=h1,toks:=tk}) (by show X.A.units+1+1+8<GB;lia) (λr i=>yr (oP I ((U r i).mono Y)) f) t
   .have vs:B6 (S.map λr=>V.ref r.2) (S.map λr=>D_ r.2):=by
     clear e p U m j ek l k J
     induction S with
     |nil=>exact .nil|cons r S g=>exact .cons rfl g
    have G:ay X.K F ((S.map Ja).map bF) (S.map λr=>V.ref r.2):=by
     clear e p vs m j ek l k J
     induction S with
     |nil=>rfl|cons r S g=>exact⟨_,_,rfl,A5 (U r aj),g λr' i=>U r' (by simp[i])⟩
    obtain⟨ys,y,w,v⟩:=out_deep ordL (d0:=(0,[])) vs G (by rw[w_];exact j);exact⟨.ref D,_,I.laid (t':=tk) f n (show dq _ h' D (.lst ys)from⟨y,_,c,w,e⟩),rfl,p.lst Y v (I.hok.fresh n)⟩
  .rw[q_ J]at p;exact aJ.stuck p
 |_=>exact aJ.stuck p
end
section
open PySem.W
end
section
open PySem PySem.W
end
section
open PySem.W
end
section
open PySem
end
mutual
noncomputable def noD:A'->Bool
 |.tup ds=>noDs ds|.lst ds=>noDs ds|.ins _ gs=>noDF gs|.dic _=>c_|.dil _=>c_|_=>f_
noncomputable def noDs:List A'->Bool
 |[]=>f_|d::ds=>noD d&&noDs ds
noncomputable def noDF:List (FU×A')->Bool
 |[]=>f_|(_,d)::gs=>noD d&&noDF gs
end
noncomputable def isExt:HO->Bool
 |.ext _=>f_|_=>c_
def Drops(F F':Hp):Prop:=∀b o,F b=a_ o->isExt o=c_->F' b=a_ o
end Lake
namespace Tactic
open PySem Lake PyProof.Rows
variable{w:GS}{mg:Ld}{n m i k j q st:Nat}{CP CL AStripError ANoTime ATooMany ANoPlace:k_}{dA: k_}{cT fd: HN}{d:A'}{u a:Int}{v:V}{p ps:List (Nat×Nat)}{ts b ks c:List Int}{rows L:List (List Int)}{l x:LK}
def g8:ah->M B4:=
 sIf (fB (f2 ltD (af 1) (fL pV (a9 (af 0) av))))
   (cM (f2 eS (f2 ixD (af 0) (af 1)) (f2 pS (fC (.int 10)) (fC (.int 24)))))
   bO
def ic:ah->M B4:=
 (aM (g8)
  (cM (fC (.int 0))))
def bf:List A'->M A':=bo 2 2 (ic)
def pd:ah->M B4:=
 (cM (f2 eqM (f2 eS (f2 di (fL (bf) (a9 (af 0) (a9 (fC (.int 2)) av))) (fC (.int 24))) (fC (.int 2))) (fC (.int 1))))
def fg:List A'->M A':=bo 1 1 (pd)
def eP:ah->M B4:=
 (ax [] 3 (f2 fdivB (af 3) (f2 pS (fC (.int 10)) (fC (.int 40)))))
def eJ:ah->M B4:=
 sIf (tX (fL (fg) (a9 (af 0) av)))
   (aM (ax [] 3 (f2 ixD (af 2) (f2 eS (af 1) (fL pV (a9 (af 2) av)))))
  (aM (gB [] (iH jJ (a9 (f2 di (af 1) (fL pV (a9 (af 2) av))) av)) (.nm 4) (eP))
  (cM (f2 eS (af 3) (f2 pS (fC (.int 10)) (fC (.int 40)))))))
   bO
def gM:ah->M B4:=
 sIf (fB (f2 gtD (fL pV (a9 (af 2) av)) (fC (.int 0))))
   (ax [] 3 (f2 eS (f2 ixD (af 2) (f2 eS (af 1) (fL pV (a9 (af 2) av)))) (f2 pS (fC (.int 10)) (fC (.int 24)))))
   bO
def gp:ah->M B4:=
 (aM (ax [] 2 (fSl j6 (af 0) vK (oE (fC (.int 63)))))
  (aM (ax [] 3 (f2 eU (f2 pU (fC (.int 11)) (af 1)) (fC (.int 3))))
  (aM (eJ)
  (aM (gM)
  (aM (ax [] 5 (f2 eS (f2 pU (f2 eU (f2 eU (af 3) (f2 pU (f2 pU (af 1) (af 1)) (fC (.int 7919)))) (fL pV (a9 (af 2) av))) (fC (.int 48271))) (fC (.int 2305843009213693951))))
  (cM (f2 eS (f2 eU (f2 pU (af 5) (fC (.int 1442695040888963407))) (fC (.int 4321))) (fC (.int 2305843009213693921)))))))))
def aV:List A'->M A':=bo 6 2 (gp)
def gz:ah->M B4:=
 sIf (fB (f2 eqM (f2 eS (af 7) (fC (.int 16))) (fC (.int 15))))
   (ax [3,5] 8 (f2 eS (f2 di (af 7) (fC (.int 16))) (f2 eU (f2 pS (fC (.int 10)) (fC (.int 6))) (fC (.int 1)))))
   bO
def gu:ah->M B4:=
 sIf (fB (f2 ltD (f2 eS (af 7) (fC (.int 16))) (fC (.int 3))))
   (ax [3,5] 8 (fC (.int 0)))
   bO
def cz:ah->M B4:=
 (aM (ax [3,5] 7 (fL (aV) (a9 (af 0) (a9 (f2 eU (f2 eU (af 1) (f2 pU (af 4) (af 2))) (af 6)) av))))
  (aM (ax [3,5] 8 (f2 eS (f2 di (af 7) (fC (.int 16))) (fC (.int 7))))
  (aM (gz)
  (aM (gu)
  (i7 [3,5] 5 (af 8))))))
def iZ:ah->M B4:=
 (aM (ax [3] 5 (fL bW av))
  (aM (gB [3,5] (iH jJ (a9 (af 2) av)) (.nm 6) (cz))
  (i7 [3] 3 (af 5))))
def pb:ah->M B4:=
 (aM (ax [] 3 (fL bW av))
  (aM (gB [3] (iH jJ (a9 (af 2) av)) (.nm 4) (iZ))
  (cM (af 3))))
def gF:List A'->M A':=bo 9 3 (pb)
def lp:ah->M B4:=
 (cM (cL (fIt (af 0)) [g_] (.nm 0) iG (fL lb (a9 (af 0) av))))
def gj:List A'->M A':=bo 1 1 (lp)
def rZ:ah->M B4:=
 sIf (fOr (Cy (tX (f1 nW (af 0)))) (tX (f1 jw (af 0))))
   (cM (fC (.bl c_)))
   bO
def Ai:ah->M B4:=
 (aM (rZ)
  (cM (jb leD leD (fC (.int 0)) (af 0) (fC (.int 1000000)))))
def jR:List A'->M A':=bo 1 1 (Ai)
def n5:ah->M B4:=
 (cM (yB (f1 lj (af 0)) (yB (f2 eqM (fL pV (a9 (af 0) av)) (af 1)) (fL allD (a9 (cL (fIt (af 0)) [g_] (.nm 0) iG (fL (jR) (a9 (af 0) av))) av)))))
def dP:List A'->M A':=bo 2 2 (n5)
def jd:ah->M B4:=
 sIf (Cy (fB (jb leD leD (fC (.int 1)) (af 1) (fC (.int 6)))))
   sStk
   bO
def jc:ah->M B4:=
 sIf (Cy (tX (fL allD (a9 (cL (fIt (af 0)) [g_,a_ 1] (.nm 0) iG (fL (dP) (a9 (af 0) (a9 (af 1) av)))) av))))
   sStk
   bO
def kj:ah->M B4:=
 (aM (ax [] 1 (fL pV (a9 (af 0) av)))
  (aM (jd)
  (aM (jc)
  (cM (fL (gj) (a9 (af 0) av))))))
def aC:List A'->M A':=bo 2 1 (kj)
def iE:ah->M B4:=
 (aM (ax [] 2 (f2 eS (af 0) (af 1)))
  (aM (ax [] 0 (f2 di (af 0) (fC (.int 6))))
  (aM (ax [] 3 (f2 eU (fL intD (a9 (f2 gtD (f2 eS (af 0) (fC (.int 8))) (fC (.int 4))) av)) (fL intD (a9 (f2 gtD (f2 eS (af 0) (fC (.int 8))) (fC (.int 6))) av))))
  (aM (ax [] 4 (f2 ixD (fL bW (a9 (f2 eS (f2 di (af 0) (fC (.int 8))) (fC (.int 40))) (a9 (f2 eS (f2 di (af 0) (fC (.int 8))) (fC (.int 1000))) (a9 (f2 eS (f2 di (af 0) (fC (.int 8))) (f2 eU (f2 pS (fC (.int 10)) (fC (.int 9))) (fC (.int 1)))) av)))) (af 3)))
  (aM (ax [] 0 (f2 di (af 0) (f2 eU (f2 pU (fC (.int 8)) (f2 pS (fC (.int 10)) (fC (.int 9)))) (fC (.int 8)))))
  (aM (ax [] 5 (f2 eU (af 4) (f2 ixD (fL bW (a9 (f2 eS (f2 di (af 0) (fC (.int 4))) (fC (.int 60))) (a9 (f2 pS (fC (.int 10)) (fC (.int 8))) (a9 (f2 eS (f2 di (af 0) (fC (.int 4))) (fC (.int 1000))) (a9 (f2 eS (f2 di (af 0) (fC (.int 4))) (f2 pS (fC (.int 10)) (fC (.int 9)))) av))))) (f2 eS (af 0) (fC (.int 4))))))
  (aM (ax [] 0 (f2 di (af 0) (f2 pU (fC (.int 4)) (f2 pS (fC (.int 10)) (fC (.int 9))))))
  (aM (ax [] 6 (f2 ixD (fL bW (a9 (f2 eS (f2 di (af 0) (fC (.int 2))) (fC (.int 80))) (a9 (f2 eS (f2 di (af 0) (fC (.int 2))) (f2 eU (f2 pS (fC (.int 10)) (fC (.int 9))) (fC (.int 1)))) av))) (f2 eS (af 0) (fC (.int 2)))))
  (aM (ax [] 0 (f2 di (af 0) (f2 eU (f2 pU (fC (.int 2)) (f2 pS (fC (.int 10)) (fC (.int 9)))) (fC (.int 2)))))
  (aM (ax [] 7 (f2 ixD (fL bW (a9 (f2 eS (f2 di (af 0) (fC (.int 2))) (fC (.int 9))) (a9 (f2 eS (f2 di (af 0) (fC (.int 2))) (f2 eU (f2 pS (fC (.int 10)) (fC (.int 9))) (fC (.int 1)))) av))) (f2 eS (af 0) (fC (.int 2)))))
  (cM (fL cb (a9 (af 2) (a9 (af 4) (a9 (fL minD (a9 (af 5) (a9 (f2 pS (fC (.int 10)) (fC (.int 9))) av))) (a9 (af 6) (a9 (af 7) av)))))))))))))))))
def bE:List A'->M A':=bo 8 2 (iE)
def fZ:ah->M B4:=
 sIf (tX (fL (fg) (a9 (af 0) av)))
   (cM (cL (iH jJ (a9 (af 3) av)) [g_,a_ 0,a_ 1,a_ 2] (.nm 0) iG (fL (bE) (a9 (fL (aV) (a9 (af 1) (a9 (f2 eU (af 2) (af 0)) av))) (a9 (af 3) av)))))
   bO
def cH:ah->M B4:=
 sIf (fB (f2 eqM (f2 eS (af 6) (fC (.int 8))) (fC (.int 1))))
   (ax [4] 8 (f2 pS (fC (.int 10)) (fC (.int 9))))
   bO
def cG:ah->M B4:=
 sIf (fB (f2 eqM (f2 eS (af 6) (fC (.int 8))) (fC (.int 2))))
   (ax [4] 8 (f2 eU (af 7) (f2 eS (f2 di (af 6) (fC (.int 512))) (fC (.int 4)))))
   bO
def cF:ah->M B4:=
 sIf (fB (f2 eqM (f2 eS (af 6) (fC (.int 8))) (fC (.int 3))))
   (ax [4] 10 (f2 eS (af 6) (f2 eU (f2 pS (fC (.int 10)) (fC (.int 9))) (fC (.int 1)))))
   bO
def bu:ah->M B4:=
 (aM (ax [4] 6 (fL (aV) (a9 (af 0) (a9 (f2 eU (af 1) (af 5)) av))))
  (aM (ax [4] 7 (f2 eS (f2 di (af 6) (fC (.int 8))) (fC (.int 30))))
  (aM (ax [4] 8 (f2 eU (af 7) (f2 eS (f2 di (af 6) (fC (.int 512))) (fC (.int 40)))))
  (aM (cH)
  (aM (cG)
  (aM (ax [4] 9 (f2 eS (f2 di (af 6) (fC (.int 32768))) (fC (.int 50))))
  (aM (ax [4] 10 (f2 eS (f2 di (af 6) (fC (.int 2097152))) (fC (.int 7))))
  (aM (cF)
  (i7 [4] 4 (fL cb (a9 (f2 eS (f2 di (af 6) (fC (.int 16777216))) (af 2)) (a9 (af 7) (a9 (af 8) (a9 (af 9) (a9 (af 10) av)))))))))))))))
def ib:ah->M B4:=
 (aM (ax [] 4 (fL bW av))
  (aM (fZ)
  (aM (gB [4] (iH jJ (a9 (af 3) av)) (.nm 5) (bu))
  (cM (af 4)))))
def dz:List A'->M A':=bo 11 4 (ib)
def eK:ah->M B4:=
 sIf (fAnd (tX (fL (fg) (a9 (af 0) av))) (fB (f2 eqM (f2 eS (af 4) (fC (.int 8))) (fC (.int 7)))))
   (aM (ax [2] 5 (f2 eS (f2 di (af 4) (fC (.int 8))) (f2 pS (fC (.int 10)) (fC (.int 9)))))
  (ax [2] 6 (fL minD (a9 (f2 pS (fC (.int 10)) (fC (.int 9))) (a9 (f2 eU (f2 eU (af 5) (fC (.int 1))) (f2 eS (f2 di (af 4) (f2 pU (fC (.int 8)) (f2 pS (fC (.int 10)) (fC (.int 9))))) (f2 pS (fC (.int 10)) (fC (.int 9))))) av)))))
   bO
def cm:ah->M B4:=
 (aM (ax [2] 4 (fL (aV) (a9 (af 0) (a9 (f2 eU (f2 eU (af 1) (fC (.int 1))) (af 3)) av))))
  (aM (ax [2] 5 (f2 eS (f2 di (af 4) (fC (.int 8))) (fC (.int 40))))
  (aM (ax [2] 6 (f2 eU (f2 eU (af 5) (fC (.int 1))) (f2 eS (f2 di (af 4) (fC (.int 512))) (fC (.int 9)))))
  (aM (eK)
  (i7 [2] 2 (fL cb (a9 (af 5) (a9 (af 6) av))))))))
def lr:ah->M B4:=
 (aM (ax [] 2 (fL bW av))
  (aM (gB [2] (iH jJ (a9 (f2 eS (f2 di (fL (aV) (a9 (af 0) (a9 (af 1) av))) (fC (.int 64))) (fC (.int 4))) av)) (.nm 3) (cm))
  (cM (af 2))))
def gm:List A'->M A':=bo 7 2 (lr)
def qC(R:List A'->M A'):ah->M B4:=
 sIf (fB (f2 eqM (af 1) (fC (.int 0))))
   (cM (fL bW (a9 (fL cb av) av)))
   bO
def qF(R:List A'->M A'):ah->M B4:=
 (i7 [2] 2 (f2 eU (fL cb (a9 (af 4) av)) (af 5)))
def qE(R:List A'->M A'):ah->M B4:=
 (gB [2] (fIt (fL R (a9 (fSl j6 (af 0) (oE (f2 eU (af 3) (fC (.int 1)))) vK) (a9 (f2 CU (af 1) (fC (.int 1))) av)))) (.nm 5) (qF R))
def n6(R:List A'->M A'):ah->M B4:=
 (aM (qC R)
  (aM (ax [] 2 (fL bW av))
  (aM (gB [2] (wo (af 0)) (.tp [3,4]) (qE R))
  (cM (af 2)))))
def dS:Nat->ah->M B4
 |0=>λ_=>stk|d+1=>n6 (bo 6 2 (dS d))
def mV:List A'->M A':=bo 6 2 (dS 6)
def p9:ah->M B4:=
 (aM (ax [] 3 (fTR (iH jJ (a9 (fL maxD (a9 (fC (.int 0)) (a9 (f2 CU (af 2) (af 1)) av))) av))))
  (aM (ax [] 4 (fLR (iH Br (a9 (fL pV (a9 (af 3) av)) (a9 (fL minD (a9 (af 0) (a9 (f2 eU (af 2) (af 1)) av))) av)))))
  (cM (cL (fIt (fL (mV) (a9 (af 4) (a9 (f2 CU (af 2) (fL pV (a9 (af 3) av))) av)))) [g_,a_ 3] (.nm 0) iG (f2 eU (af 1) (af 0))))))
def gE:List A'->M A':=bo 5 3 (p9)
def j9:ah->M B4:=
 (cM (cL (n8 (af 0)) [g_,g_,a_ 0] (.tp [0,1]) iG (fL cb (a9 (f2 eU (fSl j6 (af 2) vK (oE (af 0))) (fSl j6 (af 2) (oE (f2 eU (af 0) (fC (.int 1)))) vK)) (a9 (af 1) av)))))
def bM:List A'->M A':=bo 1 1 (j9)
def pN:ah->M B4:=
 (Bp 4 (af 5) (fL sumD (a9 (cL (fIt (fL (bM) (a9 (af 5) av))) [g_,g_,a_ 2] (.tp [0,1]) iG (qt (af 2) (af 0) (fC (.int 0)))) av)))
def pM:ah->M B4:=
 (aM (ax [] 4 (fC (.dic [])))
  (aM (gB [4] (fIt (fL (gE) (a9 (af 0) (a9 (af 1) (a9 (af 3) av))))) (.nm 5) (pN))
  (ax [] 2 (af 4))))
def tV:ah->M B4:=
 (aM (ax [] 2 (f2 mkD1 (fL cb av) (fC (.int 1))))
  (aM (gB [] (iH Br (a9 (fC (.int 1)) (a9 (f2 eU (af 0) (fC (.int 1))) av))) (.nm 3) (pM))
  (cM (f1 CT (af 2)))))
def iR:List A'->M A':=bo 6 2 (tV)
def dM:ah->M B4:=
 (cM (fC (.int 1)))
def aI:List A'->M A':=bo 1 1 (dM)
def eA:ah->M B4:=
 (cM (fC (.int 2)))
def aN:List A'->M A':=bo 1 1 (eA)
def fF(CR CP CL:k_)(n:Nat):ah->M B4:=
 (ax [] 3 (f2 pU (af 3) (cf CR CP "many_strips" (aI) (aN) (af 0) av)))
def mY(CR CP CL:k_)(n:Nat):ah->M B4:=
 (aM (ax [] 3 (fL (iR) (a9 (af 1) (a9 (af 2) av))))
  (aM (gB [] (iH jJ (a9 (af 1) av)) (.nm 4) (fF CR CP CL n))
  (cM (af 3))))
def gW(CR CP CL:k_)(n:Nat):List A'->M A':=bo 5 3 (mY CR CP CL n)
def gJ(CR CP CL:k_)(n:Nat):ah->M B4:=
 sIf (fB (f2 gtD (fL (gW CR CP CL n) (a9 (af 0) (a9 (fL pV (a9 (af 1) av)) (a9 (af 2) av)))) (fC (.int 5000))))
   sStk
   bO
def iB(CR CP CL:k_)(n:Nat):ah->M B4:=
 (gJ CR CP CL n)
def cW(CR CP CL:k_)(n:Nat):List A'->M A':=bo 3 3 (iB CR CP CL n)
def lK:ah->M B4:=
 (sExt [2] 2 (fL (gE) (a9 (af 0) (a9 (af 1) (a9 (af 3) av)))))
def nG:ah->M B4:=
 (aM (ax [] 2 (fL bW av))
  (aM (gB [2] (iH jJ (a9 (f2 eU (af 0) (fC (.int 1))) av)) (.nm 3) (lK))
  (cM (af 2))))
def fU:List A'->M A':=bo 4 2 (nG)
def eG:ah->M B4:=
 sIf (fB (f2 gtD (f2 ixD (af 0) (fC (.int 0))) (f2 ixD (af 1) (fC (.int 0)))))
   (cM (fC (.bl c_)))
   bO
def gK:ah->M B4:=
 sIf (fB (f2 gtD (af 4) (af 5)))
   (cM (fC (.bl c_)))
   bO
def eO:ah->M B4:=
 (gK)
def eN:ah->M B4:=
 (gB [] (tW (af 2) (af 3)) (.tp [4,5]) (eO))
def gn:ah->M B4:=
 (aM (eG)
  (aM (gB [] (tW (f2 ixD (af 0) (fC (.int 1))) (f2 ixD (af 1) (fC (.int 1)))) (.tp [2,3]) (eN))
  (cM (fC (.bl f_)))))
def cq:List A'->M A':=bo 6 2 (gn)
def fW:ah->M B4:=
 sIf (tX (fL (cq) (a9 (af 2) (a9 (af 1) av))))
   (cM (fC (.bl f_)))
   bO
def br:ah->M B4:=
 (fW)
def i9:ah->M B4:=
 (aM (gB [] (fIt (af 0)) (.nm 2) (br))
  (cM (fC (.bl c_))))
def dw:List A'->M A':=bo 3 2 (i9)
def gL:ah->M B4:=
 sIf (Cy (tX (fL (dw) (a9 (af 1) (a9 (af 2) av)))))
   (i7 [1] 1 (af 2))
   bO
def ck:ah->M B4:=
 (gL)
def lq:ah->M B4:=
 (aM (ax [] 1 (fL bW av))
  (aM (gB [1] (fIt (fL sC (a9 (af 0) av))) (.nm 2) (ck))
  (cM (af 1))))
def gk:List A'->M A':=bo 3 1 (lq)
def eu(CR CP CL:k_)(n:Nat):ah->M B4:=
 (cM (fL pV (a9 (f1 (pO [CR,CP] "gaps") (af 0)) av)))
def aT(CR CP CL:k_)(n:Nat):List A'->M A':=bo 1 1 (eu CR CP CL n)
def iV(CR CP CL:k_)(n:Nat):ah->M B4:=
 (aM (ax [] 1 (fL mJ (a9 (cL (iH jJ (a9 (cf CR CP "many_kinds" (aT CR CP CL n) (aT CR CP CL n) (af 0) av) av)) [g_] (.nm 0) iG (f1 negD (fC (.int 1)))) av)))
  (cM (fL cb (a9 (fC (.int 0)) (a9 (fL mJ (a9 (cL (iH jJ (a9 (cf CR CP "many_strips" (aI) (aN) (af 0) av) av)) [g_,a_ 1] (.nm 0) iG (af 1)) av)) av)))))
def iT(CR CP CL:k_)(n:Nat):List A'->M A':=bo 2 1 (iV CR CP CL n)
def dj:ah->M B4:=
 sIf (fAnd (tX (af 1)) (fB (f2 leD (af 2) (f2 ixD (f2 ixD (af 1) (f1 negD (fC (.int 1)))) (fC (.int 1))))))
   (xO 1 (f1 negD (fC (.int 1))) (fL cb (a9 (f2 ixD (f2 ixD (af 1) (f1 negD (fC (.int 1)))) (fC (.int 0))) (a9 (fL maxD (a9 (af 3) (a9 (f2 ixD (f2 ixD (af 1) (f1 negD (fC (.int 1)))) (fC (.int 1))) av))) av))))
   (i7 [1] 1 (fL cb (a9 (af 2) (a9 (af 3) av))))
def bX:ah->M B4:=
 (dj)
def hG:ah->M B4:=
 (aM (ax [] 1 (fL bW av))
  (aM (gB [1] (fIt (fL lQ (a9 (af 0) av))) (.tp [2,3]) (bX))
  (cM (af 1))))
def cN:List A'->M A':=bo 4 1 (hG)
def lH:ah->M B4:=
 sIf (fB (jb leD ltD (af 2) (af 1) (af 3)))
   (cM (af 3))
   bO
def iY:ah->M B4:=
 (lH)
def kB:ah->M B4:=
 (aM (gB [] (fIt (fL (cN) (a9 (af 0) av))) (.tp [2,3]) (iY))
  (cM (af 1)))
def dJ:List A'->M A':=bo 4 2 (kB)
def mZ:ah->M B4:=
 (aM (xQ 3 (cL (fIt (af 0)) [g_] (.nm 0) iG (fL lb (a9 (af 0) av))) (af 2) (f2 ixD (af 1) (fC (.int 1))) (f2 ixD (af 1) (fC (.int 0))))
  (cM (fL mJ (a9 (cL (fIt (af 3)) [g_] (.nm 0) iG (fL mJ (a9 (af 0) av))) av))))
def gX:List A'->M A':=bo 4 3 (mZ)
def oZ:ah->M B4:=
 (aM (ax [] 2 (f2 ixD (af 0) (fC (.int 3))))
  (aM (ax [] 3 (f2 ixD (af 0) (fC (.int 4))))
  (cM (f2 pU (af 3) (fL maxD (a9 (fC (.int 0)) (a9 (f2 CU (af 1) (af 2)) av)))))))
def eZ:List A'->M A':=bo 4 2 (oZ)
def iW(CR CP CL:k_)(n:Nat):ah->M B4:=
 (cM (f2 ixD (f2 ixD (f1 (pO [CR,CP] "gaps") (af 0)) (f2 ixD (af 1) (fC (.int 0)))) (f2 ixD (af 2) (fC (.int 0)))))
def bh(CR CP CL:k_)(n:Nat):List A'->M A':=bo 3 3 (iW CR CP CL n)
def fJ(CR CP CL:k_)(n:Nat):ah->M B4:=
 (aM (ax [] 3 (fIte (fB (f2 eqM (f2 ixD (af 1) (fC (.int 1))) (f2 ixD (af 2) (fC (.int 1))))) (f1 (pO [CR,CP] "gaps") (af 0)) (f1 (pO [CP] "beside") (af 0))))
  (cM (f2 ixD (f2 ixD (af 3) (f2 ixD (af 1) (fC (.int 0)))) (f2 ixD (af 2) (fC (.int 0))))))
def b8(CR CP CL:k_)(n:Nat):List A'->M A':=bo 4 3 (fJ CR CP CL n)
def eE(CR CP CL:k_)(n:Nat):ah->M B4:=
 sIf (fB (f2 neM (af 7) (f1 negD (fC (.int 1)))))
   (i7 [3] 3 (f2 eU (af 7) (cf CR CP "apart" (bh CR CP CL n) (b8 CR CP CL n) (af 0) (a9 (fL cb (a9 (af 6) (a9 (af 4) av))) (a9 (af 2) av)))))
   bO
def bN(CR CP CL:k_)(n:Nat):ah->M B4:=
 (eE CR CP CL n)
def cO(CR CP CL:k_)(n:Nat):ah->M B4:=
 (gB [3] (n8 (af 5)) (.tp [6,7]) (bN CR CP CL n))
def ja(CR CP CL:k_)(n:Nat):ah->M B4:=
 (aM (ax [] 3 (fL bW av))
  (aM (gB [3] (n8 (af 1)) (.tp [4,5]) (cO CR CP CL n))
  (cM (af 3))))
def dH(CR CP CL:k_)(n:Nat):List A'->M A':=bo 8 3 (ja CR CP CL n)
def fV:ah->M B4:=
 sIf (fB (f2 gtD (af 8) (f2 ixD (af 6) (fC (.int 2)))))
   (cM (fC .non))
   bO
def i8(CR CP CL:k_)(n:Nat):ah->M B4:=
 (aM (ax [] 6 (f2 ixD (af 1) (af 4)))
  (aM (ax [] 7 (fL cb (a9 (f2 ixD (af 6) (fC (.int 0))) (a9 (af 5) av))))
  (aM (ax [] 8 (fL (dJ) (a9 (af 2) (a9 (fL maxD (a9 (f2 eU (fL bW (a9 (f2 ixD (af 6) (fC (.int 1))) av)) (fL (dH CR CP CL n) (a9 (af 0) (a9 (f2 ixD (af 3) (fC (.int 1))) (a9 (af 7) av))))) av)) av))))
  (aM (fV)
  (cM (fL cb (a9 (f2 eU (f2 ixD (af 3) (fC (.int 0))) (fL (eZ) (a9 (af 6) (a9 (af 8) av)))) (a9 (fL (gX) (a9 (f2 ixD (af 3) (fC (.int 1))) (a9 (af 7) (a9 (af 8) av)))) av))))))))
def bQ(CR CP CL:k_)(n:Nat):List A'->M A':=bo 9 6 (i8 CR CP CL n)
def fq:ah->M B4:=
 sIf (fB (f2 yk (af 10) (fC .non)))
   (ot 5 (af 10) (fC (.bl f_)))
   bO
def cj(CR CP CL:k_)(n:Nat):ah->M B4:=
 (aM (ax [5] 10 (fL (bQ CR CP CL n) (a9 (af 0) (a9 (af 1) (a9 (af 2) (a9 (af 8) (a9 (af 7) (a9 (af 9) av))))))))
  (fq))
def d9(CR CP CL:k_)(n:Nat):ah->M B4:=
 (gB [5] (iH jJ (a9 (cf CR CP "many_strips" (aI) (aN) (af 0) av) av)) (.nm 9) (cj CR CP CL n))
def d8(CR CP CL:k_)(n:Nat):ah->M B4:=
 (gB [5] (fIt (qt (af 3) (af 6) (fL bW av))) (.nm 8) (d9 CR CP CL n))
def jx(CR CP CL:k_)(n:Nat):ah->M B4:=
 (aM (ax [] 5 (fC (.dil [])))
  (aM (gB [5] (fIt (fL (bM) (a9 (af 4) av))) (.tp [6,7]) (d8 CR CP CL n))
  (cM (af 5))))
def e9(CR CP CL:k_)(n:Nat):List A'->M A':=bo 11 5 (jx CR CP CL n)
def jD(CR CP CL:k_)(n:Nat):ah->M B4:=
 sIf (fB (f2 eqM (af 5) (fL cb av)))
   (mO 4 (af 5) (fL bW (a9 (fL (iT CR CP CL n) (a9 (af 0) av)) av)))
   (mO 4 (af 5) (fL (gk) (a9 (fL (e9 CR CP CL n) (a9 (af 0) (a9 (af 1) (a9 (af 2) (a9 (af 4) (a9 (af 5) av)))))) av)))
def fN(CR CP CL:k_)(n:Nat):ah->M B4:=
 (jD CR CP CL n)
def rJ(CR CP CL:k_)(n:Nat):ah->M B4:=
 (aM (qV [] (fL (cW CR CP CL n) (a9 (af 0) (a9 (af 1) (a9 (af 3) av)))))
  (aM (ax [] 4 (fC (.dic [])))
  (aM (gB [4] (fIt (fL (fU) (a9 (fL pV (a9 (af 1) av)) (a9 (af 3) av)))) (.nm 5) (fN CR CP CL n))
  (cM (af 4)))))
def jP(CR CP CL:k_)(n:Nat):List A'->M A':=bo 6 4 (rJ CR CP CL n)
def kH(CR CP CL:k_)(n:Nat):ah->M B4:=
 sIf (fB (f2 eqM (fL (bQ CR CP CL n) (a9 (af 0) (a9 (af 1) (a9 (af 2) (a9 (af 8) (a9 (af 7) (a9 (af 9) av))))))) (af 5)))
   (cM (fL cb (a9 (af 6) (a9 (af 8) (a9 (fL cb (a9 (af 7) (a9 (af 9) av))) av)))))
   bO
def dO(CR CP CL:k_)(n:Nat):ah->M B4:=
 (kH CR CP CL n)
def dN(CR CP CL:k_)(n:Nat):ah->M B4:=
 (gB [] (iH jJ (a9 (cf CR CP "many_strips" (aI) (aN) (af 0) av) av)) (.nm 9) (dO CR CP CL n))
def fy(CR CP CL:k_)(n:Nat):ah->M B4:=
 (gB [] (fIt (qt (af 3) (af 6) (fL bW av))) (.nm 8) (dN CR CP CL n))
def w9(CR CP CL:k_)(n:Nat):ah->M B4:=
 (gB [] (fIt (fL (bM) (a9 (af 4) av))) (.tp [6,7]) (fy CR CP CL n))
def l8(CR CP CL:k_)(n:Nat):List A'->M A':=bo 10 6 (w9 CR CP CL n)
def iN:ah->M Bool:=
 (fB (f2 neM (f2 ixD (af 6) (fC (.int 0))) (fL cb av)))
def kI(CR CP CL:k_)(n:Nat):ah->M B4:=
 (aM (ax [7] 8 (fL (l8 CR CP CL n) (a9 (af 0) (a9 (af 1) (a9 (af 2) (a9 (af 3) (a9 (f2 ixD (af 6) (fC (.int 0))) (a9 (f2 ixD (af 6) (fC (.int 1))) av))))))))
  (aM (i7 [7] 7 (f2 ixD (af 8) (fC (.int 2))))
  (ax [7] 6 (fL cb (a9 (f2 ixD (af 8) (fC (.int 0))) (a9 (f2 ixD (af 8) (fC (.int 1))) av))))))
def wa(CR CP CL:k_)(n:Nat):ah->M B4:=
 (aM (ax [] 6 (fL cb (a9 (af 4) (a9 (af 5) av))))
  (aM (ax [] 7 (fL bW av))
  (aM (j4 (iN) (kI CR CP CL n) n)
  (cM (f1 revD (af 7))))))
def l9(CR CP CL:k_)(n:Nat):List A'->M A':=bo 9 6 (wa CR CP CL n)
def rH:ah->M B4:=
 (cM (cL (fIt (af 1)) [g_,g_,a_ 0] (.tp [0,1]) iG (fL cb (a9 (f2 ixD (f2 ixD (af 2) (af 0)) (fC (.int 0))) (a9 (af 1) av)))))
def jO:List A'->M A':=bo 2 2 (rH)
def p8(CR CP CL:k_)(n:Nat):ah->M B4:=
 (cM (cL (iH jJ (a9 (af 3) av)) [g_,a_ 0,a_ 1,a_ 2,a_ 3] (.nm 0) iG (f2 eU (f2 ixD (af 3) (af 0)) (cf CR CP "apart" (bh CR CP CL n) (b8 CR CP CL n) (af 1) (a9 (f2 ixD (af 2) (af 0)) (a9 (f2 ixD (af 2) (af 4)) av))))))
def iS(CR CP CL:k_)(n:Nat):List A'->M A':=bo 4 4 (p8 CR CP CL n)
def ng:ah->M B4:=
 sIf (fB (f2 gtD (af 9) (f2 ixD (af 8) (fC (.int 2)))))
   sStk
   bO
def hW(CR CP CL:k_)(n:Nat):ah->M B4:=
 (aM (ax [5] 8 (f2 ixD (af 1) (f2 ixD (af 7) (fC (.int 0)))))
  (aM (xP c_ 9 (fL (dJ) (a9 (af 2) (a9 (fL maxD (a9 (f2 eU (fL bW (a9 (f2 ixD (af 8) (fC (.int 1))) av)) (fL (iS CR CP CL n) (a9 (af 0) (a9 (af 4) (a9 (af 5) (a9 (af 6) av)))))) av)) av))))
  (aM (ng)
  (i7 [5] 5 (af 9)))))
def rG(CR CP CL:k_)(n:Nat):ah->M B4:=
 (aM (ax [] 4 (fL (jO) (a9 (af 1) (a9 (af 3) av))))
  (aM (ax [] 5 (fL bW av))
  (aM (gB [5] (wo (af 3)) (.tp [6,7]) (hW CR CP CL n))
  (cM (af 5)))))
def jN(CR CP CL:k_)(n:Nat):List A'->M A':=bo 10 4 (rG CR CP CL n)
def wb:ah->M B4:=
 (cM (fL sumD (a9 (cL (fZip (af 1) (af 2)) [g_,g_,a_ 0] (.tp [0,1]) iG (fL (eZ) (a9 (f2 ixD (af 2) (f2 ixD (af 0) (fC (.int 0)))) (a9 (af 1) av)))) av)))
def jt:List A'->M A':=bo 3 3 (wb)
def iC:ah->M B4:=
 (cM (cL (wo (af 0)) [g_,g_,a_ 1,a_ 2] (.tp [0,1]) (fAnd (fB (f2 leD (af 2) (f2 ixD (af 1) (fC (.int 1))))) (fB (f2 leD (f2 ixD (af 1) (fC (.int 2))) (af 3)))) (af 0)))
def cZ:List A'->M A':=bo 3 3 (iC)
def hV:ah->M B4:=
 sIf (fOr (fB (f2 neM (af 3) (af 4))) (fB (f2 gtD (rP (af 0) (af 3)) (fC (.int 1)))))
   (i7 [2] 2 (fL cb (a9 (af 3) (a9 (af 4) av))))
   bO
def dU:ah->M B4:=
 (hV)
def hX:ah->M B4:=
 (gB [2] (fIt (af 1)) (.nm 4) (dU))
def rK:ah->M B4:=
 (aM (ax [] 1 (f1 iO (af 0)))
  (aM (ax [] 2 (fL bW av))
  (aM (gB [2] (fIt (af 1)) (.nm 3) (hX))
  (cM (af 2)))))
def jQ:List A'->M A':=bo 5 1 (rK)
def gO(CR CP CL:k_)(n:Nat):ah->M B4:=
 (i7 [2] 2 (cf CR CP "apart" (bh CR CP CL n) (b8 CR CP CL n) (af 0) (a9 (fL cb (a9 (af 3) (a9 (fC (.int 0)) av))) (a9 (fL cb (a9 (af 4) (a9 (af 5) av))) av))))
def cU(CR CP CL:k_)(n:Nat):ah->M B4:=
 (gB [2] (iH jJ (a9 (cf CR CP "many_strips" (aI) (aN) (af 0) av) av)) (.nm 5) (gO CR CP CL n))
def iU(CR CP CL:k_)(n:Nat):ah->M B4:=
 (aM (ax [] 2 (fL bW av))
  (aM (gB [2] (fIt (fL (jQ) (a9 (af 1) av))) (.tp [3,4]) (cU CR CP CL n))
  (cM (fL minD (a9 (af 2) av)))))
def e8(CR CP CL:k_)(n:Nat):List A'->M A':=bo 6 2 (iU CR CP CL n)
def jE:ah->M B4:=
 sIf (fB (f2 ltD (fL pV (a9 (af 2) av)) (fC (.int 2))))
   (cM (fC (.bl c_)))
   bO
def m9(CR CP CL:k_)(n:Nat):ah->M B4:=
 (aM (jE)
  (aM (ax [] 3 (fL minD (a9 (cL (fIt (af 2)) [g_,a_ 1] (.nm 0) iG (f2 ixD (f2 ixD (af 1) (af 0)) (fC (.int 1)))) av)))
  (aM (ax [] 4 (fL maxD (a9 (cL (fIt (af 2)) [g_,a_ 1] (.nm 0) iG (f2 ixD (f2 ixD (af 1) (af 0)) (fC (.int 2)))) av)))
  (aM (ax [] 5 (cL (fIt (af 2)) [g_,a_ 1] (.nm 0) iG (f2 ixD (f2 ixD (af 1) (af 0)) (fC (.int 0)))))
  (cM (f2 gtD (f2 pU (fL (e8 CR CP CL n) (a9 (af 0) (a9 (af 5) av))) (f2 CU (fL pV (a9 (af 2) av)) (fC (.int 1)))) (f2 CU (af 4) (af 3))))))))
def cY(CR CP CL:k_)(n:Nat):List A'->M A':=bo 6 3 (m9 CR CP CL n)
def jF(CR CP CL:k_)(n:Nat):ah->M B4:=
 sIf (tX (fL (cY CR CP CL n) (a9 (af 0) (a9 (af 1) (a9 (af 6) av)))))
   (cM (af 6))
   bO
def fO(CR CP CL:k_)(n:Nat):ah->M B4:=
 (aM (ax [] 6 (fL (cZ) (a9 (af 1) (a9 (af 4) (a9 (af 5) av)))))
  (jF CR CP CL n))
def hZ(CR CP CL:k_)(n:Nat):ah->M B4:=
 (gB [] (fIt (af 3)) (.nm 5) (fO CR CP CL n))
def md(CR CP CL:k_)(n:Nat):ah->M B4:=
 (aM (ax [] 2 (f1 iO (cL (fIt (af 1)) [g_] (.nm 0) iG (f2 ixD (af 0) (fC (.int 1))))))
  (aM (ax [] 3 (f1 iO (cL (fIt (af 1)) [g_] (.nm 0) iG (f2 ixD (af 0) (fC (.int 2))))))
  (aM (gB [] (fIt (af 2)) (.nm 4) (hZ CR CP CL n))
  (cM (fC .non)))))
def f7(CR CP CL:k_)(n:Nat):List A'->M A':=bo 7 2 (md CR CP CL n)
def eI(CR CP CL:k_)(n:Nat):ah->M B4:=
 sIf (Cy (tX (af 6)))
   (Bq CL "crowd" (a9 (fNoX (fOrN (fL (f7 CR CP CL n) (a9 (af 0) (a9 (af 1) av))) (fL bW av))) av))
   bO
def cv(CR CP CL:k_)(n:Nat):ah->M B4:=
 (aM (fNoX (ax [] 4 (fL (jP CR CP CL n) (a9 (af 0) (a9 (af 1) (a9 (af 2) (a9 (af 3) av)))))))
  (aM (fNoX (ax [] 5 (fTR (iH jJ (a9 (fL pV (a9 (af 1) av)) av)))))
  (aM (fNoX (ax [] 6 (qt (af 4) (af 5) (fL bW av))))
  (aM (eI CR CP CL n)
  (fNoX (aM (ax [] 7 (fL (l9 CR CP CL n) (a9 (af 0) (a9 (af 1) (a9 (af 2) (a9 (af 4) (a9 (af 5) (a9 (fL minLD (a9 (af 6) av)) av))))))))
  (aM (ax [] 8 (fL (jN CR CP CL n) (a9 (af 0) (a9 (af 1) (a9 (af 2) (a9 (af 7) av))))))
  (cM (fL cb (a9 (fL (jt) (a9 (af 1) (a9 (af 7) (a9 (af 8) av)))) (a9 (af 7) (a9 (af 8) av))))))))))))
def f9(CR CP CL:k_)(n:Nat):List A'->M A':=bo 9 4 (cv CR CP CL n)
def dD(CR CP CL:k_)(n:Nat):ah->M B4:=
 qf [] CL (ax [] 4 (fL (f9 CR CP CL n) (a9 (af 0) (a9 (af 1) (a9 (af 2) (a9 (af 3) av)))))) (zd 5 4 f_ f_ c_)
def jz(CR CP CL:k_)(n:Nat):ah->M B4:=
 (aM (ax [] 4 (fC .non))
  (aM (dD CR CP CL n)
  (cM (af 4))))
def cp(CR CP CL:k_)(n:Nat):List A'->M A':=bo 6 4 (jz CR CP CL n)
def qD:ah->M B4:=
 sIf (fOr (fB (f2 inM (af 8) (af 7))) (fB (f2 gtD (fL absD (a9 (f2 CU (af 8) (af 4)) av)) (af 1))))
   sCont
   bO
def qI:ah->M B4:=
 (aM (qD)
  (sExt [5] 5 (cL (iH jJ (a9 (af 2) av)) [g_,a_ 6,a_ 8] (.nm 0) iG (f2 eU (af 1) (fL bW (a9 (fL cb (a9 (af 2) (a9 (af 0) av))) av))))))
def qH:ah->M B4:=
 (aM (ax [5] 7 (cL (fIt (af 6)) [g_,g_] (.tp [0,1]) iG (af 0)))
  (gB [5] (iH jJ (a9 (af 0) av)) (.nm 8) (qI)))
def qG:ah->M B4:=
 (aM (ax [] 5 (fL bW av))
  (aM (gB [5] (fIt (af 3)) (.nm 6) (qH))
  (ax [] 3 (af 5))))
def wc:ah->M B4:=
 (aM (ax [] 3 (fL bW (a9 (fL bW av) av)))
  (aM (gB [] (iH jJ (a9 (af 0) av)) (.nm 4) (qG))
  (cM (af 3))))
def fH:List A'->M A':=bo 9 3 (wc)
def ij:ah->M B4:=
 sIf (fB (f2 neM (af 12) (af 8)))
   (ax [5] 13 (f2 ixD (f2 ixD (af 1) (f2 ixD (f2 ixD (af 2) (af 11)) (fC (.int 0)))) (f2 ixD (f2 ixD (af 2) (af 7)) (fC (.int 0)))))
   bO
def dE:ah->M B4:=
 (aM (xN [5] (.tp [11,12]) (f2 ixD (af 4) (af 10)))
  (aM (ax [5] 13 (f2 ixD (f2 ixD (af 0) (f2 ixD (f2 ixD (af 2) (af 11)) (fC (.int 0)))) (f2 ixD (f2 ixD (af 2) (af 7)) (fC (.int 0)))))
  (aM (ij)
  (xP c_ 9 (fL maxD (a9 (af 9) (a9 (f2 eU (f2 ixD (af 5) (af 10)) (af 13)) av)))))))
def fE:ah->M B4:=
 sIf (fB (jb leD ltD (af 15) (af 9) (af 16)))
   (ax [5] 9 (af 16))
   bO
def cJ:ah->M B4:=
 (fE)
def fG:ah->M B4:=
 (gB [5] (fIt (af 3)) (.tp [15,16]) (cJ))
def ig:ah->M B4:=
 sIf (fB (f2 gtD (af 9) (f2 ixD (f2 ixD (af 2) (af 7)) (fC (.int 2)))))
   (cM (fC .non))
   bO
def bU:ah->M B4:=
 (aM (xN [5] (.tp [7,8]) (f2 ixD (af 4) (af 6)))
  (aM (ax [5] 9 (f2 ixD (f2 ixD (af 2) (af 7)) (fC (.int 1))))
  (aM (gB [5] (iH jJ (a9 (af 6) av)) (.nm 10) (dE))
  (aM (gB [5] (iH jJ (a9 (fL pV (a9 (af 3) av)) av)) (.nm 14) (fG))
  (aM (ig)
  (i7 [5] 5 (af 9)))))))
def jy:ah->M B4:=
 (aM (ax [] 5 (fL bW av))
  (aM (gB [5] (iH jJ (a9 (fL pV (a9 (af 4) av)) av)) (.nm 6) (bU))
  (cM (af 5))))
def cR:List A'->M A':=bo 17 5 (jy)
def gA:ah->M B4:=
 (ax [] 3 (f2 eU (af 3) (f2 pU (f2 ixD (f2 ixD (af 0) (f2 ixD (af 4) (fC (.int 0)))) (fC (.int 4))) (fL maxD (a9 (fC (.int 0)) (a9 (f2 CU (af 5) (f2 ixD (f2 ixD (af 0) (f2 ixD (af 4) (fC (.int 0)))) (fC (.int 3)))) av))))))
def pe:ah->M B4:=
 (aM (ax [] 3 (fC (.int 0)))
  (aM (gB [] (fZip (af 1) (af 2)) (.tp [4,5]) (gA))
  (cM (af 3))))
def gG:List A'->M A':=bo 6 3 (pe)
def uA(CR CP CL:k_)(n:Nat):ah->M B4:=
 sIf (fB (f2 eqM (af 6) (fC (.int 2))))
   (aM (ax [] 4 (fL (gF) (a9 (af 0) (a9 (fC (.int 41)) (a9 (af 1) av)))))
  (ax [] 5 (fL (newP CP (aC)) (a9 (af 3) (a9 (af 4) av)))))
   bO
def yW:ah->M B4:=
 sIf (fB (f2 neM (af 10) (fL bW (a9 (af 8) (a9 (af 9) av)))))
   (cM (fC (.bl c_)))
   bO
def uz:ah->M B4:=
 sIf (fOr (fB (f2 isND (af 12) (fC .non))) (fB (f2 ltD (af 16) (af 12))))
   (ax [] 12 (af 16))
   bO
def pL:ah->M B4:=
 sIf (fB (f2 yk (af 15) (fC .non)))
   (aM (ax [] 16 (fL (gG) (a9 (af 8) (a9 (af 14) (a9 (af 15) av)))))
  (uz))
   bO
def kJ:ah->M B4:=
 (aM (ax [] 15 (fL (cR) (a9 (af 3) (a9 (af 4) (a9 (af 8) (a9 (af 9) (a9 (af 14) av)))))))
  (pL))
def yV:ah->M B4:=
 sIf (fB (f2 isND (af 12) (fC .non)))
   (cM (f2 eqM (af 11) (fL bW (a9 (fC (.bl f_)) (a9 (fC (.bl f_)) (a9 (fC (.bl c_)) av))))))
   bO
def Fp:ah->M B4:=
 sIf (fOr (Cy (tX (f1 jU (af 11)))) (fOr (fB (f2 neM (fL pV (a9 (af 11) av)) (fC (.int 3)))) (fOr (fB (f2 neM (f2 ixD (af 11) (fC (.int 0))) (af 12))) (tX (f1 jw (f2 ixD (af 11) (fC (.int 0))))))))
   (cM (fC (.bl c_)))
   bO
def Fo:ah->M B4:=
 sIf (fB (f2 zX (f2 ixD (af 11) (fC (.int 1))) (af 13)))
   (cM (fC (.bl c_)))
   bO
def Fn:ah->M B4:=
 sIf (fB (f2 neM (f2 ixD (af 11) (fC (.int 2))) (fL (cR) (a9 (af 3) (a9 (af 4) (a9 (af 8) (a9 (af 9) (a9 (f2 ixD (af 11) (fC (.int 1))) av))))))))
   (cM (fC (.bl c_)))
   bO
def g_law(CR CP CL:k_)(n:Nat):ah->M B4:=
 (aM (ax [] 1 (f2 eU (fC (.int 1)) (f2 eS (f2 eS (f2 pU (fL (bf) (a9 (af 0) (a9 (fC (.int 0)) av))) (fC (.int 16807))) (fC (.int 2147483647))) (fC (.int 3)))))
  (aM (ax [] 2 (f2 eS (f2 di (fL (bf) (a9 (af 0) (a9 (fC (.int 2)) av))) (fC (.int 2))) (fC (.int 4))))
  (aM (ax [] 3 (fL (gF) (a9 (af 0) (a9 (fC (.int 3)) (a9 (af 1) av)))))
  (aM (ax [] 4 (fL bW av))
  (aM (ax [] 5 (fL (newR CR (aC)) (a9 (af 3) av)))
  (aM (ax [] 6 (f2 eU (fC (.int 1)) (f2 eS (fL (bf) (a9 (af 0) (a9 (fC (.int 2)) av))) (fC (.int 2)))))
  (aM (uA CR CP CL n)
  (aM (ax [] 7 (f2 eS (f2 eS (f2 pU (fL (bf) (a9 (af 0) (a9 (fC (.int 1)) av))) (fC (.int 39373))) (fC (.int 2147483629))) (f2 CU (fC (.int 6)) (af 6))))
  (aM (ax [] 8 (fL (dz) (a9 (af 0) (a9 (fC (.int 80)) (a9 (af 1) (a9 (af 7) av))))))
  (aM (ax [] 9 (fL (gm) (a9 (af 0) (a9 (fC (.int 130)) av))))
  (aM (ax [] 10 (fL bW (a9 (fL lb (a9 (af 8) av)) (a9 (fL lb (a9 (af 9) av)) av))))
  (aM (ax [] 11 (fL (cp CR CP CL n) (a9 (af 5) (a9 (f2 ixD (af 10) (fC (.int 0))) (a9 (f2 ixD (af 10) (fC (.int 1))) (a9 (af 2) av))))))
  (aM (yW)
  (aM (ax [] 12 (fC .non))
  (aM (ax [] 13 (fL (fH) (a9 (af 7) (a9 (af 2) (a9 (af 6) av)))))
  (aM (gB [] (fIt (af 13)) (.nm 14) (kJ))
  (aM (yV)
  (aM (Fp)
  (aM (Fo)
  (aM (Fn)
  (cM (f2 eqM (fL (gG) (a9 (af 8) (a9 (f2 ixD (af 11) (fC (.int 1))) (a9 (f2 ixD (af 11) (fC (.int 2))) av)))) (af 12)))))))))))))))))))))))
def m_law(CR CP CL:k_)(n:Nat):List A'->M A':=bo 17 1 (g_law CR CP CL n)
noncomputable def top(i:Nat):GH:=PM.main.body.getD i (.Pass ⟨0,0,0,0⟩)
abbrev qe:GH:=top 58
abbrev xJ:GH:=top 59
abbrev sM:GH:=top 60
abbrev xI:GH:=top 62
abbrev sI:GH:=top 53
abbrev s_is_gap:GH:=top 51
abbrev vn:GH:=top 52
abbrev i6:GH:=top 54
abbrev lU:GH:=top 61
abbrev qc:GH:=top 63
abbrev sN:GH:=top 64
abbrev gT:GH:=top 27
abbrev om:GH:=top 28
abbrev nk:GH:=top 29
abbrev sE:GH:=top 30
abbrev ko:GH:=inClass (top 55) 2
abbrev kT:GH:=inClass (top 56) 1
abbrev vk:GH:=top 33
abbrev lR:GH:=top 34
abbrev nr:GH:=top 35
abbrev sG:GH:=top 25
abbrev q9:GH:=top 37
abbrev sJ:GH:=top 38
abbrev gU:GH:=inClass (top 55) 1
abbrev sH:GH:=top 21
abbrev kS:GH:=top 18
abbrev xD:GH:=top 19
abbrev vm:GH:=top 23
abbrev xE:GH:=top 2
abbrev sO:GH:=inClass (top 55) 3
abbrev vt:GH:=inClass (top 56) 2
abbrev nq:GH:=top 22
abbrev pZ:GH:=top 24
abbrev oj:GH:=top 36
abbrev Bl:GH:=top 39
abbrev D6:GH:=top 45
abbrev D7:GH:=top 46
abbrev Bk:GH:=top 41
abbrev xG:GH:=top 42
abbrev Bj:GH:=top 43
abbrev D8:GH:=top 3
abbrev lT:GH:=top 8
abbrev Bm:GH:=top 5
abbrev sF:GH:=top 6
abbrev Bn:GH:=top 7
abbrev Bo:GH:=top 9
abbrev xH:GH:=top 47
abbrev vq:GH:=top 69
abbrev vp:GH:=top 68
abbrev vo:GH:=top 65
abbrev xK:GH:=top 66
abbrev s_law:GH:=top 70
abbrev s_nR:GH:=inClass (top 55) 0
abbrev s_nP:GH:=inClass (top 56) 0
abbrev s_nCL:GH:=inClass (top 16) 0
structure Zs(K:Pn)(mg:Ld)(CR CP CL AStripError ANoTime ATooMany ANoPlace:k_):Prop where
 tH:mg "StripError"=a_ (.ref AStripError)
 DZ:mg "NoTime"=a_ (.ref ANoTime)
 BN:mg "TooMany"=a_ (.ref ATooMany)
 BO:mg "NoPlace"=a_ (.ref ANoPlace)
 xCL:XTry K mg "NoPlan" CL
 kR:Kls K mg "Rules" CR
 kP:Kls K mg "Pair" CP
 nE:Hq K (.ref CL) (.ref AStripError)=a_ f_
 nF:Hq K (.ref CL) (.type "ValueError")=a_ f_
 kT_CL:kitAny K (.ref CL) ([ANoTime,ATooMany,ANoPlace].map D_)=a_ c_
 aCL_crowd:XFld K CL "crowd"
 iX:∀C∈[CR,CP],Cls K C/\jf K C "gaps"
 rN:∀C∈[CP],Cls K C/\jf K C "beside"
 uQ:mg "ValueError"=g_
 z_abs:mg "abs"=g_
 z_all:mg "all"=g_
 z_bool:mg "bool"=g_
 eV:mg "enumerate"=g_
 z_int:mg "int"=g_
 cn:mg "isinstance"=g_
 i5:mg "len"=g_
 mI:mg "list"=g_
 uP:mg "max"=g_
 AX:mg "min"=g_
 bA:mg "range"=g_
 AW:mg "reversed"=g_
 z_set:mg "set"=g_
 kM:mg "sorted"=g_
 z_sum:mg "sum"=g_
 kn:mg "tuple"=g_
 z_zip:mg "zip"=g_
 qr:∃t,mg "GREATEST_GAP"=a_ (.int 1000000 t)
 wg:∃t,mg "MOST_KINDS"=a_ (.int 6 t)
 we:∃t,mg "MOST_PLANS"=a_ (.int 5000 t)
 kit:Kit K
 qA:∃f fd,Def K mg "_law_cell_at" qe ["_law_script","_law_k"] f fd
 yR:∃f fd,Def K mg "_law_free" xJ ["_law_script"] f fd
 uk:∃f fd,Def K mg "_law_number" sM ["_law_script","_law_k"] f fd
 yQ:∃f fd,Def K mg "_law_gaps" xI ["_law_script","_law_start","_law_kinds"] f fd
 ui:∃f fd,Def K mg "copied_rows" sI ["rows"] f fd
 d_is_gap:∃f fd,Def K mg "is_gap" s_is_gap ["number"] f fd
 wK:∃f fd,Def K mg "is_gap_row" vn ["row","kinds"] f fd
 qy:∃f fd,Def K mg "checked_rows" i6 ["rows"] f fd
 my:∃f fd,Def K mg "_law_any_flight" lU ["_law_number_here","_law_kinds"] f fd
 qz:∃f fd,Def K mg "_law_flights" qc ["_law_script","_law_start","_law_kinds","_law_many"] f fd
 um:∃f fd,Def K mg "_law_closed" sN ["_law_script","_law_start"] f fd
 dS:∃f fd,Def K mg "choices_of" gT ["pool","size"] f fd
 pF:∃f fd,Def K mg "beginnings_of" om ["many","shift","size"] f fd
 nH:∃f fd,Def K mg "smaller_by_one" nk ["some"] f fd
 ue:∃f fd,Def K mg "many_orders" sE ["many","shift"] f fd
 wI:∃f fd,Def K mg "many_plans" vk ["rules","many","shift"] f fd
 mw:∃f fd,Def K mg "refuse_too_many" lR ["rules","flights","shift"] f fd
 nJ:∃f fd,Def K mg "all_beginnings" nr ["many","shift"] f fd
 ug:∃f fd,Def K mg "is_no_worse" sG ["one","other"] f fd
 qv:∃f fd,Def K mg "has_no_worse" q9 ["labels","label"] f fd
 uj:∃f fd,Def K mg "best_labels" sJ ["labels"] f fd
 uh:∃f fd,Def K mg "first_label" sH ["rules"] f fd
 lD:∃f fd,Def K mg "joined_stretches" kS ["closed"] f fd
 yM:∃f fd,Def K mg "next_open" xD ["closed","time"] f fd
 wJ:∃f fd,Def K mg "lasts_with" vm ["lasts","spot","time"] f fd
 yN:∃f fd,Def K mg "late_cost" xE ["flight","time"] f fd
 nI:∃f fd,Def K mg "last_gap_times" nq ["rules","lasts","spot"] f fd
 qu:∃f fd,Def K mg "label_behind" pZ ["rules","flights","closed","label","flight","strip"] f fd
 pE:∃f fd,Def K mg "labels_behind" oj ["rules","flights","closed","paper","some"] f fd
 C6:∃f fd,Def K mg "paper_of" Bl ["rules","flights","closed","shift"] f fd
 ES:∃f fd,Def K mg "step_to" D6 ["rules","flights","closed","paper","some","label"] f fd
 ET:∃f fd,Def K mg "plan_to" D7 ["rules","flights","closed","paper","some","label"] f fd
 C5:∃f fd,Def K mg "spots_of" Bk ["flights","plan"] f fd
 yO:∃f fd,Def K mg "gap_times" xG ["rules","spots","times","place"] f fd
 C4:∃f fd,Def K mg "times_of" Bj ["rules","flights","closed","plan"] f fd
 EU:∃f fd,Def K mg "cost_of" D8 ["flights","plan","times"] f fd
 mx:∃f fd,Def K mg "flights_between" lT ["flights","first","last"] f fd
 C7:∃f fd,Def K mg "pairs_of" Bm ["kinds"] f fd
 uf:∃f fd,Def K mg "least_apart" sF ["rules","kinds"] f fd
 C8:∃f fd,Def K mg "is_crowd" Bn ["rules","flights","some"] f fd
 C9:∃f fd,Def K mg "crowd_of" Bo ["rules","flights"] f fd
 yP:∃f fd,Def K mg "best_plan" xH ["rules","flights","closed","shift"] f fd
 wN:∃f fd,Def K mg "_law_asked" vq ["_law_rules","_law_flights_here","_law_closed_here","_law_shift"] f fd
 wM:∃f fd,Def K mg "_law_plans" vp ["_law_many","_law_shift","_law_strips"] f fd
 wL:∃f fd,Def K mg "_law_times" vo ["_law_gaps_here","_law_beside","_law_flights_here","_law_closed_here","_law_plan"] f fd
 yS:∃f fd,Def K mg "_law_cost" xK ["_law_flights_here","_law_plan","_law_times_here"] f fd
 d_law:∃f fd,Def K mg "law" s_law ["_law_script"] f fd/\∀(s:i_) (v:h_),LH s fd ⟨[v],[]⟩ [("_law_script",v)]
 m_M_R_many_strips:∃f fd,Mth K CR "many_strips" "Rules.many_strips" ko ["self"] f fd
 m_M_P_many_strips:∃f fd,Mth K CP "many_strips" "Pair.many_strips" kT ["self"] f fd
 m_M_R_many_kinds:∃f fd,Mth K CR "many_kinds" "Rules.many_kinds" gU ["self"] f fd
 m_M_P_many_kinds:∃f fd,Mth K CP "many_kinds" "Rules.many_kinds" gU ["self"] f fd
 m_M_R_apart:∃f fd,Mth K CR "apart" "Rules.apart" sO ["self","one","other"] f fd
 m_M_P_apart:∃f fd,Mth K CP "apart" "Pair.apart" vt ["self","one","other"] f fd
 n_CL:∃f fd,Mth K CL "__init__" "NoPlan.__init__" s_nCL ["self","crowd"] f fd/\XMk K mg "NoPlan" CL f
 n_R:∃f fd,Mth K CR "__init__" "Rules.__init__" s_nR ["self","gaps"] f fd/\Stat K CR (.type "type") "__init__" f
 n_P:∃f fd,Mth K CP "__init__" "Pair.__init__" s_nP ["self","gaps","beside"] f fd
 ne:CR≠CP
noncomputable abbrev Zq(_:Nat)(_:Gf)(_:GS)(_:FX):=Zs
def putGB(a b:V):vD ("beside":FU) b [(("gaps":FU),a)]=[(("gaps":FU),a),(("beside":FU),b)]:=by rfl
def sc_nCL:g9 ["self","crowd"] ["self","crowd"] (aF s_nCL):=⟨rfl,rfl,rfl,by decide +kernel,rfl,by decide +kernel,by decide +kernel⟩
def okn_CL{P:Gf}{K:Pn}{base:FX}{C f:k_}{fd:HN}(N:Fun K "__init__" "NoPlan.__init__" s_nCL f fd)(Y:XFld K C "crowd")(U:mg "list"=g_):gQ P w K mg base CX0 1 f fd ["self","crowd"] (spXL K C "crowd"):=by
 refine N.okX sc_nCL (λvs H Q E h=>?_) (λcdv A outer s H vs Q E e h=>?_)
 .obtain⟨a,l,xs,rfl,_⟩:=h;rfl
 .obtain⟨a,l,xs,rfl,J,b,q⟩:=h;refine⟨_,oz (ps_x1 (pv 0) (kW nc rfl U G6 (aR (pv 1) cA)) Y),?_⟩
  exact⟨.ref l,rfl,l,xs,rfl,.inl b,λL S=>⟨.ref a,rfl,a,rfl,by rw[aw (λz=>by rw[z,S]at J;cases J)];exact J,λd hd c=>q L d S hd⟩⟩
section
variable{P:Gf}{base:FX}{K:Pn}{CR:k_}(Z:Zq n P w base K mg CR CP CL AStripError ANoTime ATooMany ANoPlace)
include Z
def cQ:YO Z.qA P w base 1 c_ (bf):=
 fY ["_law_script","_law_k"] λz J S=>(ae (bS (aY o_lt (ag 1) (aA iL Z.i5 FZ (da1 (ag 0)))) (ai (az (ao bw (aB bB (ag 0) (ag 1)) (ao iw aa aa)))) aX) (ai (az aa)))
def jq:YO Z.yR P w base 2 c_ (fg):=
 fY ["_law_script"] λz S J=>(ai (az (pD (zV J.units) (ao bw (ao bJ (dY (cQ Z) J (da2 (ag 0) aa)) aa) aa) aa)))
def dv:YO Z.uk P w base 3 c_ (aV):=
 fY ["_law_script","_law_k","_law_cells","_law_cell","_law_turn","_law_number_here"] λz J S=>(ae (aD J (ar (de_sl x_sl (ag 0) u5 (u4 aa)))) (ae (aD J (ar (ao bP (ao k8 aa (ag 1)) aa))) (ae (bS (iI (dY (jq Z) S (da1 (ag 0)))) (ae (aD J (aB bB (ag 2) (ao bw (ag 1) (aA iL Z.i5 FZ (da1 (ag 2)))))) (ae (aW (cg Z.bA (da1 (ao bJ (ag 1) (aA iL Z.i5 FZ (da1 (ag 2)))))) (eD J) (ai (aD J (ao o_fdivB (ag 3) (ao iw aa aa))))) (ai (az (ao bw (ag 3) (ao iw aa aa)))))) aX) (ae (bS (aY Cw (aA iL Z.i5 FZ (da1 (ag 2))) aa) (ai (aD J (ao bw (aB bB (ag 2) (ao bw (ag 1) (aA iL Z.i5 FZ (da1 (ag 2))))) (ao iw aa aa)))) aX) (ae (aD J (ao bw (ao k8 (ar (ao bP (ar (ao bP (ag 3) (ao k8 (ao k8 (ag 1) (ag 1)) aa))) (aA iL Z.i5 FZ (da1 (ag 2))))) aa) aa)) (ai (az (ao bw (ar (ao bP (ao k8 (ag 5) aa) aa)) aa))))))))
def mT:YO Z.yQ P w base 4 c_ (gF):=
 fY ["_law_script","_law_start","_law_kinds","_law_rows","_law_one","_law_row","_law_other","_law_number_here","_law_gap"] λz J S=>(ae (jB J (bq bz)) (ae (aW (cg Z.bA (da1 (ag 2))) (eD J) (ae (jB J (bq bz)) (ba (ae (aW (cg Z.bA (da1 (ag 2))) (eD J) (ae (aD J (dY (dv Z) S (da2 (ag 0) (ar (ao bP (ar (ao bP (ag 1) (ao k8 (ag 4) (ag 2)))) (ag 6)))))) (ae (aD J (ao bw (ao bJ (ag 7) aa) aa)) (ae (bS (aY (zV S.units) (ao bw (ag 7) aa) aa) (ai (aD J (ao bw (ao bJ (ag 7) aa) (ar (ao bP (ao iw aa aa) aa))))) aX) (ae (bS (aY o_lt (ao bw (ag 7) aa) aa) (ai (aD J aa)) aX) (ai (fj (ag 8)))))))) (ba (ai (fj (ag 5)))))))) (ba (O2:=[]) (ai (az (ag 3))))))
def qm:YO Z.ui P w base 1 c_ (gj):=
 fY ["rows"] λz J S=>(ai (az (ar (cy ["row"] [g_] (bx (ag 0)) (λ_ _ _ _ _=>gc dkK) (aS rfl) (λ_ _ _ _ _=>bR) (λ_ _ _ _ _=>(ar (dB AE Z.mI G6 (da1 (ag 0)))))))))
def DK:YO Z.d_is_gap P w base 1 c_ (jR):=
 fY ["number"] λz J S=>(ae (bS (PW.pt (yE (rT (iI (C3 Z.kit Z.cn Z.z_int (ag 0)))) (wz (iI (pC Z.kit Z.cn Z.z_bool (ag 0)))))) (ai (az kE)) aX) (ai (az (de_chain o_le o_le aa (ag 0) (yL Z.qr)))))
theorem t8:YO Z.wK P w base 2 c_ (dP):=
 fY ["row","kinds"] λz S J=>(ai (az (de_and (yK Z.kit Z.cn Z.mI (ag 0)) (de_and (pD (zV J.units) (aA iL Z.i5 FZ (da1 (ag 0))) (ag 1)) (de_one (aA (c_all rfl) Z.z_all boot_all (da1 (ar (cy ["number"] [g_] (bx (ag 0)) (λ_ _ _ _ _=>gc am) (aS rfl) (λ_ _ _ _ _=>bR) (λ_ _ _ _ _=>(dY (DK Z) J (da1 (ag 0)))))))))))))
def jo:YO Z.qy P w base 3 c_ (aC):=
 fY ["rows","kinds"] λz S J=>(ae (aD S (aA iL Z.i5 FZ (da1 (ag 0)))) (ae (bS (rT (u0 o_le o_le aa (ag 1) (yL Z.wg))) (ai Ao) aX) (ae (bS (rT (iI (aA (c_all rfl) Z.z_all boot_all (da1 (ar (cy ["row","kinds"] [g_,a_ 1] (bx (ag 0)) (λ_ _ _ _ _=>gc dkK) (aS rfl) (λ_ _ _ _ _=>bR) (λ_ _ _ _ _=>(dY (t8 Z) J (da2 (ag 0) (ag 1)))))))))) (ai Ao) aX) (ai (az (dY (qm Z) J (da1 (ag 0))))))))
end
def sc_nR:g9 ["self","gaps"] ["self","gaps"] (aF s_nR):=⟨rfl,rfl,rfl,by decide +kernel,rfl,by decide +kernel,by decide +kernel⟩
theorem okn_R{P : Gf}{w : GS}{K : Pn}{mg : FU -> Option h_}{base : FX}{C f: k_}(S : Def K mg "checked_rows" i6 ["rows"] dA cT)(n : gQ P w K mg base CX0 3 dA cT ["rows"] (spF K c_ (aC) 1))(N : Fun K "__init__" "Rules.__init__" s_nR f fd)(m : Cls K C)(g : jf K C "gaps"): gQ P w K mg base CX0 4 f fd ["self", "gaps"] (spI1 K C (aC)) := by
  refine N.okX sc_nR (λvs H Q E h => ?_) (λcdv A outer s H vs Q E j h => ?_)
  · obtain⟨p,dx,v,F,d,rfl,_⟩ := h
    rfl
  · obtain⟨p,dx,v,F,d,rfl,k,t,Y,b,q⟩ := h
    refine⟨_,oz (ps_fld (pv 0) (ya n j (by rfl) S.mg S.fn.kp S.bd .nil vI (aR (pv 1) cA)) rfl),?_⟩
    refine⟨v,rfl,F,[d],Y,⟨v,[],rfl,b,rfl⟩,rfl,?_⟩
    cases U : aC [d]with
    | error e => rw[U]at q; exact q| ok r =>
      rw[U]at q;intro u F' H' st a;have J : F' p = g_ := by
        cases i : F' p with
        | none => rfl| some o =>
          rcases st.nw p o i with z | z
          · simp_all
          simp_all
      refine⟨_,rfl,p,C,dx,[],rfl,st.hh _ _ k,m,g,al,?_⟩
      refine q u F' _ st.ff (λc o e => ?_) J st.nw (λc o e l => by rw[aw l]; exact st.hh _ _ e) aq a;rw[aw (λz => by simp_all)];exact st.fh _ _ e
def sc_nP:g9 ["self","gaps","beside"] ["self","gaps","beside"] (aF s_nP):=⟨rfl,rfl,rfl,by decide +kernel,rfl,by decide +kernel,by decide +kernel⟩
theorem okn_P{P : Gf}{w : GS}{K : Pn}{mg : FU -> Option h_}{base : FX}{CR CP : k_}{f O: k_}{Y: HN}{mc : h_}(t : Def K mg "checked_rows" i6 ["rows"] dA cT)(OK : gQ P w K mg base CX0 3 dA cT ["rows"] (spF K c_ (aC) 1))(S : Stat K CR mc "__init__" O)(bI : Binds K Y ["self", "gaps"] [])(FI : gQ P w K mg base CX0 4 O Y ["self", "gaps"] (spI1 K CP (aC)))(mR : mg "Rules" = a_ (.ref CR))(x : mg "len" = g_)(N : Fun K "__init__" "Pair.__init__" s_nP f fd)(n : Cls K CP)(na : jf K CP "gaps")(D : jf K CP "beside"): gQ P w K mg base CX0 5 f fd ["self", "gaps", "beside"] (spI2 K CP (aC)) := by
  refine N.okX sc_nP (λvs H Q E h => ?_) (λcdv A outer s H vs Q E I h => ?_)
  · obtain⟨p,dx,v,i,F,d,m,rfl,_⟩ := h
    rfl
  · obtain⟨p,dx,v,i,F,d,m,rfl,hp,hF,s1,qd,k,q⟩ := h
    refine⟨_,kU (sV (pe_cmeth S (by rfl) mR FI I bI .nil vI (aR (pv 0) (aR (pv 1) cA))))
      (kU (ps_fld (pv 0) (ya OK (I.mono al) (by rfl) t.mg t.fn.kp t.bd .nil vI (aR (pv 2) cA)) rfl)
      (oz (ps_if (Dl op_ne (gV jC (by rfl) x FZ (aR (DB (pv 0) rfl) cA)) (gV jC (by rfl) x FZ (aR (DB (pv 0) rfl) cA)) (DQ _)) vE Dm))),?_⟩
    refine⟨_,rfl,_,rfl,p,dx,v,F,d,rfl,hp,hF,s1,qd,?_⟩
    cases L : aC [d]with
    | error e => rw[L]at q; exact q| ok r =>
      rw[L,au]at q;intro u F1 H1 T a2 a3 a4 a5 a6 R;refine⟨i,rfl,F1,[m],a2,⟨i,[],rfl,bc.mono T k,rfl⟩,rfl,?_⟩
      cases U : aC [m]with
      | error e => rw[U]at q; exact Gh q| ok B =>
        rw[U,au]at q;intro y g H2 st C;by_cases J : twoL r B = f_
        · rw[p_ J]at q
          have l : g p = g_ := by
            cases G : g p with
            | none => rfl| some o =>
              rcases st.nw p o G with z | z
              · simp_all
              simp_all
          refine⟨_,rfl,p,CP,dx,_,rfl,st.hh _ _ a6,n,D,aj,?_⟩
          have j : aU g (upd H2 p (.ins CP dx [("gaps", u),("beside", y)])) :=λc o e => by
            have a : c ≠ p :=λz => by simp_all
            rw[aw a];exact st.fh _ _ e
          cases r with
          | lst xs =>
            cases B with
            | lst ys =>
              have hl : xs.length = ys.length := H9 J;obtain⟨g1,xs1,e1,t1,X⟩ := bc.mono st.ff R;obtain⟨g2,Z,e2,t2,W⟩ := id C;refine⟨_,rfl,p,CP,dx,_,_,rfl,aq,n,D,rfl,g2,_,by rw[e2],.inl (j.lst t2),_,rfl,p,CP,dx,_,_,rfl,aq,n,na,rfl,g1,_,by rw[e1],.inl (j.lst t1),rfl,_,rfl,?_⟩
              refine iteNS (by rw[X.length,W.length,hl]) ?_;refine q u y g _ (T.trans st.ff) j l (λb o e => ?_) (λc o e a => by rw[aw a]; exact st.hh _ _ (a5 c o e a)) aq (bc.mono st.ff R) C;rcases st.nw b o e with z | z
              · exact a4 b o z
              · refine .inr ?_
                cases G : H b with
                | none => rfl| some o' =>grind
            | _ => cases J
          | _ => cases J
        · rw[q_ J]at q; exact Gh q
section
variable{P:Gf}{base:FX}{K:Pn}{CR:k_}(Z:Zq n P w base K mg CR CP CL AStripError ANoTime ATooMany ANoPlace)
include Z
def l6:YO Z.my P w base 1 c_ (bE):=
 fY ["_law_number_here","_law_kinds","_law_kind","_law_sort","_law_first","_law_last","_law_due","_law_price"] λz J S=>(ae (aD J (ao bw (ag 0) (ag 1))) (ae (aD J (ao bJ (ag 0) aa)) (ae (aD J (ar (ao bP (dB c_int Z.z_int L1 (da1 (pD Cw (ao bw (ag 0) aa) aa))) (dB c_int Z.z_int L1 (da1 (pD Cw (ao bw (ag 0) aa) aa)))))) (ae (aD J (aB bB (ar (bq (da3 (ao bw (ao bJ (ag 0) aa) aa) (ao bw (ao bJ (ag 0) aa) aa) (ao bw (ao bJ (ag 0) aa) (ar (ao bP (ao iw aa aa) aa)))))) (ag 3))) (ae (aD J (ao bJ (ag 0) (ar (ao bP (ao k8 aa (ao iw aa aa)) aa)))) (ae (aD J (ar (ao bP (ag 4) (aB bB (ar (bq (da4 (ao bw (ao bJ (ag 0) aa) aa) (ao iw aa aa) (ao bw (ao bJ (ag 0) aa) aa) (ao bw (ao bJ (ag 0) aa) (ao iw aa aa))))) (ao bw (ag 0) aa))))) (ae (aD J (ao bJ (ag 0) (ao k8 aa (ao iw aa aa)))) (ae (aD J (aB bB (ar (bq (da2 (ao bw (ao bJ (ag 0) aa) aa) (ao bw (ao bJ (ag 0) aa) (ar (ao bP (ao iw aa aa) aa)))))) (ao bw (ag 0) aa))) (ae (aD J (ao bJ (ag 0) (ar (ao bP (ao k8 aa (ao iw aa aa)) aa)))) (ae (aD J (aB bB (ar (bq (da2 (ao bw (ao bJ (ag 0) aa) aa) (ao bw (ao bJ (ag 0) aa) (ar (ao bP (ao iw aa aa) aa)))))) (ao bw (ag 0) aa))) (ai (az (cE (da5 (ag 2) (ag 4) (aA (Fm rfl) Z.AX Mt (da2 (ag 5) (ao iw aa aa))) (ag 6) (ag 7)))))))))))))))
def oH:YO Z.qz P w base 4 c_ (dz):=
 fY ["_law_script","_law_start","_law_kinds","_law_many","_law_flights_here","_law_k","_law_number_here","_law_first","_law_last","_law_due","_law_price"] λz J S=>(ae (jB J (bq bz)) (ae (bS (iI (dY (jq Z) S (da1 (ag 0)))) (ba (O2:=[]) (ai (az (ar (cy ["_law_k","_law_script","_law_start","_law_kinds"] [g_,a_ 0,a_ 1,a_ 2] (cg Z.bA (da1 (ag 3))) (λ_ _ _ _ _=>gc dkK) (aS rfl) (λ_ _ _ _ _=>bR) (λ_ _ _ _ _=>(dY (l6 Z) S (da2 (dY (dv Z) S (da2 (ag 1) (ar (ao bP (ag 2) (ag 0))))) (ag 3))))))))) aX) (ae (aW (cg Z.bA (da1 (ag 3))) (eD J) (ae (aD J (dY (dv Z) S (da2 (ag 0) (ar (ao bP (ag 1) (ag 5)))))) (ae (aD J (ao bw (ao bJ (ag 6) aa) aa)) (ae (aD J (ar (ao bP (ag 7) (ao bw (ao bJ (ag 6) aa) aa)))) (ae (bS (aY (zV S.units) (ao bw (ag 6) aa) aa) (ai (aD J (ao iw aa aa))) aX) (ae (bS (aY (zV S.units) (ao bw (ag 6) aa) aa) (ai (aD J (ar (ao bP (ag 7) (ao bw (ao bJ (ag 6) aa) aa))))) aX) (ae (aD J (ao bw (ao bJ (ag 6) aa) aa)) (ae (aD J (ao bw (ao bJ (ag 6) aa) aa)) (ae (bS (aY (zV S.units) (ao bw (ag 6) aa) aa) (ai (aD J (ao bw (ag 6) (ar (ao bP (ao iw aa aa) aa))))) aX) (ai (fj (cE (da5 (ao bw (ao bJ (ag 6) aa) (ag 2)) (ag 7) (ag 8) (ag 9) (ag 10)))))))))))))) (ba (O2:=[]) (ai (az (ag 4)))))))
def qp:YO Z.um P w base 4 c_ (gm):=
 fY ["_law_script","_law_start","_law_closed_here","_law_k","_law_number_here","_law_begin","_law_stop"] λz J S=>(ae (jB J (bq bz)) (ae (aW (cg Z.bA (da1 (ao bw (ao bJ (dY (dv Z) S (da2 (ag 0) (ag 1))) aa) aa))) (eD J) (ae (aD J (dY (dv Z) S (da2 (ag 0) (ar (ao bP (ar (ao bP (ag 1) aa)) (ag 3)))))) (ae (aD J (ao bw (ao bJ (ag 4) aa) aa)) (ae (aD J (ar (ao bP (ar (ao bP (ag 5) aa)) (ao bw (ao bJ (ag 4) aa) aa)))) (ae (bS (PW.pt (EE (iI (dY (jq Z) S (da1 (ag 0)))) (yF (aY (zV S.units) (ao bw (ag 4) aa) aa)))) (ae (aD J (ao bw (ao bJ (ag 4) aa) (ao iw aa aa))) (ai (aD J (aA (Fm rfl) Z.AX Mt (da2 (ao iw aa aa) (ar (ao bP (ar (ao bP (ag 5) aa)) (ao bw (ao bJ (ag 4) (ao k8 aa (ao iw aa aa))) (ao iw aa aa))))))))) aX) (ai (fj (cE (da2 (ag 5) (ag 6)))))))))) (ba (O2:=[]) (ai (az (ag 2))))))
end
def dX:g9 ["pool","size","choices","place","one","rest"] ["pool","size"] (aF gT):=⟨rfl,rfl,rfl,by decide +kernel,rfl,by decide +kernel,by decide +kernel⟩
def qh{P:Gf}{K:Pn}{base:FX}{CR:k_}(Z:Zs K mg CR CP CL AStripError ANoTime ATooMany ANoPlace){S:k_}{U:HN}(J:Def K mg "choices_of" gT ["pool","size"] S U){d:Nat}{h:ah->M B4}(Y:gQ P w K mg base CX0 d S U ["pool","size"] (spF K c_ (bo 6 2 h) 2)):gQ P w K mg base CX0 (d+1) S U ["pool","size"] (spF K c_ (bo 6 2 (n6 (bo 6 2 h))) 2):=
 fn_D (O':=[]) J.fn dX c_ _ λcdv A outer s H E a=>
  (ae (bS (aY (zV a.units) (ag 1) aa)
   (ai (az (ar (bq (bC (cE bz) bz)))))
   aX)
  (ae (yG dX.nd (bq bz))
  (ae (aW (yI Z.eV (ag 0)) (ie rfl (aP dX.nd (aP dX.nd bT)))
   (ai (aW (bx (ER Y a J.mg J.fn.kp J.bd (bC (ar (de_sl x_sl (ag 0) (u4 (ar (ao bP (ag 3) aa))) u5)) (bC (ao tw (ag 1) aa) bz)))) (eD dX.nd)
   (ai (fj (ar (ao bP (cE (bC (ag 4) bz)) (ag 5))))))))
  (ba (O2:=[]) (ai (az (ag 2)))))))
theorem kf{P:Gf}{w:GS}{K:Pn}{mg:Ld}{base:FX}{CR CP CL AStripError ANoTime ATooMany ANoPlace:k_}(Z:Zs K mg CR CP CL AStripError ANoTime ATooMany ANoPlace){J:k_}{S:HN}(U:Def K mg "choices_of" gT ["pool","size"] J S):∀d:Nat,gQ P w K mg base CX0 d J S ["pool","size"] (spF K c_ (bo 6 2 (dS d)) 2)
 |0=>fn_stk|d+1=>qh Z U (kf Z U d)
section
variable{P:Gf}{base:FX}{K:Pn}{CR:k_}(Z:Zq n P w base K mg CR CP CL AStripError ANoTime ATooMany ANoPlace)
include Z
def t9:YO Z.dS P w base 6 c_ (mV):=let ⟨_,_,D⟩:=Z.dS;⟨_,_,D,(kf Z D 6)⟩
def j7:YO Z.pF P w base 7 f_ (gE):=
 fY ["many","shift","size","sure","free"] λz J S=>(ae (aD J (Av Z.kn Z.bA (da1 (aA (xb rfl) Z.uP K2 (da2 aa (ao tw (ag 2) (ag 1))))))) (ae (aD J (ar (de_lrng2 Z.mI Z.bA (da2 (aA iL Z.i5 FZ (da1 (ag 3))) (aA (Fm rfl) Z.AX Mt (da2 (ag 0) (ar (ao bP (ag 2) (ag 1))))))))) (ai (az (cy ["some","sure"] [g_,a_ 3] (bx (dY (t9 Z) S (da2 (ag 4) (ao tw (ag 2) (aA iL Z.i5 FZ (da1 (ag 3))))))) (λ_ _ _ _ _=>gc dkK) (aS rfl) (λ_ _ _ _ _=>bR) (λ_ _ _ _ _=>(ar (ao bP (ag 1) (ag 0)))))))))
def eX:YO Z.nH P w base 1 c_ (bM):=
 fY ["some"] λz J S=>(ai (az (ar (cy ["place","flight","some"] [g_,g_,a_ 0] (u6 Z.eV (ag 0)) (λ_ _ _ _ _=>ie rfl (cD dkK (cD dkK bT))) (iz al) (λ_ _ _ _ _=>bR) (λ_ _ _ _ _=>(cE (da2 (ar (ao bP (ar (de_sl x_sl (ag 2) u5 (u4 (ag 0)))) (ar (de_sl x_sl (ag 2) (u4 (ar (ao bP (ag 0) aa))) u5)))) (ag 1))))))))
def qi:YO Z.ue P w base 8 c_ (iR):=
 fY ["many","shift","counts","size","grown","some"] λz J S=>(ae (aD J (ar (de_disp1 S.units (cE bz) aa))) (ae (aW (di_rng2 Z.bA (da2 aa (ar (ao bP (ag 0) aa)))) (eD J) (ae (jB J EO) (ae (aW (pt:=.nm 5) (bx (ar (dY (j7 Z) S (da3 (ag 0) (ag 1) (ag 3))))) (eD J) (ai (ds_putD (i:=4) S.units (ag 5) (aA (c_sum rfl) Z.z_sum boot_sum (da1 (ar (cy ["smaller","flight","counts"] [g_,g_,a_ 2] (bx (dY (eX Z) S (da1 (ag 5)))) (λ_ _ _ _ _=>ie rfl (cD (i:=0) dkK (cD (i:=1) dkK bT))) (iz al) (λ_ _ _ _ _=>bR) (λ_ _ _ _ _=>(ud S.units (ag 2) (ag 0) aa))))))))) (ba (O2:=[]) (ai (aD J (ag 4))))))) (ai (az (de_sumV rfl Z.z_sum (ag 2))))))
def bY:YM Z.m_M_R_many_strips P w mg base 1 c_ (aI):=
 fM ["self"] λz J S=>(ai (az aa))
def bZ:YM Z.m_M_P_many_strips P w mg base 1 c_ (aN):=
 fM ["self"] λz J S=>(ai (az aa))
def t6:YO Z.wI P w base 9 c_ (gW CR CP CL n):=
 fY ["rules","many","shift","plans","flight"] λz U Y=>let ⟨_,_,a,S⟩:=bZ Z;let ⟨_,_,b,J⟩:=bY Z;(ae (aD U (dY (qi Z) Y (da2 (ag 1) (ag 2)))) (ae (aW (cg Z.bA (da1 (ag 1))) (eD U) (ai (aD U (ao k8 (ag 3) (iJ Z.kR.cl b.mt J (Y.mono al) b.bd Z.kP.cl a.mt S (Y.mono al) a.bd (ag 0)))))) (ai (az (ag 3)))))
def kY:YO Z.mw P w base 10 c_ (cW CR CP CL n):=
 fY ["rules","flights","shift"] λz S J=>(ai (bS (aY Cw (dY (t6 Z) J (da3 (ag 0) (aA iL Z.i5 FZ (da1 (ag 1))) (ag 2))) (yL Z.we)) (ai Ao) aX))
def lY:YO Z.nJ P w base 8 c_ (fU):=
 fY ["many","shift","beginnings","size"] λz J S=>(ae (jB J (bq bz)) (ae (aW (cg Z.bA (da1 (ar (ao bP (ag 0) aa)))) (eD J) (ai (ds_ext (dY (j7 Z) S (da3 (ag 0) (ag 1) (ag 3)))))) (ba (O2:=[]) (ai (az (ag 2))))))
def qk:YO Z.ug P w base 1 c_ (cq):=
 fY ["one","other","row","bounds","last","bound"] λz J S=>(ae (bS (aY Cw (aB bB (ag 0) aa) (aB bB (ag 1) aa)) (ai (az kE)) aX) (ae (aW (EN Z.z_zip (aB bB (ag 0) aa) (aB bB (ag 1) aa)) (ie rfl (aP J (aP J bT))) (ai (aW (EN Z.z_zip (ag 2) (ag 3)) (ie rfl (aP J (aP J bT))) (ai (bS (aY Cw (ag 4) (ag 5)) (ai (az kE)) aX))))) (ai (az kE))))
def oG:YO Z.qv P w base 2 c_ (dw):=
 fY ["labels","label","one"] λz J S=>(ae (aW (bx (ag 0)) (eD J) (ai (bS (iI (dY (qk Z) S (da2 (ag 2) (ag 1)))) (ai (az kE)) aX))) (ai (az kE)))
def qo:YO Z.uj P w base 3 c_ (gk):=
 fY ["labels","best","label"] λz J S=>(ae (jB J (bq bz)) (ae (aW (bx (ar (aA (Ce S.units) Z.kM Pf (da1 (ag 0))))) (eD J) (ai (bS (rT (iI (dY (oG Z) S (da2 (ag 1) (ag 2))))) (ai (fj (ag 2))) aX))) (ba (O2:=[]) (ai (az (ag 1))))))
def nA:YM Z.m_M_R_many_kinds P w mg base 1 c_ (aT CR CP CL n):=
 fM ["self"] λz J S=>(ai (az (aA iL Z.i5 FZ (da1 (wH Z.iX (ag 0))))))
def nB:YM Z.m_M_P_many_kinds P w mg base 1 c_ (aT CR CP CL n):=
 fM ["self"] λz J S=>(ai (az (aA iL Z.i5 FZ (da1 (wH Z.iX (ag 0))))))
def ql:YO Z.uh P w base 2 c_ (iT CR CP CL n):=
 fY ["rules","row"] λz f a=>let ⟨_,_,b,Y⟩:=nB Z;let ⟨_,_,d,S⟩:=bZ Z;let ⟨_,_,c,U⟩:=nA Z;let ⟨_,_,e,J⟩:=bY Z;(ae (aD f (dB uy Z.kn H_ (da1 (ar (cy ["kind"] [g_] (cg Z.bA (da1 (iJ Z.kR.cl c.mt U a c.bd Z.kP.cl b.mt Y a b.bd (ag 0)))) (λ_ _ _ _ _=>gc dkK) (aS rfl) (λ_ _ _ _ _=>bR) (λ_ _ _ _ _=>(C1 BF aa))))))) (ai (az (cE (da2 aa (dB uy Z.kn H_ (da1 (ar (cy ["strip","row"] [g_,a_ 1] (cg Z.bA (da1 (iJ Z.kR.cl e.mt J a e.bd Z.kP.cl d.mt S a d.bd (ag 0)))) (λ_ _ _ _ _=>gc dkK) (aS rfl) (λ_ _ _ _ _=>bR) (λ_ _ _ _ _=>(ag 1)))))))))))
def ku:YO Z.lD P w base 1 c_ (cN):=
 fY ["closed","joined","start","stop"] λz J S=>(ae (jB J (bq bz)) (ae (aW (bx (ar (aA c_sorted Z.kM Pf (da1 (ag 0))))) (ie rfl (aP J (aP J bT))) (ai (bS (PW.pt (EE (iI (ag 1)) (yF (aY o_le (ag 2) (aB bB (aB bB (ag 1) (C1 BF aa)) aa))))) (ai (ds_setI (cE (da2 (aB bB (aB bB (ag 1) (C1 BF aa)) aa) (aA (xb rfl) Z.uP K2 (da2 (ag 3) (aB bB (aB bB (ag 1) (C1 BF aa)) aa))))) (C1 BF aa))) (ai (fj (cE (da2 (ag 2) (ag 3)))))))) (ba (O2:=[]) (ai (az (ag 1))))))
def mQ:YO Z.yM P w base 2 c_ (dJ):=
 fY ["closed","time","start","stop"] λz J S=>(ae (aW (bx (dY (ku Z) S (da1 (ag 0)))) (ie rfl (aP J (aP J bT))) (ai (bS (u0 o_le o_lt (ag 2) (ag 1) (ag 3)) (ai (az (ag 3))) aX))) (ai (az (ag 1))))
theorem t7:YO Z.wJ P w base 1 c_ (gX):=
 fY ["lasts","spot","time","rows"] λz J S=>(ds_rows ["row"] [g_] J (bx (ag 0)) (λ_ _ _ _ _=>gc am) (aS rfl) (λ_ _ _ _ _=>bR) (λ_ _ _ _ _=>(dB AE Z.mI G6 (da1 (ag 0)))) E3 (ag 2) (aB bB (ag 1) aa) (aB bB (ag 1) aa) (ai (az (dB uy Z.kn H_ (da1 (ar (cy ["row"] [g_] (bx (ag 3)) (λ_ _ _ _ _=>gc am) (aS rfl) (λ_ _ _ _ _=>bR) (λ_ _ _ _ _=>(dB uy Z.kn H_ (da1 (ag 0)))))))))))
def mS:YO Z.yN P w base 1 c_ (eZ):=
 fY ["flight","time","due","price"] λz J S=>(ae (aD J (aB bB (ag 0) aa)) (ae (aD J (aB bB (ag 0) aa)) (ai (az (ao k8 (ag 3) (aA (xb rfl) Z.uP K2 (da2 aa (ao tw (ag 1) (ag 2)))))))))
def kv:YM Z.m_M_R_apart P w mg base 1 c_ (bh CR CP CL n):=
 fM ["self","one","other"] λz J S=>(ai (az (aB bB (aB bB (wH Z.iX (ag 0)) (aB bB (ag 1) aa)) (aB bB (ag 2) aa))))
def kx:YM Z.m_M_P_apart P w mg base 1 c_ (b8 CR CP CL n):=
 fM ["self","one","other","rows"] λz J S=>(ae (aD J (de_ite (aY (zV S.units) (aB bB (ag 1) aa) (aB bB (ag 2) aa)) (wH Z.iX (ag 0)) (wH Z.rN (ag 0)))) (ai (az (aB bB (aB bB (ag 3) (aB bB (ag 1) aa)) (aB bB (ag 2) aa)))))
def lX:YO Z.nI P w base 2 c_ (dH CR CP CL n):=
 fY ["rules","lasts","spot","times","strip","row","kind","last"] λz U Y=>let ⟨_,_,a,S⟩:=kx Z;let ⟨_,_,b,J⟩:=kv Z;(ae (jB U (bq bz)) (ae (aW (u6 Z.eV (ag 1)) (ie rfl (aP U (aP U bT))) (ai (aW (u6 Z.eV (ag 5)) (ie rfl (aP U (aP U bT))) (ai (bS (aY (o_ne Y.units) (ag 7) (C1 BF aa)) (ai (fj (ar (ao bP (ag 7) (uc Z.kR.cl b.mt J Y b.bd Z.kP.cl a.mt S Y a.bd (ag 0) (da2 (cE (da2 (ag 6) (ag 4))) (ag 2))))))) aX))))) (ba (O2:=[]) (ai (az (ag 3))))))
def jn:YO Z.qu P w base 3 c_ (bQ CR CP CL n):=
 fY ["rules","flights","closed","label","flight","strip","told","spot","time"] λz S J=>(ae (aD S (aB bB (ag 1) (ag 4))) (ae (aD S (cE (da2 (aB bB (ag 6) aa) (ag 5)))) (ae (aD S (dY (mQ Z) J (da2 (ag 2) (aA (xb rfl) Z.uP K2 (da1 (ar (ao bP (ar (bq (da1 (aB bB (ag 6) aa)))) (dY (lX Z) J (da3 (ag 0) (aB bB (ag 3) aa) (ag 7)))))))))) (ae (bS (aY Cw (ag 8) (aB bB (ag 6) aa)) (ai (az lC)) aX) (ai (az (cE (da2 (ar (ao bP (aB bB (ag 3) aa) (dY (mS Z) J (da2 (ag 6) (ag 8))))) (dY (t7 Z) J (da3 (aB bB (ag 3) aa) (ag 7) (ag 8)))))))))))
def nv:YO Z.pE P w base 4 c_ (e9 CR CP CL n):=
 fY ["rules","flights","closed","paper","some","found","smaller","flight","label","strip","behind"] λz U Y=>let ⟨_,_,a,S⟩:=bZ Z;let ⟨_,_,b,J⟩:=bY Z;(ae (jB U de_newL) (ae (aW (bx (dY (eX Z) Y (da1 (ag 4)))) (ie rfl (aP U (aP U bT))) (ai (aW (bx (ud Y.units (ag 3) (ag 6) (ar (bq bz)))) (eD U) (ai (aW (cg Z.bA (da1 (iJ Z.kR.cl b.mt J (Y.mono al) b.bd Z.kP.cl a.mt S (Y.mono al) a.bd (ag 0)))) (eD U) (ae (aD U (dY (jn Z) Y (da6 (ag 0) (ag 1) (ag 2) (ag 8) (ag 7) (ag 9)))) (ai (bS (aY o_notN (ag 10) lC) (ai (ds_putT Y.units (ag 10) kE)) aX)))))))) (ba (O2:=[]) (ai (az (ag 5))))))
def yf:YO Z.C6 P w base 11 c_ (jP CR CP CL n):=
 fY ["rules","flights","closed","shift","paper","some"] λz S J=>(ae (ds_drop (dY (kY Z) J (da3 (ag 0) (ag 1) (ag 3)))) (ae (jB S EO) (ae (aW (bx (dY (lY Z) J (da2 (aA iL Z.i5 FZ (da1 (ag 1))) (ag 3)))) (eD S) (ai (bS (aY (zV J.units) (ag 5) (cE bz)) (ai (Ap J.units (ag 5) (ar (bq (da1 (dY (ql Z) J (da1 (ag 0)))))))) (ai (Ap J.units (ag 5) (dY (qo Z) J (da1 (dY (nv Z) J (da5 (ag 0) (ag 1) (ag 2) (ag 4) (ag 5)))))))))) (ba (O2:=[]) (ai (az (ag 4)))))))
def BC:YO Z.ES P w base 4 c_ (l8 CR CP CL n):=
 fY ["rules","flights","closed","paper","some","label","smaller","flight","ahead","strip"] λz Y U=>let ⟨_,_,a,S⟩:=bZ Z;let ⟨_,_,b,J⟩:=bY Z;(ai (aW (bx (dY (eX Z) U (da1 (ag 4)))) (ie rfl (aP Y (aP Y bT))) (ai (aW (bx (ud U.units (ag 3) (ag 6) (ar (bq bz)))) (eD Y) (ai (aW (cg Z.bA (da1 (iJ Z.kR.cl b.mt J (U.mono al) b.bd Z.kP.cl a.mt S (U.mono al) a.bd (ag 0)))) (eD Y) (ai (bS (aY (zV U.units) (dY (jn Z) U (da6 (ag 0) (ag 1) (ag 2) (ag 8) (ag 7) (ag 9))) (ag 5)) (ai (az (cE (da3 (ag 6) (ag 8) (cE (da2 (ag 7) (ag 9))))))) aX))))))))
def BD:YO Z.ET P w base 5 c_ (l9 CR CP CL n):=
 fY ["rules","flights","closed","paper","some","label","there","plan","step"] λz J S=>(ae (aD J (cE (da2 (ag 4) (ag 5)))) (ae (jB J (bq bz)) (ae (ds_while (aY (o_ne S.units) (aB bB (ag 6) aa) (cE bz)) (ae (aD J (dY (BC Z) S (da6 (ag 0) (ag 1) (ag 2) (ag 3) (aB bB (ag 6) aa) (aB bB (ag 6) aa)))) (ae (fj (aB bB (ag 8) aa)) (ai (aD J (cE (da2 (aB bB (ag 8) aa) (aB bB (ag 8) aa)))))))) (ba (O2:=[]) (ai (az (ar (de_lrev Z.mI Z.AW (ag 7)))))))))
def ye:YO Z.C5 P w base 1 c_ (jO):=
 fY ["flights","plan"] λz J S=>(ai (az (ar (cy ["flight","strip","flights"] [g_,g_,a_ 0] (bx (ag 1)) (λ_ _ _ _ _=>ie rfl (cD dkK (cD dkK bT))) (iz al) (λ_ _ _ _ _=>bR) (λ_ _ _ _ _=>(cE (da2 (aB bB (aB bB (ag 2) (ag 0)) aa) (ag 1))))))))
def vL:YO Z.yO P w base 2 c_ (iS CR CP CL n):=
 fY ["rules","spots","times","place"] λz b U=>let ⟨_,_,Y,S⟩:=kx Z;let ⟨_,_,a,J⟩:=kv Z;(ai (az (ar (cy ["ahead","rules","spots","times","place"] [g_,a_ 0,a_ 1,a_ 2,a_ 3] (cg Z.bA (da1 (ag 3))) (λ_ _ _ _ _=>gc dkK) (aS rfl) (λ_ _ _ _ _=>bR) (λ_ _ _ _ _=>(ar (ao bP (aB bB (ag 3) (ag 0)) (uc Z.kR.cl a.mt J U a.bd Z.kP.cl Y.mt S U Y.bd (ag 1) (da2 (aB bB (ag 2) (ag 0)) (aB bB (ag 2) (ag 4)))))))))))
def yc:YO Z.C4 P w base 3 c_ (jN CR CP CL n):=
 fY ["rules","flights","closed","plan","spots","times","place","entry","flight","time"] λz J S=>(ae (aD J (dY (ye Z) S (da2 (ag 1) (ag 3)))) (ae (jB J (bq bz)) (ae (aW (yI Z.eV (ag 3)) (ie rfl (aP J (aP J bT))) (ae (aD J (aB bB (ag 1) (aB bB (ag 7) aa))) (ae (EG J (dY (mQ Z) S (da2 (ag 2) (aA (xb rfl) Z.uP K2 (da1 (ar (ao bP (ar (bq (da1 (aB bB (ag 8) aa)))) (dY (vL Z) S (da4 (ag 0) (ag 4) (ag 5) (ag 6)))))))))) (ae (bS (aY Cw (ag 9) (aB bB (ag 8) aa)) (ba (O2:=[]) (ai Ao)) aX) (ai (fj (ag 9))))))) (ba (O2:=[]) (ai (az (ag 5)))))))
def BE:YO Z.EU P w base 2 c_ (jt):=
 fY ["flights","plan","times"] λz S J=>(ai (az (aA (c_sum rfl) Z.z_sum boot_sum (da1 (ar (cy ["entry","time","flights"] [g_,g_,a_ 0] (di_zip Z.z_zip (ag 1) (ag 2)) (λ_ _ _ _ _=>ie rfl (cD dkK (cD dkK bT))) (iz al) (λ_ _ _ _ _=>bR) (λ_ _ _ _ _=>(dY (mS Z) J (da2 (aB bB (ag 2) (aB bB (ag 0) aa)) (ag 1))))))))))
def kZ:YO Z.mx P w base 1 c_ (cZ):=
 fY ["flights","first","last"] λz J S=>(ai (az (ar (cy ["number","flight","first","last"] [g_,g_,a_ 1,a_ 2] (yI Z.eV (ag 0)) (λ_ _ _ _ _=>ie rfl (cD dkK (cD dkK bT))) (iz al) (λ_ _ _ _ _=>pts_one (PW.pt (EE (aY o_le (ag 2) (aB bB (ag 1) aa)) (yF (aY o_le (aB bB (ag 1) aa) (ag 3)))))) (λ_ _ _ _ _=>(ag 0))))))
def yg:YO Z.C7 P w base 1 c_ (jQ):=
 fY ["kinds","there","pairs","kind","other"] λz J S=>(ae (aD J (ar (yJ Z.kM Z.z_set (ag 0)))) (ae (jB J (bq bz)) (ae (aW (bx (ag 1)) (eD J) (ai (aW (bx (ag 1)) (eD J) (ai (bS (PW.pt (yE (aY (o_ne S.units) (ag 3) (ag 4)) (wz (aY Cw (de_count S.units (ag 0) (ag 3)) aa)))) (ai (fj (cE (da2 (ag 3) (ag 4))))) aX))))) (ba (O2:=[]) (ai (az (ag 2)))))))
def qj:YO Z.uf P w base 2 c_ (e8 CR CP CL n):=
 fY ["rules","kinds","found","kind","other","strip"] λz b a=>let ⟨_,_,c,Y⟩:=kx Z;let ⟨_,_,e,S⟩:=bZ Z;let ⟨_,_,d,U⟩:=kv Z;let ⟨_,_,f,J⟩:=bY Z;(ae (jB b (bq bz)) (ae (aW (bx (dY (yg Z) a (da1 (ag 1)))) (ie rfl (aP b (aP b bT))) (ai (aW (cg Z.bA (da1 (iJ Z.kR.cl f.mt J a f.bd Z.kP.cl e.mt S a e.bd (ag 0)))) (eD b) (ai (fj (uc Z.kR.cl d.mt U a d.bd Z.kP.cl c.mt Y a c.bd (ag 0) (da2 (cE (da2 (ag 3) aa)) (cE (da2 (ag 4) (ag 5)))))))))) (ba (O2:=[]) (ai (az (aA (Fm rfl) Z.AX Mt (da1 (ag 2))))))))
def yh:YO Z.C8 P w base 3 c_ (cY CR CP CL n):=
 fY ["rules","flights","some","first","last","kinds"] λz J S=>(ae (bS (aY o_lt (aA iL Z.i5 FZ (da1 (ag 2))) aa) (ai (az kE)) aX) (ae (aD J (aA (Fm rfl) Z.AX Mt (da1 (ar (cy ["number","flights"] [g_,a_ 1] (bx (ag 2)) (λ_ _ _ _ _=>gc dkK) (aS rfl) (λ_ _ _ _ _=>bR) (λ_ _ _ _ _=>(aB bB (aB bB (ag 1) (ag 0)) aa))))))) (ae (aD J (aA (xb rfl) Z.uP K2 (da1 (ar (cy ["number","flights"] [g_,a_ 1] (bx (ag 2)) (λ_ _ _ _ _=>gc dkK) (aS rfl) (λ_ _ _ _ _=>bR) (λ_ _ _ _ _=>(aB bB (aB bB (ag 1) (ag 0)) aa))))))) (ae (Aq c_ ["number","flights"] [g_,a_ 1] J (bx (ag 2)) (λ_ _ _ _ _=>gc dkK) (aS rfl) (λ_ _ _ _ _=>bR) (λ_ _ _ _ _=>(aB bB (aB bB (ag 1) (ag 0)) aa))) (ai (az (pD Cw (ao k8 (dY (qj Z) S (da2 (ag 0) (ag 5))) (ao tw (aA iL Z.i5 FZ (da1 (ag 2))) aa)) (ao tw (ag 4) (ag 3)))))))))
def yi:YO Z.C9 P w base 4 c_ (f7 CR CP CL n):=
 fY ["rules","flights","firsts","lasts","first","last","some"] λz J S=>(ae (aD J (ar (yJ Z.kM Z.z_set (ar (cy ["flight"] [g_] (bx (ag 1)) (λ_ _ _ _ _=>gc dkK) (aS rfl) (λ_ _ _ _ _=>bR) (λ_ _ _ _ _=>(aB bB (ag 0) aa))))))) (ae (aD J (ar (yJ Z.kM Z.z_set (ar (cy ["flight"] [g_] (bx (ag 1)) (λ_ _ _ _ _=>gc dkK) (aS rfl) (λ_ _ _ _ _=>bR) (λ_ _ _ _ _=>(aB bB (ag 0) aa))))))) (ae (aW (bx (ag 2)) (eD J) (ai (aW (bx (ag 3)) (eD J) (ae (aD J (dY (kZ Z) S (da3 (ag 1) (ag 4) (ag 5)))) (ai (bS (iI (dY (yh Z) S (da3 (ag 0) (ag 1) (ag 6)))) (ai (az (ag 6))) aX)))))) (ai (az lC)))))
def on_CL:∃f fd,Mth K CL "__init__" "NoPlan.__init__" s_nCL ["self","crowd"] f fd/\XMk K mg "NoPlan" CL f/\gQ P w K mg base CX0 1 f fd ["self","crowd"] (spXL K CL "crowd"):=
 let ⟨_,_,N,X⟩:=Z.n_CL;⟨_,_,N,X,okn_CL N.fn Z.aCL_crowd Z.mI⟩
def vM:YX Z.yP P w base 12 c_ (f9 CR CP CL n):=
 fX ["rules","flights","closed","shift","paper","everyone","labels","plan","times"] λz Y U=>let ⟨_,_,a,J,S⟩:=on_CL Z;(ae (u3 (aD Y (dY (yf Z) U (da4 (ag 0) (ag 1) (ag 2) (ag 3))))) (ae (u3 (aD Y (Av Z.kn Z.bA (da1 (aA iL Z.i5 FZ (da1 (ag 1))))))) (ae (u3 (aD Y (ud U.units (ag 4) (ag 5) (ar (bq bz))))) (ae (bS (rT (iI (ag 6))) (ai (EI PySem.F.excBase_ValueError xeqD2 J.ex J.fn J.kp S (U.mono al) a.bd J.mg (da1 (de_lift (de_orN (dY (yi Z) U (da2 (ag 0) (ag 1))) (de_one (ar (bq bz)))))))) aX) (dss_lift (ae (aD Y (dY (BD Z) U (da6 (ag 0) (ag 1) (ag 2) (ag 4) (ag 5) (aA (c_minL U.units) Z.AX Mt (da1 (ag 6)))))) (ae (aD Y (dY (yc Z) U (da4 (ag 0) (ag 1) (ag 2) (ag 7)))) (ai (az (cE (da3 (dY (BE Z) U (da3 (ag 1) (ag 7) (ag 8))) (ag 7) (ag 8))))))))))))
def tj:YO Z.wN P w base 13 c_ (cp CR CP CL n):=
 fY ["_law_rules","_law_flights_here","_law_closed_here","_law_shift","_law_told","e"] λz J b=>let ⟨_,_,S⟩:=vM Z;(ae (aD J lC) (ae (ds_toldB (λB2 σ E e c=>(dsa_set J (dea_call S.o c b S.d.mg S.d.fn.kp S.d.bd (da4 (ag 0) (ag 1) (ag 2) (ag 3))))) Z.xCL J (λa d oe Y hd U=>oz (Dn J rfl (.inl rfl) (pe_lst (aR (pe_isO (Fs JJ Z.xCL.isi Y hd U) Z.cn Z.tH Z.nE) (aR (pe_isB (Fs JJ Z.xCL.isi Y hd U) Z.cn Z.uQ (by rfl) Z.nF) (aR (pe_isT (Fs JJ Z.xCL.isi Y hd U) Z.cn (yb (yb (yb pa_refs0 Z.BO) Z.BN) Z.DZ) (by show 3<=t_;decide) Z.kT_CL) cA))))))) (ai (az (ag 4)))))
def tf:YO Z.wM P w base 1 c_ (fH):=
 fY ["_law_many","_law_shift","_law_strips","_law_plans_here","_law_place","_law_more","_law_plan","_law_used","_law_flight"] λz J S=>(ae (aD J (ar (bq (da1 (ar (bq bz)))))) (ae (aW (cg Z.bA (da1 (ag 0))) (eD J) (ae (jB J (bq bz)) (ae (aW (bx (ag 3)) (eD J) (ae (Aq c_ ["_law_flight","_law_strip"] [g_,g_] J (bx (ag 6)) (λ_ _ _ _ _=>ie rfl (cD dkK (cD dkK bT))) (iz al) (λ_ _ _ _ _=>bR) (λ_ _ _ _ _=>(ag 0))) (ai (aW (cg Z.bA (da1 (ag 0))) (eD J) (ae (bS (PW.pt (yE (aY (o_in S.units) (ag 8) (ag 7)) (wz (aY Cw (aA c_abs Z.z_abs boot_abs (da1 (ao tw (ag 8) (ag 4)))) (ag 1))))) (ai ds_cont) aX) (ai (ds_ext (cy ["_law_strip","_law_plan","_law_flight"] [g_,a_ 6,a_ 8] (cg Z.bA (da1 (ag 2))) (λ_ _ _ _ _=>gc dkK) (aS rfl) (λ_ _ _ _ _=>bR) (λ_ _ _ _ _=>(ar (ao bP (ag 1) (ar (bq (da1 (cE (da2 (ag 2) (ag 0))))))))))))))))) (ba (ai (aD J (ag 5))))))) (ai (az (ag 3)))))
def l5:YO Z.wL P w base 1 c_ (cR):=
 fY ["_law_gaps_here","_law_beside","_law_flights_here","_law_closed_here","_law_plan","_law_times_here","_law_place","_law_flight","_law_strip","_law_time","_law_ahead","_law_other","_law_there","_law_gap","_law_turn","_law_start","_law_stop"] λz J S=>(ae (jB J (bq bz)) (ae (aW (cg Z.bA (da1 (aA iL Z.i5 FZ (da1 (ag 4))))) (eD J) (ae (EF (aB bB (ag 4) (ag 6)) (ie rfl (aP J (aP J bT)))) (ae (aD J (aB bB (aB bB (ag 2) (ag 7)) aa)) (ae (aW (cg Z.bA (da1 (ag 6))) (eD J) (ae (EF (aB bB (ag 4) (ag 10)) (ie rfl (aP J (aP J bT)))) (ae (aD J (aB bB (aB bB (ag 0) (aB bB (aB bB (ag 2) (ag 11)) aa)) (aB bB (aB bB (ag 2) (ag 7)) aa))) (ae (bS (aY (o_ne S.units) (ag 12) (ag 8)) (ai (aD J (aB bB (aB bB (ag 1) (aB bB (aB bB (ag 2) (ag 11)) aa)) (aB bB (aB bB (ag 2) (ag 7)) aa)))) aX) (ai (EG J (aA (xb rfl) Z.uP K2 (da2 (ag 9) (ar (ao bP (aB bB (ag 5) (ag 10)) (ag 13))))))))))) (ae (aW (pt:=.nm 14) (cg Z.bA (da1 (aA iL Z.i5 FZ (da1 (ag 3))))) (eD J) (ai (aW (pt:=.tp [15,16]) (bx (ag 3)) (ie rfl (aP (i:=15) J (aP (i:=16) J bT))) (ai (bS (u0 o_le o_lt (ag 15) (ag 9) (ag 16)) (ai (aD J (ag 16))) aX))))) (ae (bS (aY Cw (ag 9) (aB bB (aB bB (ag 2) (ag 7)) aa)) (ba (O2:=[]) (ai (az lC))) aX) (ai (fj (i:=5) (ag 9))))))))) (ba (O2:=[]) (ai (az (ag 5))))))
def mU:YO Z.yS P w base 1 c_ (gG):=
 fY ["_law_flights_here","_law_plan","_law_times_here","_law_total","_law_spot","_law_time"] λz J S=>(ae (aD J aa) (ae (aW (di_zip Z.z_zip (ag 1) (ag 2)) (ie rfl (aP J (aP J bT))) (ai (aD J (ar (ao bP (ag 3) (ao k8 (aB bB (aB bB (ag 0) (aB bB (ag 4) aa)) aa) (aA (xb rfl) Z.uP K2 (da2 aa (ao tw (ag 5) (aB bB (aB bB (ag 0) (aB bB (ag 4) aa)) aa)))))))))) (ai (az (ag 3)))))
def on_P:∃f fd,Mth K CP "__init__" "Pair.__init__" s_nP ["self","gaps","beside"] f fd/\gQ P w K mg base CX0 5 f fd ["self","gaps","beside"] (spI2 K CP (aC)):=
 let ⟨_,_,Y⟩:=jo Z;let ⟨_,_,N,S⟩:=Z.n_R;let ⟨_,_,M⟩:=Z.n_P;⟨_,_,M,okn_P Y.d Y.o S N.bd (okn_R Y.d Y.o N.fn Z.kP.cl (Z.iX CP aj).2) Z.kR.mg Z.i5 M.fn Z.kP.cl (Z.iX CP aj).2 (Z.rN CP aj).2⟩
def on_R:∃f fd,Mth K CR "__init__" "Rules.__init__" s_nR ["self","gaps"] f fd/\gQ P w K mg base CX0 4 f fd ["self","gaps"] (spI1 K CR (aC)):=
 let ⟨_,_,Y⟩:=jo Z;let ⟨_,_,N,_⟩:=Z.n_R;⟨_,_,N,okn_R Y.d Y.o N.fn Z.kR.cl (Z.iX CR aj).2⟩
def ok_law:YO (let ⟨f,fd,D,_⟩:=Z.d_law;⟨f,fd,D⟩) P w base 14 c_ (m_law CR CP CL n):=
 fY ["_law_script","_law_kinds","_law_shift","_law_gaps_here","_law_beside","_law_rules","_law_strips","_law_many","_law_flights_here","_law_closed_here","_law_handed","_law_told","_law_best","_law_plans_here","_law_plan","_law_times_here","_law_cost_here"] λz S J=>let ⟨_,_,b,Y⟩:=on_P Z;let ⟨_,_,a,U⟩:=on_R Z;(ae (aD S (ar (ao bP aa (ao bw (ao bw (ao k8 (dY (cQ Z) J (da2 (ag 0) aa)) aa) aa) aa)))) (ae (aD S (ao bw (ao bJ (dY (cQ Z) J (da2 (ag 0) aa)) aa) aa)) (ae (aD S (dY (mT Z) J (da3 (ag 0) aa (ag 1)))) (ae (aD S (ar (bq bz))) (ae (aD S (de_newR ⟨Z.kR.mks,a.mt.at_,a.mt.fn,Z.kR.kp⟩ U (J.mono al) Z.kR.mg a.bd (da1 (ag 3)))) (ae (aD S (ar (ao bP aa (ao bw (dY (cQ Z) J (da2 (ag 0) aa)) aa)))) (ae (bS (aY (zV J.units) (ag 6) aa) (ae (aD S (dY (mT Z) J (da3 (ag 0) aa (ag 1)))) (ai (aD S (de_newP ⟨Z.kP.mks,b.mt.at_,b.mt.fn,Z.kP.kp⟩ Y (J.mono al) Z.kP.mg b.bd (da2 (ag 3) (ag 4)))))) aX) (ae (aD S (ao bw (ao bw (ao k8 (dY (cQ Z) J (da2 (ag 0) aa)) aa) aa) (ao tw aa (ag 6)))) (ae (aD S (dY (oH Z) J (da4 (ag 0) aa (ag 1) (ag 7)))) (ae (aD S (dY (qp Z) J (da2 (ag 0) aa))) (ae (aD S (ar (bq (da2 (ar (dB AE Z.mI G6 (da1 (ag 8)))) (ar (dB AE Z.mI G6 (da1 (ag 9)))))))) (ae (aD S (dY (tj Z) J (da4 (ag 5) (aB bB (ag 10) aa) (aB bB (ag 10) aa) (ag 2)))) (ae (bS (aY (o_ne J.units) (ag 10) (ar (bq (da2 (ag 8) (ag 9))))) (ai (az kE)) aX) (ae (aD S lC) (ae (aD S (dY (tf Z) J (da3 (ag 7) (ag 2) (ag 6)))) (ae (aW (bx (ag 13)) (eD S) (ae (aD S (dY (l5 Z) J (da5 (ag 3) (ag 4) (ag 8) (ag 9) (ag 14)))) (ai (bS (aY o_notN (ag 15) lC) (ae (aD S (dY (mU Z) J (da3 (ag 8) (ag 14) (ag 15)))) (ai (bS (PW.pt (yE (aY o_isN (ag 12) lC) (wz (aY o_lt (ag 16) (ag 12))))) (ai (aD S (ag 16))) aX))) aX)))) (ae (bS (aY o_isN (ag 12) lC) (ai (az (pD (zV J.units) (ag 11) (ar (bq (da3 kE kE kE)))))) aX) (ae (bS (PW.pt (yE (rT (iI (wG Z.kit Z.cn Z.kn (ag 11)))) (yE (aY (o_ne J.units) (aA iL Z.i5 FZ (da1 (ag 11))) aa) (yE (aY (o_ne J.units) (aB bB (ag 11) aa) (ag 12)) (wz (iI (pC Z.kit Z.cn Z.z_bool (aB bB (ag 11) aa)))))))) (ai (az kE)) aX) (ae (bS (aY (o_notIn J.units) (aB bB (ag 11) aa) (ag 13)) (ai (az kE)) aX) (ae (bS (aY (o_ne J.units) (aB bB (ag 11) aa) (dY (l5 Z) J (da5 (ag 3) (ag 4) (ag 8) (ag 9) (aB bB (ag 11) aa)))) (ai (az kE)) aX) (ai (az (pD (zV J.units) (dY (mU Z) J (da3 (ag 8) (aB bB (ag 11) aa) (aB bB (ag 11) aa))) (ag 12))))))))))))))))))))))))
end
noncomputable abbrev cI:=Int×Int
variable{cs done:List cI}
noncomputable def stD(p:cI):A':=.tup [.int p.1,.int p.2]
theorem uX:∀cs:List cI,ik (cs.map stD)=.ok (cs.map λp=>[p.1,p.2])
 |[]=>rfl|p::cs=>by simp[ik,tupD,stD,bj,uX cs]
theorem CY(cs:List cI)(f:cs.length<64):∃S:List cI,lQ [.lst (cs.map stD)]=.ok (.lst (S.map stD))/\S.Perm cs/\S.Pairwise (λp q=>p.1<=q.1):=by
 cases j:cs with
 |nil=>exact⟨[],by simp[lQ,vd,bj,dK],HD _,IZ⟩|cons p ps=>
  rw[<- j];have hi:∃e,bj (cs.map stD)=.error e:=⟨.stuck,by simp_all[bj,stD,asI]⟩
  obtain⟨e,i⟩:=hi;have U:((cs.map λp=>[p.1,p.2]).all λt=> !t.isEmpty)=f_:=by simp
  have es:lQ [.lst (cs.map stD)]=.ok (.lst ((dK vS (cs.map λp=>[p.1,p.2])).map cK)):=by simp only[lQ,vd,w_,f,if_true,i,uX,au,U]
  have c:=bp (lt:=vS) (cs.map λp=>[p.1,p.2]);have d:=dQ DH (cs.map λp=>[p.1,p.2]);generalize dK vS (cs.map λp=>[p.1,p.2])=L at *
  let J:aG->cI:=λl=>(l.getD 0 0,l.getD 1 0)
  have Y:∀l∈L,∃p:cI,l=[p.1,p.2]:=λl h=>by have:=c.mem_iff.mp h;simp only[FG]at this;obtain⟨p,_,e⟩:=this;exact⟨p,e.symm⟩
  refine⟨L.map J,?_,?_,?_⟩
  .rw[es,FJ]
   congr 2
   refine Il λl h=>?_;obtain⟨p,rfl⟩:=Y l h;rfl
  .have:=c.map J;rw[FJ]at this;have e2:List.map (J∘λp=>[p.1,p.2]) cs=cs:=by
    rw[Il (g:=id)]
    .simp
    .intro p _;rfl
   rwa [e2]at this
  .rw[LJ];refine d.imp_of_mem λ{a b} m k h=>?_;obtain⟨p,rfl⟩:=Y a m;obtain⟨q,rfl⟩:=Y b k;show p.1<=q.1;simp only[vS]at h;lia
@[simp]def getI_c0(a:A')(l:List A'):jW (a::l) 0=.ok a:=by simp[jW,atI,ixN,p_]
@[simp] theorem getI_c1(a b:A')(l:List A'):jW (a::b::l) 1=.ok b:=by unfold jW atI ixN;rw[p_ ad,p_ (by simp<;>lia)];rfl
@[simp] theorem getI_c2(a b c:A')(l:List A'):jW (a::b::c::l) 2=.ok c:=by unfold jW atI ixN;rw[p_ ad,p_ (by simp<;>lia)];rfl
@[simp] theorem getI_c3(a b c d:A')(l:List A'):jW (a::b::c::d::l) 3=.ok d:=by unfold jW atI ixN;rw[p_ ad,p_ (by simp<;>lia)];rfl
@[simp] theorem getI_c4(a b c d e:A')(l:List A'):jW (a::b::c::d::e::l) 4=.ok e:=by unfold jW atI ixN;rw[p_ ad,p_ (by simp<;>lia)];rfl
section
variable(CR CP CL:k_)
noncomputable def iq(r:aG):A':=.lst (r.map .int)
def aK(rows:List aG):A':=.lst (rows.map iq)
def pR(k:Nat)(r:aG):Prop:=r.length=k/\∀x∈r,0<=x/\x<=1000000
def bH(k:Nat)(rows:List aG):Prop:=rows.length=k/\∀r∈rows,pR k r
def Bs{lo:Int}(h:(aE lo m)[i]?=a_ d):i<m/\d=.int (lo+i):=by unfold aE at h;rw[FY]at h;obtain⟨a,h1,J⟩:=MW.mp h;have hi:=(v_.mp h1).1;rw[He]at hi;rw[JS hi]at h1;cases h1;exact⟨hi,J.symm⟩
theorem jK(h:(aE 0 m)[i]?=a_ d):i<m/\d=.int i:=by obtain⟨h1,J⟩:=Bs h;simp_all
def bL(lo:Int)(m:Nat):(aE lo m).length=m:=by simp[aE]
end
section
variable(CR CP CL:k_)
def Em(n:Nat)(x:Int)(J:0<=x)(h1:x<=1000000):jR [.int x]=.ok (.bl f_):=by simp[jR,Ai,rZ,J,h1]
theorem tQ(n:Nat)(k:Nat)(r:aG)(Y:k<=6)(h:pR k r):dP [iq r,.int k]=.ok (.bl f_):=by
 have U:r.length<=16777216:=by have:=h.1;lia
 have J:k<=16777216:=ad
 have e:aQ (.nm 0) iG (fL (jR) (a9 (af 0) av)) [g_] (r.map .int)=.ok ((r.map λ_=>f_).map A'.bl):=by
  have:=dC (p:=.nm 0) (fe:=fL (jR) (a9 (af 0) av)) (ρ0:=[g_]) (λ_=>.bl f_) (r.map .int) (λd hd=>by obtain⟨x,S,rfl⟩:=FG.mp hd;exact⟨[a_ (.int x)],aj,by simp[Em n x (h.2 x S).1 (h.2 x S).2]⟩)
  rw[this,FJ,FJ];rfl
 simp[dP,n5,iq,e,U,J,h.1,-FJ]
theorem EW(n:Nat)(rows:List aG)(U:rows.length<=1000):gj [aK rows]=.ok (aK rows):=by
 have J:rows.length<=16777216:=ad
 have e:aQ (.nm 0) iG (fL lb (a9 (af 0) av)) [g_] (rows.map iq)=.ok (rows.map iq):=by
  have:=dC (p:=.nm 0) (fe:=fL lb (a9 (af 0) av)) (ρ0:=[g_]) id (rows.map iq) (λd hd=>by obtain⟨x,S,rfl⟩:=FG.mp hd;exact⟨[a_ (iq x)],aj,by simp[iq]⟩)
  rw[this,List.map_id]
 simp[gj,lp,aK,e,J]
theorem mB(n:Nat)(k:Nat)(rows:List aG)(h1:1<=k)(U:k<=6)(h:bH k rows):aC [aK rows]=.ok (aK rows):=by
 have J:rows.length<=16777216:=by have:=h.1;lia
 have e:aQ (.nm 0) iG (fL (dP) (a9 (af 0) (a9 (af 1) av))) [g_,a_ (.int rows.length)] (rows.map iq)=.ok ((rows.map λ_=>f_).map A'.bl):=by
  have:=dC (p:=.nm 0) (fe:=fL (dP) (a9 (af 0) (a9 (af 1) av))) (ρ0:=[g_,a_ (.int rows.length)]) (λ_=>.bl f_) (rows.map iq) (λd hd=>by obtain⟨x,S,rfl⟩:=FG.mp hd;exact⟨[a_ (iq x),a_ (.int rows.length)],aj,by simp[h.1,tQ n k x U (h.2 x S)]⟩)
  rw[this,FJ,FJ];rfl
 have a:(1:Int)<=rows.length:=by have:=h.1;lia
 have Y:(rows.length:Int)<=6:=by have:=h.1;lia
 have e3:=EW n rows ad;simp[aK]at e3;simp[aC,kj,jd,jc,aK,e,e3,J,a,Y,-FJ]
def ak(rows:List aG):A'->A'
 |.non=>.ins CR [("gaps",aK rows)]|o=>.ins CP [("gaps",aK rows),("beside",o)]
def m8(rows:List aG)(o:A')(S:o=.non\/∃J,o=aK J):pO [CR,CP] "gaps" (ak CR CP rows o)=.ok (aK rows):=by
 have h1:(("gaps"==("gaps":FU))=f_):=by decide +kernel
 rcases S with rfl|⟨J,rfl⟩
 .show(if ([CR,CP].contains CR)=f_ then(match Gj ("gaps":FU) [("gaps",aK rows)]with|some d=>Hc d|none=>stk)else stk)=_;simp
 .show(if ([CR,CP].contains CP)=f_ then(match Gj ("gaps":FU) [("gaps",aK rows),("beside",aK J)]with|some d=>Hc d|none=>stk)else stk)=_;simp
end
structure Fli where
 kind:Int
 first:Int
 last:Int
 due:Int
 price:Int
variable{fl:List Fli}
noncomputable def flD(f:Fli):A':=.tup [.int f.kind,.int f.first,.int f.last,.int f.due,.int f.price]
structure i4(k:Nat)(f:Fli):Prop where
 k0:0<=f.kind
 k1:f.kind<k
 f0:0<=f.first
 f1:f.first<=f.last
 l1:f.last<=1000000000
 d0:0<=f.due
 d1:f.due<=1000000000
 p0:0<=f.price
 p1:f.price<=1000000000
@[simp]def flatTop_f(d:A'):mh c_ d=gS d:=by rfl
@[simp]def flatD_int(i:Int):gS (.int i)=f_:=by rfl
theorem yn(a b:Int):ky a b<=a/\ky a b<=b/\(ky a b=a\/ky a b=b):=by unfold ky;split<;>lia
noncomputable def dh(fl:List Fli)(i:Int):Fli:=match fl[i.toNat]? with
 |some f=>f|none=>⟨0,0,0,0,0⟩
theorem BX{i:Int}(S:0<=i)(h1:i<fl.length):jW (fl.map flD) i=.ok (flD (dh fl i))/\dh fl i∈fl:=by
 have J:i.toNat<fl.length:=ad
 have e:dh fl i=fl[i.toNat]:=by unfold dh;rw[y_ J]
 have:=gZ (ds:=fl.map flD) (by simpa using J);grind
def Cov(cs:List cI)(t:Int):Prop:=∃p∈cs,p.1<=t/\t<p.2
def gd(cs:List cI)(t u:Int):Prop:=t<=u/\¬Cov cs u/\∀v,t<=v->v<u->Cov cs v
def gd.uniq{t v:Int}(h:gd cs t u)(k:gd cs t v):u=v:=by
 rcases OX u v with e|e|e
 .exact FN (k.2.2 u h.1 e) h.2.1
 .exact e
 .exact FN (h.2.2 v k.1 e) k.2.1
def EV(t:Int):¬Cov [] t:=λ⟨_,h,_⟩=>by simp at h
def Ay{p:cI}{t:Int}:Cov (p::cs) t↔(p.1<=t/\t<p.2)\/Cov cs t:=by
 constructor
 .rintro⟨q,h,J⟩;rcases n_.mp h with e|e
  .subst e;exact .inl J
  .exact .inr ⟨q,e,J⟩
 .rintro(h|⟨q,h,J⟩)
  .exact⟨p,aj,h⟩
  .exact⟨q,by simp[h],J⟩
theorem iK{S bs:List cI}{t:Int}:Cov (S++bs) t↔Cov S t\/Cov bs t:=by
 constructor
 .rintro⟨q,h,J⟩;rcases Gn.mp h with e|e
  .exact .inl ⟨q,e,J⟩
  .exact .inr ⟨q,e,J⟩
 .rintro(⟨q,h,J⟩|⟨q,h,J⟩)
  .exact⟨q,by simp[h],J⟩
  .exact⟨q,by simp[h],J⟩
theorem yT{p:cI}{t:Int}:Cov [p] t↔p.1<=t/\t<p.2:=by rw[Ay];simp[EV]
noncomputable def tAt(ts:aG)(i:Nat):Int:=ts.getD i 0
noncomputable def rwAt(rows:List aG)(i:Int):aG:=rows.getD i.toNat []
def at2(rows:List aG)(i j:Int):Int:=(rwAt rows i).getD j.toNat 0
def apS(rows J:List aG)(a b:cI):Int:=if a.2=b.2 then at2 rows a.1 b.1 else at2 J a.1 b.1
theorem getT(h:i<ts.length):jW (ts.map .int) (i:Int)=.ok (.int (tAt ts i)):=by simp_all[gZ,tAt]
theorem tU(g:bH k rows){i:Int}(U:0<=i)(h1:i<k):jW (rows.map iq) i=.ok (iq (rwAt rows i))/\pR k (rwAt rows i):=by
 have S:=g.1;have J:i.toNat<rows.length:=ad
 have e:rwAt rows i=rows[i.toNat]:=by simp[rwAt,J]
 refine⟨?_,by rw[e];exact g.2 _ (Gm J)⟩
 have:=gZ (ds:=rows.map iq) (by simpa using J);rw[show((i.toNat:Nat))=i by lia]at this;rw[this,e];simp
theorem getA(g:bH k rows){i j:Int}(U:0<=i)(h1:i<k)(b:0<=j)(a:j<k):jW ((rwAt rows i).map .int) j=.ok (.int (at2 rows i j))/\0<=at2 rows i j:=by
 have S:=(tU g U h1).2;have Y:=S.1;have J:j.toNat<(rwAt rows i).length:=ad
 have e:at2 rows i j=(rwAt rows i)[j.toNat]:=by simp[at2,J]
 refine⟨?_,by rw[e];exact(S.2 _ (Gm J)).1⟩
 simp_all[getI_int]
def lookA1(d:A'):Gj ("apart":FU) [(("gaps":FU),d)]=g_:=by rfl
def lookA2(d e:A'):Gj ("apart":FU) [(("gaps":FU),d),(("beside":FU),e)]=g_:=by rfl
section
variable(CR CP CL:k_)
def xm(rows J:List aG):pO [CP] "beside" (ak CR CP rows (aK J))=.ok (aK J):=by
 have h1:(("beside"==("gaps":FU))=c_):=by decide +kernel
 have S:(("beside"==("beside":FU))=f_):=by decide +kernel
 show(if ([CP].contains CP)=f_ then(match Gj ("beside":FU) [("gaps",aK rows),("beside",aK J)]with|some d=>Hc d|none=>stk)else stk)=_;rw[p_ aj,GU,h1];rw[GU,S]
end
def si(J:List cI):Prop:=J.Pairwise (λp q=>p.2<q.1)/\∀p∈J,p.1<p.2
theorem Ac(n:Nat):ixN (n+1) (-1)=a_ n:=by grind[ixN]
@[simp]def getI_last(ds:List A')(d:A'):jW (ds++[d]) (-1)=.ok d:=by simp[jW,atI,Gs,NG,Ac]
def j3(J done:List cI):Prop:=si J/\(∀t,Cov J t↔Cov done t)/\J.length<=done.length/\∀j∈J,∃d∈done,d.1=j.1
theorem j3.new{J:List cI}{p:cI}(h:j3 J done)(c:p.1<p.2)(S:∀x∈J,x.2<p.1):j3 (J++[p]) (done++[p]):=by
 obtain⟨⟨h1,l⟩,k,n,i⟩:=h;refine⟨⟨?_,?_⟩,?_,as,?_⟩
 .rw[Ie];exact⟨h1,aj,λa g b U=>by simp at U;subst U;exact S a g⟩
 .intro x Y;rcases Gn.mp Y with e|e
  .exact l x e
  .simp at e;subst e;exact c
 .intro t;rw[iK,iK,k]
 .intro j f;rcases Gn.mp f with e|e
  .obtain⟨d,m,z⟩:=i j e;exact⟨d,by simp[m],z⟩
  grind
theorem j3.more{J:List cI}{q p:cI}(h:j3 (J++[q]) done)(r:p.1<p.2)(h1:q.1<=p.1)(s:p.1<=q.2):j3 (J++[(q.1,eY p.2 q.2)]) (done++[p]):=by
 obtain⟨⟨S,o⟩,t,n,Y⟩:=h;have i:p.2<=eY p.2 q.2:=by unfold eY;split<;>lia
 have g:q.2<=eY p.2 q.2:=by unfold eY;split<;>lia
 have f:eY p.2 q.2=p.2\/eY p.2 q.2=q.2:=by unfold eY;split<;>lia
 rw[Ie]at S;refine⟨⟨?_,?_⟩,?_,by simp at n ⊢;lia,?_⟩
 .rw[Ie];exact⟨S.1,aj,λa l b U=>by simp at U;subst U;exact S.2.2 a l q aj⟩
 .intro x c;rcases Gn.mp c with e|e
  .exact o x (by simp[e])
  .simp at e;subst e;lia
 .grind[iK,yT]
 .intro j k;rcases Gn.mp k with e|e
  .obtain⟨d,m,z⟩:=Y j (by simp[e]);exact⟨d,by simp[m],z⟩
  .simp at e;subst e;obtain⟨d,m,z⟩:=Y q aj;exact⟨d,by simp[m],z⟩
theorem wm{g:ah->M B4}{c:Option A'}{t:Int}(r:cI->A')(b:∀p:cI,g [c,a_ (.int t),a_ (.int p.1),a_ (.int p.2)]=if p.1<=t/\t<p.2 then .ok (.rt (r p))else .ok (.nx [c,a_ (.int t),a_ (.int p.1),a_ (.int p.2)])):
  ∀(J:List cI) (U S:Option A'),(∃p∈J,(p.1<=t/\t<p.2)/\bG (.tp [2,3]) g (J.map stD) [c,a_ (.int t),U,S]=.ok (.rt (r p)))\/(¬Cov J t/\∃a Y,bG (.tp [2,3]) g (J.map stD) [c,a_ (.int t),U,S]=.ok (.nx [c,a_ (.int t),a,Y]))
 |[],U,S=>.inr ⟨EV t,U,S,rfl⟩|p::J,U,S=>by
  have i:d7 (.tp [2,3]) (stD p) [c,a_ (.int t),U,S]=.ok [c,a_ (.int t),a_ (.int p.1),a_ (.int p.2)]:=by simp[stD]
  by_cases h:p.1<=t/\t<p.2
  .refine .inl ⟨p,aj,h,?_⟩;rw[u_,bG,i,au,b,p_ h];rfl
  .have e:bG (.tp [2,3]) g ((p::J).map stD) [c,a_ (.int t),U,S]=bG (.tp [2,3]) g (J.map stD) [c,a_ (.int t),a_ (.int p.1),a_ (.int p.2)]:=by
    rw[u_,bG,i,au,b,q_ h];rfl
   rcases wm r b J _ _ with⟨q,j,f,d⟩|⟨f,d⟩
   .exact .inl ⟨q,by simp[j],f,by rw[e];exact d⟩
   .refine .inr ⟨λz=>?_,by rw[e];exact d⟩;rcases Ay.mp z with z|z
    .exact h z
    .exact f z
theorem si.tri:∀{J:List cI},si J->∀p∈J,∀q∈J,p=q\/p.2<q.1\/q.2<p.1
 |[],_,p,S,_,_=>by simp_all|a::J,⟨h1,b⟩,p,S,q,Y=>by
  rw[Hm]at h1;rcases n_.mp S with e|e<;>rcases n_.mp Y with e2|e2
  .exact .inl (e.trans e2.symm)
  .subst e;exact .inr (.inl (h1.1 q e2))
  .subst e2;exact .inr (.inr (h1.1 p e))
  .exact si.tri ⟨h1.2,λx U=>b x (by simp[U])⟩ p e q e2
section
variable(CR CP CL:k_)
theorem Eg(n:Nat)(cs:List cI)(E:cs.length<64)(D:∀p∈cs,p.1<p.2):∃J:List cI,cN [.lst (cs.map stD)]=.ok (.lst (J.map stD))/\si J/\(∀t,Cov J t↔Cov cs t)/\J.length<=cs.length:=by
 obtain⟨f,e,c,hw⟩:=CY cs E;have B:f.length=cs.length:=c.length_eq;have key:=jX (p:=.tp [2,3]) (g:=bX)
  (λk ρ=>∃J r o,ρ=[a_ (.lst (cs.map stD)),a_ (.lst (J.map stD)),r,o]/\j3 J (f.take k)) (f.map stD) 0 [a_ (.lst (cs.map stD)),a_ (.lst []),g_,g_] ⟨[],g_,g_,rfl,⟨by simp[si],λt=>Iff.rfl,aj,aj⟩⟩ (by
  rintro i d ρ hd ⟨J,r,o,rfl,S⟩;rw[FY]at hd;obtain⟨p,b,rfl⟩:=MW.mp hd;obtain⟨hi,u⟩:=v_.mp b;have s:f.take (0+i+1)=f.take (0+i)++[p]:=by rw[IX,Pu,b];rfl
  have a:p.1<p.2:=D p (c.mem_iff.mp (G9 b));have Y:∀j∈J,j.1<=p.1:=λj y=>by obtain⟨d,F,H⟩:=S.2.2.2 j y;obtain⟨m,G,v⟩:=List.mem_take_iff_getElem.mp F;have:=J7.mp hw m i ad hi ad;rw[v,u]at this;lia
  have z:J.length<64:=by have:=S.2.2.1;rw[Ku]at this;lia
  refine⟨_,by rfl,?_⟩
  rw[s];rcases List.eq_nil_or_concat J with l|⟨U,q,l⟩
  .subst l;refine⟨_,.inl (by rfl),[p],a_ (.int p.1),a_ (.int p.2),by rfl,by simpa using S.new a aj⟩
  .rw[List.concat_eq_append]at l;subst l;by_cases A:p.1<=q.2
   .refine⟨_,.inl (by simp[bX,dj,stD,A,gS,rO,Ac];rfl),U++[(q.1,eY p.2 q.2)],a_ (.int p.1),a_ (.int p.2),?_,S.more a (Y q aj) A⟩
    simp[stD]
   .have w:∀x∈U++[q],x.2<p.1:=λx C=>by
     rcases Gn.mp C with e|e
     .have h1:=(Ie.mp S.1.1).2.2 x e q aj;grind
     simp_all
    simp at z;have h:U.length+1<16777216:=ad
    refine⟨_,.inl (by simp[bX,dj,stD,A,h];rfl),U++[q]++[p],a_ (.int p.1),a_ (.int p.2),by simp[stD],S.new a w⟩)
 obtain⟨ρ',e2,J,r,o,rfl,S⟩:=key;refine⟨J,?_,S.1,λt=>?_,?_⟩
 .simp[cN,hG,e,e2]
 .rw[S.2.1 t,IX,w_,Kt];refine⟨λc=>?_,λ⟨p,m,q⟩=>⟨p,c.mem_iff.mpr m,q⟩⟩
  obtain⟨p,m,q⟩:=c;exact⟨p,c.mem_iff.mp m,q⟩
 .have:=S.2.2.1;simp_all
theorem DR(n:Nat)(cs:List cI)(t:Int)(d:cs.length<64)(a:∀p∈cs,p.1<p.2):∃u,dJ [.lst (cs.map stD),.int t]=.ok (.int u)/\gd cs t u:=by
 obtain⟨Y,e,f,J,_⟩:=Eg n cs d a;rcases wm (g:=iY) (c:=a_ (.lst (cs.map stD))) (t:=t) (λp=>.int p.2) (λp=>by by_cases h1:p.1<=t<;>by_cases S:t<p.2<;>simp[iY,lH,h1]) Y g_ g_ with⟨p,U,h,e2⟩|⟨h,j,i,e2⟩
 .refine⟨p.2,by simp[dJ,kB,e,e2],ad,λz=>?_,λv h1 S=>(J v).mp ⟨p,U,ad,S⟩⟩
  obtain⟨q,b,k⟩:=(J _).mpr z;rcases f.tri p U q b with e|e|e
  .simp_all
  .lia
  .lia
 .exact⟨t,by simp[dJ,kB,e,e2],Hw _,λz=>h ((J t).mpr z),λv h1 S=>by lia⟩
end
def A4(f:Fli)(t:Int):Int:=f.price*eY 0 (t-f.due)
def ke(fl:List Fli):List cI->aG->aG
 |p::J,t::ts=>A4 (dh fl p.1) t::ke fl J ts|_,_=>[]
section
variable(CR CP CL:k_)
theorem E9(n:Nat)(f:Fli)(t:Int)(U:0<=f.price)(h1:f.price<=1000000000):eZ [flD f,.int t]=.ok (.int (A4 f t)):=by
 have S: -18446744073709551616<f.price:=ad
 have J:f.price<18446744073709551616:=ad
 simp[eZ,oZ,flD,S,J,A4]
theorem wX(n:Nat)(k:Nat)(fl:List Fli)(S:∀f∈fl,i4 k f):∀(J:List cI) (ts:aG),(∀p∈J,0<=p.1/\p.1<fl.length)->aQ (.tp [0,1]) iG (fL (eZ) (a9 (f2 ixD (af 2) (f2 ixD (af 0) (fC (.int 0)))) (a9 (af 1) av))) [g_,g_,a_ (.lst (fl.map flD))] (k7 (J.map stD) (ts.map .int))=.ok ((ke fl J ts).map .int)
 |[],ts,_=>by rfl|p::J,[],_=>by rfl|p::J,t::ts,h=>by obtain⟨Y,U⟩:=h p aj;obtain⟨e,b⟩:=BX Y U;have g:=S _ b;rw[u_,u_,k7,aQ];simp[stD,e,(E9 n (dh fl p.1) t g.p0 g.p1),(wX n k fl S J ts λq a=>h q (by simp[a])),ke]
theorem CA:∀(ds es:List A'),(k7 ds es).length<=ds.length
 |[],_=>by simp[k7.eq_def]|_::_,[]=>by simp[k7.eq_def]|d::ds,e::es=>by rw[k7,FK,FK];have:=CA ds es;lia
end
theorem okEs_in(n:Nat):∀ts:aG,iu (ts.map .int) (n+1)=f_
 |[]=>by rfl|p::cs=>by simp[iu,C']
structure Gp where
 k:Nat
 rows:List aG
 two:Bool
 r2:List aG
variable{g:Gp}
structure Gp.Good(g:Gp):Prop where
 k1:1<=g.k
 k3:g.k<=3
 rows:bH g.k g.rows
 r2:bH g.k g.r2
def Gp.o(g:Gp):A':=if g.two=f_ then aK g.r2 else .non
noncomputable def Gp.s(g:Gp):Nat:=if g.two=f_ then 2 else 1
noncomputable def tupI(r:aG):A':=.tup (r.map .int)
def kh(L:List aG):A':=.tup (L.map tupI)
def bF(c:Int)(L:List aG):A':=.tup [.int c,kh L]
def mH(s k:Nat)(L:List aG):Prop:=L.length=s/\∀r∈L,r.length=k
noncomputable def qW(J:Nat->Int):Nat->aG->aG
 |_,[]=>[]|j,x::xs=>if x= -1 then qW J (j+1) xs else(x+J j)::qW J (j+1) xs
def uH(J:Nat->Nat->Int):Nat->List aG->aG
 |_,[]=>[]|i,r::L=>qW (J i) 0 r++uH J (i+1) L
theorem sR(J:Nat->Int):∀(j:Nat) (xs:aG),(qW J j xs).length<=xs.length
 |_,[]=>by simp[qW]|j,x::xs=>by have:=sR J (j+1) xs;grind[qW]
theorem AM(J:Nat->Nat->Int)(k:Nat):∀(i:Nat) (L:List aG),(∀r∈L,r.length=k)->(uH J i L).length<=k*L.length
 |i,[],_=>by simp[uH]|i,y::L,h=>by have h1:=AM J k (i+1) L λr S=>h r (by simp[S]);have U:=sR (J i) 0 y;grind[uH,Gs,FK,Qx]
section
variable(CR CP CL:k_)
def gmeth(n:Nat)(f:CR≠CP)(Y:g.Good){s b t:Int}(d:0<=a)(c:a<g.k)(q:0<=b)(b1:b<g.k)(e:g.two=c_->s=t)(fo f1 p:ah->M A')(ρ:ah)(v:fo ρ=.ok (ak CR CP g.rows g.o))(h1:f1 ρ=.ok (.tup [.int a,.int s]))(k:p ρ=.ok (.tup [.int b,.int t])):
  cf CR CP "apart" (bh CR CP CL n) (b8 CR CP CL n) fo (a9 f1 (a9 p av)) ρ=.ok (.int (apS g.rows g.r2 (a,s) (b,t))):=by
 obtain⟨m,_⟩:=tU Y.rows d c;obtain⟨l,_⟩:=getA Y.rows d c q b1;unfold cf;rw[v,au];cases h:g.two with
 |false=>
  have S:g.o=.non:=by simp[Gp.o,h]
  have U:=e h;have j:isC CR "apart" (ak CR CP g.rows g.o)=f_:=by rw[S];show((CR==CR)&&(Gj ("apart":FU) [("gaps",aK g.rows)]).isNone)=f_;rw[lookA1];simp
  have J:=m8 CR CP g.rows g.o (.inl S);rw[p_ j];simp[h1,k,bh,iW,J,aK,m,iq,l,apS,U]
 |true=>
  have S:g.o=aK g.r2:=by simp[Gp.o,h]
  have j:isC CR "apart" (ak CR CP g.rows g.o)=c_:=by
   rw[S];show((CP==CR)&&(Gj ("apart":FU) [("gaps",aK g.rows),("beside",aK g.r2)]).isNone)=c_;have:(CP==CR)=c_:=by simp;exact λz=>f z.symm
   rw[this];rfl
  have i:isC CP "apart" (ak CR CP g.rows g.o)=f_:=by rw[S];show((CP==CP)&&(Gj ("apart":FU) [("gaps",aK g.rows),("beside",aK g.r2)]).isNone)=f_;rw[lookA2];simp
  have J:=m8 CR CP g.rows g.o (.inr ⟨_,S⟩);have o:pO [CP] "beside" (ak CR CP g.rows g.o)=.ok (aK g.r2):=by rw[S];exact xm CR CP g.rows g.r2
  obtain⟨u,_⟩:=tU Y.r2 d c;obtain⟨r,_⟩:=getA Y.r2 d c q b1;rw[q_ (by rw[j];simp),p_ i];by_cases U:s=t
  .simp[h1,k,b8,fJ,J,o,aK,m,iq,l,apS,U]
  .simp[h1,k,b8,fJ,J,o,aK,u,iq,r,apS,U]
theorem E4(n:Nat)(Y:CR≠CP){g:Gp}(l:g.Good)(b t:Int)(m:0<=b)(b1:b<g.k)(J c:Option A')(i:Nat)(U:g.two=c_->(i:Int)=t):∀(S:aG) (j:Nat) (ts:aG) (h f:Option A'),j+S.length<=g.k->ts.length+S.length<=1000 ->
  ∃e d,bG (.tp [6,7]) (bN CR CP CL n) (eC j (S.map .int)) [a_ (ak CR CP g.rows g.o),J,a_ (.tup [.int b,.int t]),a_ (.lst (ts.map .int)),a_ (.int i),c,h,f]=.ok (.nx [a_ (ak CR CP g.rows g.o),J,a_ (.tup [.int b,.int t]),a_ (.lst ((ts++qW (λj=>apS g.rows g.r2 (j,i) (b,t)) j S).map .int)),a_ (.int i),c,e,d])
 |[],j,ts,h,f,_,_=>⟨h,f,by simp[eC,bG,qW]⟩|x::S,j,ts,h,f,r,q=>by
  simp at r q;by_cases k:x= -1
  .obtain⟨e,d,o⟩:=E4 n Y l b t m b1 J c i U S (j+1) ts (a_ (.int j)) (a_ (.int x)) ad ad;refine⟨e,d,?_⟩
   rw[u_,eC,bG];simp only[qW,p_ k];rw[<- o];simp[bN,eE,k]
  .obtain⟨e,d,o⟩:=E4 n Y l b t m b1 J c i U S (j+1) (ts++[x+apS g.rows g.r2 (j,i) (b,t)]) (a_ (.int j)) (a_ (.int x)) ad (by simp;lia);refine⟨e,d,?_⟩
   have s:=gmeth CR CP CL n Y l (a:=j) ad ad m b1 U (af 0) (fL cb (a9 (af 6) (a9 (af 4) av))) (af 2) (erase [3] [a_ (ak CR CP g.rows g.o),J,a_ (.tup [.int b,.int t]),a_ (.lst (ts.map .int)),a_ (.int i),c,a_ (.int j),a_ (.int x)]) (by rfl) (by rfl) (by rfl);have p:ts.length<16777216:=ad
   rw[u_,eC,bG];simp only[qW,q_ k];simp_all[Hf,KR,erase,i7,f2,bN,eE,au]
end
section
variable(CR CP CL:k_)
theorem lg_all(n:Nat)(c:CR≠CP){g:Gp}(p:g.Good)(b t:Int)(q:0<=b)(b1:b<g.k)(C:0<=t/\t<g.s)(J:Option A'):∀(L:List aG) (i:Nat) (ts:aG) (a Y U S:Option A'),i+L.length<=g.s->(∀r∈L,r.length=g.k)->ts.length+g.k*L.length<=1000 ->
  ∃u s e d,bG (.tp [4,5]) (cO CR CP CL n) (eC i (L.map tupI)) [a_ (ak CR CP g.rows g.o),J,a_ (.tup [.int b,.int t]),a_ (.lst (ts.map .int)),a,Y,U,S]=.ok (.nx [a_ (ak CR CP g.rows g.o),J,a_ (.tup [.int b,.int t]),a_ (.lst ((ts++uH (λi j=>apS g.rows g.r2 (j,i) (b,t)) i L).map .int)),u,s,e,d])
 |[],i,ts,a,Y,U,S,_,_,_=>⟨a,Y,U,S,by simp[eC,bG,uH]⟩|r::L,i,ts,a,Y,U,S,hi,l,o=>by
  have D:=l r aj;simp at hi o;rw[Qx]at o;have f:g.two=c_->i=t:=λh=>by
   have F:g.s=1:=by simp[Gp.s,h]
   lia
  obtain⟨e,d,e1⟩:=E4 CR CP CL n c p b t q b1 J _ i f r 0 ts U S ad ad;have m:=sR (λj=>apS g.rows g.r2 (j,i) (b,t)) 0 r;obtain⟨z,y,w,v,A⟩:=lg_all n c p b t q b1 C J L (i+1) (ts++qW (λj=>apS g.rows g.r2 (j,i) (b,t)) 0 r) _ _ e d ad (λx B=>l x (by simp[B])) am;refine⟨z,y,w,v,?_⟩
  rw[uH,<- Hf,<- A,u_,eC,bG];have E:d7 (.tp [4,5]) (.tup [.int i,tupI r]) [a_ (ak CR CP g.rows g.o),J,a_ (.tup [.int b,.int t]),a_ (.lst (ts.map .int)),a,Y,U,S]=.ok [a_ (ak CR CP g.rows g.o),J,a_ (.tup [.int b,.int t]),a_ (.lst (ts.map .int)),a_ (.int i),a_ (tupI r),U,S]:=by simp
  have k:cO CR CP CL n [a_ (ak CR CP g.rows g.o),J,a_ (.tup [.int b,.int t]),a_ (.lst (ts.map .int)),a_ (.int i),a_ (tupI r),U,S]=.ok (.nx [a_ (ak CR CP g.rows g.o),J,a_ (.tup [.int b,.int t]),a_ (.lst ((ts++qW (λj=>apS g.rows g.r2 (j,i) (b,t)) 0 r).map .int)),a_ (.int i),a_ (tupI r),e,d]):=by rw[<- e1];simp[cO,tupI]
  rw[E,au,k];rfl
theorem lg_ok(n:Nat)(J:CR≠CP)(S:g.Good)(b t:Int)(a:0<=b)(b1:b<g.k)(Y:0<=t/\t<g.s)(U:mH g.s g.k L):dH CR CP CL n [ak CR CP g.rows g.o,kh L,.tup [.int b,.int t]]=.ok (.lst ((uH (λi j=>apS g.rows g.r2 (j,i) (b,t)) 0 L).map .int)):=by
 have k:g.s<=2:=by unfold Gp.s;split<;>lia
 have l:=U.1;have m:g.k*L.length<=3*2:=Le S.k3 ad;obtain⟨h,f,d,c,e⟩:=lg_all CR CP CL n J S b t a b1 Y (a_ (kh L)) L 0 [] g_ g_ g_ g_ ad U.2 (by simp;lia);rw[JW]at e;simp[kh]at e ⊢;simp[dH,ja,e]
end
noncomputable def m6(L:List aG)(i:Nat):aG:=L.getD i []
theorem gY{s:Nat}(h:mH s k L)(hi:i<s):m6 L i∈L/\(m6 L i).length=k/\jW (L.map tupI) (i:Int)=.ok (tupI (m6 L i))/\L.take (i+1)=L.take i++[m6 L i]:=by
 have J:i<L.length:=by rw[h.1];exact hi
 have e:m6 L i=L[i]:=by simp[m6,J]
 have m:m6 L i∈L:=by rw[e];exact Gm J
 refine⟨m,h.2 _ m,?_,?_⟩
 .simp_all[gZ]
 simp_all
theorem lu:∀(xs:aG) (x:Int),xs.foldl eY x=x\/xs.foldl eY x∈xs
 |[],x=>.inl rfl|y::xs,x=>by
  rw[Gw];have J:eY x y=x\/eY x y=y:=by unfold eY;split<;>lia
  rcases lu xs _ with h|h
  .rcases J with z|z
   .exact .inl (h.trans z)
   .exact .inr (by rw[h,z];simp)
  simp_all
noncomputable def cnt(cs:List cI)(t:Int):Nat:=cs.countP λp=>s_ (t<p.2)
theorem AB{t:Int}(h:t<=u):cnt cs u<=cnt cs t:=by exact List.countP_mono_left λp _ J=>by lia
theorem F8:∀{cs:List cI} {p:cI} {t:Int},p∈cs->t<p.2->cnt cs p.2<cnt cs t
 |[],p,t,S,_=>by simp_all|a::cs,p,t,S,J=>by
  have b:=AB (cs:=cs) (t:=t) (u:=p.2) ad;unfold cnt at *;rcases n_.mp S with e|e
  .subst e;simp[J];lia
  .have U:=F8 e J;unfold cnt at U;by_cases h1:p.2<a.2
   .have:t<a.2:=ad
    simp[h1,this];lia
   .by_cases Y:t<a.2<;>simp[h1,Y]<;>lia
theorem Ca(L:List aG)(U:∀r∈L,r.length<=1000):aQ (.nm 0) iG (fL lb (a9 (af 0) av)) [g_] (L.map tupI)=.ok (L.map iq):=by
 have h:=dC (p:=.nm 0) (fe:=fL lb (a9 (af 0) av)) (ρ0:=[g_]) (λd=>match d with|.tup ds=>.lst ds|d=>d) (L.map tupI) (λd hd=>by
  obtain⟨r,J,rfl⟩:=FG.mp hd;have S:r.length<=16777216:=by have:=U r J;lia
  exact⟨[a_ (tupI r)],aj,by simp[tupI,S]⟩)
 rw[h,FJ];rfl
theorem EX(L:List aG)(U:∀r∈L,r.length<=1000):aQ (.nm 0) iG (fL mJ (a9 (af 0) av)) [g_] (L.map iq)=.ok (L.map tupI):=by
 have h:=dC (p:=.nm 0) (fe:=fL mJ (a9 (af 0) av)) (ρ0:=[g_]) (λd=>match d with|.lst ds=>.tup ds|d=>d) (L.map iq) (λd hd=>by
  obtain⟨r,J,rfl⟩:=FG.mp hd;have S:r.length<=16777216:=by have:=U r J;lia
  exact⟨[a_ (iq r)],aj,by simp[iq,S]⟩)
 rw[h,FJ];rfl
def putL(L:List aG)(i j:Nat)(x:Int):List aG:=L.set i ((m6 L i).set j x)
def oy{s:Nat}(h:mH s k L)(hi:i<s)(x:Int):mH s k (putL L i j x):=by
 refine⟨by unfold putL;rw[Gk];exact h.1,λr J=>?_⟩
 rcases J8 J with z|z
 .exact h.2 r z
 .rw[z,Gk];exact(gY h hi).2.1
theorem Eh(h:i<n):ixN n (i:Int)=a_ i:=by simp_all[ixN,p_]
theorem nO{s:Nat}(J:mH s k L)(hi:i<s)(Y:j<k)(x:Int):rowAt (L.map iq) (i:Int)=.ok (i,(m6 L i).map .int)/\qU (L.map iq) (i,(m6 L i).map .int) (j:Int) (.int x)=.ok ((putL L i j x).map iq):=by
 have S:i<L.length:=by rw[J.1];exact hi
 have e:m6 L i=L[i]:=by simp[m6,S]
 have U:=(gY J hi).2.1;simp_all[rowAt,w_,Eh,iq,qU,putL]
def Be(g:Gp)(L:List aG)(f:Fli)(s:Nat):Int:=(uH (λi j=>apS g.rows g.r2 (j,i) (f.kind,s)) 0 L).foldl eY f.first
def after(g:Gp)(c:Int)(L:List aG)(f:Fli)(s:Nat)(u:Int):A':=if f.last<u then .non else bF (c+A4 f u) (putL L s f.kind.toNat u)
def mH.short{s:Nat}(h:mH s k L)(S:k<=1000):∀r∈L,r.length<=1000:=λr J=>by rw[h.2 r J];exact S
section
variable(CR CP CL:k_)
theorem lasts_ok(n:Nat){s:Nat}(J:mH s k L)(b:s<=10)(c:k<=10)(hi:i<s)(a:j<k)(x:Int):gX [kh L,.tup [.int j,.int i],.int x]=.ok (kh (putL L i j x)):=by
 have S:=oy (j:=j) J hi x;obtain⟨e1,e2⟩:=nO J hi a x;have Y:L.length<=16777216:=by have:=J.1;lia
 have U:(putL L i j x).length<=16777216:=by have:=S.1;lia
 simp[kh];simp[gX,mZ,xQ,Dc,nt,vw,lstOf,(Ca L (J.short ad)),Y,e1,e2,(EX (putL L i j x) (S.short ad)),U]
theorem Ft(n:Nat)(d:CR≠CP)(r:g.Good)(G:cs.length<=20)(k:∀p∈cs,p.1<p.2)(h:∀f∈fl,i4 g.k f)(c:Int)(a:mH g.s g.k L){s:Nat}(H:q<fl.length)(D:s<g.s)(B:gd cs (Be g L (dh fl q) s) u):
  bQ CR CP CL n [ak CR CP g.rows g.o,.lst (fl.map flD),.lst (cs.map stD),bF c L,.int q,.int s]=.ok (after g c L (dh fl q) s u):=by
 obtain⟨o,E⟩:=BX (fl:=fl) (i:=q) ad ad;have S:=h _ E;have k3:=r.k3;have C:g.s<=2:=by unfold Gp.s;split<;>lia
 have m:=lg_ok CR CP CL n d r (dh fl q).kind s S.k0 S.k1 ⟨ad,ad⟩ a;have l:=AM (λi j=>apS g.rows g.r2 (j,i) ((dh fl q).kind,s)) g.k 0 L a.2;have F:g.k*L.length<=3*2:=Le k3 (by have:=a.1;lia);obtain⟨v,ev,hv⟩:=DR n cs (Be g L (dh fl q) s) ad k;have b:=hv.uniq B;subst b;have y:=E9 n (dh fl q) v S.p0 S.p1;obtain⟨Y,U⟩:∃Y:Nat,(dh fl q).kind=Y:=⟨(dh fl q).kind.toNat,by have:=S.k0;lia⟩
 have x:=lasts_ok n a ad ad D (j:=Y) (by have:=S.k1;lia) v;rw[<- U]at x;have e:(dh fl q).kind.toNat=Y:=ad
 unfold Be at ev;generalize t:uH (λi j=>apS g.rows g.r2 (j,i) ((dh fl q).kind,s)) 0 L=A at m l ev;have z:maxD [.lst (.int (dh fl q).first::A.map .int)]=.ok (.int (A.foldl eY (dh fl q).first)):=by show(bj (((dh fl q).first::A).map .int)).bind maxL=_;rw[cC,au,maxL]
 have w:1+A.length<=16777216:=ad
 unfold after;simp only[flD]at o y;by_cases J:(dh fl q).last<v
 .simp[bQ,i8,fV,o,bF,m,eU,w,z,ev,J,-An]
 .rw[q_ J,e];simp[bQ,i8,fV,o,bF,m,eU,w,z,ev,J,y,x,-An]
end
def labP(p:Int×List aG):A':=bF p.1 p.2
noncomputable def leR:aG->aG->Bool
 |x::xs,y::ys=>s_ (x<=y)&&leR xs ys|_,_=>f_
def leL:List aG->List aG->Bool
 |r::L,t::M=>leR r t&&leL L M|_,_=>f_
def geR(r:aG):Prop:=∀x∈r,-1<=x
def geL(L:List aG):Prop:=∀r∈L,geR r
def nw(p q:Int×List aG):Bool:=s_ (p.1<=q.1)&&leL p.2 q.2
structure Lab(g:Gp)(p:Int×List aG):Prop where
 good:mH g.s g.k p.2
 ge:geL p.2
theorem A2:∀r:aG,leR r r=f_
 |[]=>rfl|x::r=>by simp[leR,A2 r]
theorem A3:∀L:List aG,leL L L=f_
 |[]=>rfl|r::L=>by simp[leL,A2 r,A3 L]
def DO(p:Int×List aG):nw p p=f_:=by simp[nw,A3]
theorem vT:∀{a b c:aG},a.length=b.length->b.length=c.length->leR a b=f_->leR b c=f_->leR a c=f_
 |[],_,_,_,_,_,_=>by rfl|x::a,[],_,h,_,_,_=>by simp at h|x::a,y::b,[],_,h,_,_=>by rfl|x::a,y::b,z::c,h1,U,S,J=>by simp[leR]at S J ⊢;exact⟨ad,vT (by simpa using h1) (by simpa using U) S.2 J.2⟩
theorem vU{k:Nat}:∀{a b c:List aG},a.length=b.length->b.length=c.length->(∀r∈a,r.length=k)->(∀r∈b,r.length=k)->(∀r∈c,r.length=k)->leL a b=f_->leL b c=f_->leL a c=f_
 |[],_,_,_,_,_,_,_,_,_=>by rfl|x::a,[],_,h,_,_,_,_,_,_=>by simp at h|x::a,y::b,[],_,h,_,_,_,_,_=>by rfl|x::a,y::b,z::c,h1,Y,k1,k2,k3,U,S=>by simp[leL]at U S ⊢;have e1:=k1 x aj;have e2:=k2 y aj;have e3:=k3 z aj;exact⟨vT ad ad U.1 S.1,vU (by simpa using h1) (by simpa using Y) (λr J=>k1 r (by simp[J])) (λr J=>k2 r (by simp[J])) (λr J=>k3 r (by simp[J])) U.2 S.2⟩
theorem vR{b c d:Int}(h1:a<=b)(J:c<=d):eY a c<=eY b d:=by grind[eY]
theorem zI(c:Nat->Int):∀(a b:aG) (j:Nat) (x y:Int),a.length=b.length->geR a->leR a b=f_->x<=y->(qW c j a).foldl eY x<=(qW c j b).foldl eY y
 |[],[],j,x,y,_,_,_,h=>by simp_all[qW]|[],_::_,_,_,_,h,_,_,_=>by simp at h|_::_,[],_,_,_,h,_,_,_=>by simp at h|u::a,v::b,j,x,y,g,d,J,h=>by
  simp[leR]at J;have i:=d u aj;have Y:=zI c a b (j+1);have S:=by simpa using g
  have U:geR a:=λz f=>d z (by simp[f]);unfold qW;by_cases h1:u= -1
  .rw[p_ h1];by_cases e:v= -1
   .rw[p_ e];exact Y x y S U J.2 h
   .rw[q_ e];refine Y x _ S U J.2 (QA h ?_);unfold eY;split<;>lia
  .rw[q_ h1,q_ ad,];exact Y _ _ S U J.2 (vR h ad)
theorem AL(U:Nat->Nat->Int){k:Nat}:∀(a b:List aG) (i:Nat) (x y:Int),a.length=b.length->(∀r∈a,r.length=k)->(∀r∈b,r.length=k)->geL a->leL a b=f_->x<=y->(uH U i a).foldl eY x<=(uH U i b).foldl eY y
 |[],[],i,x,y,_,_,_,_,_,h=>by simp_all[uH]|[],_::_,_,_,_,h,_,_,_,_,_=>by simp at h|_::_,[],_,_,_,h,_,_,_,_,_=>by simp at h|u::a,v::b,i,x,y,c,k1,k2,Y,J,h=>by simp[leL]at J;rw[uH,uH,Kd,Kd];exact AL U a b _ _ _ (by simpa using c) (λr S=>k1 r (by simp[S])) (λr S=>k2 r (by simp[S])) (λr S=>Y r (by simp[S])) J.2 (zI (U i) u v 0 x y (by rw[k1 u aj,k2 v aj]) (Y u aj) J.1 h)
theorem gd.mono{b v:Int}(h:a<=b)(J:gd cs a u)(hv:gd cs b v):u<=v:=by refine Classical.byContradiction λz=>hv.2.1 (J.2.2 v ?_ ad);have:=hv.1;lia
theorem E5:∀(a b:aG) (j:Nat) (x y:Int),a.length=b.length->leR a b=f_->x<=y->leR (a.set j x) (b.set j y)=f_
 |[],[],_,_,_,_,_,_=>rfl|[],_::_,_,_,_,h,_,_=>by rfl|_::_,[],_,_,_,h,_,_=>by simp at h|u::a,v::b,0,x,y,_,h,J=>by simp[leR]at h ⊢;exact⟨J,h.2⟩|u::a,v::b,j+1,x,y,S,h,J=>by simp[leR]at h ⊢;exact⟨h.1,E5 a b j x y (by simpa using S) h.2 J⟩
theorem E6:∀(a b:List aG) (i:Nat) (r t:aG),a.length=b.length->leL a b=f_->leR r t=f_->leL (a.set i r) (b.set i t)=f_
 |[],[],_,_,_,_,_,_=>rfl|[],_::_,_,_,_,h,_,_=>by rfl|_::_,[],_,_,_,h,_,_=>by simp at h|u::a,v::b,0,x,y,_,h,J=>by simp_all[leL]|u::a,v::b,j+1,x,y,S,h,J=>by simp[leL]at h ⊢;exact⟨h.1,E6 a b j x y (by simpa using S) h.2 J⟩
theorem E7:∀(a b:List aG) (i:Nat),a.length=b.length->leL a b=f_->leR (m6 a i) (m6 b i)=f_
 |[],[],_,_,_=>by rfl|[],_::_,_,h,_=>by rfl|_::_,[],_,h,_=>by simp at h|u::a,v::b,0,_,h=>by simp[leL]at h;simpa[m6] using h.1|u::a,v::b,i+1,J,h=>by simp[leL]at h;have:=E7 a b i (by simpa using J) h.2;simpa[m6] using this
theorem Ea(f:Fli){t:Int}(h:t<=u)(J:0<=f.price):A4 f t<=A4 f u:=by exact JK (vR (Hw _) ad) J
theorem Cp{p q:Int×List aG}(U:Lab g p)(Y:Lab g q)(h:nw p q=f_)(f:Fli)(c:i4 g.k f){s:Nat}(a:s<g.s){v:Int}(b:gd cs (Be g p.2 f s) u)(hv:gd cs (Be g q.2 f s) v)(d:¬f.last<v):
  ¬f.last<u/\nw (p.1+A4 f u,putL p.2 s f.kind.toNat u) (q.1+A4 f v,putL q.2 s f.kind.toNat v)=f_:=by
 simp[nw]at h;have J:p.2.length=q.2.length:=by rw[U.good.1,Y.good.1]
 have S:=b.mono (AL _ p.2 q.2 0 f.first f.first J U.good.2 Y.good.2 U.ge h.2 (Hw _)) hv;have e:=Ea f S c.p0;refine⟨ad,?_⟩
 simp[nw,FH,Jj];refine⟨ad,?_⟩
 refine E6 _ _ _ _ _ J h.2 (E5 _ _ _ _ _ ?_ (E7 _ _ _ J h.2) S);rw[(gY U.good a).2.1,(gY Y.good a).2.1]
section
variable(CR CP CL:k_)
theorem nw_row(n:Nat)(d c b a:Option A'):∀(r t:aG) (S J:Option A'),∃Y U,bG (.tp [4,5]) (eO) (k7 (r.map .int) (t.map .int)) [d,c,b,a,S,J]=if leR r t=f_ then .ok (.nx [d,c,b,a,Y,U])else .ok (.rt (.bl c_))
 |[],t,S,J=>⟨S,J,by rfl⟩|x::r,[],S,J=>⟨S,J,by rfl⟩|x::r,y::t,S,J=>by
  obtain⟨Y,U,e⟩:=nw_row n d c b a r t (a_ (.int x)) (a_ (.int y));refine⟨Y,U,?_⟩
  rw[u_,u_,k7,bG];by_cases h:x<=y
  .have h':¬y<x:=ad
   simp[leR,h,decide_true,PQ];rw[<- e];simp[eO,gK,h']
  .have h':y<x:=ad
   simp[leR,h,eO,gK,h']
theorem DN(n:Nat)(Y U:Option A'):∀(L M:List aG) (b a S J:Option A'),∃f e d c,bG (.tp [2,3]) (eN) (k7 (L.map tupI) (M.map tupI)) [Y,U,b,a,S,J]=if leL L M=f_ then .ok (.nx [Y,U,f,e,d,c])else .ok (.rt (.bl c_))
 |[],t,b,a,S,J=>⟨b,a,S,J,by rfl⟩|x::r,[],b,a,S,J=>⟨b,a,S,J,by rfl⟩|r::L,t::M,b,a,S,J=>by
  obtain⟨i,g,m⟩:=nw_row n Y U _ _ r t S J;obtain⟨f,e,d,c,j⟩:=DN n Y U L M _ _ i g;refine⟨f,e,d,c,?_⟩
  rw[u_,u_,k7,bG];have l:d7 (.tp [2,3]) (.tup [tupI r,tupI t]) [Y,U,b,a,S,J]=.ok [Y,U,a_ (tupI r),a_ (tupI t),S,J]:=by simp
  have k:eN [Y,U,a_ (tupI r),a_ (tupI t),S,J]=if leR r t=f_ then .ok (.nx [Y,U,a_ (tupI r),a_ (tupI t),i,g])else .ok (.rt (.bl c_)):=by rw[<- m];simp[eN,tupI]
  rw[l,au,k];by_cases h:leR r t=f_
  .simp[leL,h,];exact j
  simp_all[leL]
theorem nw_ok(n:Nat)(p q:Int×List aG):cq [labP p,labP q]=.ok (.bl (nw p q)):=by
 obtain⟨a,Y,U,S,e⟩:=DN n (a_ (labP p)) (a_ (labP q)) p.2 q.2 g_ g_ g_ g_;simp[labP,bF,kh]at e ⊢;by_cases h:p.1<=q.1
 .have h':¬q.1<p.1:=ad
  by_cases J:leL p.2 q.2=f_
  .simp[cq,gn,eG,h',e,nw,h,J]
  .simp[cq,gn,eG,h',e,nw,J]
 .have h':q.1<p.1:=ad
  simp[cq,gn,eG,h',nw,h]
end
def lookM1(d:A'):Gj ("many_strips":FU) [(("gaps":FU),d)]=g_:=by rfl
def lookM2(d e:A'):Gj ("many_strips":FU) [(("gaps":FU),d),(("beside":FU),e)]=g_:=by rfl
section
variable(CR CP CL:k_)
def tR(n:Nat)(S:CR≠CP)(fo:ah->M A')(ρ:ah)(a:fo ρ=.ok (ak CR CP g.rows g.o)):cf CR CP "many_strips" (aI) (aN) fo av ρ=.ok (.int g.s):=by
 unfold cf;rw[a,au];cases h:g.two with
 |false=>
  have J:g.o=.non:=by simp[Gp.o,h]
  have Y:isC CR "many_strips" (ak CR CP g.rows g.o)=f_:=by rw[J];show((CR==CR)&&(Gj ("many_strips":FU) [("gaps",aK g.rows)]).isNone)=f_;rw[lookM1];simp
  rw[p_ Y];simp[aI,dM,Gp.s,h]
 |true=>
  have J:g.o=aK g.r2:=by simp[Gp.o,h]
  have Y:isC CR "many_strips" (ak CR CP g.rows g.o)=c_:=by
   rw[J];show((CP==CR)&&(Gj ("many_strips":FU) [("gaps",aK g.rows),("beside",aK g.r2)]).isNone)=c_;have:(CP==CR)=c_:=by simp;exact λz=>S z.symm
   rw[this];rfl
  have U:isC CP "many_strips" (ak CR CP g.rows g.o)=f_:=by rw[J];show((CP==CP)&&(Gj ("many_strips":FU) [("gaps",aK g.rows),("beside",aK g.r2)]).isNone)=f_;rw[lookM2];simp
  rw[q_ (by rw[Y];simp),p_ U];simp[aN,eA,Gp.s,h]
end
def lookK1(d:A'):Gj ("many_kinds":FU) [(("gaps":FU),d)]=g_:=by rfl
def lookK2(d e:A'):Gj ("many_kinds":FU) [(("gaps":FU),d),(("beside":FU),e)]=g_:=by rfl
section
variable(CR CP CL:k_)
def gkinds(n:Nat)(U:CR≠CP)(b:g.Good)(fo:ah->M A')(ρ:ah)(c:fo ρ=.ok (ak CR CP g.rows g.o)):cf CR CP "many_kinds" (aT CR CP CL n) (aT CR CP CL n) fo av ρ=.ok (.int g.k):=by
 have S:=b.rows.1;unfold cf;rw[c,au];cases h:g.two with
 |false=>
  have J:g.o=.non:=by simp[Gp.o,h]
  have a:isC CR "many_kinds" (ak CR CP g.rows g.o)=f_:=by rw[J];show((CR==CR)&&(Gj ("many_kinds":FU) [("gaps",aK g.rows)]).isNone)=f_;rw[lookK1];simp
  rw[p_ a];simp[aT,eu,(m8 CR CP g.rows g.o (.inl J)),aK,S]
 |true=>
  have J:g.o=aK g.r2:=by simp[Gp.o,h]
  have a:isC CR "many_kinds" (ak CR CP g.rows g.o)=c_:=by
   rw[J];show((CP==CR)&&(Gj ("many_kinds":FU) [("gaps",aK g.rows),("beside",aK g.r2)]).isNone)=c_;have:(CP==CR)=c_:=by simp;exact λz=>U z.symm
   rw[this];rfl
  have Y:isC CP "many_kinds" (ak CR CP g.rows g.o)=f_:=by rw[J];show((CP==CP)&&(Gj ("many_kinds":FU) [("gaps",aK g.rows),("beside",aK g.r2)]).isNone)=f_;rw[lookK2];simp
  rw[p_ Y];simp[aT,eu,(m8 CR CP g.rows g.o (.inr ⟨_,J⟩)),aK,S]
def L0(g:Gp):List aG:=Gr g.s (Gr g.k (-1))
def FE(g:Gp):mH g.s g.k (L0 g):=⟨by simp[L0],λr J=>by rw[Kh J];simp⟩
theorem Ey(n:Nat)(U:CR≠CP)(a:g.Good):iT CR CP CL n [ak CR CP g.rows g.o]=.ok (bF 0 (L0 g)):=by
 have k3:=a.k3;have k:g.s<=2:=by unfold Gp.s;split<;>lia
 have ek:=gkinds CR CP CL n U a (af 0) [a_ (ak CR CP g.rows g.o),g_] aj;have es:=tR CR CP n U (g:=g) (af 0) [a_ (ak CR CP g.rows g.o),a_ (tupI (Gr g.k (-1)))] aj;have k1: -4611686018427387904<=(g.k:Int):=ad
 have k2:(g.k:Int)<4611686018427387904:=ad
 have j: -4611686018427387904<=(g.s:Int):=ad
 have i:(g.s:Int)<4611686018427387904:=ad
 have b:aQ (.nm 0) iG (f1 negD (fC (.int 1))) [g_] (aE 0 g.k)=.ok ((Gr g.k (-1)).map A'.int):=by have:=dC (p:=.nm 0) (fe:=f1 negD (fC (.int 1))) (ρ0:=[g_]) (λ_=>.int (-1)) (aE 0 g.k) (λd _=>⟨[a_ d],aj,aj⟩);rw[this,Pg,bL,Om]
 have o:∀d:A',aQ (.nm 0) iG (af 1) [g_,a_ d] (aE 0 g.s)=.ok (Gr g.s d):=λd=>by have:=dC (p:=.nm 0) (fe:=af 1) (ρ0:=[g_,a_ d]) (λ_=>d) (aE 0 g.s) (λe _=>⟨[a_ e,a_ d],aj,aj⟩);rw[this,Pg,bL]
 have h:(aE 0 g.k).length<=16777216:=by rw[bL];lia
 have f:(aE 0 g.s).length<=16777216:=by rw[bL];lia
 have q:g.k<=16777216:=ad
 have c:g.s<=16777216:=ad
 have e1:bo 2 1 (iV CR CP CL n) [ak CR CP g.rows g.o]=.ok (bF 0 (L0 g)):=by
  have J:=o (tupI (Gr g.k (-1)));simp only[tupI]at J es;have m:kh (L0 g)=.tup (Gr g.s (.tup ((Gr g.k (-1)).map A'.int))):=by simp[kh,L0,tupI]
  rw[bF,m];generalize l:(Gr g.k (-1)).map A'.int=Y at b J es ⊢;have S:Y.length<=16777216:=by rw[<- l];simp;lia
  simp[iV,ek,k1,k2,h,b,S,es,j,i,f,J,c,-Om]
 exact e1
end
theorem yo(a b:Int):a<=eY a b/\b<=eY a b/\(eY a b=a\/eY a b=b):=by unfold eY;split<;>lia
def nx(cs:List cI)(t:Int):Int:=open Classical in if h:∃u,gd cs t u then h.choose else 0
def nx_eq{t:Int}(h:gd cs t u):nx cs t=u:=by
 have J:∃u,gd cs t u:=⟨u,h⟩
 unfold nx;rw[dif_pos J];exact J.choose_spec.uniq h
structure V where
 g:Gp
 fl:List Fli
 cs:List cI
structure V.Good(v:V):Prop where
 g:v.g.Good
 fl:∀f∈v.fl,i4 v.g.k f
 many:v.fl.length<=40
 cs:v.cs.length<=20
 st:∀p∈v.cs,p.1<p.2
noncomputable def V.f(v:V)(i:Nat):Fli:=dh v.fl i
theorem V.Good.fAt(hv:v.Good)(h:i<v.fl.length):jW (v.fl.map flD) (i:Int)=.ok (flD (v.f i))/\i4 v.g.k (v.f i):=by obtain⟨h1,J⟩:=BX (fl:=v.fl) (i:=i) ad ad;exact⟨h1,hv.fl _ J⟩
def V.bt(v:V)(l:LK)(q s:Nat):Int:=nx v.cs (Be v.g l.2 (v.f q) s)
def V.beh(v:V)(l:LK)(q s:Nat):Option LK:=if (v.f q).last<v.bt l q s then g_ else a_ (l.1+A4 (v.f q) (v.bt l q s),putL l.2 s (v.f q).kind.toNat (v.bt l q s))
noncomputable def labO:Option LK->A'
 |none=>.non|some l=>Lake.bF l
def labD_eq(l:LK):Lake.bF l=bF l.1 l.2:=rfl
section
variable(CR CP CL:k_)
def nextV(n:Nat)(hv:v.Good)(t:Int):dJ [.lst (v.cs.map stD),.int t]=.ok (.int (nx v.cs t))/\gd v.cs t (nx v.cs t):=by obtain⟨u,e,h⟩:=DR n v.cs t (Nat.lt_of_le_of_lt hv.cs al) hv.st;rw[nx_eq h];exact⟨e,h⟩
end
def V.Good.nxt(hv:v.Good)(t:Int):gd v.cs t (nx v.cs t):=(nextV 0 hv t).2
section
variable(CR CP CL:k_)
def behV(n:Nat)(J:CR≠CP)(hv:v.Good)(Y:Lab v.g l){s:Nat}(U:q<v.fl.length)(S:s<v.g.s):
  bQ CR CP CL n [ak CR CP v.g.rows v.g.o,.lst (v.fl.map flD),.lst (v.cs.map stD),Lake.bF l,.int q,.int s]=.ok (labO (v.beh l q s)):=by
 rw[labD_eq,(Ft CR CP CL n J hv.g hv.cs hv.st hv.fl l.1 Y.good U S (hv.nxt (Be v.g l.2 (dh v.fl q) s)))];unfold after V.beh V.bt V.f;by_cases c:(dh v.fl q).last<nx v.cs (Be v.g l.2 (dh v.fl q) s)
 .rw[p_ c,p_ c];rfl
 .rw[q_ c,q_ c];rfl
end
theorem V.Good.bt_ge(hv:v.Good)(l:LK)(s:Nat)(J:q<v.fl.length):0<=v.bt l q s:=by have h1:=(hv.nxt (Be v.g l.2 (v.f q) s)).1;have U:(v.f q).first<=Be v.g l.2 _ s:=(Lake.fold_max _ _).2.1;have S:=(hv.fAt J).2.f0;unfold V.bt;lia
def mem_setI{r:aG}{x y:Int}(h:y∈r.set j x):y∈r\/y=x:=J8 h
theorem V.Good.uE(hv:v.Good){Y:LK}(J:Lab v.g l){s:Nat}(c:q<v.fl.length)(a:s<v.g.s)(h:v.beh l q s=a_ Y):Lab v.g Y:=by
 unfold V.beh at h;split at h
 .cases h
 .cases h;refine⟨oy J.good a _,λr b x S=>?_⟩
  have d:=hv.bt_ge l s c;rcases J8 b with z|z
  .exact J.ge r z x S
  .rw[z]at S;rcases mem_setI S with U|U
   .exact J.ge _ (gY J.good a).1 x U
   .lia
def V.Good.beh_mono(hv:v.Good){p q U:LK}(b:Lab v.g p)(a:Lab v.g q)(h:nw q p=f_){s:Nat}(hi:i<v.fl.length)(Y:s<v.g.s)(e:v.beh p i s=a_ U):∃S,v.beh q i s=a_ S/\nw S U=f_:=by
 unfold V.beh at e;split at e
 .cases e
 .rename_i c;cases e;obtain⟨h1,d⟩:=Cp a b h _ (hv.fAt hi).2 Y (hv.nxt _) (hv.nxt _) c;refine⟨_,?_,d⟩
  have J:¬(v.f i).last<v.bt q i s:=h1;unfold V.beh;rw[q_ J];rfl
def V.l0(v:V):LK:=(0,L0 v.g)
def V.l0_lab(v:V):Lab v.g v.l0:=⟨FE v.g,λr S x J=>by rw[Kh S]at J;rw[Kh J];exact Hw _⟩
def V.along(v:V):LK->List (Nat×Nat)->Option LK
 |l,[]=>a_ l|l,p::ps=>(v.beh l p.1 p.2).bind λJ=>v.along J ps
theorem V.lN(v:V):∀(ps J:List (Nat×Nat)) (l:LK),v.along l (ps++J)=(v.along l ps).bind λS=>v.along S J
 |[],J,l=>rfl|p::ps,J,l=>by
  rw[OW,V.along,V.along];cases v.beh l p.1 p.2 with
  |none=>rfl|some S=>exact v.lN ps J S
def V.Pl(v:V)(ps:List (Nat×Nat)):Prop:=∀p∈ps,p.1<v.fl.length/\p.2<v.g.s
theorem V.Good.xq{v:V}(hv:v.Good):∀(ps:List (Nat×Nat)) {l J:LK},Lab v.g l->v.Pl ps->v.along l ps=a_ J->Lab v.g J
 |[],l,J,U,_,h=>by cases h;exact U|p::ps,l,J,U,S,h=>by
  rw[V.along]at h;cases e:v.beh l p.1 p.2 with
  |none=>simp_all|some m=>rw[e]at h;exact hv.xq ps (hv.uE U (S p aj).1 (S p aj).2 e) (λq Y=>S q (by simp[Y])) h
abbrev Pap:=List (aG×a8)
variable{P:Pap}
noncomputable def look(P:Pap)(b:aG):a8:=((P.find? λp=>s_ (p.1=b)).map (·.2)).getD []
noncomputable def nY(J:a8):A':=.lst (J.map Lake.bF)
noncomputable def kD(P:Pap):List (aG×A'):=P.map λp=>(p.1,nY p.2)
theorem ll(b:aG):∀P:Pap,(BW (kD P) b).getD (.lst [])=nY (look P b)
 |[]=>rfl|p::P=>by
  unfold BW look kD at *;rw[u_,IC,IC];by_cases c:p.1=b
  .simp[c]
  .simp only[c];exact(ll b P)
theorem has_dicP(b:aG)(P:Pap):(BW (kD P) b).isSome=s_ (b∈P.map (·.1)):=by grind[BW,kD,u_,IC,decide_false]
theorem put_dicP(b:aG)(P:Pap)(J:a8)(h:b∉P.map (·.1)):sU (kD P) b (nY J)=kD (P++[(b,J)]):=by unfold sU;rw[has_dicP,q_ ad];simp[kD]
def tJ(P Q:Pap)(b:aG):look (P++Q) b=if b∈P.map (·.1)then look P b else look Q b:=by
 unfold look;rw[List.find?_append]
 induction P with
 |nil=>simp|cons p P J=>
  rw[IC];by_cases c:p.1=b
  .simp[c]
  .have:¬b=p.1:=λz=>c z.symm;simp only[c,u_,n_,this,false_or];exact J
theorem iy(h:b∉P.map (·.1)):look P b=[]:=by
 unfold look;rw[List.find?_eq_none.mpr]
 .rfl
 .intro x J;simp;exact λz=>h (FG.mpr ⟨x,J,z⟩)
def V.add(v:V)(l:LK)(q:Nat)(ks:a8)(s:Nat):a8:=match v.beh l q s with
 |none=>ks|some J=>Lake.putL ks J
def V.FD(v:V)(q:Nat)(ks:a8)(l:LK):a8:=(A1 v.g.s).foldl (v.add l q) ks
def V.uM(v:V)(P:Pap)(ks:a8)(x:aG×Nat):a8:=(look P x.1).foldl (v.FD x.2) ks
noncomputable def smL(b:aG):List (aG×Nat):=(A1 b.length).map λi=>(b.eraseIdx i,(b.getD i 0).toNat)
def V.yY(v:V)(P:Pap)(b:aG):a8:=(smL b).foldl (v.uM P) []
def putL_mem{ks:a8}{k:LK}:x∈Lake.putL ks k↔x∈ks\/x=k:=by
 unfold Lake.putL;split
 .rename_i h;constructor
  .exact .inl
  .rintro(z|z)
   .exact z
   .rw[z];simpa using h
 .simp
theorem V.FC(v:V){l x:LK}{q:Nat}:∀(S:bb) (ks:a8),x∈S.foldl (v.add l q) ks↔x∈ks\/∃s∈S,v.beh l q s=a_ x
 |[],ks=>by simp|s::S,ks=>by
  rw[Gw,v.FC S];unfold V.add;cases e:v.beh l q s with
  |none=>
   constructor
   .rintro(h|⟨s',h1,J⟩)
    .exact .inl h
    .exact .inr ⟨s',by simp[h1],J⟩
   .rintro(h|⟨s',h1,J⟩)
    .exact .inl h
    .rcases n_.mp h1 with z|z
     .rw[z,e]at J;cases J
     .exact .inr ⟨s',z,J⟩
  |some U=>
   simp only[putL_mem];constructor
   .rintro((h|h)|⟨s',h1,J⟩)
    .exact .inl h
    .exact .inr ⟨s,aj,by rw[e,h]⟩
    .exact .inr ⟨s',by simp[h1],J⟩
   .rintro(h|⟨s',h1,J⟩)
    .exact .inl (.inl h)
    .rcases n_.mp h1 with z|z
     .rw[z,e]at J;cases J;exact .inl (.inr rfl)
     .exact .inr ⟨s',z,J⟩
theorem V.AR(v:V){x:LK}{q:Nat}:∀(S ks:a8),x∈S.foldl (v.FD q) ks↔x∈ks\/∃l∈S,∃s,s<v.g.s/\v.beh l q s=a_ x
 |[],ks=>by simp|l::S,ks=>by
  rw[Gw,v.AR S];unfold V.FD;rw[v.FC];constructor
  .rintro((h|⟨s,h1,J⟩)|⟨U,h1,J⟩)
   .exact .inl h
   .exact .inr ⟨l,aj,s,C_.mp h1,J⟩
   .exact .inr ⟨U,by simp[h1],J⟩
  .rintro(h|⟨U,h1,s,J,Y⟩)
   .exact .inl (.inl h)
   .rcases n_.mp h1 with z|z
    .exact .inl (.inr ⟨s,C_.mpr J,by rw[<- z];exact Y⟩)
    .exact .inr ⟨U,z,s,J,Y⟩
theorem V.AO(v:V){P:Pap}{x:LK}:∀(xs:List (aG×Nat)) (ks:a8),x∈xs.foldl (v.uM P) ks↔x∈ks\/∃p∈xs,∃l∈look P p.1,∃s,s<v.g.s/\v.beh l p.2 s=a_ x
 |[],ks=>by simp|p::xs,ks=>by
  rw[Gw,v.AO xs];unfold V.uM;rw[v.AR];constructor
  .rintro((h|h)|⟨S,h1,J⟩)
   .exact .inl h
   .exact .inr ⟨p,aj,h⟩
   .exact .inr ⟨S,by simp[h1],J⟩
  .rintro(h|⟨S,h1,J⟩)
   .exact .inl (.inl h)
   .rcases n_.mp h1 with z|z
    .exact .inl (.inr (by rw[<- z];exact J))
    .exact .inr ⟨S,z,J⟩
def V.uD(v:V):x∈v.yY P b↔∃i,i<b.length/\∃l∈look P (b.eraseIdx i),∃s,s<v.g.s/\v.beh l (b.getD i 0).toNat s=a_ x:=by
 unfold V.yY;rw[v.AO];constructor
 .rintro(h|⟨p,h1,J⟩)
  .cases h
  .obtain⟨i,hi,rfl⟩:=FG.mp h1;exact⟨i,C_.mp hi,J⟩
 .rintro⟨i,hi,h⟩;exact .inr ⟨_,FG.mpr ⟨i,C_.mpr hi,rfl⟩,h⟩
def putL_len(ks:a8)(k:LK):(Lake.putL ks k).length<=ks.length+1:=by unfold Lake.putL;split<;>simp
theorem V.uI(v:V)(l:LK)(q:Nat):∀(J:bb) (ks:a8),(J.foldl (v.add l q) ks).length<=ks.length+J.length
 |[],ks=>by simp|s::J,ks=>by
  rw[Gw];have h1:=v.uI l q J (v.add l q ks s);have S:(v.add l q ks s).length<=ks.length+1:=by
   unfold V.add;split
   .lia
   .exact putL_len _ _
  simp;lia
theorem V.uJ(v:V)(q:Nat):∀(J ks:a8),(J.foldl (v.FD q) ks).length<=ks.length+v.g.s*J.length
 |[],ks=>by simp|l::J,ks=>by
  rw[Gw];have h1:=v.uJ q J (v.FD q ks l);have S:(v.FD q ks l).length<=ks.length+v.g.s:=by have:=v.uI l q (A1 v.g.s) ks;rw[He]at this;exact this
  rw[FK,L4];lia
theorem V.AQ(v:V)(P:Pap)(N:Nat):∀(xs:List (aG×Nat)) (ks:a8),(∀p∈xs,(look P p.1).length<=N)->(xs.foldl (v.uM P) ks).length<=ks.length+v.g.s*N*xs.length
 |[],ks,_=>by simp|p::xs,ks,h=>by
  rw[Gw];have h1:=v.AQ P N xs (v.uM P ks p) λq J=>h q (by simp[J]);have Y:(v.uM P ks p).length<=ks.length+v.g.s*N:=by have U:=v.uJ p.2 (look P p.1) ks;have S:=Ol v.g.s (h p aj);unfold V.uM;lia
  rw[FK,L4];lia
theorem Gp.s2(g:Gp):1<=g.s/\g.s<=2:=by unfold Gp.s;split<;>lia
def iA(J:a8)(l:LK):a8:=if J.any (λx=>nw x l)=f_ then J else J++[l]
def xk(ks:a8):a8:=(dK ltL ks).foldl iA []
theorem tP:∀(S J:a8) (x:LK),x∈J->x∈S.foldl iA J
 |[],J,x,h=>h|l::S,J,x,h=>tP S _ x (by
   unfold iA;split
   .exact h
   .simp[h])
theorem A8:∀(S J:a8) (x:LK),x∈S.foldl iA J->x∈J\/x∈S
 |[],J,x,h=>.inl h|l::S,J,x,h=>by
  rcases A8 S _ x h with z|z
  .unfold iA at z;split at z
   .exact .inl z
   .rcases Gn.mp z with y|y
    .exact .inl y
    .exact .inr (by simp at y;simp[y])
  simp_all
theorem Aa:∀(S J:a8) (x:LK),x∈S->∃y∈S.foldl iA J,nw y x=f_
 |l::S,J,x,h=>by
  rcases n_.mp h with z|z
  .subst z;by_cases c:J.any (λy=>nw y x)=f_
   .obtain⟨y,U,e⟩:=LY.mp c;exact⟨y,tP S _ y (by unfold iA;rw[p_ c];exact U),e⟩
   .exact⟨x,tP S _ x (by unfold iA;rw[q_ c];simp),DO x⟩
  .exact Aa S _ x z
theorem A9:∀(S J:a8),(S.foldl iA J).length<=J.length+S.length
 |[],J=>by simp|l::S,J=>by
  rw[Gw];have h1:=A9 S (iA J l);have U:(iA J l).length<=J.length+1:=by unfold iA;split<;>simp
  rw[FK];lia
theorem AH{ks:a8}(h:x∈xk ks):x∈ks:=by
 rcases A8 _ _ _ h with z|z
 .grind
 .exact(bp ks).mem_iff.mp z
def best_cov{ks:a8}(h:x∈ks):∃y∈xk ks,nw y x=f_:=Aa _ _ _ ((bp ks).mem_iff.mpr h)
theorem best_len(ks:a8):(xk ks).length<=ks.length:=by have h:=A9 (dK ltL ks) [];rw[(bp ks).length_eq]at h;simp_all[xk]
section
variable(CR CP CL:k_)
theorem Ah(n:Nat)(J:Option A')(l:LK):∀(S:a8) (U:Option A'),(S.any (λx=>nw x l)=f_/\bG (.nm 2) (br) (S.map Lake.bF) [J,a_ (Lake.bF l),U]=.ok (.rt (.bl f_)))\/(S.any (λx=>nw x l)=c_/\∃b,bG (.nm 2) (br) (S.map Lake.bF) [J,a_ (Lake.bF l),U]=.ok (.nx [J,a_ (Lake.bF l),b]))
 |[],U=>.inr ⟨rfl,U,rfl⟩|x::S,U=>by
  have e:cq [Lake.bF x,Lake.bF l]=.ok _:=nw_ok n x l;rw[u_,bG,mq,au];simp only[Iw,Iv,List.any_cons];by_cases c:nw x l=f_
  .left;rw[c]at e;refine⟨by simp[c],?_⟩
   have Y:br [J,a_ (Lake.bF l),a_ (Lake.bF x)]=.ok (.rt (.bl f_)):=by simp[br,fW,e]
   rw[Y];rfl
  .have a:=by simpa using c
   rw[a]at e;have Y:br [J,a_ (Lake.bF l),a_ (Lake.bF x)]=.ok (.nx [J,a_ (Lake.bF l),a_ (Lake.bF x)]):=by simp[br,fW,e]
   rw[Y,a];exact Ah n J l S _
def has_ok(n:Nat)(J:a8)(l:LK):dw [nY J,Lake.bF l]=.ok (.bl (J.any λx=>nw x l)):=by
 unfold nY;rcases Ah n (a_ (.lst (J.map Lake.bF))) l J g_ with⟨h1,S⟩|⟨h1,U,S⟩
 .simp[dw,i9,h1,S]
 .simp[dw,i9,h1,S]
theorem xi(n:Nat)(S:Option A'):∀(U J:a8) (Y:Option A'),J.length+U.length<16777216->∃a,bG (.nm 2) (ck) (U.map Lake.bF) [S,a_ (nY J),Y]=.ok (.nx [S,a_ (nY (U.foldl iA J)),a])
 |[],J,Y,_=>⟨Y,rfl⟩|l::U,J,Y,h=>by
  rw[FK]at h;have e:=has_ok n J l;have f:J.length<16777216:=ad
  have i:(iA J l).length<=J.length+1:=by unfold iA;split<;>simp
  obtain⟨a,d⟩:=xi n S U (iA J l) _ ad;refine⟨a,?_⟩
  rw[u_,bG,mq,au,Gw,<- d];simp;by_cases c:J.any (λx=>nw x l)=f_
  .rw[c]at e;have b:ck [S,a_ (nY J),a_ (Lake.bF l)]=.ok (.nx [S,a_ (nY (iA J l)),a_ (Lake.bF l)]):=by
    unfold iA;rw[p_ c];simp[ck,gL,e]
   rw[b,au]
  .have g:J.any (λx=>nw x l)=c_:=by simpa using c
   rw[g]at e;have b:ck [S,a_ (nY J),a_ (Lake.bF l)]=.ok (.nx [S,a_ (nY (iA J l)),a_ (Lake.bF l)]):=by unfold iA;rw[q_ c];unfold nY at *;simp[ck,gL,e,f]
   rw[b,au]
theorem best_ok(n:Nat)(ks:a8)(h:ks.length<64):gk [.dil ks]=.ok (nY (xk ks)):=by obtain⟨S,e⟩:=xi n (a_ (.dil ks)) (dK ltL ks) [] g_ (by rw[(bp ks).length_eq];simp;lia);have J:nY []=.lst []:=rfl;rw[J]at e;have es:sC [.dil ks]=.ok _:=p_ h;simp[gk,lq,es,e,xk]
end
theorem lG{α:Type}{p:Pat}{fe:ah->M A'}{ρ0:ah}(g f:α->A'):∀(L:List α),(∀x∈L,∃ρ,d7 p (g x) ρ0=.ok ρ/\fe ρ=.ok (f x))->aQ p iG fe ρ0 (L.map g)=.ok (L.map f)
 |[],_=>rfl|d::ds,h=>by obtain⟨ρ,e1,e2⟩:=h d aj;rw[u_,aQ,e1];simp only[au,e2,lG g f ds λx J=>h x (by simp[J])];simp
theorem mn:∀(b:aG) (j:Nat),eC j (b.map .int)=(A1 b.length).map λi=>A'.tup [.int ((j+i:Nat):Int),.int (b.getD i 0)]
 |[],_=>rfl|x::b,j=>by
  rw[u_,eC,mn b _,FK,KH,u_,FJ]
  congr 1
  refine Il λi _=>?_;have:j+1+i=j+(i+1):=ad
  rw[this];rfl
theorem qR(CR CP CL:k_)(n:Nat)(b:aG)(g:b.length<=100):bM [cK b]=.ok (.lst ((A1 b.length).map λi=>A'.tup [cK (b.eraseIdx i),.int (b.getD i 0)])):=by
 have c:aQ (.tp [0,1]) iG (fL cb (a9 (f2 eU (fSl j6 (af 2) vK (oE (af 0))) (fSl j6 (af 2) (oE (f2 eU (af 0) (fC (.int 1)))) vK)) (a9 (af 1) av))) [g_,g_,a_ (cK b)] (eC 0 (b.map .int))=.ok ((A1 b.length).map λi=>A'.tup [cK (b.eraseIdx i),.int (b.getD i 0)]):=by
  rw[mn];refine lG _ _ _ λi hi=>?_;have hi:=C_.mp hi;refine⟨[a_ (.int ((0+i:Nat):Int)),a_ (.int (b.getD i 0)),a_ (cK b)],aj,?_⟩
  have f:cX (b.map A'.int).length 0 g_=0:=rfl;have e:cX (b.map A'.int).length (b.map A'.int).length (a_ ((0+i:Nat):Int))=i:=by simp only[cX];rw[q_ ad,w_];lia
  have d:cX (b.map A'.int).length 0 (a_ (((0+i:Nat):Int)+1))=i+1:=by simp only[cX];rw[q_ ad,w_];lia
  have Y:j6 (cK b) g_ (a_ ((0+i:Nat):Int))=.ok (.tup ((b.take i).map .int)):=by unfold cK j6;simp only[];rw[f,e,q_ (by simp;lia)];rw[cut_take _ ad];simp
  have U:j6 (cK b) (a_ (((0+i:Nat):Int)+1)) g_=.ok (.tup ((b.drop (i+1)).map .int)):=by
   unfold cK j6;simp only[];rw[d,q_ aj];rw[cut_drop _ ad];have:(((0+i:Nat):Int)+1).toNat=i+1:=ad
   rw[this];simp
  have a:((b.take i).map A'.int).length+((b.drop (i+1)).map A'.int).length<=16777216:=by simp;lia
  simp only[e_L,e_cons,e_2,e_slF,e_varS,e_var0,e_pNone,e_pSome,e_c,au,e_asI,Y,eU,U,G4,a,if_true,e_nil];simp[cb,cK,LQ,G4]
 have J:(eC 0 (b.map A'.int)).length<=16777216:=by rw[mn];simp;lia
 have S:j8 (cK b)=.ok (b.map .int):=rfl;simp[bM,j9,S,J,c]
theorem dI(lo:Int)(m:Nat):aE lo (m+1)=.int lo::aE (lo+1) m:=by
 unfold aE;rw[KH,u_,FJ]
 congr 1
 .simp
 .refine Il λk _=>?_;simp only[L8]
  congr 1
  lia
def lh(b:aG):rp (cK b)=.ok b:=by simp[cK,rp,cC]
def Labs(v:V)(P:Pap):Prop:=∀b,∀l∈look P b,Lab v.g l
def notN_lab(l:LK):yk (Lake.bF l) .non=.ok (.bl f_):=rfl
def notN_non:yk .non .non=.ok (.bl c_):=rfl
section
variable(CR CP CL:k_)
@[reducible] def evB(v:V)(P:Pap)(b:Option A')(ks:a8)(a Y U S J:Option A'):ah:=[a_ (ak CR CP v.g.rows v.g.o),a_ (.lst (v.fl.map flD)),a_ (.lst (v.cs.map stD)),a_ (.dic (kD P)),b,a_ (.dil ks),a,Y,U,S,J]
theorem qP(n:Nat)(Y:CR≠CP){v:V}(hv:v.Good)(P:Pap)(a U:Option A'){l:LK}(i:Lab v.g l){q:Nat}(g:q<v.fl.length):∀(r j:Nat) (ks:a8) (b J:Option A'),j+r=v.g.s->ks.length+r<16777216->∃c S,
  bG (.nm 9) (cj CR CP CL n) (aE (j:Int) r) (evB CR CP v P a ks U (a_ (.int q)) (a_ (Lake.bF l)) b J)=.ok (.nx (evB CR CP v P a ((NL j r).foldl (v.add l q) ks) U (a_ (.int q)) (a_ (Lake.bF l)) c S))
 |0,j,ks,b,J,_,_=>⟨b,J,rfl⟩|r+1,j,ks,b,J,h,t=>by
  have e:=behV CR CP CL n Y hv i g (s:=j) ad;have p:(v.add l q ks j).length<=ks.length+1:=v.uI l q [j] ks;obtain⟨c,S,f⟩:=qP n Y hv P a U i g r (j+1) (v.add l q ks j) _ _ ad ad;refine⟨c,S,?_⟩
  have d:ks.length<16777216:=ad
  have m:cj CR CP CL n (evB CR CP v P a ks U (a_ (.int q)) (a_ (Lake.bF l)) (a_ (.int j)) J)=.ok (.nx (evB CR CP v P a (v.add l q ks j) U (a_ (.int q)) (a_ (Lake.bF l)) (a_ (.int j)) (a_ (labO (v.beh l q j))))):=by
   unfold V.add;cases k:v.beh l q j with
   |none=>rw[k]at e;simp[labO]at e ⊢;simp[cj,fq,e]|some o=>rw[k]at e;simp[labO]at e ⊢;simp[cj,fq,e,notN_lab,ot,wC,(tM o),isTr,d,-e_notN]
  rw[dI,bG,mq,au,OT];simp at m f ⊢;rw[m];exact f
theorem rm(n:Nat)(a:CR≠CP){v:V}(hv:v.Good)(P:Pap)(b Y:Option A'){q:Nat}(r:q<v.fl.length):∀(c:a8) (ks:a8) (f S J:Option A'),(∀l∈c,Lab v.g l)->ks.length+v.g.s*c.length<16777216->∃j i U,
  bG (.nm 8) (d9 CR CP CL n) (c.map Lake.bF) (evB CR CP v P b ks Y (a_ (.int q)) f S J)=.ok (.nx (evB CR CP v P b (c.foldl (v.FD q) ks) Y (a_ (.int q)) j i U))
 |[],ks,f,S,J,_,_=>⟨f,S,J,rfl⟩|l::c,ks,f,S,J,h,w=>by
  rw[FK,L4]at w;obtain⟨A,z⟩:=v.g.s2;have u:(v.FD q ks l).length<=ks.length+v.g.s:=by have:=v.uI l q (A1 v.g.s) ks;rw[He]at this;exact this
  obtain⟨o,d,e⟩:=qP CR CP CL n a hv P b Y (h l aj) r v.g.s 0 ks S J ad ad;obtain⟨j,i,U,p⟩:=rm n a hv P b Y r c (v.FD q ks l) (a_ (Lake.bF l)) o d (λm t=>h m (by simp[t])) ad;refine⟨j,i,U,?_⟩
  have k:=tR CR CP n a (g:=v.g) (af 0) [a_ (ak CR CP v.g.rows v.g.o),a_ (.lst (v.fl.map flD)),a_ (.lst (v.cs.map stD)),a_ (.dic (kD P)),b,g_,Y,a_ (.int q),a_ (Lake.bF l),S,J] aj;have k1:(-4611686018427387904:Int)<=(v.g.s:Int):=ad
  have k2:(v.g.s:Int)<4611686018427387904:=ad
  have y:((0:Nat):Int)=0:=rfl;have x:NL 0 v.g.s=A1 v.g.s:=by rw[NK]
  rw[y,x]at e;have s:d9 CR CP CL n (evB CR CP v P b ks Y (a_ (.int q)) (a_ (Lake.bF l)) S J)=.ok (.nx (evB CR CP v P b (v.FD q ks l) Y (a_ (.int q)) (a_ (Lake.bF l)) o d)):=by unfold V.FD;simp only[evB]at e ⊢;simp[d9,k,k1,k2,e]
  rw[u_,bG,mq,au,Gw];simp only[evB,Iw,Iv]at s p ⊢;rw[s,au];exact p
noncomputable def smD(x:aG×Nat):A':=.tup [cK x.1,.int x.2]
theorem qS(n:Nat)(g:CR≠CP){v:V}(hv:v.Good)(P:Pap)(p:Labs v P)(N:Nat)(Y:Option A'):∀(xs:List (aG×Nat)) (ks:a8) (d c U S J:Option A'),(∀x∈xs,x.2<v.fl.length/\(look P x.1).length<=N)->ks.length+v.g.s*N*xs.length<16777216->∃l k j i a,
  bG (.tp [6,7]) (d8 CR CP CL n) (xs.map smD) (evB CR CP v P Y ks d c U S J)=.ok (.nx (evB CR CP v P Y (xs.foldl (v.uM P) ks) l k j i a))
 |[],ks,d,c,U,S,J,_,_=>⟨d,c,U,S,J,rfl⟩|x::xs,ks,d,c,U,S,J,h,t=>by
  rw[FK,L4]at t;obtain⟨h1,w⟩:=h x aj;have z:=Ol v.g.s w;have s:(v.uM P ks x).length<=ks.length+v.g.s*N:=by have A:=v.uJ x.2 (look P x.1) ks;unfold V.uM;lia
  obtain⟨o,m,f,e⟩:=rm CR CP CL n g hv P Y (a_ (cK x.1)) h1 _ ks U S J (p x.1) ad;obtain⟨l,k,j,i,a,q⟩:=qS n g hv P p N Y xs (v.uM P ks x) _ _ o m f (λy r=>h y (by simp[r])) ad;refine⟨l,k,j,i,a,?_⟩
  have u:d8 CR CP CL n (evB CR CP v P Y ks (a_ (cK x.1)) (a_ (.int x.2)) U S J)=.ok (.nx (evB CR CP v P Y (v.uM P ks x) (a_ (cK x.1)) (a_ (.int x.2)) o m f)):=by unfold V.uM;simp[d8,qq,lh,(ll x.1 P),nY,e]
  rw[u_,bG];have b:d7 (.tp [6,7]) (smD x) (evB CR CP v P Y ks d c U S J)=.ok (evB CR CP v P Y ks _ _ U S J):=rfl;rw[b,au,u];exact q
theorem D2(h:∀x∈b,0<=x):((A1 b.length).map λi=>A'.tup [cK (b.eraseIdx i),.int (b.getD i 0)])=(smL b).map smD:=by
 unfold smL;rw[FJ];refine Il λi hi=>?_;have hi:=C_.mp hi;have J:0<=b.getD i 0:=by rw[B_,y_ hi];exact h _ (Gm hi)
 show _=A'.tup [cK _,.int ((b.getD i 0).toNat)];grind
theorem behs_ok(n:Nat)(S:CR≠CP)(hv:v.Good)(P:Pap)(f:Labs v P)(N:Nat)(b:aG)(d:∀x∈b,0<=x/\x<v.fl.length)(c:b.length<=40)(m:∀i,i<b.length->(look P (b.eraseIdx i)).length<=N)(l:v.g.s*N*b.length<16777216):
  e9 CR CP CL n [ak CR CP v.g.rows v.g.o,.lst (v.fl.map flD),.lst (v.cs.map stD),.dic (kD P),cK b]=.ok (.dil (v.yY P b)):=by
 have U:=qR CR CP CL n b ad;rw[D2 (λx J=>(d x J).1)]at U;have a:(smL b).length=b.length:=by simp[smL]
 obtain⟨k,j,h,g,Y,e⟩:=qS CR CP CL n S hv P f N (a_ (cK b)) (smL b) [] g_ g_ g_ g_ g_ (λx J=>by obtain⟨i,hi,rfl⟩:=FG.mp J;simp_all) as
 simp[e9,jx,U,e,V.yY]
end
def BA(r:aG):gC (r.map .int)=f_:=by
 induction r with
 |nil=>rfl|cons x r J=>simp[gC,eR,J]
theorem By(L:List aG):gC (L.map cK)=f_:=by
 induction L with
 |nil=>rfl|cons x r J=>simp_all[gC,eR,cK,BA]
def Bz(J:a8):gC (J.map Lake.bF)=f_:=by
 induction J with
 |nil=>rfl|cons x r S=>simp[gC,eR,Lake.bF,By,S]
def Du(J:a8):eR (nY J)=f_:=by simp[nY,eR,Bz]
def DV(b:aG):eqM (cK b) (.tup [])=.ok (.bl b.isEmpty)/\neM (cK b) (.tup [])=.ok (.bl !b.isEmpty):=by simp[cK,C',eqM,iu,eqD,neM]
def V.ent(v:V)(P:Pap)(b:aG):a8:=if b=[]then [v.l0]else xk (v.yY P b)
def V.pap(v:V)(P:Pap):List aG->Pap
 |[]=>P|b::bs=>v.pap (P++[(b,v.ent P b)]) bs
structure Begs(m:Nat)(B:List aG):Prop where
 nodup:B.Nodup
 len:B.Pairwise λa b=>a.length<=b.length
 bnd:∀b∈B,(∀x∈b,0<=x/\x<m)/\b.length<=m
noncomputable def fw(s:Nat):Nat->Nat
 |0=>1|j+1=>s*fw s j*(j+1)
structure V.xv(v:V)(P:Pap):Prop where
 lab:Labs v P
 few:∀b,(look P b).length<=fw v.g.s b.length
 first:[]∈P.map (·.1)->look P []=[v.l0]
 sound:∀b,b≠[]->∀l∈look P b,l∈v.yY P b
 cov:∀b,b≠[]->b∈P.map (·.1)->∀l∈v.yY P b,∃y∈look P b,nw y l=f_
def V.xv.nil(v:V):v.xv []:=⟨λb l h=>(by cases h),λb=>(by simp[look]),λh=>(by cases h),λb _ l h=>(by cases h),λb _ h=>(by cases h)⟩
theorem eB(h:i<b.length):(b.eraseIdx i).length+1=b.length:=am
theorem V.o6(v:V){J:a8}(g:b.length<=c.length):v.yY (P++[(c,J)]) b=v.yY P b:=by
 have:∀(xs:List _) (ks:a8),(∀x∈xs,x.1≠c)->xs.foldl (v.uM (P++[(c,J)])) ks=xs.foldl (v.uM P) ks:=by
  intro xs
  induction xs with
  |nil=>intro ks _;rfl|cons x xs S=>
   intro ks h;rw[Gw];have e:v.uM (P++[(c,J)]) ks x=v.uM P ks x:=by
    unfold V.uM;have d:look (P++[(c,J)]) x.1=look P x.1:=by
     rw[tJ];split
     .rfl
     .rename_i a;rw[iy a,iy];have:=h x aj;simpa using this
    rw[d]
   rw[e];exact S _ λy U=>h y (by simp[U])
 refine this _ _ λx Y=>?_;obtain⟨i,hi,rfl⟩:=FG.mp Y;intro z;have h1:=eB (C_.mp hi);have f:=J0 L3 z;simp at f;lia
theorem V.xv.behs_lab(hv:v.Good)(h:v.xv P)(Y:∀x∈b,0<=x/\x<v.fl.length)(U:l∈v.yY P b):Lab v.g l:=by
 obtain⟨i,hi,J,h1,s,c,a⟩:=v.uD.mp U;have S:b.getD i 0∈b:=by rw[B_,y_ hi];exact Gm hi
 have:=Y _ S;exact hv.uE (h.lab _ J h1) ad c a
theorem V.AI(h:v.xv P)(b:aG):(v.yY P b).length<=fw v.g.s b.length:=by
 cases b with
 |nil=>simp[V.yY,smL]|cons x b=>
  have h1:=v.AQ P _ (smL (x::b)) [] λp S=>by obtain⟨i,hi,rfl⟩:=FG.mp S;have U:=eB (C_.mp hi);have J:=h.few ((x::b).eraseIdx i);rw[show((x::b).eraseIdx i).length=b.length by simp_all]at J;exact J
  simp_all[smL,V.yY,fw]
theorem V.xv.next(hv:v.Good)(h:v.xv P)(k:c∉P.map (·.1))(a:∀b∈P.map (·.1),b.length<=c.length)(m:∀x∈c,0<=x/\x<v.fl.length):v.xv (P++[(c,v.ent P c)]):=by
 have U:look (P++[(c,v.ent P c)]) c=v.ent P c:=by rw[tJ,q_ k];simp[look]
 have S:∀b,b≠c->look (P++[(c,v.ent P c)]) b=look P b:=λb g=>by
  rw[tJ];split
  .rfl
  .rename_i j;rw[iy j,iy];simpa using g
 refine⟨λb l J=>?_,λb=>?_,λi=>?_,λb Y l J=>?_,λb Y d l J=>?_⟩
 .by_cases e:b=c
  .subst e;rw[U]at J;unfold V.ent at J;split at J
   .rw[HP.mp J];exact v.l0_lab
   .exact h.behs_lab hv m (AH J)
  .rw[S b e]at J;exact h.lab b l J
 .by_cases e:b=c
  .subst e;rw[U];unfold V.ent;split
   .simp_all[fw]
   .exact Gg (best_len _) (V.AI h _)
  .rw[S b e];exact h.few b
 .by_cases e:[]=c
  .subst e;rw[U];unfold V.ent;rw[p_ rfl]
  .rw[S [] e];refine h.first ?_;rw[JO,Gn]at i;rcases i with z|z
   .exact z
   .exact FN (HP.mp z) e
 .by_cases e:b=c
  .subst e;rw[U]at J;unfold V.ent at J;rw[q_ Y]at J;rw[v.o6 (o_ _)];exact AH J
  .rw[S b e]at J;have f:b∈P.map (·.1):=by
    by_cases z:b∈P.map (·.1)
    .exact z
    .simp_all[iy]
   rw[v.o6 (a b f)];exact h.sound b Y l J
 .by_cases e:b=c
  .subst e;rw[v.o6 (o_ _)]at J;rw[U];unfold V.ent;rw[q_ Y];exact best_cov J
  .have f:b∈P.map (·.1):=by
    rw[JO,Gn]at d;rcases d with z|z
    .exact z
    .exact FN (HP.mp z) e
   rw[v.o6 (a b f)]at J;rw[S b e];exact h.cov b Y f l J
theorem V.t4(v:V):∀(B:List aG) (P:Pap),(v.pap P B).map (·.1)=P.map (·.1)++B
 |[],P=>by simp[V.pap]|b::B,P=>by rw[V.pap,v.t4 B];simp
section
variable(CR CP CL:k_)
theorem rh(n:Nat)(U:CR≠CP){v:V}(hv:v.Good)(K:v.fl.length<=4)(Y:∀j,j<=v.fl.length->fw v.g.s j<64)(k:Option A'):∀(B:List aG) (P:Pap) (l:Option A'),v.xv P->Begs v.fl.length (P.map (·.1)++B)->(P.map (·.1)++B).length<16777216->v.xv (v.pap P B)/\∃o,
  bG (.nm 5) (fN CR CP CL n) (B.map cK) [a_ (ak CR CP v.g.rows v.g.o),a_ (.lst (v.fl.map flD)),a_ (.lst (v.cs.map stD)),k,a_ (.dic (kD P)),l]=.ok (.nx [a_ (ak CR CP v.g.rows v.g.o),a_ (.lst (v.fl.map flD)),a_ (.lst (v.cs.map stD)),k,a_ (.dic (kD (v.pap P B))),o])
 |[],P,l,h,_,_=>⟨h,l,rfl⟩|b::B,P,l,h,m,y=>by
  have d:b∉P.map (·.1):=λz=>(List.nodup_append.mp m.nodup).2.2 b z b aj rfl;have s:∀c∈P.map (·.1),c.length<=b.length:=λc H=>(Ie.mp m.len).2.2 c H b aj;obtain⟨g,u⟩:=m.bnd b aj;have E:=h.next hv d s g
  have A:(P++[(b,v.ent P b)]).map (·.1)++B=P.map (·.1)++b::B:=by simp
  obtain⟨G,o,L⟩:=rh n U hv K Y k B (P++[(b,v.ent P b)]) (a_ (cK b)) E (by rw[A];exact m) (by rw[A];exact y);refine⟨G,o,?_⟩
  have p:=Du (v.ent P b);have a:(kD P).length<16777216:=by simp only[Gs,w_]at y;simp only[kD,w_];lia
  have J:=put_dicP b P (v.ent P b) d;have w:=(DV b).1;have I:fN CR CP CL n [a_ (ak CR CP v.g.rows v.g.o),a_ (.lst (v.fl.map flD)),a_ (.lst (v.cs.map stD)),k,a_ (.dic (kD P)),a_ (cK b)]=.ok (.nx [a_ (ak CR CP v.g.rows v.g.o),a_ (.lst (v.fl.map flD)),a_ (.lst (v.cs.map stD)),k,a_ (.dic (kD (P++[(b,v.ent P b)]))),a_ (cK b)]):=by
   by_cases e:b=[]
   .have q:=Ey CR CP CL n U hv.g;have r:v.ent P b=[v.l0]:=by unfold V.ent;rw[p_ e]
    have hd:nY (v.ent P b)=.lst [bF 0 (L0 v.g)]:=by rw[r];rfl
    rw[hd]at p J;have S:eqM (cK b) (.tup [])=.ok (.bl f_):=by rw[w,e];rfl
    rw[<- J];simp[fN,jD,S,q,lh,p,a,mr]
   .have r:v.ent P b=xk (v.yY P b):=by unfold V.ent;rw[q_ e]
    have S:eqM (cK b) (.tup [])=.ok (.bl c_):=by
     rw[w];cases b with
     |nil=>exact FN rfl e|cons x b=>rfl
    have C:=V.AI h b;have F:=Y _ u;obtain⟨_,D⟩:=v.g.s2;have t:=behs_ok CR CP CL n U hv P h.lab 64 b g ad (λi hi=>by
     have h1:=eB hi;have N:=h.few (b.eraseIdx i);grind) (by
     have:v.g.s*64*b.length<=2*64*4:=Le (Nat.mul_le_mul_right _ D) ad;lia)
    have f:=best_ok n (v.yY P b) ad;rw[<- r]at f;rw[<- J];simp[fN,jD,S,t,f,lh,p,a,mr]
  simp_all[u_,bG,mq,au,V.pap,Iw,Iv]
end
noncomputable def iv(a:Int):Nat->aG
 |0=>[]|m+1=>a::iv (a+1) m
noncomputable def chs:Nat->aG->List aG
 |0,_=>[[]]|_+1,[]=>[]|k+1,a::J=>(chs k J).map (a::·)++chs (k+1) J
def begs(U J S:Nat):List aG:=(chs (S-(S-J)) (iv ((S-J:Nat):Int) (min U (S+J)-(S-J)))).map (iv 0 (S-J)++·)
def BL(m s:Nat):List aG:=(A1 (m+1)).flatMap (begs m s)
noncomputable def extP(m s st i:Nat)(p:List (Nat×Nat)):List (List (Nat×Nat)):=(A1 m).flatMap λf=>if (s_ (f∈p.map (·.1))||s_ (s<f-i)||s_ (s<i-f))=f_ then []else(A1 st).map λt=>p++[(f,t)]
noncomputable def PLk(m s st:Nat):Nat->List (List (Nat×Nat))
 |0=>[[]]|i+1=>(PLk m s st i).flatMap (extP m s st i)
noncomputable def plD(p:List (Nat×Nat)):A':=.lst (p.map λx=>A'.tup [.int (x.1:Int),.int (x.2:Int)])
noncomputable def insN(x:Int):aG->aG
 |[]=>[x]|y::l=>if x<y then x::y::l else y::insN x l
def AJ(p:List (Nat×Nat)):aG:=p.foldl (λb x=>insN (x.1:Int) b) []
def chkB(m s:Nat):Bool:=s_ ((BL m s).Nodup)&&s_ ((BL m s).Pairwise λa b=>a.length<=b.length)&&((BL m s).all λb=>s_ (∀x∈b,0<=x/\x<(m:Int))&&s_ (b.length<=m)&&s_ (b.Nodup)&&(A1 b.length).all λi=> !decide (b.eraseIdx i∈BL m s)||(s_ (b.getD i 0-((b.length:Int)-1)<=s)&&s_ (((b.length:Int)-1)-b.getD i 0<=s)))
def chkP(m s st:Nat):Bool:=(PLk m s st m).all λp=>s_ (p.length=m)&&s_ (AJ p=iv 0 m)&&(p.all λx=>s_ (x.1<m)&&s_ (x.2<st))&&(A1 m).all λi=>s_ (AJ (p.take (i+1))∈BL m s)&&(A1 (i+1)).any λj=>s_ (j<(AJ (p.take (i+1))).length)&&s_ ((AJ (p.take (i+1))).eraseIdx j=AJ (p.take i))&&s_ ((AJ (p.take (i+1))).getD j 0=((p.getD i (0,0)).1:Int))
def chkB_all:((A1 5).all λm=>(A1 4).all λs=>chkB m s)=f_:=by rfl
def chkP_1:((A1 5).all λm=>(A1 4).all λs=>chkP m s 1)=f_:=by decide +kernel
def chkP_2:((A1 4).all λm=>(A1 4).all λs=>chkP m s 2)=f_:=by decide +kernel
theorem lt54{P:Nat->Nat->Prop}(r:autoParam (P 0 0) Jq3)(q:autoParam (P 0 1) Jq3)(p:autoParam (P 0 2) Jq3)(o:autoParam (P 0 3) Jq3)(n:autoParam (P 1 0) Jq3)(l:autoParam (P 1 1) Jq3)(k:autoParam (P 1 2) Jq3)(j:autoParam (P 1 3) Jq3)(i:autoParam (P 2 0) Jq3)(g:autoParam (P 2 1) Jq3)(f:autoParam (P 2 2) Jq3)(e:autoParam (P 2 3) Jq3)(d:autoParam (P 3 0) Jq3)(c:autoParam (P 3 1) Jq3)(b:autoParam (P 3 2) Jq3)(a:autoParam (P 3 3) Jq3)(Y:autoParam (P 4 0) Jq3)(U:autoParam (P 4 1) Jq3)(S:autoParam (P 4 2) Jq3)(J:autoParam (P 4 3) Jq3):∀m s:Nat,m<5->s<4->P m s
 |0,0,_,_=>r|0,1,_,_=>q|0,2,_,_=>p|0,3,_,_=>o|0,s+4,_,h=>FN h ad|1,0,_,_=>n|1,1,_,_=>l|1,2,_,_=>k|1,3,_,_=>j|1,s+4,_,h=>FN h ad|2,0,_,_=>i|2,1,_,_=>g|2,2,_,_=>f|2,3,_,_=>e|2,s+4,_,h=>FN h ad|3,0,_,_=>d|3,1,_,_=>c|3,2,_,_=>b|3,3,_,_=>a|3,s+4,_,h=>FN h ad|4,0,_,_=>Y|4,1,_,_=>U|4,2,_,_=>S|4,3,_,_=>J|4,s+4,_,h=>FN h ad|m+5,_,h,_=>FN h ad
section
variable(CR CP CL:k_)
def begA(n:Nat):∀m s:Nat,m<5->s<4->fU [.int m,.int s]=.ok (.lst ((BL m s).map cK)):=lt54
def ordA(n:Nat):∀m s:Nat,m<5->s<4->iR [.int m,.int s]=.ok (.int ((PLk m s 1 m).length:Nat)):=lt54
def plan1(n:Nat):∀m s:Nat,m<5->s<4->fH [.int m,.int s,.int 1]=.ok (.lst ((PLk m s 1 m).map plD)):=lt54
theorem plan2(n:Nat):∀m s:Nat,m<4->s<4->fH [.int m,.int s,.int 2]=.ok (.lst ((PLk m s 2 m).map plD))
 |0,0,_,_=>by rfl|0,1,_,_=>by rfl|0,2,_,_=>by rfl|0,3,_,_=>by rfl|1,0,_,_=>by rfl|1,1,_,_=>by rfl|1,2,_,_=>by rfl|1,3,_,_=>by rfl|2,0,_,_=>by rfl|2,1,_,_=>by rfl|2,2,_,_=>by rfl|2,3,_,_=>by rfl|3,0,_,_=>by rfl|3,1,_,_=>by rfl|3,2,_,_=>by with_unfolding_all rfl
 |3,3,_,_=>by with_unfolding_all rfl
 |m+4,_,h,_=>FN h ad|0,s+4,_,h=>FN h ad|1,s+4,_,h=>FN h ad|2,s+4,_,h=>FN h ad|3,s+4,_,h=>FN h ad
def few_all:((A1 5).all λm=>(A1 4).all λs=>s_ ((PLk m s 1 m).length<=24)&&s_ ((BL m s).length<=100))=f_:=by rfl
def few(m s:Nat)(S:m<5)(J:s<4):(PLk m s 1 m).length<=24/\(BL m s).length<=100:=by simpa using (Gd.mp (Gd.mp few_all m (C_.mpr S)) s (C_.mpr J))
def begsB(m s:Nat)(Y:m<5)(U:s<4):Begs m (BL m s)/\∀b∈BL m s,b.Nodup/\∀i,i<b.length->b.eraseIdx i∈BL m s->b.getD i 0-((b.length:Int)-1)<=s/\((b.length:Int)-1)-b.getD i 0<=s:=by
 have h:=Gd.mp (Gd.mp chkB_all m (C_.mpr Y)) s (C_.mpr U);unfold chkB at h;simp at h;obtain⟨⟨h1,g⟩,S⟩:=h;refine⟨⟨h1,g,λb J=>?_⟩,λb J=>?_⟩
 .obtain⟨⟨⟨f,e⟩,_⟩,_⟩:=S b J;exact⟨f,e⟩
 .obtain⟨⟨_,d⟩,c⟩:=S b J;refine⟨d,λi hi a=>?_⟩
  rcases c i hi with z|z
  .exact FN a z
  .exact z
theorem r6(n:Nat)(U:CR≠CP){v:V}(S J:Option A'):∀(r:Nat) (j:Int) (c:Int) (a:Option A'),0<=c->c*2^r<=1000000->∃b,
  bG (.nm 4) (fF CR CP CL n) (aE j r) [a_ (ak CR CP v.g.rows v.g.o),S,J,a_ (.int c),a]=.ok (.nx [a_ (ak CR CP v.g.rows v.g.o),S,J,a_ (.int (c*v.g.s^r)),b])
 |0,j,c,a,_,_=>⟨a,by simp[aE,bG]⟩|r+1,j,c,a,d,h=>by
  obtain⟨l,k⟩:=v.g.s2;rw[Qy]at h;have m:(1:Int)<=2^r:=by
   have:=Nat.one_le_two_pow (n:=r);have o:((2^r:Nat))=(2:Int)^r:=by simp
   lia
  have f:c*v.g.s*2^r<=c*(2^r*2):=by
   have e1:c*v.g.s*2^r=(c*2^r)*v.g.s:=by rw[Lo,Qz v.g.s,<- Lo]
   have e2:c*(2^r*2)=(c*2^r)*2:=by rw[Lo]
   rw[e1,e2];exact JK ad (MN d ad)
  obtain⟨b,e⟩:=r6 n U S J r _ (c*v.g.s) _ (MN d ad) ad;refine⟨b,?_⟩
  have Y:pU _ _=.ok (.int (c*v.g.s)):=ED (by simp;lia);have i:fF CR CP CL n [a_ (ak CR CP v.g.rows v.g.o),S,J,a_ (.int c),a_ (.int j)]=.ok (.nx [a_ (ak CR CP v.g.rows v.g.o),S,J,a_ (.int (c*v.g.s)),a_ (.int j)]):=by simp[fF,(tR CR CP n U (g:=v.g) (af 0) [a_ (ak CR CP v.g.rows v.g.o),S,J,a_ (.int c),a_ (.int j)] aj),Y,]
  have ep:c*v.g.s^(r+1)=c*v.g.s*v.g.s^r:=by rw[Qy,Qz (v.g.s^r),Lo]
  rw[dI,bG,mq,au,ep];simp;rw[i];exact e
theorem De(n:Nat)(Y:CR≠CP){s:Nat}(g:m<5)(d:s<4)(j:v.fl.length=m):cW CR CP CL n [ak CR CP v.g.rows v.g.o,.lst (v.fl.map flD),.int s]=.ok .non:=by
 obtain⟨f1,_⟩:=few m s g d;have f:=ordA n m s g d;have a:(2:Int)^m<=16:=by
  have h1:2^m<=2^4:=Nat.pow_le_pow_right ad ad;have b:((2^m:Nat):Int)=(2:Int)^m:=by simp
  lia
 have S:(0:Int)<=2^m:=by
  have b:((2^m:Nat):Int)=(2:Int)^m:=by simp
  rw[<- b];exact Int.natCast_nonneg _
 generalize (PLk m s 1 m).length=c at f1 f;have k:(c:Int)*2^m<=24*16:=Int.mul_le_mul ad a S ad;obtain⟨l,e⟩:=r6 CR CP CL n Y (v:=v) (a_ (.int m)) (a_ (.int s)) m 0 c g_ ad ad;have k1:(-4611686018427387904:Int)<=(m:Int):=ad
 have k2:(m:Int)<4611686018427387904:=ad
 have ep:gW CR CP CL n [ak CR CP v.g.rows v.g.o,.int m,.int s]=.ok (.int (c*v.g.s^m)):=by simp[gW,mY,f,k1,k2,e]
 obtain⟨o,h⟩:=v.g.s2;have J:(v.g.s:Int)^m<=2^m:=by
  have h1:v.g.s^m<=2^m:=Nat.pow_le_pow_left h m;have b:((2^m:Nat):Int)=(2:Int)^m:=by simp
  have p:((v.g.s^m:Nat):Int)=(v.g.s:Int)^m:=by simp
  lia
 have i:(c:Int)*v.g.s^m<=c*2^m:=JK J ad;have U:¬(5000:Int)<(c:Int)*v.g.s^m:=ad
 simp[cW,iB,gJ,j,ep,U]
def fw1:∀j,j<=4->fw 1 j<64:=by decide
def fw2:∀j,j<=3->fw 2 j<64:=by decide
theorem sZ(n:Nat)(J:CR≠CP)(hv:v.Good){s:Nat}(U:m<5)(S:s<4)(a:v.fl.length=m)(Y:(v.g.s=1/\m<5)\/(v.g.s=2/\m<4)):v.xv (v.pap [] (BL m s))/\jP CR CP CL n [ak CR CP v.g.rows v.g.o,.lst (v.fl.map flD),.lst (v.cs.map stD),.int s]=.ok (.dic (kD (v.pap [] (BL m s)))):=by
 obtain⟨_,g⟩:=few m s U S;obtain⟨b,d,e⟩:=rh CR CP CL n J hv ad (λj f=>by
  rcases Y with⟨z,w⟩|⟨z,w⟩
  .rw[z];exact fw1 j ad
  .rw[z];exact fw2 j ad) (a_ (.int s)) (BL m s) [] g_ (V.xv.nil v) (by rw[a];exact(begsB m s U S).1) (by simpa using(by lia))
 refine⟨b,?_⟩
 have c:kD []=[]:=rfl;rw[c]at e;simp[jP,rJ,(De CR CP CL n J (v:=v) U S a),a,(begA n m s U S),e]
end
theorem vN(n:Nat):∀L:List aG,iu (L.map cK) (n+2)=f_
 |[]=>rfl|r::L=>by simp[iu,C',cK,vN n L]
def yj(l:LK):C' (Lake.bF l) 40=f_:=by simp[Lake.bF,C',iu,vN]
theorem wu:∀a b:aG,uK (a.map .int) (b.map .int)=s_ (a=b)
 |[],[]=>rfl|[],b::bs=>rfl|a::J,[]=>rfl|a::J,b::bs=>by rw[u_,u_,uK];simp[eqD];rfl
theorem wt:∀a b:List aG,uK (a.map cK) (b.map cK)=s_ (a=b)
 |[],[]=>rfl|[],b::bs=>rfl|a::J,[]=>rfl|a::J,b::bs=>by rw[u_,u_,uK,wt J bs];simp[eqD,cK]
def eq_labs(a b:LK):eqM (Lake.bF a) (Lake.bF b)=.ok (.bl (s_ (a=b))):=by unfold eqM;rw[yj,yj];simp[Lake.bF,eqD,uK,wt,Prod.ext_iff];rfl
def eq_labO(a:Option LK)(b:LK):eqM (labO a) (Lake.bF b)=.ok (.bl (s_ (a=a_ b))):=by
 cases a with
 |some a=>simp[labO,eq_labs]|none=>unfold eqM;rw[yj];simp[labO,C',Lake.bF,eqD]
def V.Step(v:V)(P:Pap)(b:aG)(l:LK)(x:(aG×LK)×(Nat×Nat)):Prop:=∃i,i<b.length/\x.1.1=b.eraseIdx i/\x.2.1=(b.getD i 0).toNat/\x.1.2∈look P x.1.1/\x.2.2<v.g.s/\v.beh x.1.2 x.2.1 x.2.2=a_ l
noncomputable def pY(x:(aG×LK)×(Nat×Nat)):A':=.tup [cK x.1.1,Lake.bF x.1.2,.tup [.int x.2.1,.int x.2.2]]
section
variable(CR CP CL:k_)
@[reducible] def evS(v:V)(P:Pap)(a:Option A')(l:LK)(Y U S J:Option A'):ah:=[a_ (ak CR CP v.g.rows v.g.o),a_ (.lst (v.fl.map flD)),a_ (.lst (v.cs.map stD)),a_ (.dic (kD P)),a,a_ (Lake.bF l),Y,U,S,J]
theorem zv(n:Nat)(U:CR≠CP){v:V}(hv:v.Good)(P:Pap)(J:Option A')(l:LK)(c:aG){m:LK}(g:Lab v.g m){q:Nat}(f:q<v.fl.length):∀(r j:Nat) (S:Option A'),j+r=v.g.s ->
  (∃s,s<v.g.s/\v.beh m q s=a_ l/\bG (.nm 9) (dO CR CP CL n) (aE (j:Int) r) (evS CR CP v P J l (a_ (cK c)) (a_ (.int q)) (a_ (Lake.bF m)) S)=.ok (.rt (pY ((c,m),(q,s))))) \/
  ((∀s,j<=s->s<v.g.s->v.beh m q s≠a_ l)/\∃a,bG (.nm 9) (dO CR CP CL n) (aE (j:Int) r) (evS CR CP v P J l (a_ (cK c)) (a_ (.int q)) (a_ (Lake.bF m)) S)=.ok (.nx (evS CR CP v P J l (a_ (cK c)) (a_ (.int q)) (a_ (Lake.bF m)) a)))
 |0,j,S,h=>.inr ⟨λs h1 i=>by lia,S,rfl⟩|r+1,j,S,h=>by
  have e:=behV CR CP CL n U hv g f (s:=j) ad;have e2:=eq_labO (v.beh m q j) l;rw[dI,bG,mq,au];simp;by_cases Y:v.beh m q j=a_ l
  .left;rw[HU Y]at e2;refine⟨j,ad,Y,?_⟩
   have b:dO CR CP CL n [a_ (ak CR CP v.g.rows v.g.o),a_ (.lst (v.fl.map flD)),a_ (.lst (v.cs.map stD)),a_ (.dic (kD P)),J,a_ (Lake.bF l),a_ (cK c),a_ (.int q),a_ (Lake.bF m),a_ (.int j)]=.ok (.rt (pY ((c,m),(q,j)))):=by simp[dO,kH,e,e2,pY]
   rw[b];rfl
  .rw[JL Y]at e2;have b:dO CR CP CL n [a_ (ak CR CP v.g.rows v.g.o),a_ (.lst (v.fl.map flD)),a_ (.lst (v.cs.map stD)),a_ (.dic (kD P)),J,a_ (Lake.bF l),a_ (cK c),a_ (.int q),a_ (Lake.bF m),a_ (.int j)]=.ok (.nx [a_ (ak CR CP v.g.rows v.g.o),a_ (.lst (v.fl.map flD)),a_ (.lst (v.cs.map stD)),a_ (.dic (kD P)),J,a_ (Lake.bF l),a_ (cK c),a_ (.int q),a_ (Lake.bF m),a_ (.int j)]):=by
    simp[dO,kH,e,e2]
   rw[b];rcases zv n U hv P J l c g f r (j+1) _ ad with⟨s,h1,i,d⟩|⟨h1,a,d⟩
   .exact .inl ⟨s,h1,i,d⟩
   .refine .inr ⟨λs o k=>?_,a,d⟩;by_cases z:s=j
    .rw[z];exact Y
    .exact h1 s ad k
theorem zx(n:Nat)(Y:CR≠CP){v:V}(hv:v.Good)(P:Pap)(S:Option A')(l:LK)(c:aG){q:Nat}(t:q<v.fl.length):∀(U:a8) (b J:Option A'),(∀m∈U,Lab v.g m) ->
  (∃m∈U,∃s,s<v.g.s/\v.beh m q s=a_ l/\bG (.nm 8) (dN CR CP CL n) (U.map Lake.bF) (evS CR CP v P S l (a_ (cK c)) (a_ (.int q)) b J)=.ok (.rt (pY ((c,m),(q,s))))) \/
  ((∀m∈U,∀s,s<v.g.s->v.beh m q s≠a_ l)/\∃f e,bG (.nm 8) (dN CR CP CL n) (U.map Lake.bF) (evS CR CP v P S l (a_ (cK c)) (a_ (.int q)) b J)=.ok (.nx (evS CR CP v P S l (a_ (cK c)) (a_ (.int q)) f e)))
 |[],b,J,_=>.inr ⟨λm h=>(by cases h),b,J,rfl⟩|m::U,b,J,h=>by
  obtain⟨D,C⟩:=v.g.s2;have d:=tR CR CP n Y (g:=v.g) (af 0) [a_ (ak CR CP v.g.rows v.g.o),a_ (.lst (v.fl.map flD)),a_ (.lst (v.cs.map stD)),a_ (.dic (kD P)),S,a_ (Lake.bF l),a_ (cK c),a_ (.int q),a_ (Lake.bF m),J] aj;have k1:(-4611686018427387904:Int)<=(v.g.s:Int):=ad
  have k2:(v.g.s:Int)<4611686018427387904:=ad
  have u:((0:Nat):Int)=0:=rfl;rw[u_,bG,mq,au];simp only[evS,Iw,Iv];rcases zv CR CP CL n Y hv P S l c (h m aj) t v.g.s 0 J ad with⟨s,h1,B,a⟩|⟨h1,p,a⟩
  .left;refine⟨m,aj,s,h1,B,?_⟩
   rw[u]at a;simp only[evS]at a;have j:dN CR CP CL n [a_ (ak CR CP v.g.rows v.g.o),a_ (.lst (v.fl.map flD)),a_ (.lst (v.cs.map stD)),a_ (.dic (kD P)),S,a_ (Lake.bF l),a_ (cK c),a_ (.int q),a_ (Lake.bF m),J]=.ok (.rt (pY ((c,m),(q,s)))):=by simp[dN,d,k1,k2,a]
   rw[j];rfl
  .rw[u]at a;simp only[evS]at a;have j:dN CR CP CL n [a_ (ak CR CP v.g.rows v.g.o),a_ (.lst (v.fl.map flD)),a_ (.lst (v.cs.map stD)),a_ (.dic (kD P)),S,a_ (Lake.bF l),a_ (cK c),a_ (.int q),a_ (Lake.bF m),J]=.ok (.nx [a_ (ak CR CP v.g.rows v.g.o),a_ (.lst (v.fl.map flD)),a_ (.lst (v.cs.map stD)),a_ (.dic (kD P)),S,a_ (Lake.bF l),a_ (cK c),a_ (.int q),a_ (Lake.bF m),p]):=by
    simp[dN,d,k1,k2,a]
   rw[j,au];rcases zx n Y hv P S l c t U (a_ (Lake.bF m)) p (λy i=>h y (by simp[i]))with⟨w,o,s,A,x,k⟩|⟨o,f,e,k⟩
   .exact .inl ⟨w,by simp[o],s,A,x,k⟩
   .refine .inr ⟨λy i s r=>?_,f,e,k⟩;rcases n_.mp i with z|z
    .rw[z];exact h1 s (GD _) r
    .exact o y z s r
theorem zw(n:Nat)(b:CR≠CP){v:V}(hv:v.Good)(P:Pap)(i:Labs v P)(Y:Option A')(l:LK):∀(xs:List (aG×Nat)) (d c S J:Option A'),(∀x∈xs,x.2<v.fl.length) ->
  (∃x∈xs,∃m∈look P x.1,∃s,s<v.g.s/\v.beh m x.2 s=a_ l/\bG (.tp [6,7]) (fy CR CP CL n) (xs.map smD) (evS CR CP v P Y l d c S J)=.ok (.rt (pY ((x.1,m),(x.2,s))))) \/
  (∀x∈xs,∀m∈look P x.1,∀s,s<v.g.s->v.beh m x.2 s≠a_ l)
 |[],d,c,S,J,_=>.inr λx h=>(by cases h)|x::xs,d,c,S,J,h=>by
  have k:=ll x.1 P;have U:d7 (.tp [6,7]) (smD x) (evS CR CP v P Y l d c S J)=.ok (evS CR CP v P Y l _ _ S J):=rfl;rw[u_,bG,U,au];rcases zx CR CP CL n b hv P Y l x.1 (h x aj) _ S J (i x.1)with⟨m,e,s,q,p,j⟩|⟨e,g,f,j⟩
  .left;refine⟨x,aj,m,e,s,q,p,?_⟩
   simp_all[fy,qq,lh,nY]
  .have o:fy CR CP CL n (evS CR CP v P Y l (a_ (cK x.1)) (a_ (.int x.2)) S J)=.ok (.nx (evS CR CP v P Y l (a_ (cK x.1)) (a_ (.int x.2)) g f)):=by
    simp[fy,qq,lh,k,nY,j]
   rw[o];rcases zw n b hv P i Y l xs _ _ g f (λy a=>h y (by simp[a]))with⟨y,a,r⟩|r
   .exact .inl ⟨y,by simp[a],r⟩
   .refine .inr λy a=>?_;rcases n_.mp a with z|z
    .rw[z];exact e
    .exact r y z
theorem step_ok(n:Nat)(S:CR≠CP)(hv:v.Good)(c:v.xv P)(o:∀x∈b,0<=x/\x<v.fl.length)(k:b.length<=4)(a:b≠[])(j:l∈look P b):∃x,v.Step P b l x /\
  l8 CR CP CL n [ak CR CP v.g.rows v.g.o,.lst (v.fl.map flD),.lst (v.cs.map stD),.dic (kD P),cK b,Lake.bF l]=.ok (pY x):=by
 have d:=qR CR CP CL n b ad;rw[D2 (λx J=>(o x J).1)]at d;have U:∀i,i<b.length->(b.getD i 0).toNat<v.fl.length:=λi hi=>by simp_all
 rcases zw CR CP CL n S hv P c.lab (a_ (cK b)) l (smL b) g_ g_ g_ g_ (λx J=>by obtain⟨i,hi,rfl⟩:=FG.mp J;exact U i (C_.mp hi))with⟨x,J,m,h,s,g,Y,e⟩|r
 .obtain⟨i,hi,rfl⟩:=FG.mp J;refine⟨((b.eraseIdx i,m),((b.getD i 0).toNat,s)),⟨i,C_.mp hi,rfl,rfl,h,g,Y⟩,?_⟩
  simp[l8,w9,d,e]
 .obtain⟨i,hi,f,h1,s,q,p⟩:=v.uD.mp (c.sound b a l j);exact FN p (r (b.eraseIdx i,(b.getD i 0).toNat) (FG.mpr ⟨i,C_.mpr hi,rfl⟩) f h1 s q)
end
inductive V.Way(v:V)(P:Pap):List Int->LK->List (Nat×Nat)->Prop
 |nil:V.Way v P [] v.l0 []
 |step {b:List Int} {l:LK} {x:(List Int×LK)×(Nat×Nat)} {ps:List (Nat×Nat)} (h:v.Step P b l x) (hb:b∈P.map (·.1)) (w:V.Way v P x.1.1 x.1.2 ps):V.Way v P b l (ps++[x.2])
noncomputable def prD(x:Nat×Nat):A':=.tup [.int x.1,.int x.2]
theorem tI(h:l∈look P b):b∈P.map (·.1):=by grind[iy]
section
variable(CR CP CL:k_)
@[reducible] def evP(v:V)(P:Pap)(U S:Option A')(b:aG)(l:LK)(ps:List (Nat×Nat))(J:Option A'):ah:=[a_ (ak CR CP v.g.rows v.g.o),a_ (.lst (v.fl.map flD)),a_ (.lst (v.cs.map stD)),a_ (.dic (kD P)),U,S,a_ (.tup [cK b,Lake.bF l]),a_ (.lst (ps.map prD)),J]
theorem xn(n:Nat)(Y:CR≠CP){v:V}(hv:v.Good){P:Pap}(j:v.xv P)(m k:Option A'):∀(z:Nat) (J:Nat) (b:aG) (l:LK) (S:List (Nat×Nat)) (c:Option A'),b.length=z->z<=4->z<J->(∀x∈b,0<=x/\x<v.fl.length)->S.length+z<=100->l∈look P b->∃ps f,v.Way P b l ps /\
  j4 (iN) (kI CR CP CL n) J (evP CR CP v P m k b l S c)=.ok (.nx (evP CR CP v P m k [] v.l0 (S++ps.reverse) f))
 |0,J+1,b,l,S,c,o,_,_,_,_,U=>by
  have d:=Jh.mp o;subst d;have g:=by rw[j.first (tI U)]at U;exact HP.mp U
  subst g;refine⟨[],c,.nil,?_⟩
  rw[j4];simp[iN,((DV []).2)]
 |z+1,J+1,b,l,S,c,o,C,u,d,w,U=>by
  have a:b≠[]:=λe=>by simp_all
  have s:neM (cK b) (.tup [])=.ok (.bl f_):=by
   rw[(DV b).2];cases b with
   |nil=>exact FN rfl a|cons x b=>rfl
  obtain⟨x,q,e1⟩:=step_ok CR CP CL n Y hv j d ad a U;obtain⟨i,hi,h1,D,t,B,A⟩:=id q;have r:=eB hi;obtain⟨ps,f,hw,e⟩:=xn n Y hv j m k z J x.1.1 x.1.2 (S++[x.2]) (a_ (pY x)) as ad ad (λy p=>by rw[h1]at p;exact d y (Kg p)) (by simp;lia) t;refine⟨ps++[x.2],f,.step q (tI U) hw,?_⟩
  have h:S.length<16777216:=ad
  rw[j4];simp only[evP]at e ⊢;rw[List.reverse_append,Jr,List.reverse_nil,L7,KR];rw[Hf,KR]at e;rw[<- e];simp[iN,s,kI,e1,pY,h,prD]
theorem Dt(n:Nat)(q:64<=n)(J:CR≠CP)(hv:v.Good)(k:v.xv P)(m:b.length<=4)(Y:∀x∈b,0<=x/\x<v.fl.length)(f:l∈look P b):∃ps,v.Way P b l ps /\
  l9 CR CP CL n [ak CR CP v.g.rows v.g.o,.lst (v.fl.map flD),.lst (v.cs.map stD),.dic (kD P),cK b,Lake.bF l]=.ok (.lst (ps.map prD)):=by
 obtain⟨ps,p,hw,e⟩:=xn CR CP CL n J hv k (a_ (cK b)) (a_ (Lake.bF l)) b.length n b l [] g_ rfl m ad Y (by simp;lia) f;refine⟨ps,hw,?_⟩
 simp only[evP,JW,L7]at e;have d:ps.length=b.length:=by
  clear e
  induction hw with
  |nil=>rfl|step h j w c=>obtain⟨i,hi,h1,_,o,_⟩:=h;have:=eB hi;rename_i a;have g:=c (by rw[h1];lia) (λy U=>by rw[h1]at U;exact Y y (Kg U)) o;rw[Gs,g,h1];simpa using this
 have S:ps.length<=16777216:=ad
 simp[l9,wa,e,revD,S]
end
theorem V.Way.along{v:V}{P:Pap}{b:aG}{l:LK}{ps:List (Nat×Nat)}(h:v.Way P b l ps):v.along v.l0 ps=a_ l:=by
 induction h with
 |nil=>rfl|step h _ _ J=>obtain⟨i,_,_,_,_,_,S⟩:=h;rw[v.lN,J];show(v.beh _ _ _).bind _=_;rw[S];rfl
def pk(h:i<b.length):(b.getD i 0::b.eraseIdx i).Perm b:=by
 have e:b.getD i 0=b[i]:=by simp[h]
 rw[e];have h1:b=b.take i++b[i]::b.drop (i+1):=by simp
 rw[LQ];exact(List.perm_middle.symm).trans (by rw[<- h1])
theorem V.Way.perm(h:v.Way P b l ps)(U:∀x∈b,0<=x):(ps.map λx=>(x.1:Int)).Perm b:=by
 induction h with
 |nil=>rfl|step h _ _ a=>
  obtain⟨i,hi,h1,d,_⟩:=h;rename_i b' e x Y _ _ _;have c:b'.getD i 0∈b':=by rw[B_,y_ hi];exact Gm hi
  have f:=U _ c;have S:=a (λy J=>by rw[h1]at J;exact U y (Kg J));rw[JO,u_,d,show(((b'.getD i 0).toNat:Nat))=b'.getD i 0 from by lia];rw[h1]at S;exact(List.perm_append_singleton _ _).trans ((S.cons _).trans (pk hi))
theorem V.Way.plan{s:Nat}(C:m<5)(A:s<4)(D:P.map (·.1)=BL m s)(h:v.Way P b l ps)(r:b∈BL m s):ps∈PLk m s v.g.s b.length:=by
 obtain⟨t,n⟩:=begsB m s C A
 induction h with
 |nil=>simp[PLk]|step h G w u=>
  obtain⟨i,hi,h1,K,I,H,N⟩:=h;rename_i b' L x J;have U:x.1.1∈BL m s:=by rw[<- D];exact tI I
  have q:=u U;have p:=eB hi;have d:=w.perm λy c=>((t.bnd _ U).1 y c).1;obtain⟨g,S⟩:=n b' r;have B:=S i hi as;have a:b'.getD i 0∈b':=by rw[B_,y_ hi];exact Gm hi
  have F:=(t.bnd b' r).1 _ a;have f:=by have:=(pk hi).nodup_iff.mpr g;exact(IB.mp this).1
  have k:x.1.1.length=b'.length-1:=by rw[h1];lia
  have j:b'.length=(b'.length-1)+1:=ad
  rw[j];rw[k]at q;refine HK.mpr ⟨J,q,?_⟩;refine HK.mpr ⟨x.2.1,C_.mpr ad,?_⟩;have Y:x.2.1∉J.map (·.1):=λz=>by
   obtain⟨y,c,e⟩:=FG.mp z;have o:=d.mem_iff.mp (FG.mpr ⟨y,c,rfl⟩);rw[e,K,h1]at o;have:(((b'.getD i 0).toNat:Nat))=b'.getD i 0:=ad
   rw[this]at o;exact f o
  have E:¬(s_ (x.2.1∈J.map (·.1))||s_ (s<x.2.1-(b'.length-1))||s_ (s<(b'.length-1)-x.2.1))=f_:=by simp only[L9,Jj,not_or];exact⟨⟨Y,ad⟩,ad⟩
  rw[q_ E];exact FG.mpr ⟨x.2.2,C_.mpr H,rfl⟩
def chkP_at{s:Nat}(S:s<4)(h:(st=1/\m<5)\/(st=2/\m<4)):chkP m s st=f_:=by
 rcases h with⟨rfl,J⟩|⟨rfl,J⟩
 .exact Gd.mp (Gd.mp chkP_1 m (C_.mpr J)) s (C_.mpr S)
 .exact Gd.mp (Gd.mp chkP_2 m (C_.mpr J)) s (C_.mpr S)
structure PlanF(m s st:Nat)(p:List (Nat×Nat)):Prop where
 len:p.length=m
 all:AJ p=iv 0 m
 bnd:∀x∈p,x.1<m/\x.2<st
 step:∀i,i<m->AJ (p.take (i+1))∈BL m s/\∃j,j<(AJ (p.take (i+1))).length/\(AJ (p.take (i+1))).eraseIdx j=AJ (p.take i)/\(AJ (p.take (i+1))).getD j 0=((p.getD i (0,0)).1:Int)
def sW{s:Nat}(J:s<4)(h:(st=1/\m<5)\/(st=2/\m<4))(S:p∈PLk m s st m):PlanF m s st p:=by
 have U:=chkP_at J h;have h1:=Gd.mp U p S;simp only[FH,Jj,Gd,LY,C_]at h1;obtain⟨⟨⟨g,f⟩,e⟩,d⟩:=h1;refine⟨g,f,e,λi hi=>?_⟩
 obtain⟨c,j,_,⟨b,a⟩,Y⟩:=d i hi;exact⟨c,j,b,a,Y⟩
def nil_BL:((A1 5).all λm=>(A1 4).all λs=>s_ ([]∈BL m s)&&s_ (iv 0 m∈BL m s)&&s_ ((iv 0 m).length=m))=f_:=by rfl
def nil_at{s:Nat}(S:m<5)(J:s<4):[]∈BL m s/\iv 0 m∈BL m s/\(iv 0 m).length=m:=by have h:=Gd.mp (Gd.mp nil_BL m (C_.mpr S)) s (C_.mpr J);simp at h;exact⟨h.1.1,h.1.2,h.2⟩
def lP(h:i<p.length):p.take (i+1)=p.take i++[p.getD i (0,0)]:=by simp[h]
theorem V.Good.cover{v:V}(hv:v.Good){m s:Nat}(D:m<5)(B:s<4)(k:v.fl.length=m){P:Pap}(f:v.xv P)(q:P.map (·.1)=BL m s){p:List (Nat×Nat)}(U:PlanF m s v.g.s p):∀i,i<=m->∀l,v.along v.l0 (p.take i)=a_ l->∃y∈look P (AJ (p.take i)),nw y l=f_
 |0,_,l,h=>by
  rw[List.take_zero]at h ⊢;cases h;refine⟨v.l0,?_,DO _⟩
  have:AJ []=[]:=rfl;rw[this,f.first (by rw[q];exact(nil_at D B).1)];simp
 |i+1,hi,l,h=>by
  have a:i<p.length:=by rw[U.len];lia
  rw[lP a,v.lN]at h;cases e1:v.along v.l0 _ with
  |none=>rw[e1]at h;cases h|some g=>
   rw[e1]at h;have d:p.getD i (0,0)∈p:=by rw[B_,y_ a];exact Gm a
   obtain⟨Y,J⟩:=U.bnd _ d;have e2:v.beh g (p.getD i (0,0)).1 (p.getD i (0,0)).2=a_ l:=by
    have h':(v.beh g (p.getD i (0,0)).1 (p.getD i (0,0)).2).bind (λF=>v.along F [])=a_ l:=h;cases e3:v.beh g (p.getD i (0,0)).1 (p.getD i (0,0)).2 with
    |none=>rw[e3]at h';cases h'|some I=>rw[e3]at h';cases h';rfl
   have o:v.Pl (p.take i):=λx G=>by have:=U.bnd x (List.mem_of_mem_take G);simp_all
   obtain⟨y,A,n⟩:=hv.cover D B k f q U i ad g e1;have e:=hv.xq _ v.l0_lab o e1;have c:=f.lab _ y A;obtain⟨E,e4,S⟩:=hv.beh_mono e c n (by rw[k];exact Y) J e2;obtain⟨u,j,H,t,r⟩:=U.step i ad;obtain⟨z,w,b⟩:=f.cov _ (λz=>by simp_all) (by rw[q];exact u) E (v.uD.mpr ⟨j,H,y,by rw[t];exact A,(p.getD i (0,0)).2,J,by rw[r];exact e4⟩);refine⟨z,w,?_⟩
   have U:=(f.lab _ z w)
   have d:=(hv.uE c (by rw[k];exact Y) J e4)
   have C:=(hv.uE e (by rw[k];exact Y) J e2)
   simp[nw]at b S ⊢;exact⟨ad,vU (by rw[U.good.1,d.good.1]) (by rw[d.good.1,C.good.1]) U.good.2 d.good.2 C.good.2 b.2 S.2⟩
noncomputable def qN(p:List (Nat×Nat))(i:Nat):Nat×Nat:=p.getD i (0,0)
def V.pf(v:V)(p:List (Nat×Nat))(i:Nat):Fli:=v.f (qN p i).1
def V.ap(v:V)(p:List (Nat×Nat))(j i:Nat):Int:=apS v.g.rows v.g.r2 ((v.pf p j).kind,((qN p j).2:Int)) ((v.pf p i).kind,((qN p i).2:Int))
def V.low(v:V)(p:List (Nat×Nat))(ts:aG)(i j:Nat):Int:=(A1 j).foldl (λt l=>eY t (tAt ts l+v.ap p l i)) (v.pf p i).first
def V.nP(v:V)(p:List (Nat×Nat))(ts:aG)(i j:Nat):v.low p ts i (j+1)=eY (v.low p ts i j) (tAt ts j+v.ap p j i):=by simp[V.low,L5,Kd]
theorem V.oN(v:V)(p:List (Nat×Nat))(ts:aG)(i:Nat):∀j,(v.pf p i).first<=v.low p ts i j
 |0=>Hw _|j+1=>by have h1:=v.oN p ts i j;have J:=yo (v.low p ts i j) (tAt ts j+v.ap p j i);rw[v.nP];lia
theorem V.yq(v:V)(p:List (Nat×Nat))(ts:aG)(i:Nat):∀j l,l<j->tAt ts l+v.ap p l i<=v.low p ts i j
 |0,l,h=>FN h (Mu _)|j+1,l,h=>by
  have J:=yo (v.low p ts i j) (tAt ts j+v.ap p j i);rw[v.nP];by_cases e:l=j
  .simp_all
  .have:=v.yq p ts i j l ad;lia
theorem V.low_le(v:V)(p:List (Nat×Nat))(ts:aG)(i:Nat)(t:Int)(J:(v.pf p i).first<=t):∀j,(∀l,l<j->tAt ts l+v.ap p l i<=t)->v.low p ts i j<=t
 |0,_=>J|j+1,h=>by have h1:=v.low_le p ts i t J j λl S=>h l ad;have U:=h j ad;rw[v.nP];rcases(yo (v.low p ts i j) (tAt ts j+v.ap p j i)).2.2 with e|e<;>lia
def tAt_app{us:aG}(h:i<ts.length):tAt (ts++us) i=tAt ts i:=by unfold tAt;rw[B_,B_,GY h]
def tAt_new(ts us:aG)(t:Int):tAt (ts++t::us) ts.length=t:=by simp[tAt]
def V.tms(v:V)(p:List (Nat×Nat)):Nat->aG
 |0=>[]|i+1=>v.tms p i++[nx v.cs (v.low p (v.tms p i) i i)]
def V.t(v:V)(p:List (Nat×Nat))(i:Nat):Int:=nx v.cs (v.low p (v.tms p i) i i)
theorem V.ji(v:V)(p:List (Nat×Nat)):∀i,(v.tms p i).length=i
 |0=>rfl|i+1=>by rw[V.tms,Gs,v.ji p i];rfl
theorem V.zo(v:V)(p:List (Nat×Nat)):∀(m i:Nat),i<m->tAt (v.tms p m) i=v.t p i
 |0,i,h=>FN h (Mu _)|m+1,i,h=>by
  rw[V.tms];by_cases e:i=m
  .subst e;have:=tAt_new (v.tms p i) [] (nx v.cs (v.low p (v.tms p i) i i));rw[v.ji]at this;exact this
  .rw[tAt_app (by rw[v.ji];lia)];exact v.zo p m i ad
def V.okT(v:V)(p:List (Nat×Nat))(i:Nat):Prop:=v.t p i<=(v.pf p i).last
theorem mP(h:i<p.length):qN p i∈p:=by simp_all[qN,B_,y_]
def V.Good.Dx(hv:v.Good)(J:v.Pl p)(h:i<p.length):jW (v.fl.map flD) ((qN p i).1:Int)=.ok (flD (v.pf p i))/\i4 v.g.k (v.pf p i):=hv.fAt (J _ (mP h)).1
def Gp.Good.apS0(J:g.Good){a b:cI}(Y:0<=a.1)(U:a.1<g.k)(S:0<=b.1)(b1:b.1<g.k):0<=apS g.rows g.r2 a b:=by
 unfold apS;split
 .exact(getA J.rows Y U S b1).2
 .exact(getA J.r2 Y U S b1).2
def V.Good.ap0(hv:v.Good)(J:v.Pl p)(U:j<p.length)(hi:i<p.length):0<=v.ap p j i:=by have S:=(hv.Dx J U).2;have g2:=(hv.Dx J hi).2;exact hv.g.apS0 S.k0 S.k1 g2.k0 g2.k1
def V.Good.t_low(hv:v.Good)(p:List (Nat×Nat))(i:Nat):v.low p (v.tms p i) i i<=v.t p i:=(hv.nxt _).1
theorem V.Good.t0(hv:v.Good)(J:v.Pl p)(h:i<p.length):0<=v.t p i:=by have h1:=hv.t_low p i;have U:=v.oN p (v.tms p i) i i;have S:=(hv.Dx J h).2.f0;lia
theorem V.Good.t_gap(hv:v.Good)(p:List (Nat×Nat)){l:Nat}(h:l<i):v.t p l+v.ap p l i<=v.t p i:=by have h1:=hv.t_low p i;have J:=v.yq p (v.tms p i) i i l h;rw[v.zo p i l h]at J;lia
def V.tab(v:V)(p:List (Nat×Nat)):Nat->List aG
 |0=>L0 v.g|i+1=>putL (v.tab p i) (qN p i).2 (v.pf p i).kind.toNat (v.t p i)
def V.cst(v:V)(p:List (Nat×Nat)):Nat->Int
 |0=>0|i+1=>v.cst p i+A4 (v.pf p i) (v.t p i)
def V.lab(v:V)(p:List (Nat×Nat))(i:Nat):LK:=(v.cst p i,v.tab p i)
theorem V.sA(v:V){p:List (Nat×Nat)}(J:v.Pl p):∀i,i<=p.length->mH v.g.s v.g.k (v.tab p i)
 |0,_=>FE v.g|i+1,h=>oy (v.sA J i ad) (J _ (mP ad)).2 _
def lAt(L:List aG)(r a:Nat):Int:=tAt (m6 L r) a
theorem lAt_put{s:Nat}(J:mH s k L){r a:Nat}(hi:i<s)(b:j<k)(U:r<s)(x:Int):lAt (putL L i j x) r a=if r=i/\a=j then x else lAt L r a:=by
 have Y:=J.1;unfold lAt putL;by_cases c:r=i
 .subst c;have e1:m6 (L.set r ((m6 L r).set j x)) r=(m6 L r).set j x:=by
   unfold m6;rw[B_,Cb ad];rfl
  rw[e1];have S:=(gY J U).2.1;by_cases d:a=j
  .simp_all[p_,tAt,B_,Cb]
  .rw[q_ (λz=>d z.2)];unfold tAt;rw[B_,B_,z_ (λz=>d z.symm)]
 .rw[q_ (λz=>c z.1)];have e1:m6 (L.set i ((m6 L i).set j x)) r=m6 L r:=by
   show(L.set i _).getD r []=L.getD r [];rw[B_,z_ (λz=>c z.symm),B_]
  rw[e1]
def V.LasAt(v:V)(p:List (Nat×Nat))(i r a:Nat)(x:Int):Prop:=(x= -1/\∀j,j<i->¬((qN p j).2=r/\(v.pf p j).kind=a))\/∃j,j<i/\(qN p j).2=r/\(v.pf p j).kind=a/\x=v.t p j/\∀l,l<i->(qN p l).2=r->(v.pf p l).kind=a->v.t p l<=v.t p j
theorem V.Good.Eb{v:V}(hv:v.Good){p:List (Nat×Nat)}(U:v.Pl p):∀i,i<=p.length->∀r a,r<v.g.s->a<v.g.k->v.LasAt p i r a (lAt (v.tab p i) r a)
 |0,_,r,a,b,f=>.inl ⟨by simp_all[V.tab,L0,lAt,m6,tAt],λj h=>by lia⟩|i+1,hi,r,a,b,f=>by
  have g:=(hv.Dx U (i:=i) ad).2;have q:=g.k0;have o:=g.k1;have S:=lAt_put (v.sA U i ad) ((U _ (mP (p:=p) (i:=i) ad)).2) (j:=(v.pf p i).kind.toNat) ad (a:=a) b (v.t p i);have J:v.tab p (i+1)=putL _ (qN p i).2 (v.pf p i).kind.toNat _:=rfl;rw[J,S];by_cases e:(qN p i).2=r/\(v.pf p i).kind=a
  .rw[p_ ⟨e.1.symm,ad⟩];refine .inr ⟨i,ad,e.1,e.2,rfl,λl h1 Y n=>?_⟩;by_cases z:l=i
   .simp_all
   .have m:=hv.t_gap p (l:=l) (i:=i) ad;have k:=hv.ap0 U (j:=l) (i:=i) ad ad;lia
  .rw[q_ (λz=>e ⟨z.1.symm,ad⟩)];rcases(hv.Eb U i ad r a b f)with⟨h1,Y⟩|⟨j,h1,Y,n,m,k⟩
   .refine .inl ⟨h1,λj s=>?_⟩;by_cases z:j=i
    .rw[z];exact e
    .exact Y j ad
   .refine .inr ⟨j,ad,Y,n,m,λl t d c=>?_⟩;by_cases z:l=i
    .rw[z]at d c;exact FN ⟨d,c⟩ e
    .exact k l ad d c
theorem zJ(U:Nat->Int):∀(xs:aG) (j:Nat) (y:Int),y∈qW U j xs↔∃a,a<xs.length/\tAt xs a≠ -1/\y=tAt xs a+U (j+a)
 |[],j,y=>by simp[qW]|x::xs,j,y=>by
  have c:=zJ U xs (j+1) y;have Y:(∃a,a<xs.length/\tAt xs a≠ -1/\y=tAt xs a+U (j+1+a))↔∃a,0<a/\a<(x::xs).length/\tAt (x::xs) a≠ -1/\y=tAt (x::xs) a+U (j+a):=by
   constructor
   .rintro⟨a,h1,S,J⟩;refine⟨a+1,ad,as,S,?_⟩
    rw[J];have:j+1+a=j+(a+1):=ad
    rw[this];rfl
   .rintro⟨a,d,h1,S,J⟩;obtain⟨b,rfl⟩:∃b,a=b+1:=⟨a-1,ad⟩
    refine⟨b,as,S,?_⟩
    rw[J];have:j+1+b=j+(b+1):=ad
    rw[this];rfl
  by_cases e:x= -1
  .rw[qW,p_ e,c,Y];constructor
   .rintro⟨a,_,h⟩;exact⟨a,h⟩
   .rintro⟨a,h1,S,J⟩;cases a with
    |zero=>exact FN e (by simpa[tAt] using S)|succ a=>exact⟨a+1,ad,h1,S,J⟩
  .rw[qW,q_ e,n_,c,Y];constructor
   .rintro(h|⟨a,_,h⟩)
    .exact⟨0,aj,by simp_all[tAt],by simp_all[tAt]⟩
    .exact⟨a,h⟩
   .rintro⟨a,h1,S,J⟩;cases a with
    |zero=>exact .inl (by simpa[tAt] using J)|succ a=>exact .inr ⟨a+1,ad,h1,S,J⟩
theorem uG(Y:Nat->Nat->Int):∀(L:List aG) (i:Nat) (y:Int),y∈uH Y i L↔∃r a,r<L.length/\a<(m6 L r).length/\lAt L r a≠ -1/\y=lAt L r a+Y (i+r) a
 |[],i,y=>by simp[uH]|b::L,i,y=>by
  rw[uH,Gn,zJ,uG Y L _ y];constructor
  .rintro(⟨a,h1,S,J⟩|⟨r,a,h1,S,J,U⟩)
   .exact⟨0,a,aj,h1,S,by rw[J,IX];rfl⟩
   .refine⟨r+1,a,as,S,J,?_⟩
    rw[U];have:i+1+r=i+(r+1):=ad
    rw[this];rfl
  .rintro⟨r,a,h1,S,J,U⟩;cases r with
   |zero=>exact .inl ⟨a,S,J,by rw[U,IX];rfl⟩|succ r=>
    refine .inr ⟨r,a,as,S,J,?_⟩;rw[U];have:i+1+r=i+(r+1):=ad
    rw[this];rfl
def foldl_max(xs:aG)(x:Int):(xs.foldl eY x=x\/xs.foldl eY x∈xs)/\x<=xs.foldl eY x/\∀y∈xs,y<=xs.foldl eY x:=⟨lu xs x,(Lake.fold_max xs x).2⟩
theorem V.Good.las_low(hv:v.Good)(U:v.Pl p)(hi:i<p.length):Be v.g (v.tab p i) (v.pf p i) (qN p i).2=v.low p (v.tms p i) i i:=by
 unfold Be;obtain⟨m,k,h⟩:=foldl_max (uH (λr a=>apS v.g.rows v.g.r2 (a,r) ((v.pf p i).kind,((qN p i).2))) 0 _) (v.pf p i).first;have b:=v.sA U i ad;refine Int.le_antisymm ?_ ?_
 .rcases m with e|e
  .rw[e];exact v.oN p _ _ _
  .obtain⟨r,a,h1,s,q,f⟩:=(uG _ _ _ _).mp e;rw[f];have S:r<v.g.s:=by rw[<- b.1];exact h1
   rcases hv.Eb U i ad r a S (by rw[<- (gY b S).2.1];exact s)with⟨z,_⟩|⟨j,c,o,n,d,_⟩
   .exact FN z q
   .have:=v.yq p (v.tms p i) i i j c;rw[v.zo p i j c]at this;simp_all[V.ap]
 .refine v.low_le p _ _ _ k _ λl J=>?_;rw[v.zo p i l J];have g:=(hv.Dx U (i:=l) ad).2;have k0:=g.k0;have k1:=g.k1;have S:=(U _ (mP (i:=l) ad)).2;have Y:((v.pf p l).kind.toNat)=(v.pf p l).kind:=ad
  have w:=hv.t0 U (i:=l) ad;rcases hv.Eb U i ad (qN p l).2 (v.pf p l).kind.toNat S ad with⟨_,z⟩|⟨j,f,c,o,n,d⟩
  .exact FN ⟨rfl,Y.symm⟩ (z l J)
  .have u:=d l J rfl Y.symm;have t:=h _ ((uG _ _ _ _).mpr ⟨(qN p l).2,(v.pf p l).kind.toNat,by rw[b.1];exact S,by rw[(gY b S).2.1];lia,ad,by rfl⟩);unfold V.ap;lia
open Classical in
theorem V.Good.jG{v:V}(hv:v.Good){p:List (Nat×Nat)}(hp:v.Pl p):∀i,i<=p.length->v.along v.l0 (p.take i)=if ∀j,j<i->v.okT p j then some (v.lab p i)else none
 |0,_=>by rfl|i+1,h=>by
  have hi:i<p.length:=ad
  rw[lP hi,v.lN,hv.jG hp i ad];by_cases c:∀j,j<i->v.okT p j
  .rw[if_pos c];show(v.beh (v.lab p i) (qN p i).1 (qN p i).2).bind (λl'=>v.along l' [])=_;have ebt:v.bt (v.lab p i) (qN p i).1 (qN p i).2=v.t p i:=by
    unfold V.bt V.t;have:=hv.las_low hp hi;unfold V.pf at this;show nx v.cs (Be v.g (v.tab p i) (v.f (qN p i).1) (qN p i).2)=_;rw[this]
   unfold V.beh;rw[ebt];by_cases c2:(v.f (qN p i).1).last<v.t p i
   .rw[if_pos c2,if_neg (λz=>by have:=z i ad;unfold V.okT V.pf at this;lia)];rfl
   .have hall:∀j,j<i+1->v.okT p j:=λj hj=>by
     by_cases z:j=i
     .rw[z];unfold V.okT V.pf;lia
     .exact c j ad
    rw[if_neg c2,if_pos hall];rfl
  .rw[if_neg c,if_neg (λz=>c λj hj=>z j ad)];rfl
theorem V.Good.Fz(hv:v.Good)(J:v.Pl p)(h:v.along v.l0 p=a_ l):(∀j,j<p.length->v.okT p j)/\l.1=v.cst p p.length:=by
 have e:=hv.jG J p.length (o_ _);rw[Kt,h]at e;by_cases c:∀j,j<p.length->v.okT p j
 .rw[p_ c]at e;cases e;exact⟨c,rfl⟩
 simp_all
def V.Good.along_of(hv:v.Good)(J:v.Pl p)(h:∀j,j<p.length->v.okT p j):∃l,v.along v.l0 p=a_ l/\l.1=v.cst p p.length:=by have e:=hv.jG J p.length (o_ _);rw[Kt,p_ h]at e;exact⟨_,e,rfl⟩
noncomputable def pX(t:Int)(p:cI):Int:=if p.1<=t/\t<p.2 then p.2 else t
noncomputable def pass(cs:List cI)(t:Int):Int:=cs.foldl pX t
def Reach(cs:List cI)(t u:Int):Prop:=t<=u/\∀v,t<=v->v<u->Cov cs v
theorem Reach.step{t:Int}(h:Reach cs t u){p:cI}(J:p∈cs):Reach cs t (pX u p):=by
 unfold pX;split
 .refine⟨by have:=h.1;lia,λv h1 S=>?_⟩
  by_cases hv:v<u
  .exact h.2 v h1 hv
  .exact⟨p,J,ad,ad⟩
 .exact h
theorem Reach.pass{cs:List cI}{t:Int}:∀(ds:List cI) (u:Int),(∀p∈ds,p∈cs)->Reach cs t u->Reach cs t (pass ds u)
 |[],_,_,h=>h|d::ds,u,hd,h=>Reach.pass ds _ (λp J=>hd p (by simp[J])) (h.step (hd d aj))
theorem DD:∀(ds:List cI) (u:Int),u<=pass ds u
 |[],_=>Hw _|d::ds,u=>QA (by unfold pX;split<;>lia) (DD ds _)
theorem zS{cs:List cI}:∀(ds:List cI) (u:Int),(∀p∈ds,p∈cs)->(pass ds u=u/\∀p∈ds,¬(p.1<=u/\u<p.2))\/cnt cs (pass ds u)<cnt cs u
 |[],u,_=>.inl ⟨rfl,λp J=>by cases J⟩|d::ds,u,hd=>by
  show(pass ds _=u/\_)\/cnt cs (pass ds _)<_;by_cases c:d.1<=u/\u<d.2
  .have e:pX u d=d.2:=by unfold pX;rw[p_ c]
   rw[e];have h1:=F8 (hd d aj) c.2;have S:=AB (cs:=cs) (DD ds d.2);exact .inr ad
  .have e:pX u d=u:=by unfold pX;rw[q_ c]
   rw[e];rcases zS ds u (λp J=>hd p (by simp[J]))with⟨h1,S⟩|h
   .exact .inl ⟨h1,λp J=>by
     rcases n_.mp J with z|z
     .rw[z];exact c
     .exact S p z⟩
   .exact .inr h
noncomputable def passes(cs:List cI):Nat->Int->Int
 |0,t=>t|m+1,t=>passes cs m (pass cs t)
theorem rg{cs:List cI}{t:Int}(h:pass cs t=t):∀m,passes cs m t=t
 |0=>rfl|m+1=>by rw[passes,h];exact rg h m
theorem oA{cs:List cI}{U:Int}:∀(m:Nat) (t:Int),Reach cs U t->cnt cs t<=m->gd cs U (passes cs m t)
 |0,t,h,Y=>⟨h.1,λ⟨p,J,h1,S⟩=>by have:cnt cs p.2<cnt cs t:=F8 J S;lia,h.2⟩|m+1,t,h,Y=>by
  rcases zS cs t (λp J=>J)with⟨h1,S⟩|h1
  .rw[rg h1];refine⟨h.1,λJ=>?_,h.2⟩
   obtain⟨p,J,a⟩:=J;exact S p J a
  .exact oA m _ (h.pass cs t λp J=>J) ad
theorem DC(cs:List cI)(t:Int):passes cs cs.length t=nx cs t:=(nx_eq (oA cs.length t ⟨Hw _,λv h1 J=>by lia⟩ (List.countP_le_length))).symm
def Gp.Ck(g:Gp):A':=if g.two=f_ then aK g.r2 else .lst []
theorem prAt(h:i<p.length):jW (p.map prD) (i:Int)=.ok (.tup [.int (qN p i).1,.int (qN p i).2]):=by simp_all[gZ,qN,prD]
section
variable(CR CP CL:k_)
@[reducible] def evT(v:V)(p:List (Nat×Nat))(ts:aG)(g f e d c b a Y U S J:Option A'):ah:=[a_ (aK v.g.rows),a_ v.g.Ck,a_ (.lst (v.fl.map flD)),a_ (.lst (v.cs.map stD)),a_ (.lst (p.map prD)),a_ (.lst (ts.map .int)),g,f,e,d,c,b,a,Y,U,S,J]
theorem low_turn(n:Nat)(hv:v.Good)(b:v.Pl p)(hi:i<p.length)(B:j<i)(r a Y U k g f:Option A')(t:Int)(ts:aG)(w:ts.length=i):∃l,
  dE (evT v p ts r (a_ (.int (qN p i).1)) (a_ (.int (qN p i).2)) (a_ (.int t)) (a_ (.int j)) k g f a Y U)=.ok (.nx (evT v p ts r (a_ (.int (qN p i).1)) (a_ (.int (qN p i).2)) (a_ (.int (eY t (tAt ts j+v.ap p j i)))) (a_ (.int j)) (a_ (.int (qN p j).1)) (a_ (.int (qN p j).2)) l a Y U)):=by
 have S:j<p.length:=ad
 obtain⟨f1,d⟩:=hv.Dx b hi;obtain⟨e,g2⟩:=hv.Dx b S;obtain⟨o,_⟩:=tU hv.g.rows g2.k0 g2.k1;obtain⟨s,_⟩:=getA hv.g.rows g2.k0 g2.k1 d.k0 d.k1;obtain⟨u,_⟩:=tU hv.g.r2 g2.k0 g2.k1;obtain⟨A,_⟩:=getA hv.g.r2 g2.k0 g2.k1 d.k0 d.k1;have m:=getT (ts:=ts) (i:=j) ad;have p1:=prAt S;have y:=(b _ (mP hi)).2;have x:=(b _ (mP S)).2;by_cases c:(qN p j).2=(qN p i).2
 .have ea:v.ap p j i=at2 v.g.rows (v.pf p j).kind (v.pf p i).kind:=by unfold V.ap apS;rw[p_ (by simp[c])]
  have J:neM (.int ((qN p j).2)) (.int ((qN p i).2))=.ok (.bl c_):=by simp[c]
  rw[ea];simp only[flD]at f1 e;simp[dE,ij,p1,f1,e,aK,o,iq,s,m,J]
 .have z:v.g.two=f_:=by
   cases h:v.g.two with
   |true=>rfl|false=>simp_all[Gp.s]
  have q:¬((qN p j).2)=((qN p i).2:Int):=ad
  have ea:v.ap p j i=at2 v.g.r2 (v.pf p j).kind (v.pf p i).kind:=by unfold V.ap apS;rw[q_ q]
  have eb:v.g.Ck=aK v.g.r2:=by simp[Gp.Ck,z]
  have J:neM (.int ((qN p j).2:Int)) (.int ((qN p i).2:Int))=.ok (.bl f_):=by simp;exact q
  rw[ea];simp only[flD]at f1 e;simp only[evT,eb];simp[dE,ij,p1,f1,e,aK,o,u,iq,s,A,m,J]
theorem zY(n:Nat){v:V}(hv:v.Good){p:List (Nat×Nat)}(s:v.Pl p){i:Nat}(hi:i<p.length)(m c b a:Option A')(ts:aG)(l:ts.length=i):∀(r j:Nat) (Y U S J:Option A'),j+r=i->∃k g f d,
  bG (.nm 10) (dE) (aE (j:Int) r) (evT v p ts m (a_ (.int (qN p i).1)) (a_ (.int (qN p i).2)) (a_ (.int (v.low p ts i j))) Y U S J c b a)=.ok (.nx (evT v p ts m (a_ (.int (qN p i).1)) (a_ (.int (qN p i).2)) (a_ (.int (v.low p ts i i))) k g f d c b a))
 |0,j,Y,U,S,J,h=>⟨Y,U,S,J,by
   have:j=i:=ad
   subst this;rfl⟩
 |r+1,j,Y,U,S,J,h=>by
  obtain⟨o,q⟩:=low_turn n hv s hi (j:=j) ad m c b a U S J (v.low p ts i j) ts l;obtain⟨k,g,f,d,e⟩:=zY n hv s hi m c b a ts l r (j+1) (a_ (.int j)) (a_ (.int (qN p j).1)) (a_ (.int (qN p j).2)) o ad;refine⟨k,g,f,d,?_⟩
  rw[dI,bG,mq,au];simp only[evT,Iw,Iv]at q e ⊢;rw[q,au,<- v.nP];exact e
theorem vH(n:Nat)(q p o m l k j i h a Y U S J:Option A'):∀(ds:List cI) (t:Int) (c b:Option A'),∃g f,
  bG (.tp [15,16]) (cJ) (ds.map stD) [q,p,o,m,l,k,j,i,h,a_ (.int t),a,Y,U,S,J,c,b]=.ok (.nx [q,p,o,m,l,k,j,i,h,a_ (.int (pass ds t)),a,Y,U,S,J,g,f])
 |[],t,c,b=>⟨c,b,rfl⟩|d::ds,t,c,b=>by
  obtain⟨g,f,e⟩:=vH n q p o m l k j i h a Y U S J ds _ _ _;refine⟨g,f,?_⟩
  have u:cJ [q,p,o,m,l,k,j,i,h,a_ (.int t),a,Y,U,S,J,a_ (.int d.1),a_ (.int d.2)]=.ok (.nx [q,p,o,m,l,k,j,i,h,a_ (.int (pX t d)),a,Y,U,S,J,a_ (.int d.1),a_ (.int d.2)]):=by
   unfold pX;by_cases s:d.1<=t
   .by_cases r:t<d.2
    .simp[cJ,fE,s,r]
    .simp[cJ,fE,r]
   .simp[cJ,fE,s]
  rw[u_,bG,show d7 _ _ [q,p,o,m,l,k,j,i,h,a_ _,a,Y,U,S,J,c,b]=.ok [q,p,o,m,l,k,j,i,h,a_ _,a,Y,U,S,J,a_ _,a_ _]from rfl,au,u];exact e
theorem oB(n:Nat)(cs:List cI)(q p o m l k i h b a Y U:Option A'):∀(r:Nat) (j:Int) (t:Int) (c S J:Option A'),∃g f d,
  bG (.nm 14) (fG) (aE j r) [q,p,o,a_ (.lst (cs.map stD)),m,l,k,i,h,a_ (.int t),b,a,Y,U,c,S,J]=.ok (.nx [q,p,o,a_ (.lst (cs.map stD)),m,l,k,i,h,a_ (.int (passes cs r t)),b,a,Y,U,g,f,d])
 |0,j,t,c,S,J=>⟨c,S,J,rfl⟩|r+1,j,t,c,S,J=>by
  obtain⟨u,s,e1⟩:=vH n q p o (a_ (.lst (cs.map stD))) m l k i h b a Y U (a_ (.int j)) cs t S J;obtain⟨g,f,d,e⟩:=oB n cs q p o m l k i h b a Y U r _ _ _ u s;refine⟨g,f,d,?_⟩
  have v:fG [q,p,o,a_ (.lst (cs.map stD)),m,l,k,i,h,a_ (.int t),b,a,Y,U,a_ (.int j),S,J]=.ok (.nx [q,p,o,a_ (.lst (cs.map stD)),m,l,k,i,h,a_ (.int (pass cs t)),b,a,Y,U,a_ (.int j),u,s]):=by simp[fG,e1]
  rw[dI,bG,mq,au];simp;rw[v];exact e
theorem Bg(n:Nat)(hv:v.Good)(t:v.Pl p)(A:p.length<=40)(hi:i<p.length)(r q o h g f e U S J:Option A'):
  ((v.pf p i).last<v.t p i/\bU (evT v p (v.tms p i) (a_ (.int i)) r q o h g f e U S J)=.ok (.rt .non)) \/
  (v.okT p i/\∃x w u d b a Y l k j,bU (evT v p (v.tms p i) (a_ (.int i)) r q o h g f e U S J)=.ok (.nx (evT v p (v.tms p (i+1)) (a_ (.int i)) x w u d b a Y l k j))):=by
 obtain⟨f1,E⟩:=hv.Dx t hi;have p1:=prAt hi;have D:=hv.cs;have y:v.low p (v.tms p i) i 0=(v.pf p i).first:=rfl;obtain⟨d,b,a,Y,e1⟩:=zY n hv t hi (a_ (.int i)) U S J (v.tms p i) (v.ji p i) i 0 h g f e ad;obtain⟨l,k,j,e2⟩:=oB n v.cs (a_ (aK v.g.rows)) (a_ v.g.Ck) (a_ (.lst (v.fl.map flD))) (a_ (.lst (p.map prD))) (a_ (.lst ((v.tms p i).map .int))) (a_ (.int i)) (a_ (.int (qN p i).1)) (a_ (.int (qN p i).2)) d b a Y v.cs.length 0 (v.low p (v.tms p i) i i) U S J;rw[DC]at e2;have m:nx v.cs (v.low p (v.tms p i) i i)=v.t p i:=rfl;rw[m]at e2;rw[y]at e1;have k1:(-4611686018427387904:Int)<=(i:Int):=ad
 have k2:(i:Int)<4611686018427387904:=ad
 have k3:(-4611686018427387904:Int)<=(v.cs.length:Int):=ad
 have s:(v.cs.length:Int)<4611686018427387904:=ad
 have C:((0:Nat):Int)=0:=rfl;rw[C]at e1;have B:(v.tms p i).length<16777216:=by rw[v.ji];lia
 have z:v.tms p (i+1)=v.tms p i++[v.t p i]:=rfl;simp only[evT]at e1 ⊢;by_cases c:(v.pf p i).last<v.t p i
 .left;refine⟨c,?_⟩
  simp[bU,ig,p1,f1,flD,k1,k2,k3,s,e1,e2,c]
 .right;refine⟨by unfold V.okT;lia,a_ (.int (qN p i).1),a_ (.int (qN p i).2),a_ (.int (v.t p i)),d,b,a,Y,l,k,j,?_⟩
  rw[z];simp[bU,ig,p1,f1,flD,k1,k2,k3,s,e1,e2,c,B]
theorem qO(n:Nat){v:V}(hv:v.Good){p:List (Nat×Nat)}(N:v.Pl p)(x:p.length<=40):∀(r i:Nat) (w u t s d b a Y U S J:Option A'),i+r=p.length ->
  ((∃j,i<=j/\j<p.length/\¬v.okT p j)/\bG (.nm 6) (bU) (aE (i:Int) r) (evT v p (v.tms p i) w u t s d b a Y U S J)=.ok (.rt .non)) \/
  ((∀j,i<=j->j<p.length->v.okT p j)/\∃C B A y q o m l k g f,bG (.nm 6) (bU) (aE (i:Int) r) (evT v p (v.tms p i) w u t s d b a Y U S J)=.ok (.nx (evT v p (v.tms p p.length) C B A y q o m l k g f)))
 |0,i,w,u,t,s,d,b,a,Y,U,S,J,h=>by
  right;have e:i=p.length:=ad
  refine⟨λj h1 L=>by lia,w,u,t,s,d,b,a,Y,U,S,J,?_⟩
  rw[e];rfl
 |r+1,i,w,u,t,s,d,b,a,Y,U,S,J,h=>by
  have hi:i<p.length:=ad
  rw[dI,bG,mq,au];rcases Bg n hv N x hi u t s d b a Y U S J with⟨c,e⟩|⟨c,Q,P,O,K,I,H,G,F,E,D,e⟩
  .left;refine⟨⟨i,ad,hi,λz=>by unfold V.okT at z;lia⟩,?_⟩
   simp_all
  .rcases qO n hv N x r (i+1) _ Q P O K I H G F E D ad with⟨⟨j,h1,L,R⟩,e2⟩|⟨T,C,B,A,y,q,o,m,l,k,g,f,e2⟩
   .left;refine⟨⟨j,ad,L,R⟩,?_⟩
    simp at e e2 ⊢;rw[e];exact e2
   .right;refine⟨λj h1 L=>?_,C,B,A,y,q,o,m,l,k,g,f,?_⟩
    .grind
    .simp at e e2 ⊢;rw[e];exact e2
theorem vV(n:Nat)(hv:v.Good)(i:v.Pl p)(J:p.length<=40):
  ((∃j,j<p.length/\¬v.okT p j)/\cR [aK v.g.rows,v.g.Ck,.lst (v.fl.map flD),.lst (v.cs.map stD),.lst (p.map prD)]=.ok .non) \/
  ((∀j,j<p.length->v.okT p j)/\cR [aK v.g.rows,v.g.Ck,.lst (v.fl.map flD),.lst (v.cs.map stD),.lst (p.map prD)]=.ok (.lst ((v.tms p p.length).map .int))):=by
 have k1:(-4611686018427387904:Int)<=(p.length:Int):=ad
 have k2:(p.length:Int)<4611686018427387904:=ad
 have S:((0:Nat):Int)=0:=rfl;have e1:v.tms p 0=[]:=rfl;rcases qO n hv i J p.length 0 g_ g_ g_ g_ g_ g_ g_ g_ g_ g_ g_ ad with⟨⟨j,_,l,k⟩,e⟩|⟨c,r,q,o,m,g,f,d,b,a,Y,U,e⟩
 .left;refine⟨⟨j,l,k⟩,?_⟩
  rw[S,e1]at e;simp only[evT,JW]at e;simp[cR,jy,k1,k2,e]
 .right;refine⟨λj h=>c j ad h,?_⟩
  rw[S,e1]at e;simp only[evT,JW]at e;simp[cR,jy,k1,k2,e]
end
theorem cost_ok(n:Nat)(k:Nat)(fl:List Fli)(U:∀f∈fl,i4 k f)(J:List cI)(ts:aG)(h:∀p∈J,0<=p.1/\p.1<fl.length)(a:J.length<=1000):jt [.lst (fl.map flD),.lst (J.map stD),.lst (ts.map .int)]=.ok (.int (ke fl J ts).sum):=by
 have Y:=CA (J.map stD) (ts.map .int);rw[w_]at Y;have S:(k7 (J.map stD) (ts.map .int)).length<=16777216:=ad
 simp[jt,wb,S,wX n k fl U J ts h]
noncomputable def toS(p:List (Nat×Nat)):List cI:=p.map λx=>((x.1:Int),(x.2:Int))
def prD_toS(p:List (Nat×Nat)):p.map prD=(toS p).map stD:=by unfold toS;rw[FJ];rfl
noncomputable def V.spL(v:V)(p:List (Nat×Nat)):List cI:=p.map λx=>((v.f x.1).kind,(x.2:Int))
theorem V.spL_at(v:V)(h:i<p.length):jW ((v.spL p).map stD) (i:Int)=.ok (.tup [.int (v.pf p i).kind,.int (qN p i).2]):=by simp_all[gZ,V.spL,V.pf,qN,stD]
def V.gapL(v:V)(p:List (Nat×Nat))(ts:aG)(i:Nat):aG:=(A1 i).map λj=>tAt ts j+v.ap p j i
def V.gapL_low(v:V)(p:List (Nat×Nat))(ts:aG)(i:Nat):(v.gapL p ts i).foldl eY (v.pf p i).first=v.low p ts i i:=by simp[V.gapL,V.low,List.foldl_map]
section
variable(CR CP CL:k_)
theorem spots_ok(n:Nat)(hv:v.Good)(U:v.Pl p)(S:p.length<=40):jO [.lst (v.fl.map flD),.lst (p.map prD)]=.ok (.lst ((v.spL p).map stD)):=by
 have a:aQ (.tp [0,1]) iG (fL cb (a9 (f2 ixD (f2 ixD (af 2) (af 0)) (fC (.int 0))) (a9 (af 1) av))) [g_,g_,a_ (.lst (v.fl.map flD))] (p.map prD)=.ok ((v.spL p).map stD):=by
  unfold V.spL;rw[FJ];refine lG _ _ _ λx J=>?_;obtain⟨f1,_⟩:=hv.fAt (U x J).1;refine⟨[a_ _,a_ _,a_ _],rfl,?_⟩
  simp[f1,flD,stD]
 have Y:p.length<=16777216:=ad
 simp[jO,rH,a,Y]
theorem gaps_ok'(n:Nat)(U:CR≠CP)(hv:v.Good)(J:v.Pl p)(f:p.length<=40)(ts:aG)(hi:i<p.length)(m:i<=ts.length):iS CR CP CL n [ak CR CP v.g.rows v.g.o,.lst ((v.spL p).map stD),.lst (ts.map .int),.int i]=.ok (.lst ((v.gapL p ts i).map .int)):=by
 have k1:(-4611686018427387904:Int)<=(i:Int):=ad
 have k2:(i:Int)<4611686018427387904:=ad
 have k:aQ (.nm 0) iG (f2 eU (f2 ixD (af 3) (af 0)) (cf CR CP "apart" (bh CR CP CL n) (b8 CR CP CL n) (af 1) (a9 (f2 ixD (af 2) (af 0)) (a9 (f2 ixD (af 2) (af 4)) av)))) [g_,a_ (ak CR CP v.g.rows v.g.o),a_ (.lst ((v.spL p).map stD)),a_ (.lst (ts.map .int)),a_ (.int i)] (aE 0 i)=.ok ((v.gapL p ts i).map .int):=by
  unfold aE V.gapL;rw[FJ];refine lG _ _ _ λj Y=>?_;have Y:=C_.mp Y;have b:=(hv.Dx J (i:=j) ad).2;have a:=(hv.Dx J hi).2;have e:=v.spL_at (p:=p) (i:=j) ad;have d:=v.spL_at hi;have c:=getT (ts:=ts) (i:=j) ad;have S:v.g.two=c_->((qN p j).2:Int)=((qN p i).2:Int):=λh=>by
   have e1:v.g.s=1:=by simp[Gp.s,h]
   have h1:=(J _ (mP hi)).2;have o:=(J _ (mP (p:=p) (i:=j) ad)).2;lia
  refine⟨[a_ (.int (0+(j:Int))),a_ (ak CR CP v.g.rows v.g.o),a_ (.lst ((v.spL p).map stD)),a_ (.lst (ts.map .int)),a_ (.int i)],rfl,?_⟩
  rw[Int.zero_add];have l:=gmeth CR CP CL n U hv.g b.k0 b.k1 a.k0 a.k1 S (af 1) (f2 ixD (af 2) (af 0)) (f2 ixD (af 2) (af 4)) [a_ (.int (j:Int)),a_ (ak CR CP v.g.rows v.g.o),a_ (.lst ((v.spL p).map stD)),a_ (.lst (ts.map .int)),a_ (.int i)] aj (by simp[e]) (by simp[d]);simp[l,c,V.ap]
 have g:(aE 0 i).length<=16777216:=by rw[bL];lia
 simp[iS,p8,k1,k2,k,g]
theorem mK(n:Nat)(d:CR≠CP){v:V}(hv:v.Good){p:List (Nat×Nat)}(m:v.Pl p)(b:p.length<=40)(c:∀j,j<p.length->v.okT p j):∀(r i:Nat) (a Y S J:Option A'),i+r=p.length->∃l k g f,
  bG (.tp [6,7]) (hW CR CP CL n) (eC i ((p.drop i).map prD)) [a_ (ak CR CP v.g.rows v.g.o),a_ (.lst (v.fl.map flD)),a_ (.lst (v.cs.map stD)),a_ (.lst (p.map prD)),a_ (.lst ((v.spL p).map stD)),a_ (.lst ((v.tms p i).map .int)),a,Y,S,J]=.ok (.nx [a_ (ak CR CP v.g.rows v.g.o),a_ (.lst (v.fl.map flD)),a_ (.lst (v.cs.map stD)),a_ (.lst (p.map prD)),a_ (.lst ((v.spL p).map stD)),a_ (.lst ((v.tms p p.length).map .int)),l,k,g,f])
 |0,i,a,Y,S,J,h=>⟨a,Y,S,J,by
   have:i=p.length:=ad
   rw[this,JF];rfl⟩
 |r+1,i,a,Y,S,J,h=>by
  have hi:i<p.length:=ad
  obtain⟨l,k,g,f,e⟩:=mK n d hv m b c r (i+1) (a_ (.int i)) (a_ (prD (qN p i))) (a_ (flD (v.pf p i))) (a_ (.int (v.t p i))) ad;refine⟨l,k,g,f,?_⟩
  obtain⟨t,D⟩:=hv.Dx m hi;have s:=gaps_ok' CR CP CL n d hv m b (v.tms p i) hi (by rw[v.ji];lia);obtain⟨ev,_⟩:=nextV n hv (v.low p (v.tms p i) i i);have B:nx v.cs (v.low p (v.tms p i) i i)=v.t p i:=rfl;rw[B,<- v.gapL_low]at ev;have o:(v.gapL p (v.tms p i) i).length=i:=by simp[V.gapL]
  have w:¬(v.pf p i).last<v.t p i:=by have:=c i hi;unfold V.okT at this;lia
  generalize v.gapL p (v.tms p i) i=A at s ev o;have C:maxD [.lst (.int (v.pf p i).first::A.map .int)]=.ok (.int (A.foldl eY (v.pf p i).first)):=by show(bj (((v.pf p i).first::A).map .int)).bind maxL=_;rw[cC,au,maxL]
  have z:1+A.length<=16777216:=ad
  have x:(v.tms p i).length<16777216:=by rw[v.ji];lia
  have u:v.tms p (i+1)=v.tms p i++[v.t p i]:=rfl;have hd:p.drop i=qN p i::p.drop (i+1):=by rw[Hk hi];exact J0 (·::p.drop (i+1)) (by simp[qN,hi])
  have y:hW CR CP CL n [a_ (ak CR CP v.g.rows v.g.o),a_ (.lst (v.fl.map flD)),a_ (.lst (v.cs.map stD)),a_ (.lst (p.map prD)),a_ (.lst ((v.spL p).map stD)),a_ (.lst ((v.tms p i).map .int)),a_ (.int i),a_ (prD (qN p i)),S,J]=.ok (.nx [a_ (ak CR CP v.g.rows v.g.o),a_ (.lst (v.fl.map flD)),a_ (.lst (v.cs.map stD)),a_ (.lst (p.map prD)),a_ (.lst ((v.spL p).map stD)),a_ (.lst ((v.tms p (i+1)).map .int)),a_ (.int i),a_ (prD (qN p i)),a_ (flD (v.pf p i)),a_ (.int (v.t p i))]):=by rw[u];have q:prD (qN p i)=.tup [.int (qN p i).1,.int (qN p i).2]:=rfl;rw[q];simp only[flD]at t ⊢;simp[hW,ng,t,s,eU,z,C,ev,w,x,-An]
  rw[hd,u_,eC,bG];have U:d7 (.tp [6,7]) (.tup [.int i,prD (qN p i)]) [a_ (ak CR CP v.g.rows v.g.o),a_ (.lst (v.fl.map flD)),a_ (.lst (v.cs.map stD)),a_ (.lst (p.map prD)),a_ (.lst ((v.spL p).map stD)),a_ (.lst ((v.tms p i).map .int)),a,Y,S,J]=.ok [a_ (ak CR CP v.g.rows v.g.o),a_ (.lst (v.fl.map flD)),a_ (.lst (v.cs.map stD)),a_ (.lst (p.map prD)),a_ (.lst ((v.spL p).map stD)),a_ (.lst ((v.tms p i).map .int)),a_ (.int i),a_ (prD (qN p i)),S,J]:=rfl;rw[U,au,y,au];exact e
theorem Bf(n:Nat)(U:CR≠CP)(hv:v.Good)(Y:v.Pl p)(J:p.length<=40)(S:∀j,j<p.length->v.okT p j):jN CR CP CL n [ak CR CP v.g.rows v.g.o,.lst (v.fl.map flD),.lst (v.cs.map stD),.lst (p.map prD)]=.ok (.lst ((v.tms p p.length).map .int)):=by obtain⟨f,d,c,b,e⟩:=mK CR CP CL n U hv Y J S p.length 0 g_ g_ g_ g_ ad;have a:v.tms p 0=[]:=rfl;rw[Js,a]at e;simp at e;simp[jN,rG,(spots_ok n hv Y J),e]
theorem mX(n:Nat)(k:Nat)(fl:List Fli)(g:∀f∈fl,i4 k f)(b a:Option A'):∀(J:List cI) (ts:aG) (c:Int) (U S:Option A'),(∀p∈J,0<=p.1/\p.1<fl.length)->∃j i,
  bG (.tp [4,5]) (gA) (k7 (J.map stD) (ts.map .int)) [a_ (.lst (fl.map flD)),b,a,a_ (.int c),U,S]=.ok (.nx [a_ (.lst (fl.map flD)),b,a,a_ (.int (c+(ke fl J ts).sum)),j,i])
 |[],ts,c,U,S,_=>⟨U,S,by simp[k7,bG,ke]⟩|q::J,[],c,U,S,_=>⟨U,S,by simp[k7,bG,ke]⟩|q::J,t::ts,c,U,S,h=>by
  obtain⟨u,h1⟩:=h q aj;obtain⟨v,r⟩:=BX u h1;have l:=g _ r;obtain⟨j,i,e⟩:=mX n k fl g b a J ts _ _ _ λp o=>h p (by simp[o]);refine⟨j,i,?_⟩
  have d:pU _ _=.ok (.int (A4 (dh fl q.1) t)):=e_mulL (by have:=l.p0;have:=l.p1;simp;lia)
  have s:gA [a_ (.lst (fl.map flD)),b,a,a_ (.int c),a_ (stD q),a_ (.int t)]=.ok (.nx [a_ (.lst (fl.map flD)),b,a,a_ (.int (c+A4 (dh fl q.1) t)),a_ (stD q),a_ (.int t)]):=by simp[gA,stD,v,flD,d,]
  have m:c+(ke fl (q::J) (t::ts)).sum=c+A4 (dh fl q.1) t+(ke fl J ts).sum:=by simp[ke];lia
  rw[u_,u_,k7,bG,m];have Y:d7 (.tp [4,5]) (.tup [stD q,.int t]) [a_ _,b,a,a_ _,U,S]=.ok [a_ (.lst (fl.map flD)),b,a,a_ (.int c),a_ _,a_ _]:=rfl;rw[Y,au,s];exact e
end
theorem wV(fl:List Fli):∀(J:List cI) (ts:aG) (q:cI) (t:Int),ts.length=J.length->(ke fl (J++[q]) (ts++[t])).sum=(ke fl J ts).sum+A4 (dh fl q.1) t
 |[],ts,q,t,h=>by simp_all[ke]|a::J,[],q,t,h=>by simp at h|a::J,b::ts,q,t,h=>by have S:=wV fl J ts q t (by simpa using h);simp[OW,ke,List.sum_cons];lia
theorem V.wO(v:V)(p:List (Nat×Nat)):∀i,i<=p.length->(ke v.fl (toS (p.take i)) (v.tms p i)).sum=v.cst p i
 |0,_=>by rfl|i+1,h=>by
  have e1:toS (p.take (i+1))=toS (p.take i)++[(((qN p i).1:Int),((qN p i).2:Int))]:=by rw[lP ad];unfold toS;rw[JO];rfl
  have e2:v.tms p (i+1)=v.tms p i++[v.t p i]:=rfl;rw[e1,e2,wV _ _ _ _ _ (by rw[v.ji];simp[toS];lia),(v.wO p i ad)];rfl
section
variable(CR CP CL:k_)
theorem pH(n:Nat)(hv:v.Good)(b:v.Pl p)(a:p.length<=40):jt [.lst (v.fl.map flD),.lst (p.map prD),.lst ((v.tms p p.length).map .int)]=.ok (.int (v.cst p p.length))/\gG [.lst (v.fl.map flD),.lst (p.map prD),.lst ((v.tms p p.length).map .int)]=.ok (.int (v.cst p p.length)):=by
 have S:∀q∈toS p,0<=q.1/\q.1<v.fl.length:=λq Y=>by obtain⟨x,U,rfl⟩:=FG.mp Y;have:=(b x U).1;simp_all
 have J:=v.wO p p.length (o_ _);rw[Kt]at J;have h1:=cost_ok n v.g.k v.fl hv.fl _ (v.tms p p.length) S (by simp[toS];lia);obtain⟨d,c,e⟩:=mX n v.g.k v.fl hv.fl (a_ (.lst (p.map prD))) (a_ (.lst ((v.tms p p.length).map .int))) _ _ 0 g_ g_ S;rw[J]at h1 e;rw[<- prD_toS]at h1 e;refine⟨h1,?_⟩
 simp[gG,pe,e]
end
def NS(o:A')(s:Int):Prop:=(o=.non/\s=1)\/(∃J,o=aK J)/\s=2
section
variable(CR CP CL:k_)
def CV(n:Nat)(U:CR≠CP){o:A'}{s:Int}(h:NS o s)(fo:ah->M A')(ρ:ah)(c:fo ρ=.ok (ak CR CP rows o)):cf CR CP "many_strips" (aI) (aN) fo av ρ=.ok (.int s):=by
 unfold cf;rw[c,au];rcases h with⟨J,S⟩|⟨⟨b,J⟩,S⟩
 .have a:isC CR "many_strips" (ak CR CP rows o)=f_:=by
   rw[J];show((CR==CR)&&(Gj ("many_strips":FU) [("gaps",aK rows)]).isNone)=f_;rw[lookM1];simp
  rw[p_ a];simp[aI,dM,S]
 .have a:isC CR "many_strips" (ak CR CP rows o)=c_:=by
   rw[J];show((CP==CR)&&(Gj ("many_strips":FU) [("gaps",aK rows),("beside",aK b)]).isNone)=c_;have:(CP==CR)=c_:=by simp;exact λz=>U z.symm
   rw[this];rfl
  have Y:isC CP "many_strips" (ak CR CP rows o)=f_:=by rw[J];show((CP==CP)&&(Gj ("many_strips":FU) [("gaps",aK rows),("beside",aK b)]).isNone)=f_;rw[lookM2];simp
  rw[q_ (by rw[a];simp),p_ Y];simp[aN,eA,S]
end
def addK_mem{k x:Int}:x∈AN ks k↔x∈ks\/x=k:=by
 unfold AN;split
 .next h=>exact⟨.inl,λz=>z.elim id λe=>e▸h⟩
 .simp
theorem Ak:∀(J ks:aG) (x:Int),x∈J.foldl AN ks↔x∈ks\/x∈J
 |[],ks,x=>by simp|i::J,ks,x=>by rw[Gw,Ak J _ x,addK_mem];simp[or_assoc]
def there(ks:aG):aG:=dK ltZ (keysOf ks)
def il(ks:aG)(x:Int):x∈there ks↔x∈ks:=by unfold there keysOf;rw[(bp _).mem_iff,Ak];simp
theorem v5(ks:aG):(there ks).length<=ks.length:=by unfold there keysOf;rw[(bp _).length_eq];have:=nR ks [];simp_all
noncomputable def many1(ks:aG)(x y:Int):Bool:= !decide (x=y)||s_ (1<ks.countP (·==x))
def prs(ks:aG):List cI:=(there ks).flatMap λx=>((there ks).filter (many1 ks x)).map λy=>(x,y)
def Dr{p:cI}:p∈prs ks↔p.1∈ks/\p.2∈ks/\many1 ks p.1 p.2=f_:=by
 unfold prs;rw[HK];constructor
 .rintro⟨x,U,h⟩;obtain⟨y,S,rfl⟩:=FG.mp h;obtain⟨h1,J⟩:=Gv.mp S;exact⟨(il _ _).mp U,(il _ _).mp h1,J⟩
 .rintro⟨h1,J,Y⟩;exact⟨p.1,(il _ _).mpr h1,FG.mpr ⟨p.2,Gv.mpr ⟨(il _ _).mpr J,Y⟩,rfl⟩⟩
def vals(rows:List aG)(o:Option (List aG))(p:cI):aG:=match o with
 |none=>[at2 rows p.1 p.2]|some J=>[at2 rows p.1 p.2,at2 J p.1 p.2]
def oD:Option (List aG)->A'
 |none=>.non|some J=>aK J
noncomputable def nS:Option (List aG)->Int
 |none=>1|some _=>2
theorem tG:∀{xs:aG} {x:Int},(xs.foldl ky x=x\/xs.foldl ky x∈xs)/\xs.foldl ky x<=x/\∀y∈xs,xs.foldl ky x<=y
 |[],x=>⟨.inl rfl,Hw _,λ_ h=>nomatch h⟩
 |a::xs,x=>by
  obtain⟨h1,c,U⟩:=tG (xs:=xs) (x:=ky x a);obtain⟨b,Y,J⟩:=yn x a;rw[Gw];refine⟨?_,ad,λy S=>?_⟩
  .rcases h1 with h|h
   .rcases J with z|z
    .exact .inl (by rw[h,z])
    .exact .inr (by rw[h,z];simp)
   .exact .inr (by simp[h])
  .rcases n_.mp S with z|z
   .lia
   .exact U y z
section
variable(CR CP CL:k_)
theorem t5(n:Nat)(ks:aG)(S:Option A')(x:Int):∀(ys:aG) (J:List cI) (U:Option A'),J.length+ys.length<=100000->∃Y,
  bG (.nm 4) (dU) (ys.map .int) [a_ (.lst (ks.map .int)),S,a_ (.lst (J.map stD)),a_ (.int x),U]=.ok (.nx [a_ (.lst (ks.map .int)),S,a_ (.lst ((J++(ys.filter (many1 ks x)).map λy=>(x,y)).map stD)),a_ (.int x),Y])
 |[],J,U,_=>⟨U,by simp[bG]⟩|y::ys,J,U,h=>by
  have b:J.length<16777216:=ad
  have eb:dU [a_ (.lst (ks.map .int)),S,a_ (.lst (J.map stD)),a_ (.int x),a_ (.int y)]=.ok (.nx [a_ (.lst (ks.map .int)),S,a_ (.lst ((if many1 ks x y=f_ then J++[(x,y)]else J).map stD)),a_ (.int x),a_ (.int y)]):=by
   unfold many1;by_cases h1:x=y
   .subst h1;by_cases c:1<ks.countP (·==x)
    .simp[dU,hV,isL,c,b,stD];lia
    .simp[dU,hV,isL,c,];lia
   .simp[dU,hV,h1,b,stD]
  rw[u_,bG,show d7 _ _ [a_ _,S,a_ _,a_ _,U]=.ok [a_ _,S,a_ _,a_ _,a_ _]from rfl,au,eb];cases a:many1 ks x y with
  |true=>rw[M_ a];obtain⟨Y,e⟩:=t5 n ks S x ys (J++[(x,y)]) _ (by simp at h ⊢;lia);rw[Hf]at e;exact⟨Y,e⟩
  |false=>rw[Kv (by simp[a])];exact t5 n ks S x ys J _ (by simp at h ⊢;lia)
theorem vJ(n:Nat)(ks th:aG)(Y:th.length<=64):∀(xs:aG) (J:List cI) (U S:Option A'),J.length+xs.length*64<=10000->∃b a,
  bG (.nm 3) (hX) (xs.map .int) [a_ (.lst (ks.map .int)),a_ (.lst (th.map .int)),a_ (.lst (J.map stD)),U,S]=.ok (.nx [a_ (.lst (ks.map .int)),a_ (.lst (th.map .int)),a_ (.lst ((J++xs.flatMap λx=>(th.filter (many1 ks x)).map λy=>(x,y)).map stD)),b,a])
 |[],J,U,S,_=>⟨U,S,by simp[bG]⟩|x::xs,J,U,S,h=>by
  simp at h;obtain⟨a,e⟩:=t5 n ks (a_ (.lst (th.map .int))) x th J S ad;have d:(th.filter (many1 ks x)).length<=64:=Gg (KU _ _) Y;obtain⟨b,c,e2⟩:=vJ n ks th Y xs (J++(th.filter (many1 ks x)).map λy=>(x,y)) _ a (by simp;lia);have eb:hX [a_ (.lst (ks.map .int)),a_ (.lst (th.map .int)),a_ (.lst (J.map stD)),a_ (.int x),S]=.ok (.nx [a_ (.lst (ks.map .int)),a_ (.lst (th.map .int)),a_ (.lst ((J++(th.filter (many1 ks x)).map λy=>(x,y)).map stD)),a_ (.int x),a]):=by simp[hX,e]
  refine⟨b,c,?_⟩
  rw[u_,bG,show d7 _ _ [a_ _,a_ _,a_ _,U,S]=.ok [a_ _,a_ _,a_ _,a_ _,S]from rfl,au,eb,];rw[Hf]at e2;exact e2
theorem pairs_ok(n:Nat)(ks:aG)(h:ks.length<64):jQ [.lst (ks.map .int)]=.ok (.lst ((prs ks).map stD)):=by
 have Y:=v5 ks;have es:iO (.lst (ks.map .int))=.ok (.lst ((there ks).map .int)):=by show(bj _).bind (λU=>if (ks.map A'.int).length<64 then Hc _ else stk)=_;rw[cC,au,p_ (by simpa using h)];rfl
 obtain⟨S,J,e⟩:=vJ n ks (there ks) ad (there ks) [] g_ g_ (by simp;lia);have e:bG _ _ _ [a_ _,a_ _,a_ (.lst []),g_,g_]=.ok (.nx [a_ _,a_ _,a_ (.lst ((prs ks).map stD)),S,J]):=e;simp[jQ,rK,es,e]
theorem apart_ok(n:Nat)(d:CR≠CP){o:Option (List aG)}(j:bH k rows)(r:∀J,o=a_ J->bH k J){b:Int}(S:0<=a/\a<k)(Y:0<=b/\b<k)(s:Int)(i:s=0\/(s=1/\∃J,o=a_ J))(fo f1 m:ah->M A')(ρ:ah)(t:fo ρ=.ok (ak CR CP rows (oD o)))(h1:f1 ρ=.ok (.tup [.int a,.int 0]))(g:m ρ=.ok (.tup [.int b,.int s])):
  cf CR CP "apart" (bh CR CP CL n) (b8 CR CP CL n) fo (a9 f1 (a9 m av)) ρ=.ok (.int (if s=0 then at2 rows a b else at2 (o.getD []) a b)):=by
 obtain⟨h,_⟩:=tU j S.1 S.2;obtain⟨q1,_⟩:=getA j S.1 S.2 Y.1 Y.2;unfold cf;rw[t,au];cases o with
 |none=>
  have c:s=0:=by
   rcases i with z|⟨_,J,z⟩
   .exact z
   .cases z
  subst c;have l:isC CR "apart" (ak CR CP rows (oD g_))=f_:=by show((CR==CR)&&(Gj ("apart":FU) [("gaps",aK rows)]).isNone)=f_;rw[lookA1];simp
  have U:=m8 CR CP rows (oD g_) (.inl rfl);rw[p_ l];simp[h1,g,bh,iW,U,aK,h,iq,q1]
 |some J=>
  have g2:=r J rfl;obtain⟨p,_⟩:=tU g2 S.1 S.2;obtain⟨q,_⟩:=getA g2 S.1 S.2 Y.1 Y.2;have l:isC CR "apart" (ak CR CP rows (oD (a_ J)))=c_:=by
   show((CP==CR)&&(Gj ("apart":FU) [("gaps",aK rows),("beside",aK J)]).isNone)=c_;have:(CP==CR)=c_:=by simp;exact λz=>d z.symm
   rw[this];rfl
  have e:isC CP "apart" (ak CR CP rows (oD (a_ J)))=f_:=by show((CP==CP)&&(Gj ("apart":FU) [("gaps",aK rows),("beside",aK J)]).isNone)=f_;rw[lookA2];simp
  have U:=m8 CR CP rows (oD (a_ J)) (.inr ⟨_,rfl⟩);have f:pO [CP] "beside" (ak CR CP rows (oD (a_ J)))=.ok (aK J):=xm CR CP rows J;rw[q_ as,p_ e];rcases i with z|⟨z,_⟩
  .subst z;simp[h1,g,b8,fJ,U,aK,h,iq,q1]
  .subst z;simp[h1,g,b8,fJ,U,f,aK,p,iq,q]
theorem sf(n:Nat)(c:CR≠CP){k:Nat}{rows:List aG}{o:Option (List aG)}(w:bH k rows)(x:∀b,o=a_ b->bH k b)(S:Option A'):∀(ps:List cI) (J:aG) (f d Y:Option A'),(∀p∈ps,(0<=p.1/\p.1<k)/\0<=p.2/\p.2<k)->J.length+2*ps.length<=100000->∃l j g,
  bG (.tp [3,4]) (cU CR CP CL n) (ps.map stD) [a_ (ak CR CP rows (oD o)),S,a_ (.lst (J.map .int)),f,d,Y]=.ok (.nx [a_ (ak CR CP rows (oD o)),S,a_ (.lst ((J++ps.flatMap (vals rows o)).map .int)),l,j,g])
 |[],J,f,d,Y,_,_=>⟨f,d,Y,by simp[bG]⟩|p::ps,J,f,d,Y,h,i=>by
  simp at i;obtain⟨B,A⟩:=h p aj;have r:NS (oD o) (nS o):=by
   cases o with
   |none=>exact .inl ⟨rfl,rfl⟩|some b=>exact .inr ⟨⟨b,rfl⟩,rfl⟩
  have a:∀(s:Int) (J:aG) (i:J.length<16777216) (v:s=0\/(s=1/\∃b,o=a_ b)),gO CR CP CL n [a_ (ak CR CP rows (oD o)),S,a_ (.lst (J.map .int)),a_ (.int p.1),a_ (.int p.2),a_ (.int s)]=.ok (.nx [a_ (ak CR CP rows (oD o)),S,a_ (.lst ((J++[if s=0 then at2 rows p.1 p.2 else at2 (o.getD []) p.1 p.2]).map .int)),a_ (.int p.1),a_ (.int p.2),a_ (.int s)]):=by intro s J i v;have e:=apart_ok CR CP CL n c w x B A s v (af 0) (fL cb (a9 (af 3) (a9 (fC (.int 0)) av))) (fL cb (a9 (af 4) (a9 (af 5) av))) [a_ (ak CR CP rows (oD o)),S,g_,a_ (.int p.1),a_ (.int p.2),a_ (.int s)] aj aj aj;simp[gO,e,i]
  obtain⟨g,eb⟩:∃g,cU CR CP CL n [a_ (ak CR CP rows (oD o)),S,a_ (.lst (J.map .int)),a_ (.int p.1),a_ (.int p.2),Y]=.ok (.nx [a_ (ak CR CP rows (oD o)),S,a_ (.lst ((J++vals rows o p).map .int)),a_ (.int p.1),a_ (.int p.2),g]):=by
   have U:=CV CR CP n c (rows:=rows) r (af 0) [a_ (ak CR CP rows (oD o)),S,g_,a_ (.int p.1),a_ (.int p.2),Y] aj;have m:=a 0 J ad (.inl rfl);cases o with
   |none=>
    have t:jJ [.int 1]=.ok [.int 0]:=by simp[aE]
    simp only[nS]at U;simp[cU,U,t,bG,m,vals]
   |some b=>
    have t:jJ [.int 2]=.ok [.int 0,.int 1]:=by simp[aE,L5]
    have u:=a 1 (J++[at2 rows p.1 p.2]) (by simp;lia) (.inr ⟨rfl,b,rfl⟩);simp only[nS]at U;simp[cU,U,t,bG];simp at m u;simp[m,u,vals]
  obtain⟨l,j,y,e2⟩:=sf n c w x S ps (J++vals rows o p) (a_ (.int p.1)) (a_ (.int p.2)) g (λq z=>h q (by simp[z])) (by
   have:(vals rows o p).length<=2:=by cases o<;>simp[vals]
   simp;lia)
  refine⟨l,j,y,?_⟩
  rw[u_,bG,show d7 (.tp [3,4]) (stD p) [a_ (ak CR CP rows (oD o)),S,a_ (.lst (J.map .int)),f,d,Y]=.ok [a_ (ak CR CP rows (oD o)),S,a_ (.lst (J.map .int)),a_ (.int p.1),a_ (.int p.2),Y]from rfl,au,eb,au,OH];rw[Hf]at e2;exact e2
end
section
variable(CR CP CL:k_)
theorem prs_len(ks:aG)(h:ks.length<64):(prs ks).length<=64*64:=by
 unfold prs;have S:=v5 ks;have key:∀xs:aG,(xs.flatMap λx=>((there ks).filter (many1 ks x)).map λy=>(x,y)).length<=xs.length*64:=by
  intro xs
  induction xs with
  |nil=>simp|cons x xs J=>have:=KU (many1 ks x) (there ks);simp only[OH,Gs,w_,FK];lia
 grind
theorem least_ok(n:Nat)(S:CR≠CP){o:Option (List aG)}(b:bH k rows)(f:∀U,o=a_ U->bH k U)(J:∀x∈ks,0<=x/\x<k)(a:ks.length<64):
  e8 CR CP CL n [ak CR CP rows (oD o),.lst (ks.map .int)]=minD [.lst (((prs ks).flatMap (vals rows o)).map .int)]:=by
 have ep:=pairs_ok n ks a;have c:=prs_len ks a;obtain⟨j,i,h,e⟩:=sf CR CP CL n S b f (a_ (.lst (ks.map .int))) _ [] g_ g_ g_ (λp d=>by obtain⟨h1,g,_⟩:=Dr.mp d;exact⟨J _ h1,J _ g⟩) (by simp;lia)
 simp at e;generalize Y:minD [.lst _]=z;cases z with
 |ok v=>simp[e8,iU,ep,e,Y]|error x=>simp[e8,iU,ep,e,Y]
noncomputable def cu(fl:List Fli)(J:aG):aG:=J.map λi=>(dh fl i).kind
theorem uo(fl:List Fli)(j:Int)(g:Fli->Int)(S:∀f,jW [.int f.kind,.int f.first,.int f.last,.int f.due,.int f.price] j=.ok (.int (g f))):∀J:aG,(∀i∈J,0<=i/\i<fl.length) ->
  aQ (.nm 0) iG (f2 ixD (f2 ixD (af 1) (af 0)) (fC (.int j))) [g_,a_ (.lst (fl.map flD))] (J.map .int)=.ok ((J.map λi=>g (dh fl i)).map .int)
 |[],_=>rfl|i::J,h=>by obtain⟨Y,h1⟩:=h i aj;obtain⟨e,_⟩:=BX Y h1;rw[u_,aQ];simp[flD]at e;simp[e,(S (dh fl i)),(uo fl j g S J λx U=>h x (by simp[U]))]
noncomputable def lawP(J:aG):List cI:=J.flatMap λi=>(J.filter λj=> !decide (i=j)).map λj=>(i,j)
def lg{J:aG}{p:cI}:p∈lawP J↔p.1∈J/\p.2∈J/\p.1≠p.2:=by
 unfold lawP;rw[HK];constructor
 .rintro⟨x,Y,h⟩;obtain⟨y,U,rfl⟩:=FG.mp h;obtain⟨h1,S⟩:=Gv.mp U;exact⟨Y,h1,by simpa using S⟩
 .rintro⟨h1,S,a⟩;exact⟨p.1,h1,FG.mpr ⟨p.2,Gv.mpr ⟨S,by simpa using a⟩,rfl⟩⟩
noncomputable def kk(fl:List Fli)(p:cI):cI:=((dh fl p.1).kind,(dh fl p.2).kind)
theorem wU{fl:List Fli}:∀{J:aG},J.Nodup->∀{k:Int},1<(cu fl J).countP (·==k)->∃i∈J,∃j∈J,i≠j/\(dh fl i).kind=k/\(dh fl j).kind=k
 |[],_,k,h=>by simp[cu]at h|i::J,S,k,h=>by
  have S:=IB.mp S;unfold cu at h;rw[u_,Kw]at h;by_cases U:(dh fl i).kind=k
  .rw[p_ (by simpa using U)]at h;have:0<(cu fl J).countP (·==k):=by unfold cu;lia
   obtain⟨x,c,e⟩:=N5.mp this;obtain⟨j,Y,rfl⟩:=FG.mp c;exact⟨i,aj,j,by simp[Y],λz=>S.1 (z▸Y),U,by simpa using e⟩
  .rw[q_ (by simpa using U)]at h;obtain⟨a,f,b,d,r⟩:=wU (fl:=fl) S.2 (k:=k) (by unfold cu;lia);exact⟨a,by simp[f],b,by simp[d],r⟩
theorem uU{fl:List Fli}:∀{J:aG} {i j:Int},i∈J->j∈J->i≠j->(dh fl i).kind=(dh fl j).kind->1<(cu fl J).countP (·==(dh fl i).kind)
 |[],i,j,h,_,_,_=>by simp at h|x::J,i,j,hi,Y,S,e=>by
  unfold cu;rw[u_,Kw];have pos:∀y∈J,(dh fl y).kind=(dh fl i).kind->0<(J.map λi=>(dh fl i).kind).countP (·==(dh fl i).kind):=λy a b=>N5.mpr ⟨_,I_ a,by simpa using b⟩;rcases n_.mp hi with z|z
  .subst z;rcases n_.mp Y with z|z
   .exact FN z.symm S
   .have:=pos j z e.symm;rw[p_ aj];lia
  .rcases n_.mp Y with U|U
   .subst U;have:=pos i z rfl;rw[p_ (by simpa using e.symm)];lia
   .have:=uU z U S e;unfold cu at this;lia
theorem rl{S:aG}(e:S.Nodup)(p:cI):p∈prs (cu fl S)↔∃q∈lawP S,kk fl q=p:=by
 rw[Dr];constructor
 .rintro⟨h1,Y,U⟩;obtain⟨i,hi,e1⟩:=FG.mp h1;obtain⟨j,f,e2⟩:=FG.mp Y;unfold many1 at U;by_cases J:p.1=p.2
  .have k:1<(cu fl S).countP (·==p.1):=by simpa[J] using U
   obtain⟨a,h,b,g,c,ea,eb⟩:=wU e k;exact⟨(a,b),lg.mpr ⟨h,g,c⟩,by unfold kk;rw[ea,eb];exact LI rfl J⟩
  .refine⟨(i,j),lg.mpr ⟨hi,f,λz=>J ?_⟩,?_⟩
   .simp_all
   .exact LI e1 e2
 .rintro⟨q,d,rfl⟩;obtain⟨h1,Y,U⟩:=lg.mp d;refine⟨I_ h1,I_ Y,?_⟩
  unfold many1 kk;by_cases J:(dh fl q.1).kind=(dh fl q.2).kind
  .have:=uU h1 Y U J;simp[this]
  simp_all
def o8{o:Option (List aG)}{J:aG}(U:J.Nodup)(x:Int):x∈(prs (cu fl J)).flatMap (vals rows o)↔x∈(lawP J).flatMap λq=>vals rows o (kk fl q):=by
 rw[HK,HK];constructor
 .rintro⟨p,Y,h⟩;obtain⟨q,S,e⟩:=(rl U p).mp Y;exact⟨q,S,by rw[e];exact h⟩
 .rintro⟨q,S,h⟩;exact⟨_,(rl U _).mpr ⟨q,S,rfl⟩,h⟩
def xy{o:Option (List aG)}{J:aG}(S:J.Nodup)(a:2<=J.length):((lawP J).flatMap λq=>vals rows o (kk fl q))≠[]:=by
 match J,S,a with
 |i::j::r,S,_=>
  have U:i≠j:=λz=>by have:=(IB.mp S).1;exact this (by simp[z])
  have Y:(i,j)∈lawP (i::j::r):=lg.mpr ⟨aj,aj,U⟩;intro e;have:at2 rows (kk fl (i,j)).1 (kk fl (i,j)).2∈(lawP _).flatMap λq=>vals rows o (kk fl q):=HK.mpr ⟨_,Y,by cases o<;>simp[vals]⟩;rw[e]at this;cases this
end
noncomputable def upto(m:Nat):aG:=(A1 m).map λk:Nat=>(k:Int)
def upto_len(m:Nat):(upto m).length=m:=by simp[upto]
theorem Ba(m:Nat):(upto m).Nodup:=by unfold upto;rw[List.Nodup,LJ];exact List.nodup_range.imp λh=>by lia
theorem upto_mem{x:Int}:x∈upto m↔0<=x/\x<m:=by
 constructor
 .intro h;obtain⟨j,J,rfl⟩:=FG.mp h;simp_all
 .intro h;exact FG.mpr ⟨x.toNat,C_.mpr ad,ad⟩
theorem kC{β:Type}(f:Int->Option β):∀{l:aG},l.Pairwise (·<=·)->match l.findSome? f with
  |none=>∀x∈l,f x=g_|some r=>∃x∈l,f x=a_ r/\∀y∈l,y<x->f y=g_
 |[],_=>by simp|a::l,h=>by
  obtain⟨h1,c⟩:=Hm.mp h;have S:=kC f c;rw[Li];cases b:f a with
  |some r=>exact⟨a,aj,b,λy U J=>by
    rcases n_.mp U with z|z
    .lia
    .have:=h1 y z;lia⟩
  |none=>
   cases e:l.findSome? f with
   |none=>
    rw[e]at S;intro x Y;rcases n_.mp Y with z|z
    .rw[z];exact b
    .exact S x z
   |some r=>
    rw[e]at S;obtain⟨x,Y,e1,e2⟩:=S;exact⟨x,by simp[Y],e1,λy U J=>by
     rcases n_.mp U with z|z
     .rw[z];exact b
     .exact e2 y z J⟩
def wk{β:Type}(f:Int->Option β){l m:aG}(g:l.Pairwise (·<=·))(d:m.Pairwise (·<=·))(h:∀x,x∈l↔x∈m):l.findSome? f=m.findSome? f:=by
 have a:=kC f g;have b:=kC f d;cases e1:l.findSome? f with
 |none=>
  rw[e1]at a;cases e2:m.findSome? f with
  |none=>rfl|some r=>rw[e2]at b;obtain⟨x,U,e,_⟩:=b;rw[a x ((h x).mpr U)]at e;cases e
 |some r=>
  rw[e1]at a;obtain⟨x,U,ex,S⟩:=a;cases e2:m.findSome? f with
  |none=>rw[e2]at b;rw[b x ((h x).mp U)]at ex;cases ex|some r'=>
   rw[e2]at b;obtain⟨y,c,Y,J⟩:=b;have:x=y:=by
    rcases OX x y with z|z|z
    .rw[J x ((h x).mp U) z]at ex;cases ex
    .exact z
    .rw[S y ((h y).mpr c) z]at Y;cases Y
   subst this;rw[ex]at Y;exact Y
theorem nV(l:aG):(dK ltZ l).Pairwise (·<=·):=(dQ ordZ l).imp λ{x y} h=>by have:=of_decide_eq_false h;lia
noncomputable def inB(fl:List Fli)(a b k:Int):Bool:=s_ (a<=(dh fl k).first)&&s_ ((dh fl k).last<=b)
def btw(fl:List Fli)(a b:Int):aG:=(upto fl.length).filter (inB fl a b)
def btw_len(fl:List Fli)(a b:Int):(btw fl a b).length<=fl.length:=by have:=KU (inB fl a b) (upto fl.length);rw[upto_len]at this;exact this
theorem rQ:∀(fl J:List Fli),eC J.length (fl.map flD)=((NL J.length fl.length).map λk:Nat=>A'.tup [.int k,flD (dh (J++fl) k)])
 |[],J=>rfl|f::fl,J=>by have S:=rQ fl (J++[f]);simp_all[Gs,NG,u_,eC,FK,OT,dh]
section
variable(CR CP CL:k_)
theorem AA(fl:List Fli)(a b:Int):∀ks:bb,(∀k∈ks,k<fl.length)->aQ (.tp [0,1]) (fAnd (fB (f2 leD (af 2) (f2 ixD (af 1) (fC (.int 1))))) (fB (f2 leD (f2 ixD (af 1) (fC (.int 2))) (af 3)))) (af 0) [g_,g_,a_ (.int a),a_ (.int b)] (ks.map λk:Nat=>A'.tup [.int k,flD (dh fl k)])=.ok (((ks.map λk:Nat=>(k:Int)).filter (inB fl a b)).map .int)
 |[],_=>rfl|k::ks,h=>by
  have J:=AA fl a b ks λx U=>h x (by simp[U]);rw[u_,aQ,u_];by_cases h1:a<=(dh fl k).first
  .by_cases S:(dh fl k).last<=b
   .rw[M_ (by simp[inB,h1,S])];simp[flD]at J ⊢;simp[h1,S,J]
   simp_all[Kv,inB,flD]
  .rw[Kv (by simp[inB,h1])];simp[flD]at J ⊢;simp[h1,J]
theorem Cj(n:Nat)(fl:List Fli)(U:fl.length<=1000)(a b:Int):cZ [.lst (fl.map flD),.int a,.int b]=.ok (.lst ((btw fl a b).map .int)):=by
 have e1:=rQ fl [];rw[KP,L7,<- NK]at e1;have e2:=AA fl a b _ λk S=>C_.mp S;rw[<- e1]at e2;have e2:aQ _ _ _ [g_,g_,a_ _,a_ _] _=.ok ((btw fl a b).map .int):=e2;have J:(eC 0 (fl.map flD)).length<=16777216:=by rw[e1,w_,He];lia
 simp[cZ,iC,e2,J]
def cw(J:aG->Bool)(fl:List Fli)(a b:Int):Option A':=if J (btw fl a b)=f_ then a_ (.lst ((btw fl a b).map .int))else g_
noncomputable def early(x:Option A')(ρ:ah):M B4:=match x with
 |some r=>.ok (.rt r)|none=>.ok (.nx ρ)
noncomputable def told(x:Option A'):A':=x.getD .non
def answer(J:aG->Bool)(fl:List Fli):Option A':=(dK ltZ (fl.map λf=>f.first)).findSome? λa=>(dK ltZ (fl.map λf=>f.last)).findSome? λb=>cw J fl a b
def set_ok(xs:aG)(h:xs.length<64):iO (.lst (xs.map .int))=.ok (.lst ((there xs).map .int)):=by show(bj _).bind (λJ=>if (xs.map A'.int).length<64 then Hc _ else stk)=_;rw[cC,au,p_ (by simpa using h)];rfl
def EZ(fl:List Fli):aQ (.nm 0) iG (f2 ixD (af 0) (fC (.int 1))) [g_] (fl.map flD)=.ok ((fl.map λf=>f.first).map .int):=by
 have:=dC (p:=.nm 0) (fe:=f2 ixD (af 0) (fC (.int 1))) (ρ0:=[g_]) (λd=>match d with|.tup [_,x,_,_,_]=>x|_=>.non) (fl.map flD) (λd hd=>by obtain⟨f,_,rfl⟩:=FG.mp hd;exact⟨[a_ (flD f)],aj,by simp[flD]⟩)
 rw[this,FJ,FJ];rfl
def EY(fl:List Fli):aQ (.nm 0) iG (f2 ixD (af 0) (fC (.int 2))) [g_] (fl.map flD)=.ok ((fl.map λf=>f.last).map .int):=by
 have:=dC (p:=.nm 0) (fe:=f2 ixD (af 0) (fC (.int 2))) (ρ0:=[g_]) (λd=>match d with|.tup [_,_,x,_,_]=>x|_=>.non) (fl.map flD) (λd hd=>by obtain⟨f,_,rfl⟩:=FG.mp hd;simp[flD])
 rw[this,FJ,FJ];rfl
theorem wR(n:Nat){fl:List Fli}(i:fl.length<64){S:A'}{f:aG->Bool}(k:∀d:aG,(∀j∈d,0<=j/\j<fl.length)->d.Nodup->d.length<64->cY CR CP CL n [S,.lst (fl.map flD),.lst (d.map .int)]=.ok (.bl (f d)))(Y U:Option A')(a:Int):∀(g:aG) (c J:Option A'),∃o m,
  bG (.nm 5) (fO CR CP CL n) (g.map .int) [a_ S,a_ (.lst (fl.map flD)),Y,U,a_ (.int a),c,J]=early (g.findSome? λb=>cw f fl a b) [a_ S,a_ (.lst (fl.map flD)),Y,U,a_ (.int a),o,m]
 |[],c,J=>⟨c,J,rfl⟩|b::g,c,J=>by
  have e:=Cj n fl ad a b;have h:=k (btw fl a b) (λj s=>upto_mem.mp (Gv.mp s).1) ((Ba _).sublist (List.filter_sublist)) (by have:=btw_len fl a b;lia);have eb:fO CR CP CL n [a_ S,a_ (.lst (fl.map flD)),Y,U,a_ (.int a),a_ (.int b),J]=early (cw f fl a b) [a_ S,a_ (.lst (fl.map flD)),Y,U,a_ (.int a),a_ (.int b),a_ (.lst ((btw fl a b).map .int))]:=by
   unfold cw;cases l:f (btw fl a b)with
   |true=>rw[l]at h;simp[fO,e,jF,h,early]|false=>rw[l]at h;simp[fO,e,jF,h,early]
  obtain⟨q,p,e2⟩:=wR n i k Y U a g (a_ (.int b)) (a_ (.lst ((btw fl a b).map .int)));refine⟨q,p,?_⟩
  rw[u_,bG,show d7 (.nm 5) (.int b) [a_ S,a_ (.lst (fl.map flD)),Y,U,a_ (.int a),c,J]=.ok [a_ S,a_ (.lst (fl.map flD)),Y,U,a_ (.int a),a_ (.int b),J]from rfl,au,eb,Li];cases hw:cw f fl a b with
  |some r=>rfl|none=>exact e2
theorem wQ(n:Nat){fl:List Fli}(g:fl.length<64){c:A'}{k:aG->Bool}(l:∀f:aG,(∀j∈f,0<=j/\j<fl.length)->f.Nodup->f.length<64->cY CR CP CL n [c,.lst (fl.map flD),.lst (f.map .int)]=.ok (.bl (k f)))(Y:Option A')(J:aG):∀(fs:aG) (d U S:Option A'),∃m i h,
  bG (.nm 4) (hZ CR CP CL n) (fs.map .int) [a_ c,a_ (.lst (fl.map flD)),Y,a_ (.lst (J.map .int)),d,U,S]=early (fs.findSome? λa=>J.findSome? λb=>cw k fl a b) [a_ c,a_ (.lst (fl.map flD)),Y,a_ (.lst (J.map .int)),m,i,h]
 |[],d,U,S=>⟨d,U,S,rfl⟩|a::fs,d,U,S=>by
  obtain⟨i,h,e⟩:=wR CR CP CL n g l Y _ a J U S;have eb:hZ CR CP CL n [a_ c,a_ (.lst (fl.map flD)),Y,a_ (.lst (J.map .int)),a_ (.int a),U,S]=early (J.findSome? λb=>cw k fl a b) [a_ c,a_ (.lst (fl.map flD)),Y,a_ (.lst (J.map .int)),a_ (.int a),i,h]:=by rw[<- e];simp[hZ]
  obtain⟨q,p,o,e2⟩:=wQ n g l Y J fs _ i h;refine⟨q,p,o,?_⟩
  rw[u_,bG,show d7 _ _ [a_ c,a_ _,Y,a_ _,d,U,S]=.ok [a_ c,a_ _,Y,a_ _,a_ _,U,S]from rfl,au,eb,Li];cases hw:J.findSome? λb=>cw k fl a b with
  |some r=>rfl|none=>exact e2
theorem crowd_ok(n:Nat)(U:fl.length<64){d:A'}{J:aG->Bool}(l:∀S:aG,(∀j∈S,0<=j/\j<fl.length)->S.Nodup->S.length<64->cY CR CP CL n [d,.lst (fl.map flD),.lst (S.map .int)]=.ok (.bl (J S))):f7 CR CP CL n [d,.lst (fl.map flD)]=.ok (told (answer J fl)):=by
 have c:=set_ok (fl.map λf=>f.first) as;have Y:=set_ok (fl.map λf=>f.last) as;have k:=EZ fl;have i:=EY fl;have g:fl.length<=16777216:=ad
 obtain⟨p,o,m,e⟩:=wQ CR CP CL n U l (a_ (.lst ((there (fl.map λf=>f.first)).map .int))) (there (fl.map λf=>f.last)) (there (fl.map λf=>f.first)) g_ g_ g_;have ea:((there (fl.map λf=>f.first)).findSome? λa=>(there (fl.map λf=>f.last)).findSome? λb=>cw J fl a b)=answer J fl:=by
  have h1:∀a,((there (fl.map λf=>f.last)).findSome? λb=>cw J fl a b)=(dK ltZ (fl.map λf=>f.last)).findSome? λb=>cw J fl a b:=λa=>wk _ (nV _) (nV _) λx=>by rw[il,(bp _).mem_iff]
  simp[h1];exact wk _ (nV _) (nV _) λx=>by rw[il,(bp _).mem_iff]
 rw[ea]at e;cases h:answer J fl with
 |none=>rw[h]at e;simp[early]at e;simp[f7,md,k,i,g,c,Y,e,told,-FJ]|some r=>rw[h]at e;simp[early]at e;simp[f7,md,k,i,g,c,Y,e,told,-FJ]
end
structure Crowd(rows:List aG)(o:Option (List aG))(fl:List Fli)(is:aG)(v lo hi:Int):Prop where
 gap:∀i∈is,∀j∈is,i≠j->∀x∈vals rows o (kk fl (i,j)),v<=x
 win:∀i∈is,lo<=(dh fl i).first/\(dh fl i).last<=hi
 room:hi-lo<v*((is.length:Int)-1)
 two:2<=is.length
 nod:is.Nodup
 rng:∀i∈is,0<=i/\i<fl.length
section
variable(CR CP CL:k_)
theorem crowd_is(n:Nat)(w:CR≠CP){o:Option (List aG)}(R:bH k rows)(T:∀I,o=a_ I->bH k I)(F:∀f∈fl,0<=f.kind/\f.kind<k){J:aG}(U:∀j∈J,0<=j/\j<fl.length)(e:J.Nodup)(W:J.length<64):
  ∃b,cY CR CP CL n [ak CR CP rows (oD o),.lst (fl.map flD),.lst (J.map .int)]=.ok (.bl b)/\(b=f_->∃v lo hi,Crowd rows o fl J v lo hi):=by
 by_cases N:J.length<2
 .have c:(J.length:Int)<2:=ad
  exact⟨c_,by simp[cY,m9,jE,c],λz=>by cases z⟩
 .have c:¬(J.length:Int)<2:=ad
  have c1:=uo fl 1 (λf=>f.first) (λf=>by simp) J U;have c2:=uo fl 2 (λf=>f.last) (λf=>by simp) J U;have c0:=uo fl 0 (λf=>f.kind) (λf=>by simp) J U;obtain⟨Y,r,g⟩:∃Y r,J=Y::r:=by
   cases J with
   |nil=>simp_all|cons a b=>exact⟨a,b,rfl⟩
  obtain⟨lo,G,A⟩:∃lo,minD [.lst ((J.map λi=>(dh fl i).first).map .int)]=.ok (.int lo)/\∀i∈J,lo<=(dh fl i).first:=by
   obtain⟨_,p,l⟩:=tG (xs:=r.map λi=>(dh fl i).first) (x:=(dh fl Y).first);refine⟨(r.map λi=>(dh fl i).first).foldl ky (dh fl Y).first,?_,?_⟩
   .rw[g];show(bj (((Y::r).map λi=>(dh fl i).first).map .int)).bind minL=_;rw[cC,au];rfl
   .rw[g];intro i hi;rcases n_.mp hi with z|z
    .rw[z];exact p
    .exact l _ (I_ z)
  obtain⟨hi,H,E⟩:∃hi,maxD [.lst ((J.map λi=>(dh fl i).last).map .int)]=.ok (.int hi)/\∀i∈J,(dh fl i).last<=hi:=by
   obtain⟨_,p,l⟩:=Lake.fold_max (r.map λi=>(dh fl i).last) (dh fl Y).last;refine⟨(r.map λi=>(dh fl i).last).foldl eY (dh fl Y).last,?_,?_⟩
   .rw[g];show(bj (((Y::r).map λi=>(dh fl i).last).map .int)).bind maxL=_;rw[cC,au];rfl
   .rw[g];intro i hi;rcases n_.mp hi with z|z
    .rw[z];exact p
    .exact l _ (I_ z)
  have B:∀x∈cu fl J,0<=x/\x<k:=λx s=>by obtain⟨i,S,rfl⟩:=FG.mp s;obtain⟨_,m⟩:=BX (U i S).1 (U i S).2;exact F _ m
  have C:(cu fl J).length<64:=by unfold cu;rw[w_];exact W
  have e1:=least_ok CR CP CL n w R T B C;have t:=xy (rows:=rows) (o:=o) (fl:=fl) e ad;have u:((prs (cu fl J)).flatMap (vals rows o))≠[]:=λz=>by
   cases L:(lawP J).flatMap λq=>vals rows o (kk fl q)with
   |nil=>exact t L|cons a b=>have:=(o8 (rows:=rows) (o:=o) (fl:=fl) e a).mpr (by rw[L];simp);rw[z]at this;cases this
  obtain⟨v,P,hv⟩:∃v,minD [.lst (((prs (cu fl J)).flatMap (vals rows o)).map .int)]=.ok (.int v)/\∀y∈((lawP J).flatMap λq=>vals rows o (kk fl q)),v<=y:=by
   cases K:(prs (cu fl J)).flatMap (vals rows o)with
   |nil=>exact FN K u|cons a h=>
    obtain⟨_,N,Z⟩:=tG (xs:=h) (x:=a);refine⟨h.foldl ky a,?_,λy Q=>?_⟩
    .show(bj ((a::h).map .int)).bind minL=_;rw[cC,au];rfl
    .have:=(o8 (rows:=rows) (o:=o) (fl:=fl) e y).mpr Q;rw[K]at this;rcases n_.mp this with z|z
     .rw[z];exact N
     .exact Z y z
  rw[P]at e1;have d:pU (.int v) (.int ((J.length:Int)-1))=.ok (.int (v*((J.length:Int)-1))):=ED (by simp only[D1,FH,Jj];lia);have O:J.length<=16777216:=ad
  unfold cu at e1;refine⟨s_ (hi-lo<v*((J.length:Int)-1)),?_,λz=>⟨v,lo,hi,⟨λi S j X D x s=>hv x (HK.mpr ⟨(i,j),lg.mpr ⟨S,X,D⟩,s⟩),λi S=>⟨A i S,E i S⟩,H9 z,ad,e,U⟩⟩⟩
  simp[cY,m9,jE,c,c1,c2,c0,G,H,e1,d,O,-e_minL,-An,-FJ,-ED,-e_mulL]
end
noncomputable def Gp.oo(g:Gp):Option (List aG):=if g.two=f_ then a_ g.r2 else g_
def Gp.oD_oo(g:Gp):oD g.oo=g.o:=by unfold Gp.oo Gp.o;cases g.two<;>rfl
theorem Gp.Good.oo{g:Gp}(S:g.Good):∀J,g.oo=a_ J->bH g.k J:=λJ h=>by
 unfold Gp.oo at h;split at h
 .cases h;exact S.r2
 .cases h
section
variable(CR CP CL:k_)
theorem crowdV(n:Nat)(U:CR≠CP)(hv:v.Good)(Y:v.fl.length<64):
  f7 CR CP CL n [ak CR CP v.g.rows v.g.o,.lst (v.fl.map flD)]=.ok .non\/∃J:aG,f7 CR CP CL n [ak CR CP v.g.rows v.g.o,.lst (v.fl.map flD)]=.ok (.lst (J.map .int)):=by
 have H:∀J:aG,∃b,(∀j∈J,0<=j/\j<v.fl.length)->J.Nodup->J.length<64->cY CR CP CL n [ak CR CP v.g.rows v.g.o,.lst _,.lst _]=.ok _:=λJ=>by
  by_cases h:(∀j∈J,0<=j/\j<v.fl.length)/\J.Nodup/\J.length<64
  .obtain⟨b,e,_⟩:=crowd_is CR CP CL n U hv.g.rows hv.g.oo (λf g=>⟨(hv.fl f g).k0,(hv.fl f g).k1⟩) h.1 h.2.1 h.2.2;rw[v.g.oD_oo]at e;exact⟨b,λ_ _ _=>e⟩
  .exact⟨f_,λh1 S c=>FN ⟨h1,S,c⟩ h⟩
 have e:=crowd_ok CR CP CL n Y (λJ h1 S c=>(H J).choose_spec h1 S c);rw[e];cases i:answer (λJ=>(H J).choose) v.fl with
 |none=>exact .inl rfl|some d=>
  refine .inr ?_;obtain⟨a,_,h1⟩:=LM i;obtain⟨b,_,S⟩:=LM h1;unfold cw at S;split at S
  .cases S;exact⟨_,rfl⟩
  simp_all
def uY(J:m<5):A'.tup (aE 0 m)=cK (iv 0 m):=by
 match m,J with
 |0,_=>rfl|1,_=>rfl|2,_=>rfl|3,_=>rfl|4,_=>rfl
def min_lab(k:LK)(ks:a8):minLD [nY (k::ks)]=.ok (Lake.bF (lZ k ks)):=by
 have h:∀J,nC (J.map Lake.bF)=.ok J:=by
  intro J
  induction J with
  |nil=>rfl|cons x J S=>rw[u_,nC,tM,S];rfl
 unfold nY minLD;simp only[h,au]
end
theorem vQ:∀(ks:a8) (k:LK),(lZ k ks=k\/lZ k ks∈ks)/\(lZ k ks).1<=k.1/\∀x∈ks,(lZ k ks).1<=x.1
 |[],k=>⟨.inl rfl,Hw _,λx h=>(by cases h)⟩|y::ks,k=>by
  have J:∀b,(if ltL y b=f_ then y else b).1<=b.1/\(if ltL y b=f_ then y else b).1<=y.1:=λb=>by unfold ltL;grind
  obtain⟨h1,c,U⟩:=vQ ks (if ltL y k=f_ then y else k);obtain⟨a,Y⟩:=J k;have e:lZ k (y::ks)=lZ (if ltL y k=f_ then y else k) ks:=rfl;rw[e];refine⟨?_,ad,λx S=>?_⟩
  .rcases h1 with z|z
   .rw[z];split
    .exact .inr aj
    .exact .inl rfl
   .exact .inr (by simp[z])
  .rcases n_.mp S with z|z
   .rw[z];lia
   .exact U x z
section
variable(CR CP CL:k_)
theorem best_yes(n:Nat)(L:64<=n)(U:CR≠CP)(hv:v.Good){s:Nat}(i:m<5)(d:s<4)(r:v.fl.length=m)(c:(v.g.s=1/\m<5)\/(v.g.s=2/\m<4))(C:look (v.pap [] (BL m s)) (iv 0 m)≠[]):
  ∃p,p∈PLk m s v.g.s m/\(∀j,j<p.length->v.okT p j)/\(∀y∈look (v.pap [] (BL m s)) (iv 0 m),v.cst p p.length<=y.1) /\
   cv CR CP CL n [a_ (ak CR CP v.g.rows v.g.o),a_ (.lst (v.fl.map flD)),a_ (.lst (v.cs.map stD)),a_ (.int s),g_,g_,g_,g_,g_]=.ok (.rt (.tup [.int (v.cst p p.length),.lst (p.map prD),.lst ((v.tms p p.length).map .int)])):=by
 obtain⟨N,e1⟩:=sZ CR CP CL n U hv i d r c;have Y:(v.pap [] (BL m s)).map (·.1)=BL m s:=by rw[v.t4];rfl
 obtain⟨O,_⟩:=begsB m s i d;obtain⟨_,o,l⟩:=nil_at i d;obtain⟨D,E⟩:=O.bnd _ o;obtain⟨k,ks,ek⟩:∃k ks,look (v.pap [] (BL m s)) (iv 0 m)=k::ks:=by
  cases h:look (v.pap [] (BL m s)) (iv 0 m)with
  |nil=>exact FN h C|cons k ks=>exact⟨k,ks,rfl⟩
 obtain⟨I,u,a⟩:=vQ ks k;have B:lZ k ks∈look (v.pap [] (BL m s)) (iv 0 m):=by
  rw[ek];rcases I with z|z
  .rw[z];simp
  .simp[z]
 obtain⟨p,hw,e3⟩:=Dt CR CP CL n L U hv N (Gg E ad) (λx w=>by have:=D x w;rw[r];exact this) B;have A:=hw.plan i d Y o;rw[l]at A;have H:=sW d c A;have J:v.Pl p:=λx w=>by have:=H.bnd x w;exact⟨by rw[r];exact this.1,this.2⟩
 obtain⟨f,q⟩:=hv.Fz J hw.along;have e:p.length<=40:=by rw[H.len];lia
 have e4:=Bf CR CP CL n U hv J e f;have e5:=(pH n hv J e).1;refine⟨p,A,f,λy G=>?_,?_⟩
 .rw[<- q];rw[ek]at G;rcases n_.mp G with z|z
  .rw[z];exact u
  .exact a y z
 .have t:=ll (iv 0 m) (v.pap [] (BL m s));have F:=min_lab k ks;rw[ek]at t;have k1:(-4611686018427387904:Int)<=(m:Int):=ad
  have k2:(m:Int)<4611686018427387904:=ad
  have k3:(aE 0 m).length<=16777216:=by rw[bL];lia
  have K:=uY i;have g:∀b:a8,nY (k::b)=.lst (Lake.bF k::b.map Lake.bF):=λ_=>rfl;rw[g]at t F;generalize kD (v.pap [] (BL m s))=P at e1 e3 t;generalize Lake.bF (lZ k ks)=M at e3 F;generalize v.cst p p.length=S at e5 ⊢;simp[cv,eI,e1,r,k1,k2,k3,K,qq,lh,t,F,e3,e4,e5]
theorem best_no(n:Nat)(S:CR≠CP)(hv:v.Good){s:Nat}(d:m<5)(e:s<4)(U:v.fl.length=m)(b:(v.g.s=1/\m<5)\/(v.g.s=2/\m<4))(c:look (v.pap [] (BL m s)) (iv 0 m)=[]):
  ∃ds,cv CR CP CL n [a_ (ak CR CP v.g.rows v.g.o),a_ (.lst (v.fl.map flD)),a_ (.lst (v.cs.map stD)),a_ (.int s),g_,g_,g_,g_,g_]=.error (.exc CL [("crowd",.lst ds)]):=by
 obtain⟨_,e1⟩:=sZ CR CP CL n S hv d e U b;have J:=ll (iv 0 m) (v.pap [] (BL m s));rw[c]at J;have f:nY []=.lst []:=rfl;rw[f]at J;have k1:(-4611686018427387904:Int)<=(m:Int):=ad
 have k2:(m:Int)<4611686018427387904:=ad
 have k3:(aE 0 m).length<=16777216:=by rw[bL];lia
 have Y:=uY d;generalize kD (v.pap [] (BL m s))=P at e1 J;rcases crowdV CR CP CL n S hv ad with e3|⟨a,e3⟩
 .refine⟨[],?_⟩
  simp[cv,eI,e1,U,k1,k2,k3,Y,qq,lh,J,e3]
 .cases a with
  |nil=>
   refine⟨[],?_⟩
   simp only[JW]at e3;simp[cv,eI,e1,U,k1,k2,k3,Y,qq,lh,J,e3]
  |cons i a=>
   refine⟨.int i::a.map .int,?_⟩
   simp only[u_]at e3;simp[cv,eI,e1,U,k1,k2,k3,Y,qq,lh,J,e3]
theorem Fw(n:Nat){s:Nat}{R:A'}(J:cv CR CP CL n [a_ (ak CR CP v.g.rows v.g.o),a_ (.lst (v.fl.map flD)),a_ (.lst (v.cs.map stD)),a_ (.int s),g_,g_,g_,g_,g_]=.ok (.rt R)):
  cp CR CP CL n [ak CR CP v.g.rows v.g.o,.lst (v.fl.map flD),.lst (v.cs.map stD),.int s]=.ok R:=by
 simp_all[f9,dD,wy,cp,jz]
def asked_no(n:Nat){s:Nat}{ds:List A'}(J:cv CR CP CL n [a_ (ak CR CP v.g.rows v.g.o),a_ (.lst (v.fl.map flD)),a_ (.lst (v.cs.map stD)),a_ (.int s),g_,g_,g_,g_,g_]=.error (.exc CL [("crowd",.lst ds)])):
  cp CR CP CL n [ak CR CP v.g.rows v.g.o,.lst (v.fl.map flD),.lst (v.cs.map stD),.int s]=.ok (.lst [.bl f_,.bl f_,.bl c_]):=by
 have U:f9 CR CP CL n [ak CR CP v.g.rows v.g.o,.lst (v.fl.map flD),.lst (v.cs.map stD),.int s]=.error (.exc CL [("crowd",.lst ds)]):=by simp[f9,J]
 have S:dD CR CP CL n [a_ (ak CR CP v.g.rows v.g.o),a_ (.lst (v.fl.map flD)),a_ (.lst (v.cs.map stD)),a_ (.int s),a_ .non,g_]=.ok (.nx [a_ (ak CR CP v.g.rows v.g.o),a_ (.lst (v.fl.map flD)),a_ (.lst (v.cs.map stD)),a_ (.int s),a_ (.lst [.bl f_,.bl f_,.bl c_]),g_]):=by
  unfold dD;rw[rR (f:=("crowd",.lst ds)) (fs:=[])]
  .simp
  .simp[U]
 simp[cp,jz,S]
end
theorem take63{ns:aG}(h:ns.length<=63):j6 (.lst (ns.map .int)) g_ (a_ 63)=.ok (.lst (ns.map .int)):=by show Hc _=_;simp_all[cutL,cX,Js,Iu]
section
variable(CR CP CL:k_)
theorem uq(n:Nat)(ns:aG)(j:Nat):∃x,bf [.lst (ns.map .int),.int j]=.ok (.int x)/\0<=x/\(ns.length<=j->x=0):=by
 by_cases h:j<ns.length
 .refine⟨ns[j]%1000000000000000000000000,?_,Ig _ al,λz=>by lia⟩
  simp[bf,ic,g8,h,(gZ (ds:=ns.map A'.int) (k:=j) as)]
 .exact⟨0,by simp[bf,ic,g8,h],ad,λ_=>rfl⟩
theorem yy(n:Nat)(ns:aG):∃b,fg [.lst (ns.map .int)]=.ok (.bl b)/\(b=f_->0<ns.length):=by
 obtain⟨x,e,J,h1⟩:=uq n ns 2;simp at e;refine⟨s_ (x/24%2=1),?_,λz=>?_⟩
 .simp[fg,pd,e,eqM,];rfl
 .by_cases c:ns.length<=2
  .rw[h1 c]at z;simp at z
  .lia
def zW(y:Int):0<=(y*1442695040888963407+4321)%2305843009213693921:=Ig _ al
theorem rV(n:Nat)(Y U S J:Option A'):∀(r:Nat) (j c:Int) (a:Option A'),∃d b,bG (.nm 4) (eP) (aE j r) [Y,U,S,a_ (.int c),a,J]=.ok (.nx [Y,U,S,a_ (.int d),b,J])
 |0,j,c,a=>⟨c,a,rfl⟩|r+1,j,c,a=>by
  obtain⟨d,b,e⟩:=rV n Y U S J r _ _ _;refine⟨d,b,?_⟩
  have f:eP [Y,U,S,a_ (.int c),a_ (.int j),J]=.ok (.nx [Y,U,S,a_ (.int (c/10000000000000000000000000000000000000000)),a_ (.int j),J]):=by simp[eP]
  rw[dI,bG,mq];simp;exact e
theorem jr(n:Nat)(ns:aG)(g:ns.length<=63)(k:Int)(j:0<=k)(h1:k<1000000):∃x,aV [.lst (ns.map .int),.int k]=.ok (.int x)/\0<=x:=by
 have d: -18446744073709551616<k:=ad
 have c:k<18446744073709551616:=ad
 have f:=take63 g;obtain⟨b,eb,o⟩:=yy n ns;cases b with
 |true=>
  have i:=o rfl;have Y:0<=k%ns.length:=Ig _ ad;have U:k%ns.length<ns.length:=Ji _ ad;have J:(0:Int)<ns.length:=ad
  have h:(ns.length:Int)<18446744073709551616:=ad
  have m:0<=k/ns.length:=Int.ediv_nonneg j ad;have l:k/(ns.length:Int)<=k:=Int.ediv_le_self _ j;have k1:(-4611686018427387904:Int)<=k/(ns.length:Int):=ad
  have k2:k/(ns.length:Int)<4611686018427387904:=ad
  obtain⟨p,q,e⟩:=rV n (a_ (.lst (ns.map .int))) (a_ (.int k)) (a_ (.lst (ns.map .int))) g_ (k/(ns.length:Int)).toNat 0 (ns[(k%(ns.length:Int)).toNat]' ac) g_;refine⟨p%10000000000000000000000000000000000000000,?_,Ig _ al⟩
  simp[aV,gp,eJ,f,eb,getI_int Y U,yD J,e_fdiv J h,k1,k2,e,d,c]
 |false=>
  by_cases i:0<ns.length
  .have Y:0<=k%(ns.length:Int):=Ig _ ad;have U:k%(ns.length:Int)<(ns.length:Int):=Ji _ ad;have J:(0:Int)<ns.length:=ad
   have S:ns≠[]:=λe=>by simp_all
   refine⟨_,?_,zW ((ns[(k%(ns.length:Int)).toNat]' ac%1000000000000000000000000+k*k*7919+ns.length)*48271%2305843009213693951)⟩
   simp[aV,gp,eJ,gM,f,eb,i,S,getI_int Y U,yD J,d,c]
  .have S:ns=[]:=by cases ns with|nil=>rfl|cons a b=>simp_all
   subst S;refine⟨_,?_,zW ((11*k+3+k*k*7919+0)*48271%2305843009213693951)⟩
   simp only[JW]at f eb;simp[aV,gp,eJ,gM,f,eb,d,c]
end
section
variable(CR CP CL:k_)
theorem gap_row(n:Nat)(ns:aG)(o:ns.length<=63)(b:Int)(k:Nat)(J:Nat)(rows:List A')(j h f:Option A')(D:0<=b)(C:b<=100)(B:k<=6)(H:J<k):
  ∃(r:aG) (Y U S:Option A'),pR k r/\bG (.nm 6) (cz) (aE 0 k) [a_ (.lst (ns.map .int)),a_ (.int b),a_ (.int k),a_ (.lst rows),a_ (.int J),a_ (.lst []),j,h,f]=.ok (.nx [a_ (.lst (ns.map .int)),a_ (.int b),a_ (.int k),a_ (.lst rows),a_ (.int J),a_ (iq r),Y,U,S]):=by
 obtain⟨ρ',e,r,Y,U,S,rfl,h1,E⟩:=jX (p:=.nm 6) (g:=cz)
  (λi ρ=>∃(r:aG) (j h f:Option A'),ρ=[a_ (.lst (ns.map .int)),a_ (.int b),a_ (.int k),a_ (.lst rows),a_ (.int J),a_ (iq r),j,h,f]/\r.length=i/\∀x∈r,0<=x/\x<=1000000) (aE 0 k) 0 _ ⟨[],j,h,f,rfl,rfl,aj⟩ (by
  rintro i d ρ hd ⟨r,j,h,f,rfl,w,m⟩;obtain⟨hi,rfl⟩:=jK hd;have I:(J:Int)*k<=36:=by
   have:J*k<=6*6:=Le ad B
   exact_mod_cast this
  have A:0<=(J:Int)*k:=MN ad ad;obtain⟨x,e,G⟩:=jr n ns o (b+(J:Int)*k+(i:Int)) ad ad;have c: -18446744073709551616<(J:Int):=ad
  have a:(J:Int)<18446744073709551616:=ad
  have q:r.length<16777216:=ad
  obtain⟨g,t,s,F⟩:∃g:Int,0<=g/\g<=1000000/\cz [a_ (.lst (ns.map .int)),a_ (.int b),a_ (.int k),a_ (.lst rows),a_ (.int J),a_ (iq r),a_ (.int (i:Int)),h,f]=.ok (.nx [a_ (.lst (ns.map .int)),a_ (.int b),a_ (.int k),a_ (.lst rows),a_ (.int J),a_ (iq (r++[g])),a_ (.int (i:Int)),a_ (.int x),a_ (.int g)]):=by
   by_cases u:x%16<3
   .refine⟨0,ad,ad,?_⟩
    have l:¬x%16=15:=ad
    simp[cz,gz,gu,e,c,a,u,l,q,iq]
   .by_cases l:x%16=15
    .refine⟨x/16%1000001,ad,ad,?_⟩
     simp[cz,gz,gu,e,c,a,l,q,iq]
    .refine⟨x/16%7,ad,ad,?_⟩
     simp[cz,gz,gu,e,c,a,u,l,q,iq]
  refine⟨_,rfl,_,.inl F,r++[g],_,_,_,rfl,by simp;lia,λy v=>?_⟩
  rcases Gn.mp v with z|z
  .exact m y z
  .simp at z;subst z;exact⟨t,s⟩)
 rw[IX,bL]at h1;exact⟨r,Y,U,S,⟨h1,E⟩,e⟩
theorem Ew(n:Nat)(ns:aG)(h:ns.length<=63)(b:Int)(k:Nat)(l:0<=b)(j:b<=100)(u:k<=6):∃rows,bH k rows/\gF [.lst (ns.map .int),.int b,.int k]=.ok (aK rows):=by
 have k1: -4611686018427387904<=(k:Int):=ad
 have k2:(k:Int)<4611686018427387904:=ad
 obtain⟨ρ',e,rows,D,C,B,A,x,rfl,h1,w⟩:=jX (p:=.nm 4) (g:=iZ)
  (λi ρ=>∃(rows:List aG) (o m c Y S:Option A'),ρ=[a_ (.lst (ns.map .int)),a_ (.int b),a_ (.int k),a_ (aK rows),o,m,c,Y,S]/\rows.length=i/\∀r∈rows,pR k r) (aE 0 k) 0 [a_ (.lst (ns.map .int)),a_ (.int b),a_ (.int k),a_ (.lst []),g_,g_,g_,g_,g_] ⟨[],g_,g_,g_,g_,g_,rfl,rfl,aj⟩ (by
  rintro i d ρ hd ⟨rows,o,m,c,Y,S,rfl,s,f⟩;obtain⟨hi,rfl⟩:=jK hd;obtain⟨r,a,U,J,v,e⟩:=gap_row n ns h b k i (rows.map iq) c Y S l j u hi;have t:rows.length<16777216:=ad
  refine⟨_,by simp;rfl,?_⟩
  refine⟨_,.inl (by simp[iZ,aK,k1,k2,e,t];rfl),rows++[r],a_ (.int i),a_ (iq r),a,U,J,by simp[aK],by simp;lia,λy q=>?_⟩
  rcases Gn.mp q with z|z
  .exact f y z
  .simp at z;subst z;exact v)
 rw[IX,bL]at h1;exact⟨rows,⟨h1,w⟩,by simp[gF,pb,k1,k2,e]⟩
end
def pick2(A B s:Int)(J:s=0\/s=1):∃a,(a=A\/a=B)/\jW [.int A,.int B] s=.ok (.int a):=by
 rcases J with rfl|rfl
 .exact⟨A,.inl rfl,aj⟩
 .exact⟨B,.inr rfl,aj⟩
def pick3(A B C s:Int)(J:s=0\/s=1\/s=2):∃a,(a=A\/a=B\/a=C)/\jW [.int A,.int B,.int C] s=.ok (.int a):=by
 rcases J with rfl|rfl|rfl
 .exact⟨A,.inl rfl,aj⟩
 .exact⟨B,.inr (.inl rfl),aj⟩
 .exact⟨C,.inr (.inr rfl),aj⟩
def pick4(A B C D s:Int)(J:s=0\/s=1\/s=2\/s=3):∃a,(a=A\/a=B\/a=C\/a=D)/\jW [.int A,.int B,.int C,.int D] s=.ok (.int a):=by
 rcases J with rfl|rfl|rfl|rfl
 .exact⟨A,.inl rfl,aj⟩
 .exact⟨B,.inr (.inl rfl),aj⟩
 .exact⟨C,.inr (.inr (.inl rfl)),aj⟩
 .exact⟨D,.inr (.inr (.inr rfl)),aj⟩
section
variable(CR CP CL:k_)
theorem any_ok(n:Nat)(x:Int)(z:0<=x)(k:Nat)(w:1<=k):∃f,i4 k f/\bE [.int x,.int k]=.ok (flD f):=by
 have c:(0:Int)<k:=ad
 have Y:0<=x%(k:Int):=Ig _ ad;have U:x%(k:Int)<k:=Ji _ c;generalize o:x%(k:Int)=t at Y U;generalize m:x/6=J;obtain⟨s,v,es⟩:∃s:Int,(s=0\/s=1\/s=2)/\(f2 eU (fL intD (a9 (f2 gtD (f2 eS (af 0) (fC (.int 8))) (fC (.int 4))) av)) (fL intD (a9 (f2 gtD (f2 eS (af 0) (fC (.int 8))) (fC (.int 6))) av))) [a_ (.int J),a_ (.int k),a_ (.int t),g_,g_,g_,g_,g_]=.ok (.int s):=by
  by_cases r:4<J%8
  .by_cases g:6<J%8
   .exact⟨2,ad,by simp[r,g,b2z]⟩
   .exact⟨1,ad,by simp[r,g,b2z]⟩
  .have g:¬6<J%8:=ad
   exact⟨0,ad,by simp[r,g,b2z]⟩
 obtain⟨a,C,ea⟩:=pick3 (J/8%40) (J/8%1000) (J/8%1000000001) s v;have q:0<=a/\a<=1000000000:=ad
 generalize l:J/8000000008=S;obtain⟨b,B,eb⟩:=pick4 (S/4%60) 100000000 (S/4%1000) (S/4%1000000000) (S%4) ad;generalize j:S/4000000000=e;obtain⟨d,hd,y⟩:=pick2 (e/2%80) (e/2%1000000001) (e%2) ad;generalize i:e/2000000002=h;obtain⟨p,A,ep⟩:=pick2 (h/2%9) (h/2%1000000001) (h%2) ad;have u:=yn (a+b) 1000000000;refine⟨⟨t,a,ky (a+b) 1000000000,d,p⟩,⟨Y,U,q.1,ad,u.2.1,am,am,am,am⟩,?_⟩
 simp only[bE,bo,FK,KP,if_true,iE];simp[yD c,o,m];simp only[e_2,e_L,e_cons,e_nil]at es;simp at es;simp[es,ea,l,eb,j,y,i,ep,flD]
theorem BZ(n:Nat)(ns:aG)(d:ns.length<=63)(k:Nat)(st:Int)(J i:Nat)(fl:List Fli)(p o m l b:Option A')(w:1<=k)(v:0<=st)(u:st<=1000)(A:J<=40)(hi:i<J)(y:fl.length<=40):
  ∃(f:Fli) (t s r q c:Option A'),i4 k f/\f.first<=29/\bu [a_ (.lst (ns.map .int)),a_ (.int st),a_ (.int k),a_ (.int J),a_ (.lst (fl.map flD)),a_ (.int i),p,o,m,l,b]=.ok (.nx [a_ (.lst (ns.map .int)),a_ (.int st),a_ (.int k),a_ (.int J),a_ (.lst ((fl++[f]).map flD)),a_ (.int i),t,s,r,q,c]):=by
 obtain⟨x,e,z⟩:=jr n ns d (st+(i:Int)) ad ad;have U:(0:Int)<k:=ad
 have a:0<=x/16777216%(k:Int):=Ig _ ad;have Y:x/16777216%(k:Int)<k:=Ji _ U;have S:fl.length<16777216:=ad
 by_cases j:x%8=1
 .refine⟨⟨x/16777216%(k:Int),x/8%30,1000000000,x/32768%50,x/2097152%7⟩,a_ (.int x),a_ (.int (x/8%30)),a_ (.int (1000000000)),a_ (.int (x/32768%50)),a_ (.int (x/2097152%7)),⟨a,Y,am,am,aj,by show 0<=x/32768%50;lia,by show x/32768%50<=1000000000;lia,by show 0<=x/2097152%7;lia,by show x/2097152%7<=1000000000;lia⟩,am,?_⟩
  have h:¬x%8=2:=ad
  have g:¬x%8=3:=ad
  simp[bu,cH,cG,cF,e,j,yD U,S,flD]
 .by_cases h:x%8=2
  .refine⟨⟨x/16777216%(k:Int),x/8%30,x/8%30+x/512%4,x/32768%50,x/2097152%7⟩,a_ (.int x),a_ (.int (x/8%30)),a_ (.int (x/8%30+x/512%4)),a_ (.int (x/32768%50)),a_ (.int (x/2097152%7)),⟨a,Y,am,by show x/8%30<=x/8%30+x/512%4;lia,ad,by show 0<=x/32768%50;lia,by show x/32768%50<=1000000000;lia,by show 0<=x/2097152%7;lia,by show x/2097152%7<=1000000000;lia⟩,am,?_⟩
   simp[bu,cH,cG,cF,e,h,yD U,S,flD]
  .by_cases g:x%8=3
   .refine⟨⟨x/16777216%(k:Int),x/8%30,x/8%30+x/512%40,x/32768%50,x%1000000001⟩,a_ (.int x),a_ (.int (x/8%30)),a_ (.int (x/8%30+x/512%40)),a_ (.int (x/32768%50)),a_ (.int (x%1000000001)),⟨a,Y,am,ad,ad,by show 0<=x/32768%50;lia,by show x/32768%50<=1000000000;lia,am,am⟩,am,?_⟩
    simp[bu,cH,cG,cF,e,g,yD U,S,flD]
   .refine⟨⟨x/16777216%(k:Int),x/8%30,x/8%30+x/512%40,x/32768%50,x/2097152%7⟩,a_ (.int x),a_ (.int (x/8%30)),a_ (.int (x/8%30+x/512%40)),a_ (.int (x/32768%50)),a_ (.int (x/2097152%7)),⟨a,Y,am,ad,ad,by show 0<=x/32768%50;lia,by show x/32768%50<=1000000000;lia,by show 0<=x/2097152%7;lia,by show x/2097152%7<=1000000000;lia⟩,am,?_⟩
    simp[bu,cH,cG,cF,e,j,h,g,yD U,S,flD]
theorem BY(n:Nat)(ns:aG)(Y:ns.length<=63)(k:Nat)(st:Int)(J:Nat)(a:1<=k)(q:0<=st)(o:st<=1000)(G:J<=40):
  ∃fl:List Fli,fl.length=J/\(∀f∈fl,i4 k f)/\dz [.lst (ns.map .int),.int st,.int k,.int J]=.ok (.lst (fl.map flD)):=by
 have k1: -4611686018427387904<=(J:Int):=ad
 have k2:(J:Int)<4611686018427387904:=ad
 obtain⟨b,eb,_⟩:=yy n ns;cases b with
 |true=>
  have c:∀i:Nat,∃f,i<J->i4 k f/\(fL (bE) (a9 (fL (aV) (a9 (af 1) (a9 (f2 eU (af 2) (af 0)) av))) (a9 (af 3) av))) [a_ (.int (0+(i:Int))),a_ (.lst (ns.map .int)),a_ (.int st),a_ (.int k)]=.ok (flD f):=λi=>by
   by_cases hi:i<J
   .obtain⟨x,ex,D⟩:=jr n ns Y (st+(0+(i:Int))) ad ad;obtain⟨f,s,O⟩:=any_ok n x D k a;exact⟨f,λ_=>⟨s,by simp at ex;simp[ex,O]⟩⟩
   .exact⟨⟨0,0,0,0,0⟩,λz=>FN z hi⟩
  obtain⟨F,B⟩:=Classical.skolem.mp c;have K:aQ (.nm 0) iG (fL (bE) (a9 (fL (aV) (a9 (af 1) (a9 (f2 eU (af 2) (af 0)) av))) (a9 (af 3) av))) [g_,a_ (.lst (ns.map .int)),a_ (.int st),a_ (.int k)] (aE 0 J)=.ok (((A1 J).map F).map flD):=by unfold aE;rw[FJ];refine lG _ _ _ λi hi=>⟨[a_ (.int (0+(i:Int))),a_ (.lst (ns.map .int)),a_ (.int st),a_ (.int k)],rfl,(B i (C_.mp hi)).2⟩
  refine⟨(A1 J).map F,aj,λf s=>?_,?_⟩
  .obtain⟨i,hi,rfl⟩:=FG.mp s;exact(B i (C_.mp hi)).1
  .have H:(aE 0 J).length<=16777216:=by rw[bL];lia
   simp[dz,ib,fZ,eb,k1,k2,K,H,-FJ]
 |false=>
  obtain⟨ρ',e,fl,P,A,w,v,u,U,rfl,h1,N⟩:=jX (p:=.nm 5) (g:=bu)
   (λi ρ=>∃(fl:List Fli) (t m l j h S:Option A'),ρ=[a_ (.lst (ns.map .int)),a_ (.int st),a_ (.int k),a_ (.int J),a_ (.lst (fl.map flD)),t,m,l,j,h,S]/\fl.length=i/\∀f∈fl,i4 k f) (aE 0 J) 0 [a_ (.lst (ns.map .int)),a_ (.int st),a_ (.int k),a_ (.int J),a_ (.lst []),g_,g_,g_,g_,g_,g_] ⟨[],g_,g_,g_,g_,g_,g_,rfl,rfl,aj⟩ (by
   rintro i d ρ hd ⟨fl,t,m,l,j,h,S,rfl,E,r⟩;obtain⟨hi,rfl⟩:=jK hd;obtain⟨f,A,w,v,u,U,I,L,e⟩:=BZ n ns Y k st J i fl m l j h S a q o G hi ad;refine⟨_,by simp<;>rfl,_,.inl e,fl++[f],a_ (.int i),A,w,v,u,U,rfl,by simp;lia,λy C=>?_⟩
   rcases Gn.mp C with z|z
   .exact r y z
   .simp at z;subst z;exact I)
  rw[IX,bL]at h1;exact⟨fl,ad,N,by simp[dz,ib,fZ,eb,k1,k2,e]⟩
theorem F9(n:Nat)(ns:aG)(J:ns.length<=63):∃cs:List cI,cs.length<=3/\(∀p∈cs,p.1<p.2)/\gm [.lst (ns.map .int),.int 130]=.ok (.lst (cs.map stD)):=by
 obtain⟨x,ex,F⟩:=jr n ns J 130 ad ad;obtain⟨m,G,u⟩:∃m:Nat,m<=3/\(x/64%4:Int)=m:=⟨(x/64%4).toNat,ad,ad⟩
 have k1: -4611686018427387904<=(m:Int):=ad
 have k2:(m:Int)<4611686018427387904:=ad
 obtain⟨b,eb,_⟩:=yy n ns;obtain⟨ρ',e,cs,C,B,A,w,rfl,h1,s⟩:=jX (p:=.nm 3) (g:=cm)
  (λi ρ=>∃(cs:List cI) (j a Y U:Option A'),ρ=[a_ (.lst (ns.map .int)),a_ (.int 130),a_ (.lst (cs.map stD)),j,a,Y,U]/\cs.length=i/\∀p∈cs,p.1<p.2) (aE 0 m) 0 [a_ (.lst (ns.map .int)),a_ (.int 130),a_ (.lst []),g_,g_,g_,g_] ⟨[],g_,g_,g_,g_,rfl,rfl,aj⟩ (by
  rintro i d ρ hd ⟨cs,j,a,Y,U,rfl,k,f⟩;obtain⟨hi,rfl⟩:=jK hd;obtain⟨y,S,E⟩:=jr n ns J (130+1+(i:Int)) ad ad;have h:cs.length<16777216:=ad
  simp only[Int.reduceAdd]at S;obtain⟨q,o,t⟩:∃q:cI,q.1<q.2/\cm [a_ (.lst (ns.map .int)),a_ (.int 130),a_ (.lst (cs.map stD)),a_ (.int (i:Int)),a,Y,U]=.ok (.nx [a_ (.lst (ns.map .int)),a_ (.int 130),a_ (.lst ((cs++[q]).map stD)),a_ (.int (i:Int)),a_ (.int y),a_ (.int q.1),a_ (.int q.2)]):=by
   by_cases c:b=f_/\y%8=7
   .have D:=yn 1000000000 (y/8%1000000000+1+y/8000000000%1000000000);refine⟨(y/8%1000000000,ky 1000000000 (y/8%1000000000+1+y/8000000000%1000000000)),by show y/8%1000000000<ky _ _;lia,?_⟩
    rw[c.1]at eb;simp[cm,eK,S,eb,c.2,h,stD]
   .refine⟨(y/8%40,y/8%40+1+y/512%9),by show y/8%40<y/8%40+1+y/512%9;lia,?_⟩
    cases b with
    |true=>have v:¬y%8=7:=λz=>c ⟨rfl,z⟩;simp[cm,eK,S,eb,v,h,stD]|false=>simp[cm,eK,S,eb,h,stD]
  refine⟨_,rfl,_,.inl t,cs++[q],_,_,_,_,rfl,by simp;lia,λr l=>?_⟩
  rcases Gn.mp l with z|z
  .exact f r z
  .simp at z;subst z;exact o)
 rw[IX,bL]at h1;exact⟨cs,ad,s,by simp[gm,lr,ex,u,k1,k2,e]⟩
end
open Classical in
def V.bst(v:V)(b:Option Int)(p:List (Nat×Nat)):Option Int:=if ∀j,j<p.length->v.okT p j then(match b with
 |none=>some (v.cst p p.length)|some c=>if v.cst p p.length<c then some (v.cst p p.length)else some c)else b
noncomputable def optD:Option Int->A'
 |none=>.non|some c=>.int c
theorem V.AF(v:V):∀(ps:List (List (Nat×Nat))) (b:Option Int),ps.foldl v.bst b=g_->b=g_/\∀p∈ps,¬∀j,j<p.length->v.okT p j
 |[],b,h=>⟨h,λp S=>(by cases S)⟩|p::ps,b,h=>by
  obtain⟨h1,U⟩:=v.AF ps _ h;unfold V.bst at h1;by_cases c:∀j,j<p.length->v.okT p j
  .rw[p_ c]at h1;cases b with
   |none=>cases h1|some x=>simp at h1;split at h1<;>cases h1
  .rw[q_ c]at h1;refine⟨h1,λq J=>?_⟩
   rcases n_.mp J with z|z
   .rw[z];exact c
   .exact U q z
theorem V.uB(v:V):∀(ps:List (List (Nat×Nat))) (b:Option Int) (c:Int),ps.foldl v.bst b=a_ c->(b=a_ c\/∃p∈ps,(∀j,j<p.length->v.okT p j)/\v.cst p p.length=c)/\(∀x,b=a_ x->c<=x)/\∀p∈ps,(∀j,j<p.length->v.okT p j)->c<=v.cst p p.length
 |[],b,c,h=>⟨.inl h,λx U=>by simp_all,λp l=>(by cases l)⟩|p::ps,b,c,h=>by
  obtain⟨h1,d,f⟩:=v.uB ps _ c h;by_cases k:∀j,j<p.length->v.okT p j
  .obtain⟨y,g,a,i,Y⟩:∃y,v.bst b p=a_ y/\(b=a_ y\/y=v.cst p p.length)/\y<=v.cst p p.length/\∀x,b=a_ x->y<=x:=by
    unfold V.bst;rw[p_ k];cases b with
    |none=>exact⟨_,rfl,.inr rfl,Hw _,λx U=>(by cases U)⟩|some x=>
     simp only;by_cases z:v.cst p p.length<x
     .rw[p_ z];exact⟨_,rfl,.inr rfl,Hw _,λw hw=>by cases hw;lia⟩
     simp_all[q_]
   have m:=d y g;refine⟨?_,λx U=>by have:=Y x U;lia,λq S J=>?_⟩
   .rcases h1 with z|⟨q,S,J,e⟩
    .rw[g]at z;cases z;rcases a with w|w
     .exact .inl w
     .exact .inr ⟨p,aj,k,w.symm⟩
    .exact .inr ⟨q,by simp[S],J,e⟩
   .rcases n_.mp S with z|z
    .rw[z];lia
    .exact f q z J
  .have e:v.bst b p=b:=by unfold V.bst;rw[q_ k]
   rw[e]at h1 d;refine⟨?_,d,λq S J=>?_⟩
   .rcases h1 with z|⟨q,S,J,e⟩
    .exact .inl z
    .exact .inr ⟨q,by simp[S],J,e⟩
   .rcases n_.mp S with z|z
    .rw[z]at J;exact FN J k
    .exact f q z J
section
variable(CR CP CL:k_)
theorem r9(n:Nat){v:V}(hv:v.Good)(t s r o m l f d a:Option A'):∀(ps:List (List (Nat×Nat))) (b:Option Int) (g S J:Option A'),(∀p∈ps,v.Pl p/\p.length<=40)->∃i Y U,
  bG (.nm 14) (kJ) (ps.map plD) [t,s,r,a_ (aK v.g.rows),a_ v.g.Ck,o,m,l,a_ (.lst (v.fl.map flD)),a_ (.lst (v.cs.map stD)),f,d,a_ (optD b),a,g,S,J]=.ok (.nx [t,s,r,a_ (aK v.g.rows),a_ v.g.Ck,o,m,l,a_ (.lst (v.fl.map flD)),a_ (.lst (v.cs.map stD)),f,d,a_ (optD (ps.foldl v.bst b)),a,i,Y,U])
 |[],b,g,S,J,_=>⟨g,S,J,rfl⟩|p::ps,b,g,S,J,h=>by
  obtain⟨C,k⟩:=h p aj;have A:plD p=.lst (p.map prD):=rfl;obtain⟨Y,U,eb⟩:∃Y U,kJ [t,s,r,a_ (aK v.g.rows),a_ v.g.Ck,o,m,l,a_ (.lst (v.fl.map flD)),a_ (.lst (v.cs.map stD)),f,d,a_ (optD b),a,a_ (plD p),S,J]=.ok (.nx [t,s,r,a_ (aK v.g.rows),a_ v.g.Ck,o,m,l,a_ (.lst (v.fl.map flD)),a_ (.lst (v.cs.map stD)),f,d,a_ (optD (v.bst b p)),a,a_ (plD p),Y,U]):=by
   rw[A];rcases vV n hv C k with⟨⟨j,h1,F⟩,e⟩|⟨x,e⟩
   .have y:v.bst b p=b:=by unfold V.bst;rw[q_ (λz=>F (z j h1))]
    rw[y];simp[kJ,pL,e]
   .have B:=(pH n hv C k).2;have y:v.bst b p=(match b with
     |none=>a_ (v.cst p p.length)|some c=>if v.cst p p.length<c then a_ (v.cst p p.length)else a_ c):=by unfold V.bst;rw[p_ x]
    rw[y];cases b with
    |none=>simp[kJ,pL,uz,e,B,optD]|some c=>
     by_cases z:v.cst p p.length<c
     .simp[kJ,pL,uz,e,B,optD,z]
     .simp[kJ,pL,uz,e,B,optD,z]
  obtain⟨i,w,u,D⟩:=r9 n hv t s r o m l f d a ps (v.bst b p) (a_ (plD p)) Y U λq E=>h q (by simp[E]);refine⟨i,w,u,?_⟩
  rw[u_,bG,mq,au,Gw];simp only[Iw,Iv];rw[eb,au];exact D
end
theorem l7{α:Type}(f:α->A')(n:Nat)(h:∀x,C' (f x) n=f_):∀L:List α,iu (L.map f) n=f_
 |[]=>rfl|x::L=>by simp[iu,h x,l7 f n h L]
def D5(h:C' d 40=f_):neM d d=.ok (.bl c_):=by unfold neM;rw[h];simp[lA h]
def same_eq(h:C' d 40=f_):eqM d d=.ok (.bl f_):=by unfold eqM;rw[h];simp[lA h]
def okE_fl(f:Fli)(n:Nat):C' (flD f) (n+1)=f_:=by rfl
def okE_st(f:cI)(n:Nat):C' (stD f) (n+1)=f_:=by rfl
def okE_pl(p:List (Nat×Nat))(n:Nat):C' (.lst (p.map prD)) (n+2)=f_:=by exact l7 _ _ (λx=>by rfl) p
def pl_in{ps:List (List (Nat×Nat))}(h:p∈ps):zX (.lst (p.map prD)) (.lst (ps.map plD))=.ok (.bl c_):=by
 have e:ps.map plD=ps.map λq=>A'.lst _:=rfl;have h1:iu (ps.map plD) 40=f_:=by exact l7 _ _ (λq=>okE_pl q 38) ps
 have J:=okE_pl p 38;unfold zX;simp only[j8,au,h1,J,];have S:((ps.map plD).any λd=>eqD d (.lst (p.map prD)))=f_:=by rw[LY];exact⟨plD p,FG.mpr ⟨p,h,rfl⟩,lA J⟩
 rw[S];rfl
section
variable(CR CP CL:k_)
def new1(n:Nat)(h1:1<=k)(S:k<=6)(J:bH k rows):newR CR (aC) [aK rows]=.ok (ak CR CP rows .non):=by simp[newR,(mB n k rows h1 S J),ak]
def new2(n:Nat){J:List aG}(h1:1<=k)(Y:k<=6)(U:bH k rows)(S:bH k J):newP CP (aC) [aK rows,aK J]=.ok (ak CR CP rows (aK J)):=by
 have a:twoL (aK rows) (aK J)=f_:=by simp[twoL,aK,U.1,S.1]
 simp[newP,(mB n k rows h1 Y U),(mB n k J h1 Y S),au,a];rfl
theorem told_all(n:Nat)(C:64<=n)(d:CR≠CP)(hv:v.Good){s:Nat}(r:m<5)(g:s<4)(o:v.fl.length=m)(U:(v.g.s=1/\m<5)\/(v.g.s=2/\m<4)):
  ((PLk m s v.g.s m).foldl v.bst g_=g_/\cp CR CP CL n [ak CR CP v.g.rows v.g.o,.lst (v.fl.map flD),.lst (v.cs.map stD),.int s]=.ok (.lst [.bl f_,.bl f_,.bl c_])) \/
  ∃p,p∈PLk m s v.g.s m/\v.Pl p/\p.length<=40/\(∀j,j<p.length->v.okT p j)/\(PLk m s v.g.s m).foldl v.bst g_=a_ (v.cst p p.length)/\cp CR CP CL n [ak CR CP v.g.rows v.g.o,.lst (v.fl.map flD),.lst (v.cs.map stD),.int s]=.ok (.tup [.int (v.cst p p.length),.lst (p.map prD),.lst ((v.tms p p.length).map .int)]):=by
 have b:∀p∈PLk m s v.g.s m,PlanF m s v.g.s p/\v.Pl p/\p.length=m:=λp S=>by have h:=sW g U S;exact⟨h,λx A=>by rw[o];exact h.bnd x A,h.len⟩
 have Y:∀p∈PLk m s v.g.s m,(∀j,j<p.length->v.okT p j)->∃y∈look _ _,y.1<=v.cst p p.length:=λp S J=>by
  obtain⟨t,h1,F⟩:=b p S;obtain⟨l,e1,e2⟩:=hv.along_of h1 J;have u:p.take m=p:=Iu ad;obtain⟨y,a,hw⟩:=hv.cover r g o ((sZ CR CP CL n d hv r g o U).1) (by rw[v.t4];rfl) t m (o_ _) l (by rw[u];exact e1);rw[u,t.all]at a;refine⟨y,a,?_⟩
  simp_all[nw]
 by_cases f:look (v.pap [] (BL m s)) (iv 0 m)=[]
 .left;obtain⟨ds,eb⟩:=best_no CR CP CL n d hv r g o U f;refine⟨?_,asked_no CR CP CL n eb⟩
  cases h:(PLk m s v.g.s m).foldl v.bst g_ with
  |none=>rfl|some c=>
   rcases(v.uB _ _ _ h).1 with z|⟨p,S,J,_⟩
   .cases z
   .obtain⟨y,a,_⟩:=Y p S J;rw[f]at a;cases a
 .right;obtain⟨p,S,J,k,eb⟩:=best_yes CR CP CL n C d hv r g o U f;refine⟨p,S,(b p S).2.1,by have:=(b p S).2.2;lia,J,?_,Fw CR CP CL n eb⟩
  cases h:(PLk m s v.g.s m).foldl v.bst g_ with
  |none=>exact FN J ((v.AF _ _ h).2 p S)|some c=>
   obtain⟨h1,_,E⟩:=v.uB _ _ _ h;have D:=E p S J;rcases h1 with z|⟨q,B,i,e⟩
   .cases z
   .obtain⟨y,a,w⟩:=Y q B i;have:=k y a;rw[show c=v.cst p p.length by lia]
theorem law_true(L:CR≠CP):∀ns:aG,ns.length<=63->∃n,m_law CR CP CL n [.lst (ns.map .int)]=.ok (.bl f_):=by
 intro ns U;refine⟨64,?_⟩
 obtain⟨x0,c0,p0,_⟩:=uq 64 ns 0;obtain⟨b,c1,p1,_⟩:=uq 64 ns 1;obtain⟨a,c2,p2,_⟩:=uq 64 ns 2;simp only[Int.cast_ofNat_Int,Int.natCast_zero,Int.natCast_one]at c0 c1 c2;obtain⟨k,J,q,ek⟩:∃k:Nat,1<=k/\k<=3/\(1+x0*16807%2147483647%3:Int)=k:=⟨(1+x0*16807%2147483647%3).toNat,ad,ad,ad⟩
 obtain⟨s,D,es⟩:∃s:Nat,s<4/\(a/2%4:Int)=s:=⟨(a/2%4).toNat,ad,ad⟩
 obtain⟨rows,e,eg⟩:=Ew 64 ns U 3 k ad ad ad;have en:=new1 CR CP 64 J ad e;obtain⟨g,O,N,hg,y,e1⟩:∃g:Gp,g.k=k/\g.rows=rows/\g.Good/\(1+a%2:Int)=g.s/\uA CR CP CL 64 [a_ (.lst (ns.map .int)),a_ (.int k),a_ (.int s),a_ (aK rows),a_ (.lst []),a_ (ak CR CP rows .non),a_ (.int g.s),g_,g_,g_,g_,g_,g_,g_,g_,g_,g_]=.ok (.nx [a_ (.lst (ns.map .int)),a_ (.int k),a_ (.int s),a_ (aK rows),a_ g.Ck,a_ (ak CR CP g.rows g.o),a_ (.int g.s),g_,g_,g_,g_,g_,g_,g_,g_,g_,g_]):=by
  by_cases h:a%2=1
  .obtain⟨r2,c,Z⟩:=Ew 64 ns U 41 k ad ad ad;have W:=new2 CR CP 64 J ad e c;refine⟨⟨k,rows,f_,r2⟩,rfl,rfl,⟨J,q,e,c⟩,by rw[h];rfl,?_⟩
   simp[uA,Gp.s,Gp.Ck,Gp.o,Z,W]
  .refine⟨⟨k,rows,c_,rows⟩,rfl,rfl,⟨J,q,e,e⟩,by rw[show a%2=0 by lia];rfl,?_⟩
   rfl
 have hgs:=g.s2;obtain⟨m,hm1,em⟩:∃m:Nat,(m:Int)<6-g.s/\(b*39373%2147483629%(6-(g.s:Int)):Int)=m:=by have h1:=Ig (b*39373%2147483629) (show(6-(g.s:Int))≠0 by lia);have h2:=Ji (b*39373%2147483629) (show 0<(6-(g.s:Int)) by lia);exact⟨(b*39373%2147483629%(6-(g.s:Int))).toNat,ad,ad⟩
 have hm:m<5:=ad
 have S:(g.s=1/\m<5)\/(g.s=2/\m<4):=ad
 obtain⟨fl,r,hgf,ef⟩:=BY 64 ns U k 80 m J ad ad ad;obtain⟨cs,hcl,P,A⟩:=F9 64 ns U;have hv:V.Good ⟨g,fl,cs⟩:=⟨hg,λf hf=>by simp_all,am,ad,P⟩
 have u:fH [.int m,.int s,.int g.s]=.ok (.lst ((PLk m s g.s m).map plD)):=by
  rcases S with⟨z,h⟩|⟨z,h⟩
  .rw[z];exact plan1 64 m s h D
  .rw[z];exact plan2 64 m s h D
 have t:∀p∈PLk m s g.s m,V.Pl ⟨g,fl,cs⟩ p/\p.length<=40:=λp I=>by have h:=sW D S I;exact⟨λx hx=>by show x.1<fl.length/\x.2<g.s;rw[r];exact h.bnd x hx,by have:=h.len;lia⟩
 have s2:fl.length<=16777216:=ad
 have s3:cs.length<=16777216:=ad
 have o:C' (.lst [.lst (fl.map flD),.lst (cs.map stD)]) 40=f_:=by simp only[C',iu,PR,FH];exact⟨l7 _ _ (λx=>okE_fl x 37) fl,l7 _ _ (λx=>okE_st x 37) cs⟩
 have v:=D5 o;have w:eS (.int (b*39373%2147483629)) (.int (6-(g.s:Int)))=.ok (.int m):=by rw[<- em];rcases S with⟨z,_⟩|⟨z,_⟩<;>rw[z]<;>simp
 have hF:=λR:A'=>r9 64 hv (a_ (.lst (ns.map .int))) (a_ (.int k)) (a_ (.int s)) (a_ (ak CR CP g.rows g.o)) (a_ (.int g.s)) (a_ (.int m)) (a_ (.lst [.lst (fl.map flD),.lst (cs.map stD)])) (a_ R) (a_ (.lst ((PLk m s g.s m).map plD))) (PLk m s g.s m) g_ g_ g_ g_ t;have B:optD g_=.non:=rfl;subst O N;rcases told_all CR CP CL 64 ad L hv (m:=m) (s:=s) hm D r S with⟨eb,ea⟩|⟨p,I,i,l,K,eb,ea⟩
 .obtain⟨H,G,F,Y⟩:=hF (.lst [.bl f_,.bl f_,.bl c_]);simp only at Y ea eb;rw[eb,B]at Y;have E:eqM (.lst [.bl f_,.bl f_,.bl c_]) (.lst [.bl f_,.bl f_,.bl c_])=.ok (.bl f_):=same_eq rfl;simp[m_law,g_law,c0,c1,c2,ek,es,eg,en,y,e1,w,ef,A,s2,s3,ea,yW,v,u,Y,yV,E,-FJ]
 .obtain⟨H,G,F,Y⟩:=hF (.tup [.int (V.cst ⟨g,fl,cs⟩ p p.length),.lst (p.map prD),.lst ((V.tms ⟨g,fl,cs⟩ p p.length).map .int)]);simp only at Y ea eb;rw[eb,B]at Y;have X:=pl_in I;have ec:=(pH 64 hv i l).2;rcases vV 64 hv i l with⟨⟨j,h1,h2⟩,_⟩|⟨_,E⟩
  .exact FN (K j h1) h2
  .simp only at E ec;have Q:=D5 (d:=.lst ((V.tms ⟨g,fl,cs⟩ p p.length).map .int)) (by simp[C']);generalize V.cst ⟨g,fl,cs⟩ p p.length=C at *;generalize V.tms ⟨g,fl,cs⟩ p p.length=T at *;have eo:optD (a_ C)=.int C:=rfl;rw[eo]at Y;simp[m_law,g_law,c0,c1,c2,ek,es,eg,en,y,e1,w,ef,A,s2,s3,ea,yW,v,u,Y,yV,Fp,Fo,Fn,X,E,Q,ec,-FJ]
end
def fin_mk{P:Gf}{K:Pn}{h:FX}{fa CR:k_}(_:K.In h)(_:h.Ns Gu mg)(J:mg "law"=a_ (.ref fa))(Z:Zs K mg CR CP CL AStripError ANoTime ATooMany ANoPlace):
  ∃fd:HN,(∀(s:i_) (v:h_),LH s fd ⟨[v],[]⟩ [("_law_script",v)])/\∀base:FX,K.In base->base.Ns Gu mg->gQ P w K mg base CX0 14 fa fd ["_law_script"] (spLaw K):=by
 obtain⟨f,fd,D,S⟩:=Z.d_law;have e:=J.symm.trans D.mg;cases e;refine⟨fd,S,λbase _ _=>law_ok (ro:=c_) (λn=>?_) (law_true CR CP CL Z.ne)⟩
 obtain⟨a,U,Y⟩:=ok_law (P:=P) (w:=w) (base:=base) Z;cases(D.mg.symm.trans Y.d.mg);rw[D.fn.uniq Y.d.fn];exact Y.o
def walk{l:Lz}{q:Gf}{J:List FU}{g:(Ld)->FX->Prop}{U:GS->FX->Prop}{d:DefRec}{K:Params->Pn}(Y:l.most=a_ 63)(S:d.params.defaults=[])(c:∀(w:GS) (h:FX),U w h->(K w.params).In h)(F:∀(w:GS) (mg:Ld) (fa:k_) (h:FX),(K w.params).In h->h.Ns Gu mg->mg d.name=a_ (.ref fa) ->
   ∃fd:HN,(∀(s:i_) (u:h_),LH s fd ⟨[u],[]⟩ [("_law_script",u)])/\∀base:FX,(K w.params).In base->base.Ns Gu mg->gQ l.prog w (K w.params) mg base CX0 14 fa fd ["_law_script"] (spLaw (K w.params))):
  NZ q J g U l.row.toRowW d [] (λf vs=>Jv f vs):=
 Lake.walk_of Y al S ⟨rfl,al,al⟩ c F (λ_ _ a ns b _ e=>⟨a,ns,rfl,e,b,λ_=>rfl⟩) λ_ _ _ _ _ z=>z
end Tactic
end
open PySem PySem.W PyProof.Rows
structure PySem.W.Fast:Prop where (tw5837110119277219163
tw7981060990302648197
tw1488780379543457589
tw6781975244574277238
tw17347973295980970867
tw13476800458659248977
tw10722647865049472300
tw7646259487290831875
tw4611902894454946143
tw4774841116148148776
tw10004455956451859535
tw14843838413677209311
tw12744325323004084651
tw6228625197856366973
tw14397652700068946262
tw8748734430871536141
tw17601004156509547926
tw5973026901066870482
tw15840786916671633452
tw11899283925812322669
tw2631498122801715729
tw15347791792601935970
tw4058717752242833979
tw15393512950961164267
tw9274795673679515545
tw11614962627638905442
tw10356810345738848889
tw2660234430397672941
tw15652120274510267253
tw1996285481945515584
tw2874620868411724136
tw16411789122298277314
tw4320739069550958379
tw5417821968149413011
tw12223934147871879805
tw12246354231572268174
tw17147644984779869436
tw10741393319863541461
tw5950969563816136155
tw8735618629334342324
tw905182216945128159
tw11853073475232476071
tw6801254046367024477
tw8276733868822739748
tw5036618384565961869
tw13965404568153198157
tw17080467724048732205
tw5975984657481880367
tw15181813705566640739
tw7958222960487220096
tw12158809462288941407
tw6030242964828021792
tw6532177095884298978
tw4331778770405120122
tw5537145832166085896
tw11051015373844126206
tw8926885139286502076
tw6998880440622991897
tw12561251431035498756
tw17654749711545215255
tw5123953818136213373
tw9003755200637675584
tw17460035848029298730
tw15555204043110500514
tw2435847633728315153
tw1706240995103385750
tw13516386273691125880
tw7540736489104302790
tw15189594074270158675
tw7176969860099344178
tw12003197760022049860
tw17222611867075564318
tw1298151503229287824
tw2025620921373840220
tw16724538626643261783
tw13936670187720423714
tw5626685627116987892
tw9262447706796799144
tw1077831032931561453
tw10246675870248686955
tw14557371774796415257
tw17437670195899562670
tw4527433347493085961
tw9866254042122472323
tw7812279243543838267
tw7891516790538389643
tw353819022045633088
tw5068562219594577654
tw7971563089246035363
tw4245980646176391677
tw1020440659587636223
tw5111625129444598705
tw3792030832757096327
tw7478313820033173346
tw5455445418689314053
tw14388265582970779927
tw2159501400000713879
tw4310913803381132940
tw11905459579282945544
tw4838398469787696382
tw12814267755761795356
tw13489172395475572653
tw8841311526300932745
tw4825662124097158597
tw16201155520282227170
tw10708329434767163352
tw2021820977909873127
tw1603085318211638348
tw8429355509522010587
tw16159281372628187843
tw1246178736683137595
tw1395321104461422390
tw16039616876985036650
tw16679156928380026389
tw12865482568339760732
tw395780819565219841
tw13549524183474010065
tw11879953558621232286
tw15408839320640202883
tw2747505260573130923
tw1506863999989771025
tw7822888736032572490
tw915962860263842126
tw1044232608558338132
tw3049555463496182068
tw15938290733676578395
tw9483935572083778252
tw15897449942749293729
tw6020095095703780010
tw10577075180862511786
tw9533309554574827887
tw5524254575009917570
tw11111931406613322516
tw9943676586416836654
tw4142111378483294902
tw9392000600527000542
tw6342128460711064399
tw9774829242241451710
tw437658148310245557
tw7951156662576346286
tw13583609262402354385
tw1940938455801097742
tw15456302466181874725
tw18380628661826668841
tw15872901081865720096
tw18325413759380339318
tw6511876016919224527
tw10515647608935382855
tw11101430679644999670
tw14353752610997753421
tw5675137558952066324
tw1259298791335577356
tw5204240739513560061
tw6790931410003880040
tw17993534639024673936
tw14082955115774389580
tw7086244780315865109
tw11699018293054816839
tw10122186082007216672
tw12296502984845476286
tw15932233254291030626
tw12573384781327287271
tw2394190226112318852
tw14627737880075677038
tw2631001009113696095
tw17606262278593183176
tw17591170611852729252
tw13909985916038059733
tw12486793700890766000
tw176572927060564054
tw10416637318345843810
tw9402144803508459627
tw6405664958600965982
tw4969673009882415563
tw14958319547329601256
tw11910258809513953905
tw4573971410320728228
tw12829074412829457631
tw12720963827366340960
tw14014758010652441886
tw14444882776021754092
tw1478227713810522489
tw2478168038919803403
tw2425277012585827639
tw9739028501517813334
tw17081545646733601594
tw1478544302795694823
tw10296195775711744822
tw6830415613049465822
tw12530312494997003742
tw10816252050741121026
tw1121023991091775452
tw2741609545737588062
tw17135105329283476025
tw14130217069877989776
tw9132955954528996971
tw17786713517288269313
tw1100992480774801363
tw16747229179435309567
tw6727756193777018431
tw11250445886273724852
tw16258830648099702470
tw18185606450091849813
tw13159155921352410011
tw11414931621648543767
tw12557517968878069297
tw8242801181381292247
tw8167416142169848178
tw15131400534140382097
tw5982651130116542158
tw6065132212631426747
tw1838592686882705211
tw18239055393753087906
tw9942504673913498530
tw4237250442509843309
tw2463476100736368218
tw3497678392153219496
tw14786920150702111333
tw18225000204611476007
tw3203703665166963188
tw6244690242825132425
tw4251837599292804199
tw6641846448534158078
tw1974560611173530879
tw13396266761553492198
tw5495238536281871578
tw2905778030285298971
tw7124389561371692467
tw10562733485964361302
tw5411640944957630644
tw5177560320963281012
tw11099277569110439595
tw16549542836649445705
tw11566479094414874343
tw9546479135589439473
tw18392164292397106845
tw1644948815381078411
tw1327985517974134673
tw14021776915297188257
tw2670005346908704120
tw5385707163238788356
tw8353056438461486698
tw5275845326502848237
tw14792009655283981030
tw15457728766463857929
tw4003235282609063763
tw9654151055853983127
tw7851026467614302242
tw11529382865791911542
tw8731967467102566420
tw13123657814599019237
tw15542421796571352440
tw17185051410667710260
tw9415855658186146560
tw1769754630866020232
tw6843828533704563877
tw7683387116421505158
tw12992760032724732573
tw3549104247436904162
tw2379119560788718659
tw5509864267827716617
tw5890416601436314066
tw13714140795158352363
tw15399243509156623230
tw18140243076321630081
tw12718294428798390383
tw11303822300035310056
tw17420301068720298703
tw15114797889199822985
tw13446044326947205742
tw17543499627957129258
tw2652398696260957529
tw8563247730172581176
tw14299689821542184601
tw7070384677885612435
tw12850515720091301754
tw9711914717976270605
tw3998548780429042274
tw11778069840034585148
tw4897210247269598868
tw11560499244795722967
tw4652768555822796735
tw4010875909426385886
tw2384461066494201601
tw6687885101415782775
tw8825480434229399589
tw16538289304022395622
tw18287377194672031168
tw10724508299045696506
tw17799588313907370141
tw10096403841744948949
tw11738866300571888190
tw7244735028569607832
tw8313636174159173516
tw4233615544935190726
tw14723890450519599404
tw16773126806804384145
tw8568987875539920823
tw13930585399219233904
tw11566772003831811304
tw15998624064889102887
tw17932873842124175359
tw14121025474813516574
tw10695992044607122063
tw8666430678283529545
tw4803088414580583540
tw1327895049925878864
tw14767731470101794712
tw9896615972145331432
tw1403502558520195282
tw11520793265804991489
tw18256052302972647874
tw18102563734591062001
tw11971228898901000482
tw18282406970028657301
tw9559620911696981680
tw2458980577739403275
tw16549152547871707703
tw3691860416474696888
tw17807234561347904793
tw5849917993687989569:True)
set_option maxRecDepth 100000 in
set_option maxHeartbeats 0 in
theorem PySem.Challenge.cw_wakeorder_k64_best_of_all_holds : PySem.Challenge.rw_wakeorder_k64_best_of_all.Holds := by
 w_on;o_law;k_head;(case hw=>w_witness2)
 k_fill
 refine Tactic.walk (l:=PySem.Challenge.rw_wakeorder_k64_best_of_all) rfl rfl (fun w h Y=>PySem.W.kIn_of Y) ?F
 case F=>
  intro w mg fa h KX G hmg;refine' Tactic.fin_mk KX G hmg ?z
  case z=>
   constructor
   all_goals first|exact Lake.dF KX G|exact PySem.W.mg_none_of KX G (by k_is)|exact ⟨_,mg_of KX G (by k_is)⟩|exact mg_of KX G (by k_is)|exact Lake.mF|exact Lake.kF KX G|exact Lake.tF KX G|exact Lake.iF|exact Lake.xF KX G|exact Lake.xM KX G Lake.mF|exact Lake.lF KX G|exact Lake.rS Lake.mF|k_is|kernel_rfl|decide +kernel|(constructor<;>first|k_is|kernel_rfl|rfl|decide +kernel)|(simp only [List.mem_cons,List.not_mem_nil,or_false,forall_eq_or_imp,forall_eq];repeat' constructor)<;>first|k_is|kernel_rfl
